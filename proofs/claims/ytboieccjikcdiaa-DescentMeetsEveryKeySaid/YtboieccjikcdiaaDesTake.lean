/-
  What a content that is being read takes of its next cell. Condition: a layout within its limits.
-/
import Derived.Test.YtboieccjikcdiaaDesAddr
import Derived.Test.YtboieccjikcdiaaHeldLast
import Derived.Deep.AppendLies
namespace Go.Proofs.Ytboieccjikcdiaa
open Go.RowKit Go.Deep Plain
set_option linter.unusedVariables false

theorem own_kept {S : Nat → Prop} {w w' : World} {base : Nat} {e : TypeId} {size : Nat} {v : Value} {n : Nat} {xs : List Value} (h : w.ownsRow base e size v n xs) (hk : Kept S w w') (hs : ∀ i, v.ownBlock = some i → ¬ S i) : w'.ownsRow base e size v n xs := by
  refine ⟨h.1, ?_⟩
  rcases h.2 with hn | ⟨g, cap, cur, rfl, hb, hg, rest⟩
  · exact .inl hn
  · exact .inr ⟨g, cap, cur, rfl, hb, (hk.block g (Array.getElem?_eq_some_iff.1 hg).1 (hs g rfl)).trans hg, rest⟩
/-- A row is no block of another type. -/
theorem own_far {w : World} {base : Nat} {e t : TypeId} {size : Nat} {v : Value} {n q : Nat} {xs ys : List Value} (h : w.ownsRow base e size v n xs) (hq : Blk w q t ys) (ht : t ≠ e) : v.ownBlock ≠ some q := by
  rcases h.2 with ⟨rfl, _⟩ | ⟨g, cap, cur, rfl, _, hg, _⟩
  · intro e; cases e
  · intro e
    cases e
    unfold Blk at hq
    rw [hg] at hq
    cases hq
    exact ht rfl
theorem one_slot (k : ByteArray) (r : Int) : ∀ u ∈ [Value.string k, .int .u64 r], u.oneCell' = true := by intro u hu; simp at hu; rcases hu with rfl | rfl <;> rfl
theorem wrap_i (n : Int) (h : -9223372036854775808 ≤ n ∧ n < 9223372036854775808) : IntKind.i64.wrap n = n := by rw [IntKind.wrap_i64]; omega
theorem wrap_u (n : Int) (h : 0 ≤ n ∧ n < 18446744073709551616) : IntKind.u64.wrap n = n := by rw [IntKind.wrap_u64]; omega
theorem fieldF (T S N C R F K : Int) (w : World) : (Instr.field 25 (.agg #[.int .i64 T, .int .i64 S, .int .i64 N, .int .i64 C, .int .i64 R, .int .i64 F, .int .u64 K]) 5).run Try.prog w = .ok (.int .i64 F) w := by kernel_rfl

set_option maxHeartbeats 2000000 in
theorem take_0 (T S N C R : Int) (F : Nat) (K fa fb fd : Int) (hl : Lim T S N C R (F : Int)) (hd : Reach3 fa fb fd) (q : Nat) (t : TypeId) (nid rd en lv : Nat) (v : Value) (hi : ByteArray) (la : Bool) (rt : Nat) (tl : List Value) (w : World) (h : Blk w q t (conv T S N C R F K fa fb fd nid rd en lv v hi la rt tl)) (hrd : rd = 0) (nN mM : Nat) (kK : ByteArray) (hN : nN < 18446744073709551616) (hM : mM < 9223372036854775808) :
    Calls Try.prog 86 #[.pointer (some ⟨q, 0, none⟩), .agg #[.int .u64 (nN : Int), .string kK, .int .u64 (mM : Int)]] w fun e w' => e = .returned (.bool false) ∧ Blk w' q t (((((conv T S N C R F K fa fb fd nid rd en lv v hi la rt tl)).set 13 (.int .i64 (mM : Int))).set 12 (.int .i64 (3 + ((min nN F : Nat) : Int)))).set 11 (.int .i64 1)) ∧ Kept (fun i => i = q) w w' := by
  have hqlt := h.lt
  have hqb : q ≠ w.heap.size := by omega
  have h0 : ((rd : Int) == 0) = true := by simp; omega
  obtain ⟨m, hm⟩ : ∃ m, min nN F = m := ⟨_, rfl⟩
  have hF := hl.f2
  have hm1 : m ≤ 32 := by omega
  have w1 := wrap_i (mM : Int) (by omega)
  have w2 := wrap_u (F : Int) (by omega)
  have w3 := wrap_i (m : Int) (by omega)
  have w4 := wrap_i (3 + (m : Int)) (by omega)
  have c11 := h.cell (i := 11) rfl
  have c13 := h.cell (i := 13) rfl
  have f13 := h.frozen 13
  go_enter Try.func86, Try.ntmps86
  go_upto_region 5 with fail
  clear c11 c13 f13
  have hC := Blk.new (w.setCell ⟨q, 13, none⟩ (.int .i64 (mM : Int))) [.int .u64 (nN : Int), .string kK, .int .u64 (mM : Int)] 49
  have hsz : (w.setCell ⟨q, 13, none⟩ (.int .i64 (mM : Int))).heap.size = w.heap.size := by simp [World.setCell]
  rw [hsz] at hC
  have HC := Lib.hid hC
  have HQ := Lib.hid ((h.set 13 (.int .i64 (mM : Int))).alloc (.cells #[.int .u64 (nN : Int), .string kK, .int .u64 (mM : Int)] 49))
  have HK := Lib.hid (((Kept.refl (fun i => i = q) w).setCell (a := ⟨q, 13, none⟩) (fun _ => rfl) (.int .i64 (mM : Int))).alloc (.cells #[.int .u64 (nN : Int), .string kK, .int .u64 (mM : Int)] 49))
  clear hC hsz
  generalize (w.setCell ⟨q, 13, none⟩ (.int .i64 (mM : Int))).alloc (.cells #[.int .u64 (nN : Int), .string kK, .int .u64 (mM : Int)] 49) = W at *
  generalize w.heap.size = bx at *
  clear h
  refine qtail 13 (fun w' => Kept (fun _ => False) W w' ∧ Blk w' q t ((conv T S N C R F K fa fb fd nid rd en lv v hi la rt tl).set 13 (.int .i64 (mM : Int))) ∧ Blk w' bx 49 [.int .u64 (nN : Int), .string kK, .int .u64 (mM : Int)]) (by kernel_rfl) (by kernel_rfl) ⟨(Kept.refl _ _).drew, HQ.out, HC.out⟩ ?_
  simp only [List.take_succ_cons, List.take_zero, List.drop_succ_cons, List.drop_zero]
  refine qstep (o := ⟨some 34, _, _, _, _, _⟩) (v := ?_) (by rfl) (fun wq hSw => ?_) ?_
  rotate_left
  · (go_simp; try with_reducible rfl)
  try simp only [Act.put, List.setIfInBounds_toArray, List.set_cons_zero, List.set_cons_succ]
  refine qstep (o := ⟨some 35, _, _, _, _, _⟩) (v := ?_) (by rfl) (fun wq hSw => ?_) ?_
  rotate_left
  · (go_simp; try with_reducible rfl)
  try simp only [Act.put, List.setIfInBounds_toArray, List.set_cons_zero, List.set_cons_succ]
  refine qstep (o := ⟨some 36, _, _, _, _, _⟩) (v := ?_) (by rfl) (fun wq hSw => ?_) ?_
  rotate_left
  · (have hb9 := hSw.2.1; have hc9 := hSw.2.2; have y0 := hc9.cell (i := 0) rfl; have x0 := hb9.cell (i := 0) rfl; have x1 := hb9.cell (i := 1) rfl; have x2 := hb9.cell (i := 2) rfl; have x3 := hb9.cell (i := 3) rfl; have x4 := hb9.cell (i := 4) rfl; have x5 := hb9.cell (i := 5) rfl; have x6 := hb9.cell (i := 6) rfl; have x7 := hb9.cell (i := 7) rfl; have x8 := hb9.cell (i := 8) rfl; have x9 := hb9.cell (i := 9) rfl; clear hb9 hc9; go_simp; try with_reducible rfl)
  try simp only [Act.put, List.setIfInBounds_toArray, List.set_cons_zero, List.set_cons_succ]
  refine qstep (o := ⟨some 37, _, _, _, _, _⟩) (v := ?_) (by rfl) (fun wq hSw => ?_) ?_
  rotate_left
  · (go_simp; try with_reducible rfl)
  try simp only [Act.put, List.setIfInBounds_toArray, List.set_cons_zero, List.set_cons_succ]
  refine qstep (o := ⟨some 38, _, _, _, _, _⟩) (v := ?_) (by rfl) (fun wq hSw => ?_) ?_
  rotate_left
  · (go_simp; try with_reducible rfl)
  try simp only [Act.put, List.setIfInBounds_toArray, List.set_cons_zero, List.set_cons_succ]
  refine qstep (o := ⟨some 39, _, _, _, _, _⟩) (v := ?_) (by rfl) (fun wq hSw => ?_) ?_
  rotate_left
  · (go_simp; try with_reducible rfl)
  try simp only [Act.put, List.setIfInBounds_toArray, List.set_cons_zero, List.set_cons_succ]
  refine qstep (o := ⟨some 40, _, _, _, _, _⟩) (v := ?_) (by rfl) (fun wq hSw => ?_) ?_
  rotate_left
  · (have hb9 := hSw.2.1; have hc9 := hSw.2.2; have y0 := hc9.cell (i := 0) rfl; have x0 := hb9.cell (i := 0) rfl; have x1 := hb9.cell (i := 1) rfl; have x2 := hb9.cell (i := 2) rfl; have x3 := hb9.cell (i := 3) rfl; have x4 := hb9.cell (i := 4) rfl; have x5 := hb9.cell (i := 5) rfl; have x6 := hb9.cell (i := 6) rfl; have x7 := hb9.cell (i := 7) rfl; have x8 := hb9.cell (i := 8) rfl; have x9 := hb9.cell (i := 9) rfl; clear hb9 hc9; go_simp; try with_reducible rfl)
  try simp only [Act.put, List.setIfInBounds_toArray, List.set_cons_zero, List.set_cons_succ]
  refine qcall (o := ⟨some 41, _, _, _, _, _⟩) (v := .agg #[.int .i64 T, .int .i64 S, .int .i64 N, .int .i64 C, .int .i64 R, .int .i64 (F : Int), .int .u64 K]) (by rfl) (fun wq hSw => ?_) (fun wq hSw => Calls.mono (config_any T S N C R (F : Int) K fa fb fd _) ?_) ?_
  · (go_simp; try with_reducible rfl)
  · rintro e w9 ⟨rfl, hk⟩; exact ⟨rfl, hSw.1.trans hk (fun _ _ h => h), hk.blk hSw.2.1 id, hk.blk hSw.2.2 id⟩
  try simp only [Act.put, List.setIfInBounds_toArray, List.set_cons_zero, List.set_cons_succ]
  refine qstep (o := ⟨some 42, _, _, _, _, _⟩) (v := .int .i64 (F : Int)) (by rfl) (fun wq hSw => ?_) ?_
  · (have hfd := fieldF T S N C R (F : Int) K wq; go_simp; try first | (with_reducible rfl) | (simp; omega) | (intros; omega) | simp [*])
  try simp only [Act.put, List.setIfInBounds_toArray, List.set_cons_zero, List.set_cons_succ]
  refine qstep (o := ⟨some 43, _, _, _, _, _⟩) (v := .int .u64 (F : Int)) (by rfl) (fun wq hSw => ?_) ?_
  · (go_simp; try first | (with_reducible rfl) | (simp; omega) | (intros; omega) | simp [*])
  try simp only [Act.put, List.setIfInBounds_toArray, List.set_cons_zero, List.set_cons_succ]
  refine qstep (o := ⟨some 44, _, _, _, _, _⟩) (v := .int .u64 (m : Int)) (by rfl) (fun wq hSw => ?_) ?_
  · (go_simp; try first | (with_reducible rfl) | (simp; omega) | (intros; omega) | simp [*])
  try simp only [Act.put, List.setIfInBounds_toArray, List.set_cons_zero, List.set_cons_succ]
  refine qstep (o := ⟨some 45, _, _, _, _, _⟩) (v := .int .i64 (m : Int)) (by rfl) (fun wq hSw => ?_) ?_
  · (go_simp; try first | (with_reducible rfl) | (simp; omega) | (intros; omega) | simp [*])
  try simp only [Act.put, List.setIfInBounds_toArray, List.set_cons_zero, List.set_cons_succ]
  refine qstep (o := ⟨some 46, _, _, _, _, _⟩) (v := .int .i64 (3 + (m : Int))) (by rfl) (fun wq hSw => ?_) ?_
  · (go_simp; try first | (with_reducible rfl) | (simp; omega) | (intros; omega) | simp [*])
  try simp only [Act.put, List.setIfInBounds_toArray, List.set_cons_zero, List.set_cons_succ]
  refine wpQuiet_nil ?_
  intro wz hHeld
  obtain ⟨hK5, hQ5, -⟩ := hHeld
  clear HC w2 w3 w4
  have x11 := hQ5.cell (i := 11) rfl
  have x12 := hQ5.cell (i := 12) rfl
  have z11 := hQ5.frozen 11
  have z12 := hQ5.frozen 12
  have HQ5 := Lib.hid (hQ5.set 12 (.int .i64 (3 + (m : Int))))
  have HK5 := Lib.hid ((HK.out.trans hK5 (fun _ _ h => h.elim)).setCell (a := ⟨q, 12, none⟩) (fun _ => rfl) (.int .i64 (3 + (m : Int))))
  clear hQ5 hK5 HQ HK
  have hr1 : ((1 : Int) == 3 + (m : Int)) = false := by simp; omega
  go_upto_region 11 with fail
  have hQ6 := HQ5.out.set 11 (.int .i64 1)
  have y11 := hQ6.cell (i := 11) rfl
  have y12 := hQ6.cell (i := 12) rfl
  have HQ6 := Lib.hid hQ6
  clear hQ6 x11 x12 z11 z12
  go_quiet (fail)
  go_wp2
  go_ret
  subst hm
  exact ⟨rfl, HQ6.out.of rfl, (HK5.out.setCell (a := ⟨q, 11, none⟩) (fun _ => rfl) _).drewN _⟩

set_option maxHeartbeats 2000000 in
theorem take_1 (T S N C R : Int) (F : Nat) (K fa fb fd : Int) (hl : Lim T S N C R (F : Int)) (hd : Reach3 fa fb fd) (q : Nat) (t : TypeId) (nid rd en lv : Nat) (v : Value) (hi : ByteArray) (la : Bool) (rt : Nat) (tl : List Value) (w : World) (h : Blk w q t (conv T S N C R F K fa fb fd nid rd en lv v hi la rt tl)) (hrd : rd = 1) (hen : en ≤ 40) (nN mM : Nat) (kK : ByteArray) (hN : nN < 18446744073709551616) (hM : mM < 9223372036854775808) (r : Bool) (hr : (2 == en) = r) :
    Calls Try.prog 86 #[.pointer (some ⟨q, 0, none⟩), .agg #[.int .u64 (nN : Int), .string kK, .int .u64 (mM : Int)]] w fun e w' => e = .returned (.bool r) ∧ Blk w' q t (((((conv T S N C R F K fa fb fd nid rd en lv v hi la rt tl)).set 15 (.string kK)).set 16 (.bool (mM == 1))).set 11 (.int .i64 2)) ∧ Kept (fun i => i = q) w w' := by
  have hqlt := h.lt
  have hqb : q ≠ w.heap.size := by omega
  have h0 : ((rd : Int) == 0) = false := by simp; omega
  have h1 : ((rd : Int) == 1) = true := by simp; omega
  have c11 := h.cell (i := 11) rfl
  have hM1 : ((mM : Int) == 1) = (mM == 1) := by rw [Bool.eq_iff_iff]; simp; omega
  go_enter Try.func86, Try.ntmps86
  go_upto_region 7 with fail
  have hC := Blk.new (w) [.int .u64 (nN : Int), .string kK, .int .u64 (mM : Int)] 49
  have HC := Lib.hid hC
  have HQ := Lib.hid (h.alloc (.cells #[.int .u64 (nN : Int), .string kK, .int .u64 (mM : Int)] 49))
  have HK := Lib.hid ((Kept.refl (fun i => i = q) w).alloc (.cells #[.int .u64 (nN : Int), .string kK, .int .u64 (mM : Int)] 49))
  clear hC
  generalize w.alloc (.cells #[.int .u64 (nN : Int), .string kK, .int .u64 (mM : Int)] 49) = W at *
  generalize w.heap.size = bx at *
  clear h c11 hqlt
  have y0 := HC.out.cell (i := 0) rfl
  have y1 := HC.out.cell (i := 1) rfl
  have y2 := HC.out.cell (i := 2) rfl
  have x15 := HQ.out.cell (i := 15) rfl
  have z15 := HQ.out.frozen 15
  have x16 := HQ.out.cell (i := 16) rfl
  have z16 := HQ.out.frozen 16
  have x11 := HQ.out.cell (i := 11) rfl
  have z11 := HQ.out.frozen 11
  have x12 := HQ.out.cell (i := 12) rfl
  have z12 := HQ.out.frozen 12
  go_region
  have hr1 : ((2 : Int) == (en : Int)) = r := by rw [← hr]; rw [Bool.eq_iff_iff]; simp; omega
  have HQ6 := Lib.hid (((HQ.out.set 15 (.string kK)).set 16 (.bool (mM == 1))).set 11 (.int .i64 2))
  have HK6 := Lib.hid (((HK.out.setCell (a := ⟨q, 15, none⟩) (fun _ => rfl) (.string kK)).setCell (a := ⟨q, 16, none⟩) (fun _ => rfl) (.bool (mM == 1))).setCell (a := ⟨q, 11, none⟩) (fun _ => rfl) (.int .i64 2))
  have rdv : ((rd : Int) + 1) = 2 := by omega
  go_upto_region 11 with fail
  clear x11 z11
  have hQ6 := HQ6.out
  have y11 := hQ6.cell (i := 11) rfl
  have y12 := hQ6.cell (i := 12) rfl
  clear hQ6 x12 z12
  go_quiet (fail)
  go_wp2
  go_ret
  exact ⟨rfl, HQ6.out.of rfl, HK6.out.drew.drewN _⟩

set_option maxHeartbeats 2000000 in
theorem take_2 (T S N C R : Int) (F : Nat) (K fa fb fd : Int) (hl : Lim T S N C R (F : Int)) (hd : Reach3 fa fb fd) (q : Nat) (t : TypeId) (nid rd en lv : Nat) (v : Value) (hi : ByteArray) (la : Bool) (rt : Nat) (tl : List Value) (w : World) (h : Blk w q t (conv T S N C R F K fa fb fd nid rd en lv v hi la rt tl)) (hrd : rd = 2) (hen : en ≤ 40) (nN mM : Nat) (kK : ByteArray) (hN : nN < 18446744073709551616) (hM : mM < 9223372036854775808) (r : Bool) (hr : (3 == en) = r) :
    Calls Try.prog 86 #[.pointer (some ⟨q, 0, none⟩), .agg #[.int .u64 (nN : Int), .string kK, .int .u64 (mM : Int)]] w fun e w' => e = .returned (.bool r) ∧ Blk w' q t ((((conv T S N C R F K fa fb fd nid rd en lv v hi la rt tl)).set 17 (.int .u64 (nN : Int))).set 11 (.int .i64 3)) ∧ Kept (fun i => i = q) w w' := by
  have hqlt := h.lt
  have hqb : q ≠ w.heap.size := by omega
  have h0 : ((rd : Int) == 0) = false := by simp; omega
  have h1 : ((rd : Int) == 1) = false := by simp; omega
  have h2 : ((rd : Int) == 2) = true := by simp; omega
  have c11 := h.cell (i := 11) rfl
  go_enter Try.func86, Try.ntmps86
  go_upto_region 9 with fail
  have hC := Blk.new (w) [.int .u64 (nN : Int), .string kK, .int .u64 (mM : Int)] 49
  have HC := Lib.hid hC
  have HQ := Lib.hid (h.alloc (.cells #[.int .u64 (nN : Int), .string kK, .int .u64 (mM : Int)] 49))
  have HK := Lib.hid ((Kept.refl (fun i => i = q) w).alloc (.cells #[.int .u64 (nN : Int), .string kK, .int .u64 (mM : Int)] 49))
  clear hC
  generalize w.alloc (.cells #[.int .u64 (nN : Int), .string kK, .int .u64 (mM : Int)] 49) = W at *
  generalize w.heap.size = bx at *
  clear h c11 hqlt
  have y0 := HC.out.cell (i := 0) rfl
  have y1 := HC.out.cell (i := 1) rfl
  have y2 := HC.out.cell (i := 2) rfl
  have x17 := HQ.out.cell (i := 17) rfl
  have z17 := HQ.out.frozen 17
  have x11 := HQ.out.cell (i := 11) rfl
  have z11 := HQ.out.frozen 11
  have x12 := HQ.out.cell (i := 12) rfl
  have z12 := HQ.out.frozen 12
  have hr1 : ((3 : Int) == (en : Int)) = r := by rw [← hr]; rw [Bool.eq_iff_iff]; simp; omega
  have HQ6 := Lib.hid ((HQ.out.set 17 (.int .u64 (nN : Int))).set 11 (.int .i64 3))
  have HK6 := Lib.hid ((HK.out.setCell (a := ⟨q, 17, none⟩) (fun _ => rfl) (.int .u64 (nN : Int))).setCell (a := ⟨q, 11, none⟩) (fun _ => rfl) (.int .i64 3))
  have rdv : ((rd : Int) + 1) = 3 := by omega
  go_upto_region 11 with fail
  clear x11 z11
  have hQ6 := HQ6.out
  have y11 := hQ6.cell (i := 11) rfl
  have y12 := hQ6.cell (i := 12) rfl
  clear hQ6 x12 z12
  go_quiet (fail)
  go_wp2
  go_ret
  exact ⟨rfl, HQ6.out.of rfl, HK6.out.drewN _⟩

set_option maxHeartbeats 4000000 in
theorem take_3 (T S N C R : Int) (F : Nat) (K fa fb fd : Int) (hl : Lim T S N C R (F : Int)) (hd : Reach3 fa fb fd) (q : Nat) (t : TypeId) (nid rd en lv : Nat) (v : Value) (hi : ByteArray) (la : Bool) (rt : Nat) (tl : List Value) (xs : List Sl) (n : Nat) (w : World) (h : Blk w q t (conv T S N C R F K fa fb fd nid rd en lv v hi la rt tl)) (hown : w.ownsRow 0 65 2 v n (flat xs)) (ht : t ≠ 65) (hn : n ≤ 1000) (hrd : 3 ≤ rd ∧ rd ≤ 1000) (hen : en ≤ 1000) (nN mM : Nat) (kK : ByteArray) (hN : nN < 18446744073709551616) (hM : mM < 9223372036854775808) (r : Bool) (hr : (rd + 1 == en) = r) :
    Calls Try.prog 86 #[.pointer (some ⟨q, 0, none⟩), .agg #[.int .u64 (nN : Int), .string kK, .int .u64 (mM : Int)]] w fun e w' => e = .returned (.bool r) ∧ ∃ g cap, Blk w' q t ((((conv T S N C R F K fa fb fd nid rd en lv v hi la rt tl)).set 14 (.slice (some ⟨g, 0, none⟩) (n + 1) cap)).set 11 (.int .i64 ((rd : Int) + 1))) ∧ w'.ownsRow 0 65 2 (.slice (some ⟨g, 0, none⟩) (n + 1) cap) (n + 1) (flat xs ++ [.string kK, .int .u64 (nN : Int)]) ∧ (v.ownBlock = some g ∨ w.heap.size ≤ g) ∧ Kept (fun i => i = q ∨ v.ownBlock = some i) w w' := by
  have hqlt := h.lt
  have hqb : q ≠ w.heap.size := by omega
  have h0 : ((rd : Int) == 0) = false := by simp; omega
  have h1 : ((rd : Int) == 1) = false := by simp; omega
  have h2 : ((rd : Int) == 2) = false := by simp; omega
  have c11 := h.cell (i := 11) rfl
  have hvq := own_far hown h ht
  have HO := Lib.hid (hown.alloc (.cells #[.int .u64 (nN : Int), .string kK, .int .u64 (mM : Int)] 49))
  have hvb : v.ownBlock ≠ some w.heap.size := fun e => by have := (hown.lt _ e).2; omega
  obtain ⟨i0, hi0, hz0, hz1, hz2⟩ := info_parts Try.info65
  have HI0 := Lib.hid hi0
  have HI1 := Lib.hid hz0
  have HI2 := Lib.hid hz1
  have HI3 := Lib.hid hz2
  clear hi0 hz0 hz1 hz2 hown
  go_enter Try.func86, Try.ntmps86
  go_upto_region 2 with fail
  have hC := Blk.new (w) [.int .u64 (nN : Int), .string kK, .int .u64 (mM : Int)] 49
  have HC := Lib.hid hC
  have HQ := Lib.hid (h.alloc (.cells #[.int .u64 (nN : Int), .string kK, .int .u64 (mM : Int)] 49))
  have HK := Lib.hid ((Kept.refl (fun i => i = q ∨ v.ownBlock = some i) w).alloc (.cells #[.int .u64 (nN : Int), .string kK, .int .u64 (mM : Int)] 49))
  clear hC
  have hws : w.heap.size ≤ (w.alloc (.cells #[.int .u64 (nN : Int), .string kK, .int .u64 (mM : Int)] 49)).heap.size := by rw [nblk_alloc]; omega
  have HWS := Lib.hid (Nat.le_refl w.heap.size)
  generalize w.alloc (.cells #[.int .u64 (nN : Int), .string kK, .int .u64 (mM : Int)] 49) = W at *
  generalize hbx : w.heap.size = bx at *
  have HBX := Lib.hid hbx
  clear hbx
  clear h c11 HWS
  have hvb' : bx ≠ q := fun e => hqb e.symm
  replace HQ := Lib.hid (show Blk W.drew q t (conv T S N C R F K fa fb fd nid rd en lv v hi la rt tl) from HQ.out)
  replace HC := Lib.hid (show Blk W.drew bx 49 [.int .u64 (nN : Int), .string kK, .int .u64 (mM : Int)] from HC.out)
  replace HK := Lib.hid HK.out.drew
  replace HO := Lib.hid HO.out.drew
  replace hws : bx ≤ W.drew.heap.size := hws
  refine region_E 16 (fun w' => Blk w' q t (conv T S N C R F K fa fb fd nid rd en lv v hi la rt tl) ∧ Blk w' bx 49 [.int .u64 (nN : Int), .string kK, .int .u64 (mM : Int)]) (by kernel_rfl) ?_ (fun hHeld => ?_)
  · exact ⟨HQ.out, HC.out⟩
  generalize W.drew = G at *
  refine anyE_take (i := 0) (oi := ⟨some 9, _, _, _, _, _⟩) (v := ?_) rfl (by kernel_rfl) (by kernel_rfl) (by kernel_rfl) (by kernel_rfl) (fun _ _ _ h => h) (Or.inl ⟨by rfl, ?_⟩) hHeld ?_
  rotate_left
  · (intro wq hSw; go_simp; try with_reducible rfl)
  try simp only [Act.put, List.setIfInBounds_toArray, List.set_cons_zero, List.set_cons_succ]
  refine anyE_take (i := 1) (oi := ⟨some 10, _, _, _, _, _⟩) (v := ?_) rfl (by kernel_rfl) (by kernel_rfl) (by kernel_rfl) (by kernel_rfl) (fun _ _ _ h => h) (Or.inl ⟨by rfl, ?_⟩) hHeld ?_
  rotate_left
  · (intro wq hSw; go_simp; try with_reducible rfl)
  try simp only [Act.put, List.setIfInBounds_toArray, List.set_cons_zero, List.set_cons_succ]
  refine anyE_take (i := 2) (oi := ⟨some 11, _, _, _, _, _⟩) (v := ?_) rfl (by kernel_rfl) (by kernel_rfl) (by kernel_rfl) (by kernel_rfl) (fun _ _ _ h => h) (Or.inl ⟨by rfl, ?_⟩) hHeld ?_
  rotate_left
  · (intro wq hSw; go_simp; try with_reducible rfl)
  try simp only [Act.put, List.setIfInBounds_toArray, List.set_cons_zero, List.set_cons_succ]
  refine anyE_take (i := 3) (oi := ⟨some 12, _, _, _, _, _⟩) (v := ?_) rfl (by kernel_rfl) (by kernel_rfl) (by kernel_rfl) (by kernel_rfl) (fun _ _ _ h => h) (Or.inl ⟨by rfl, ?_⟩) hHeld ?_
  rotate_left
  · (intro wq hSw; go_simp; try with_reducible rfl)
  try simp only [Act.put, List.setIfInBounds_toArray, List.set_cons_zero, List.set_cons_succ]
  refine anyE_take (i := 4) (oi := ⟨some 13, _, _, _, _, _⟩) (v := ?_) rfl (by kernel_rfl) (by kernel_rfl) (by kernel_rfl) (by kernel_rfl) (fun _ _ _ h => h) (Or.inl ⟨by rfl, ?_⟩) hHeld ?_
  rotate_left
  · (intro wq hSw; go_simp; try with_reducible rfl)
  try simp only [Act.put, List.setIfInBounds_toArray, List.set_cons_zero, List.set_cons_succ]
  refine anyE_take (i := 5) (oi := ⟨some 14, _, _, _, _, _⟩) (v := ?_) rfl (by kernel_rfl) (by kernel_rfl) (by kernel_rfl) (by kernel_rfl) (fun _ _ _ h => h) (Or.inl ⟨by rfl, ?_⟩) hHeld ?_
  rotate_left
  · (intro wq hSw; obtain ⟨hb9, hc9⟩ := hSw; have x14 := hb9.cell (i := 14) rfl; have y0 := hc9.cell (i := 0) rfl; have y1 := hc9.cell (i := 1) rfl; clear hb9 hc9; go_simp; try with_reducible rfl)
  try simp only [Act.put, List.setIfInBounds_toArray, List.set_cons_zero, List.set_cons_succ]
  refine anyE_take (i := 6) (oi := ⟨some 15, _, _, _, _, _⟩) (v := ?_) rfl (by kernel_rfl) (by kernel_rfl) (by kernel_rfl) (by kernel_rfl) (fun _ _ _ h => h) (Or.inl ⟨by rfl, ?_⟩) hHeld ?_
  rotate_left
  · (intro wq hSw; go_simp; try with_reducible rfl)
  try simp only [Act.put, List.setIfInBounds_toArray, List.set_cons_zero, List.set_cons_succ]
  refine anyE_take (i := 7) (oi := ⟨some 16, _, _, _, _, _⟩) (v := ?_) rfl (by kernel_rfl) (by kernel_rfl) (by kernel_rfl) (by kernel_rfl) (fun _ _ _ h => h) (Or.inl ⟨by rfl, ?_⟩) hHeld ?_
  rotate_left
  · (intro wq hSw; obtain ⟨hb9, hc9⟩ := hSw; have x14 := hb9.cell (i := 14) rfl; have y0 := hc9.cell (i := 0) rfl; have y1 := hc9.cell (i := 1) rfl; clear hb9 hc9; go_simp; try with_reducible rfl)
  try simp only [Act.put, List.setIfInBounds_toArray, List.set_cons_zero, List.set_cons_succ]
  refine anyE_take (i := 8) (oi := ⟨some 17, _, _, _, _, _⟩) (v := ?_) rfl (by kernel_rfl) (by kernel_rfl) (by kernel_rfl) (by kernel_rfl) (fun _ _ _ h => h) (Or.inl ⟨by rfl, ?_⟩) hHeld ?_
  rotate_left
  · (intro wq hSw; go_simp; try with_reducible rfl)
  try simp only [Act.put, List.setIfInBounds_toArray, List.set_cons_zero, List.set_cons_succ]
  refine anyE_take (i := 9) (oi := ⟨some 18, _, _, _, _, _⟩) (v := ?_) rfl (by kernel_rfl) (by kernel_rfl) (by kernel_rfl) (by kernel_rfl) (fun _ _ _ h => h) (Or.inl ⟨by rfl, ?_⟩) hHeld ?_
  rotate_left
  · (intro wq hSw; obtain ⟨hb9, hc9⟩ := hSw; have x14 := hb9.cell (i := 14) rfl; have y0 := hc9.cell (i := 0) rfl; have y1 := hc9.cell (i := 1) rfl; clear hb9 hc9; go_simp; try with_reducible rfl)
  try simp only [Act.put, List.setIfInBounds_toArray, List.set_cons_zero, List.set_cons_succ]
  refine anyE_take (i := 10) (oi := ⟨some 19, _, _, _, _, _⟩) (v := ?_) rfl (by kernel_rfl) (by kernel_rfl) (by kernel_rfl) (by kernel_rfl) (fun _ _ _ h => h) (Or.inl ⟨by rfl, ?_⟩) hHeld ?_
  rotate_left
  · (intro wq hSw; go_simp; try with_reducible rfl)
  try simp only [Act.put, List.setIfInBounds_toArray, List.set_cons_zero, List.set_cons_succ]
  refine anyE_ready (i := 11) (o := ⟨some 20, _, _, _, _, _⟩) (by kernel_rfl) rfl (fun KK hK => ?_)
  go_simp
  have HNb := Lib.hid (show (G.alloc (.cells #[.string kK, .int .u64 (nN : Int)] 65)).heap[G.heap.size]? = some (.cells #[.string kK, .int .u64 (nN : Int)] 65 (0, 0)) from Blk.new G [.string kK, .int .u64 (nN : Int)] 65)
  replace HQ := Lib.hid (HQ.out.alloc (.cells #[.string kK, .int .u64 (nN : Int)] 65))
  replace HC := Lib.hid (HC.out.alloc (.cells #[.string kK, .int .u64 (nN : Int)] 65))
  replace HK := Lib.hid (HK.out.alloc (.cells #[.string kK, .int .u64 (nN : Int)] 65))
  replace HO := Lib.hid (HO.out.alloc (.cells #[.string kK, .int .u64 (nN : Int)] 65))
  have hws2 : bx ≤ (G.alloc (.cells #[.string kK, .int .u64 (nN : Int)] 65)).heap.size := by rw [nblk_alloc]; omega
  generalize G.alloc (.cells #[.string kK, .int .u64 (nN : Int)] 65) = V at *
  refine hK.out _ _ (fun _ => ?_) (fun hHeld2 => ?_)
  · exact ⟨HQ.out, HC.out⟩
  clear hK KK hHeld
  have hHeld := hHeld2 (by decide)
  clear hHeld2
  try simp only [Act.put, List.setIfInBounds_toArray, List.set_cons_zero, List.set_cons_succ]
  refine anyE_ready (i := 12) (o := ⟨some 21, _, _, _, _, _⟩) (by kernel_rfl) rfl (fun KK hK => ?_)
  refine step_append_lies _ (by rfl) (.tmp 14) (.tmp 20) 41 (by rfl) 0 65 i0 _ 2 24 Try.underlying41 HI0.out HI1.out HI2.out HI3.out rfl (by decide) v n (flat xs) (by rfl) HO.out ⟨G.heap.size, 0, none⟩ 1 1 [.string kK, .int .u64 (nN : Int)] (by rfl) (by rfl) (World.news_of_block HNb.out) (one_slot _ _) (by omega) (by unfold maxLen; omega) (by omega) (Nat.zero_le _) _ rfl ?_
  intro g4 cap4 w4 hown4 hgrow4 hat4 hlt4
  replace HQ := Lib.hid (HQ.out.of (hgrow4.block q HQ.out.lt (fun e => hvq e.symm)))
  replace HC := Lib.hid (HC.out.of (hgrow4.block bx HC.out.lt (fun e => hvb e.symm)))
  replace HK := Lib.hid (HK.out.grown hgrow4 (fun k hk _ => .inr hk))
  replace HO := Lib.hid hown4
  have HAT := Lib.hid (show v.ownBlock = some g4 ∨ bx ≤ g4 by rcases hat4 with h | h; exact .inl h; exact .inr (by omega))
  have hvq4 : ∀ i, (Value.slice (some ⟨g4, 0, none⟩) (n + 1) cap4).ownBlock = some i → ¬ (i = q) := fun i hi e => by
    subst e; exact own_far hown4 HQ.out ht hi
  have x14 := HQ.out.cell (i := 14) rfl
  have z14 := HQ.out.frozen 14
  clear hown4 hgrow4 hat4 hlt4 HNb hws2 HI0 HI1 HI2 HI3 hvq hvb hws
  refine hK.out _ _ (fun _ => ?_) (fun hHeld2 => ?_)
  · exact ⟨HQ.out, HC.out⟩
  clear hK KK hHeld
  have hHeld := hHeld2 (by decide)
  clear hHeld2
  try simp only [Act.put, List.setIfInBounds_toArray, List.set_cons_zero, List.set_cons_succ]
  refine anyE_ready (i := 13) (o := ⟨some 22, _, _, _, _, _⟩) (by kernel_rfl) rfl (fun KK hK => ?_)
  go_simp
  refine hK.out _ _ (fun _ => ?_) (fun hHeld2 => ?_)
  · exact ⟨HQ.out, HC.out⟩
  clear hK KK hHeld
  have hHeld := hHeld2 (by decide)
  clear hHeld2
  try simp only [Act.put, List.setIfInBounds_toArray, List.set_cons_zero, List.set_cons_succ]
  refine anyE_ready (i := 14) (o := ⟨some 23, _, _, _, _, _⟩) (by kernel_rfl) rfl (fun KK hK => ?_)
  go_simp
  refine hK.out _ _ (fun _ => ?_) (fun hHeld2 => ?_)
  · exact ⟨HQ.out, HC.out⟩
  clear hK KK hHeld
  have hHeld := hHeld2 (by decide)
  clear hHeld2
  try simp only [Act.put, List.setIfInBounds_toArray, List.set_cons_zero, List.set_cons_succ]
  refine anyE_take (i := 15) (oi := ⟨some 24, _, _, _, _, _⟩) (v := ?_) rfl (by kernel_rfl) (by kernel_rfl) (by kernel_rfl) (by kernel_rfl) (fun _ _ _ h => h) (Or.inl ⟨by rfl, ?_⟩) hHeld ?_
  rotate_left
  · (intro wq hSw; go_simp; try with_reducible rfl)
  try simp only [Act.put, List.setIfInBounds_toArray, List.set_cons_zero, List.set_cons_succ]
  refine anyE_ready (i := 16) (o := ⟨none, _, _, _, _, _⟩) (by kernel_rfl) rfl (fun KK hK => ?_)
  go_simp
  have HKs := (Kept.refl (fun i => i = q) w4).setCell (a := ⟨q, 14, none⟩) (fun _ => rfl) (.slice (some ⟨g4, 0, none⟩) (n + 1) cap4)
  replace HO := Lib.hid (own_kept HO.out HKs hvq4)
  replace HQ := Lib.hid (HQ.out.set 14 (.slice (some ⟨g4, 0, none⟩) (n + 1) cap4))
  replace HK := Lib.hid (HK.out.setCell (a := ⟨q, 14, none⟩) (fun _ => .inl rfl) (.slice (some ⟨g4, 0, none⟩) (n + 1) cap4))
  clear HKs HC x14 z14
  generalize w4.setCell ⟨q, 14, none⟩ (.slice (some ⟨g4, 0, none⟩) (n + 1) cap4) = V4 at *
  refine hK.out _ _ (fun h => absurd rfl h) (fun _ => ?_)
  clear hK KK hHeld
  try simp only [Act.put, List.setIfInBounds_toArray, List.set_cons_zero, List.set_cons_succ]
  refine anyE_done (by kernel_rfl) ?_ _
  have x11 := HQ.out.cell (i := 11) rfl
  have z11 := HQ.out.frozen 11
  have hw1 := wrap_i ((rd : Int) + 1) (by omega)
  have hr1 : ((rd : Int) + 1 == (en : Int)) = r := by rw [← hr]; rw [Bool.eq_iff_iff]; simp; omega
  have hQ6 := HQ.out.set 11 (.int .i64 ((rd : Int) + 1))
  have hO6 := own_kept HO.out ((Kept.refl (fun i => i = q) V4).setCell (a := ⟨q, 11, none⟩) (fun _ => rfl) (.int .i64 ((rd : Int) + 1))) hvq4
  have HO6 := Lib.hid hO6
  have HK6 := Lib.hid (HK.out.setCell (a := ⟨q, 11, none⟩) (fun _ => .inl rfl) (.int .i64 ((rd : Int) + 1)))
  have y11 := hQ6.cell (i := 11) rfl
  have y12 := hQ6.cell (i := 12) rfl
  have HQ6 := Lib.hid hQ6
  clear hQ6 hO6 HQ HO HK hvq4
  go_upto_region 11 with fail
  clear x11 z11
  go_quiet (fail)
  go_wp2
  go_ret
  exact ⟨rfl, g4, cap4, HQ6.out.of rfl, own_kept HO6.out ((Kept.refl (fun _ => False) _).drewN _) (fun _ _ h => h), (by rw [HBX.out]; exact HAT.out), HK6.out.drewN _⟩

end Go.Proofs.Ytboieccjikcdiaa
