/-
  The stores of a page, and those of them that change another page to it. Condition: a layout within its limits; at most 2^20 slots.
-/
import Derived.Test.YtlehpcbhfdnkdaaNodSto
namespace Go.Proofs.Ytlehpcbhfdnkdaa
open Go.RowKit Go.Deep Plain
set_option linter.unusedVariables false

theorem Try.info79 : (Try.prog.info? 79).map (fun i => (i.zero, i.size, i.bytes)) = some (some (.agg #[.int .i64 0, .int .u64 0, .string ByteArray.empty, .int .u64 0]), 4, 40) := by kernel_rfl
theorem adr_slot (N F a id : Int) (j : Nat) : adr N F a id (j + 3) = slotAt N F a id (j : Int) := by
  unfold adr; rw [if_neg (by omega), if_neg (by omega), if_neg (by omega)]; congr 1; omega
theorem pc_slot {P : Pg} {j : Nat} {x : Sl} (h : P.xs[j]? = some x) : pc P (j + 3) = slCel x := by
  unfold pc; rw [if_neg (by omega), if_neg (by omega), if_neg (by omega), Nat.add_sub_cancel, h]
theorem pst_three (ad : Nat → Int) (P : Pg) : (pst ad P).take 3 = [(ad 0, pc P 0), (ad 1, pc P 1), (ad 2, pc P 2)] := by
  apply List.ext_getElem?
  intro i
  rw [List.getElem?_take]
  rcases (by omega : i = 0 ∨ i = 1 ∨ i = 2 ∨ 3 ≤ i) with rfl | rfl | rfl | h
  · rw [if_pos (by omega), pst_at ad P 0 (by omega)]; rfl
  · rw [if_pos (by omega), pst_at ad P 1 (by omega)]; rfl
  · rw [if_pos (by omega), pst_at ad P 2 (by omega)]; rfl
  · rw [if_neg (by omega), List.getElem?_eq_none (by simp; omega)]
theorem pst_step (ad : Nat → Int) (P : Pg) (j : Nat) (h : j < P.xs.length + 3) : (pst ad P).take (j + 1) = (pst ad P).take j ++ [(ad j, pc P j)] := by
  rw [List.take_add_one, pst_at ad P j h]; rfl
theorem pst_all (ad : Nat → Int) (P : Pg) : (pst ad P).take (P.xs.length + 3) = pst ad P := List.take_of_length_le (by rw [pst_length]; exact Nat.le_refl _)
theorem one_sto (a N M : Int) (K : ByteArray) : ∀ u ∈ [Value.int .i64 a, .int .u64 N, .string K, .int .u64 M], u.oneCell' = true := by intro u hu; simp at hu; rcases hu with rfl | rfl | rfl | rfl <;> rfl
theorem neq_sto (a N M N' M' : Int) (K K' : ByteArray) (w : World) :
    (binOp .neq 79 (.agg #[.int .i64 a, .int .u64 N, .string K, .int .u64 M]) (.agg #[.int .i64 a, .int .u64 N', .string K', .int .u64 M'])).run Try.prog w = .ok (.bool (!(decide (((a, N, K, M) : Sto) = (a, N', K', M'))))) w := by
  by_cases h1 : N = N'
  · subst h1
    by_cases h2 : K = K'
    · subst h2
      by_cases h3 : M = M'
      · subst h3
        simp [go_sem]
      · simp [go_sem, h3]
    · have h4 : ¬ K.toList = K'.toList := fun e => h2 (toList_inj e)
      simp [go_sem, h2, h4]
  · simp [go_sem, h1]
/-- An address with its answer as a letter. -/
theorem head_to (T S N C R : Int) (F : Nat) (K fa fb fd : Int) (hl : Lim T S N C R (F : Int)) (hd : Reach3 fa fb fd) (n v : Int) (hv : nodeAt N (F : Int) fa n 1 = v) (w : World) :
    Calls Try.prog 60 #[.agg #[.int .i64 T, .int .i64 S, .int .i64 N, .int .i64 C, .int .i64 R, .int .i64 (F : Int), .int .u64 K, .int .i64 fa, .int .i64 fb, .int .i64 fd], .int .u64 n] w fun e w' => e = .returned (.int .i64 v) ∧ Kept (fun _ => False) w w' := by
  have := head_any T S N C R (F : Int) K fa fb fd n hl hd w; rwa [hv] at this
theorem high_to (T S N C R : Int) (F : Nat) (K fa fb fd : Int) (hl : Lim T S N C R (F : Int)) (hd : Reach3 fa fb fd) (n v : Int) (hv : nodeAt N (F : Int) fa n 2 = v) (w : World) :
    Calls Try.prog 58 #[.agg #[.int .i64 T, .int .i64 S, .int .i64 N, .int .i64 C, .int .i64 R, .int .i64 (F : Int), .int .u64 K, .int .i64 fa, .int .i64 fb, .int .i64 fd], .int .u64 n] w fun e w' => e = .returned (.int .i64 v) ∧ Kept (fun _ => False) w w' := by
  have := high_any T S N C R (F : Int) K fa fb fd n hl hd w; rwa [hv] at this
theorem right_to (T S N C R : Int) (F : Nat) (K fa fb fd : Int) (hl : Lim T S N C R (F : Int)) (hd : Reach3 fa fb fd) (n v : Int) (hv : nodeAt N (F : Int) fa n 3 = v) (w : World) :
    Calls Try.prog 62 #[.agg #[.int .i64 T, .int .i64 S, .int .i64 N, .int .i64 C, .int .i64 R, .int .i64 (F : Int), .int .u64 K, .int .i64 fa, .int .i64 fb, .int .i64 fd], .int .u64 n] w fun e w' => e = .returned (.int .i64 v) ∧ Kept (fun _ => False) w w' := by
  have := right_any T S N C R (F : Int) K fa fb fd n hl hd w; rwa [hv] at this
theorem slot_to (T S N C R : Int) (F : Nat) (K fa fb fd : Int) (hl : Lim T S N C R (F : Int)) (hd : Reach3 fa fb fd) (n i v : Int) (hv : slotAt N (F : Int) fa n i = v) (w : World) :
    Calls Try.prog 63 #[.agg #[.int .i64 T, .int .i64 S, .int .i64 N, .int .i64 C, .int .i64 R, .int .i64 (F : Int), .int .u64 K, .int .i64 fa, .int .i64 fb, .int .i64 fd], .int .u64 n, .int .i64 i] w fun e w' => e = .returned (.int .i64 v) ∧ Kept (fun _ => False) w w' := by
  have := slot_any T S N C R (F : Int) K fa fb fd n i hl hd w; rwa [hv] at this

set_option maxHeartbeats 4000000 in
theorem pageStores_any (T S N C R : Int) (F : Nat) (K fa fb fd : Int) (hl : Lim T S N C R (F : Int)) (hd : Reach3 fa fb fd) (nid : Nat) (lv : Nat) (A : Option Addr) (c : Nat) (hi : ByteArray) (la : Bool) (rt : Nat) (xs : List Sl) (w : World) (n : Nat) (hn : xs.length = n) (h40 : n ≤ 1000000) (hlv : lv < 9223372036854775808) (hR : Rs w A c xs) :
    Calls Try.prog 41 #[.agg #[.int .i64 T, .int .i64 S, .int .i64 N, .int .i64 C, .int .i64 R, .int .i64 (F : Int), .int .u64 K, .int .i64 fa, .int .i64 fb, .int .i64 fd], .int .u64 (nid : Int), .agg #[.int .i64 (lv : Int), .slice A n c, .string hi, .bool la, .int .u64 (rt : Int)]] w fun e w' => ∃ g cap, e = .returned (.slice (some ⟨g, 0, none⟩) (3 + n) cap) ∧ w'.ownsRow w.heap.size 79 4 (.slice (some ⟨g, 0, none⟩) (3 + n) cap) (3 + n) (flat4 (pst (adr N F fa nid) (⟨lv, hi, la, rt, xs⟩ : Pg))) ∧ Below w.heap.size w w' := by
  obtain ⟨a0, ha0⟩ : ∃ x, nodeAt N (F : Int) fa (nid : Int) 1 = x := ⟨_, rfl⟩
  obtain ⟨a1, ha1⟩ : ∃ x, nodeAt N (F : Int) fa (nid : Int) 2 = x := ⟨_, rfl⟩
  obtain ⟨a2, ha2⟩ : ∃ x, nodeAt N (F : Int) fa (nid : Int) 3 = x := ⟨_, rfl⟩
  obtain ⟨h0, h1, h2, hh⟩ : ∃ x y z, hiCel hi la = (x, y, z) := ⟨_, _, _, rfl⟩
  have e0 : (adr N F fa nid) 0 = a0 := by rw [← ha0]; rfl
  have e1 : (adr N F fa nid) 1 = a1 := by rw [← ha1]; rfl
  have e2 : (adr N F fa nid) 2 = a2 := by rw [← ha2]; rfl
  have hthree : flat4 ((pst (adr N F fa nid) (⟨lv, hi, la, rt, xs⟩ : Pg)).take 3) = [.int .i64 a0, .int .u64 (n : Int), .string ⟨#[]⟩, .int .u64 (lv : Int), .int .i64 a1, .int .u64 h0, .string h1, .int .u64 h2, .int .i64 a2, .int .u64 (rt : Int), .string ⟨#[]⟩, .int .u64 0] := by
    rw [pst_three, e0, e1, e2]
    have p0 : pc (⟨lv, hi, la, rt, xs⟩ : Pg) 0 = ((n : Int), ⟨#[]⟩, (lv : Int)) := by rw [← hn]; rfl
    have p1 : pc (⟨lv, hi, la, rt, xs⟩ : Pg) 1 = (h0, h1, h2) := hh
    have p2 : pc (⟨lv, hi, la, rt, xs⟩ : Pg) 2 = ((rt : Int), ⟨#[]⟩, 0) := rfl
    rw [p0, p1, p2]; rfl
  have HA0 := Lib.hid ha0
  have HA1 := Lib.hid ha1
  have HA2 := Lib.hid ha2
  have HHH := Lib.hid hh
  have H3 := Lib.hid hthree
  have wn := wrap_u (n : Int) (by omega)
  have wl := wrap_u (lv : Int) (by omega)
  obtain ⟨P0, S0, B0, Z0⟩ := box_two w [.int .i64 T, .int .i64 S, .int .i64 N, .int .i64 C, .int .i64 R, .int .i64 (F : Int), .int .u64 K, .int .i64 fa, .int .i64 fb, .int .i64 fd] [.int .i64 (lv : Int), .slice A n c, .string hi, .bool la, .int .u64 (rt : Int)] 30 25
  have HR := Lib.hid (hR.below B0 (Nat.le_refl _))
  have HRW := Lib.hid hR
  have HP := Lib.hid P0
  have HS := Lib.hid S0
  have HB := Lib.hid B0
  have HZ := Lib.hid Z0
  clear ha0 ha1 ha2 hh hthree e0 e1 e2 P0 S0 B0 Z0 hR
  obtain ⟨i0, hi0, hz0, hz1, hz2⟩ := info_parts Try.info79
  have HI0 := Lib.hid hi0
  have HI1 := Lib.hid hz0
  have HI2 := Lib.hid hz1
  have HI3 := Lib.hid hz2
  clear hi0 hz0 hz1 hz2
  go_enter Try.func41, Try.ntmps41
  go_upto_region 1 with fail
  generalize (w.alloc (.cells #[.int .i64 T, .int .i64 S, .int .i64 N, .int .i64 C, .int .i64 R, .int .i64 (F : Int), .int .u64 K, .int .i64 fa, .int .i64 fb, .int .i64 fd] 30)).alloc (.cells #[.int .i64 (lv : Int), .slice A n c, .string hi, .bool la, .int .u64 (rt : Int)] 25) = W at *
  generalize hb1 : w.heap.size + 1 = b1 at *
  have HB1 := Lib.hid hb1
  clear hb1
  refine qtail 25 (fun w' => Kept (fun _ => False) W w' ∧ Blk w' w.heap.size 30 [.int .i64 T, .int .i64 S, .int .i64 N, .int .i64 C, .int .i64 R, .int .i64 (F : Int), .int .u64 K, .int .i64 fa, .int .i64 fb, .int .i64 fd] ∧ Blk w' b1 25 [.int .i64 (lv : Int), .slice A n c, .string hi, .bool la, .int .u64 (rt : Int)]) (by kernel_rfl) (by kernel_rfl) ⟨(Kept.refl _ _).drew, HP.out, HS.out⟩ ?_
  simp only [List.take_succ_cons, List.take_zero, List.drop_succ_cons, List.drop_zero]
  refine qstep (o := ⟨some 10, _, _, _, _, _⟩) (v := ?_) (by rfl) (fun wq hSw => ?_) ?_
  rotate_left
  · (have hb9 := hSw.2.1; have hc9 := hSw.2.2; have x0 := hb9.cell (i := 0) rfl; have x1 := hb9.cell (i := 1) rfl; have x2 := hb9.cell (i := 2) rfl; have x3 := hb9.cell (i := 3) rfl; have x4 := hb9.cell (i := 4) rfl; have x5 := hb9.cell (i := 5) rfl; have x6 := hb9.cell (i := 6) rfl; have x7 := hb9.cell (i := 7) rfl; have x8 := hb9.cell (i := 8) rfl; have x9 := hb9.cell (i := 9) rfl; have y0 := hc9.cell (i := 0) rfl; have y1 := hc9.cell (i := 1) rfl; have y2 := hc9.cell (i := 2) rfl; have y3 := hc9.cell (i := 3) rfl; have y4 := hc9.cell (i := 4) rfl; clear hb9 hc9; go_simp; try with_reducible rfl)
  try simp only [Act.put, List.setIfInBounds_toArray, List.set_cons_zero, List.set_cons_succ]
  refine qstep (o := ⟨some 11, _, _, _, _, _⟩) (v := ?_) (by rfl) (fun wq hSw => ?_) ?_
  rotate_left
  · (go_simp; try with_reducible rfl)
  try simp only [Act.put, List.setIfInBounds_toArray, List.set_cons_zero, List.set_cons_succ]
  refine qcall (o := ⟨some 12, _, _, _, _, _⟩) (v := .int .i64 a0) (by rfl) (fun wq hSw => ?_) (fun wq hSw => Calls.mono (head_to T S N C R F K fa fb fd hl hd (nid : Int) a0 HA0.out _) ?_) ?_
  · (go_simp; try with_reducible rfl)
  · rintro e w9 ⟨rfl, hk⟩; exact ⟨rfl, hSw.1.trans hk (fun _ _ h => h), hk.blk hSw.2.1 (fun h => h), hk.blk hSw.2.2 (fun h => h)⟩
  try simp only [Act.put, List.setIfInBounds_toArray, List.set_cons_zero, List.set_cons_succ]
  refine qstep (o := ⟨some 13, _, _, _, _, _⟩) (v := ?_) (by rfl) (fun wq hSw => ?_) ?_
  rotate_left
  · (go_simp; try with_reducible rfl)
  try simp only [Act.put, List.setIfInBounds_toArray, List.set_cons_zero, List.set_cons_succ]
  refine qstep (o := ⟨some 14, _, _, _, _, _⟩) (v := ?_) (by rfl) (fun wq hSw => ?_) ?_
  rotate_left
  · (have hb9 := hSw.2.1; have hc9 := hSw.2.2; have x0 := hb9.cell (i := 0) rfl; have x1 := hb9.cell (i := 1) rfl; have x2 := hb9.cell (i := 2) rfl; have x3 := hb9.cell (i := 3) rfl; have x4 := hb9.cell (i := 4) rfl; have x5 := hb9.cell (i := 5) rfl; have x6 := hb9.cell (i := 6) rfl; have x7 := hb9.cell (i := 7) rfl; have x8 := hb9.cell (i := 8) rfl; have x9 := hb9.cell (i := 9) rfl; have y0 := hc9.cell (i := 0) rfl; have y1 := hc9.cell (i := 1) rfl; have y2 := hc9.cell (i := 2) rfl; have y3 := hc9.cell (i := 3) rfl; have y4 := hc9.cell (i := 4) rfl; clear hb9 hc9; go_simp; try with_reducible rfl)
  try simp only [Act.put, List.setIfInBounds_toArray, List.set_cons_zero, List.set_cons_succ]
  refine qstep (o := ⟨some 15, _, _, _, _, _⟩) (v := ?_) (by rfl) (fun wq hSw => ?_) ?_
  rotate_left
  · (go_simp; try with_reducible rfl)
  try simp only [Act.put, List.setIfInBounds_toArray, List.set_cons_zero, List.set_cons_succ]
  refine qstep (o := ⟨some 16, _, _, _, _, _⟩) (v := .int .u64 (n : Int)) (by rfl) (fun wq hSw => ?_) ?_
  · (go_simp; try first | (with_reducible rfl) | (simp; omega) | (intros; omega) | simp [*])
  try simp only [Act.put, List.setIfInBounds_toArray, List.set_cons_zero, List.set_cons_succ]
  refine qstep (o := ⟨some 17, _, _, _, _, _⟩) (v := ?_) (by rfl) (fun wq hSw => ?_) ?_
  rotate_left
  · (go_simp; try with_reducible rfl)
  try simp only [Act.put, List.setIfInBounds_toArray, List.set_cons_zero, List.set_cons_succ]
  refine qstep (o := ⟨some 18, _, _, _, _, _⟩) (v := ?_) (by rfl) (fun wq hSw => ?_) ?_
  rotate_left
  · (have hb9 := hSw.2.1; have hc9 := hSw.2.2; have x0 := hb9.cell (i := 0) rfl; have x1 := hb9.cell (i := 1) rfl; have x2 := hb9.cell (i := 2) rfl; have x3 := hb9.cell (i := 3) rfl; have x4 := hb9.cell (i := 4) rfl; have x5 := hb9.cell (i := 5) rfl; have x6 := hb9.cell (i := 6) rfl; have x7 := hb9.cell (i := 7) rfl; have x8 := hb9.cell (i := 8) rfl; have x9 := hb9.cell (i := 9) rfl; have y0 := hc9.cell (i := 0) rfl; have y1 := hc9.cell (i := 1) rfl; have y2 := hc9.cell (i := 2) rfl; have y3 := hc9.cell (i := 3) rfl; have y4 := hc9.cell (i := 4) rfl; clear hb9 hc9; go_simp; try with_reducible rfl)
  try simp only [Act.put, List.setIfInBounds_toArray, List.set_cons_zero, List.set_cons_succ]
  refine qstep (o := ⟨some 19, _, _, _, _, _⟩) (v := .int .u64 (lv : Int)) (by rfl) (fun wq hSw => ?_) ?_
  · (go_simp; try first | (with_reducible rfl) | (simp; omega) | (intros; omega) | simp [*])
  try simp only [Act.put, List.setIfInBounds_toArray, List.set_cons_zero, List.set_cons_succ]
  refine qstep (o := ⟨some 20, _, _, _, _, _⟩) (v := ?_) (by rfl) (fun wq hSw => ?_) ?_
  rotate_left
  · (go_simp; try with_reducible rfl)
  try simp only [Act.put, List.setIfInBounds_toArray, List.set_cons_zero, List.set_cons_succ]
  refine qstep (o := ⟨some 21, _, _, _, _, _⟩) (v := ?_) (by rfl) (fun wq hSw => ?_) ?_
  rotate_left
  · (go_simp; try with_reducible rfl)
  try simp only [Act.put, List.setIfInBounds_toArray, List.set_cons_zero, List.set_cons_succ]
  refine qstep (o := ⟨some 22, _, _, _, _, _⟩) (v := ?_) (by rfl) (fun wq hSw => ?_) ?_
  rotate_left
  · (have hb9 := hSw.2.1; have hc9 := hSw.2.2; have x0 := hb9.cell (i := 0) rfl; have x1 := hb9.cell (i := 1) rfl; have x2 := hb9.cell (i := 2) rfl; have x3 := hb9.cell (i := 3) rfl; have x4 := hb9.cell (i := 4) rfl; have x5 := hb9.cell (i := 5) rfl; have x6 := hb9.cell (i := 6) rfl; have x7 := hb9.cell (i := 7) rfl; have x8 := hb9.cell (i := 8) rfl; have x9 := hb9.cell (i := 9) rfl; have y0 := hc9.cell (i := 0) rfl; have y1 := hc9.cell (i := 1) rfl; have y2 := hc9.cell (i := 2) rfl; have y3 := hc9.cell (i := 3) rfl; have y4 := hc9.cell (i := 4) rfl; clear hb9 hc9; go_simp; try with_reducible rfl)
  try simp only [Act.put, List.setIfInBounds_toArray, List.set_cons_zero, List.set_cons_succ]
  refine qstep (o := ⟨some 23, _, _, _, _, _⟩) (v := ?_) (by rfl) (fun wq hSw => ?_) ?_
  rotate_left
  · (go_simp; try with_reducible rfl)
  try simp only [Act.put, List.setIfInBounds_toArray, List.set_cons_zero, List.set_cons_succ]
  refine qcall (o := ⟨some 24, _, _, _, _, _⟩) (v := .int .i64 a1) (by rfl) (fun wq hSw => ?_) (fun wq hSw => Calls.mono (high_to T S N C R F K fa fb fd hl hd (nid : Int) a1 HA1.out _) ?_) ?_
  · (go_simp; try with_reducible rfl)
  · rintro e w9 ⟨rfl, hk⟩; exact ⟨rfl, hSw.1.trans hk (fun _ _ h => h), hk.blk hSw.2.1 (fun h => h), hk.blk hSw.2.2 (fun h => h)⟩
  try simp only [Act.put, List.setIfInBounds_toArray, List.set_cons_zero, List.set_cons_succ]
  refine qstep (o := ⟨some 25, _, _, _, _, _⟩) (v := ?_) (by rfl) (fun wq hSw => ?_) ?_
  rotate_left
  · (have hb9 := hSw.2.1; have hc9 := hSw.2.2; have x0 := hb9.cell (i := 0) rfl; have x1 := hb9.cell (i := 1) rfl; have x2 := hb9.cell (i := 2) rfl; have x3 := hb9.cell (i := 3) rfl; have x4 := hb9.cell (i := 4) rfl; have x5 := hb9.cell (i := 5) rfl; have x6 := hb9.cell (i := 6) rfl; have x7 := hb9.cell (i := 7) rfl; have x8 := hb9.cell (i := 8) rfl; have x9 := hb9.cell (i := 9) rfl; have y0 := hc9.cell (i := 0) rfl; have y1 := hc9.cell (i := 1) rfl; have y2 := hc9.cell (i := 2) rfl; have y3 := hc9.cell (i := 3) rfl; have y4 := hc9.cell (i := 4) rfl; clear hb9 hc9; go_simp; try with_reducible rfl)
  try simp only [Act.put, List.setIfInBounds_toArray, List.set_cons_zero, List.set_cons_succ]
  refine qcall (o := ⟨some 26, _, _, _, _, _⟩) (v := .agg #[.int .u64 h0, .string h1, .int .u64 h2]) (by rfl) (fun wq hSw => ?_) (fun wq hSw => Calls.mono (highOf_any lv A n c hi la rt h0 h2 h1 HHH.out _) ?_) ?_
  · (go_simp; try with_reducible rfl)
  · rintro e w9 ⟨rfl, hk⟩; exact ⟨rfl, hSw.1.trans hk (fun _ _ h => h), hk.blk hSw.2.1 (fun h => h), hk.blk hSw.2.2 (fun h => h)⟩
  try simp only [Act.put, List.setIfInBounds_toArray, List.set_cons_zero, List.set_cons_succ]
  refine qstep (o := ⟨some 27, _, _, _, _, _⟩) (v := ?_) (by rfl) (fun wq hSw => ?_) ?_
  rotate_left
  · (go_simp; try with_reducible rfl)
  try simp only [Act.put, List.setIfInBounds_toArray, List.set_cons_zero, List.set_cons_succ]
  refine qstep (o := ⟨some 28, _, _, _, _, _⟩) (v := ?_) (by rfl) (fun wq hSw => ?_) ?_
  rotate_left
  · (have hb9 := hSw.2.1; have hc9 := hSw.2.2; have x0 := hb9.cell (i := 0) rfl; have x1 := hb9.cell (i := 1) rfl; have x2 := hb9.cell (i := 2) rfl; have x3 := hb9.cell (i := 3) rfl; have x4 := hb9.cell (i := 4) rfl; have x5 := hb9.cell (i := 5) rfl; have x6 := hb9.cell (i := 6) rfl; have x7 := hb9.cell (i := 7) rfl; have x8 := hb9.cell (i := 8) rfl; have x9 := hb9.cell (i := 9) rfl; have y0 := hc9.cell (i := 0) rfl; have y1 := hc9.cell (i := 1) rfl; have y2 := hc9.cell (i := 2) rfl; have y3 := hc9.cell (i := 3) rfl; have y4 := hc9.cell (i := 4) rfl; clear hb9 hc9; go_simp; try with_reducible rfl)
  try simp only [Act.put, List.setIfInBounds_toArray, List.set_cons_zero, List.set_cons_succ]
  refine qstep (o := ⟨some 29, _, _, _, _, _⟩) (v := ?_) (by rfl) (fun wq hSw => ?_) ?_
  rotate_left
  · (go_simp; try with_reducible rfl)
  try simp only [Act.put, List.setIfInBounds_toArray, List.set_cons_zero, List.set_cons_succ]
  refine qcall (o := ⟨some 30, _, _, _, _, _⟩) (v := .int .i64 a2) (by rfl) (fun wq hSw => ?_) (fun wq hSw => Calls.mono (right_to T S N C R F K fa fb fd hl hd (nid : Int) a2 HA2.out _) ?_) ?_
  · (go_simp; try with_reducible rfl)
  · rintro e w9 ⟨rfl, hk⟩; exact ⟨rfl, hSw.1.trans hk (fun _ _ h => h), hk.blk hSw.2.1 (fun h => h), hk.blk hSw.2.2 (fun h => h)⟩
  try simp only [Act.put, List.setIfInBounds_toArray, List.set_cons_zero, List.set_cons_succ]
  refine qstep (o := ⟨some 31, _, _, _, _, _⟩) (v := ?_) (by rfl) (fun wq hSw => ?_) ?_
  rotate_left
  · (go_simp; try with_reducible rfl)
  try simp only [Act.put, List.setIfInBounds_toArray, List.set_cons_zero, List.set_cons_succ]
  refine qstep (o := ⟨some 32, _, _, _, _, _⟩) (v := ?_) (by rfl) (fun wq hSw => ?_) ?_
  rotate_left
  · (have hb9 := hSw.2.1; have hc9 := hSw.2.2; have x0 := hb9.cell (i := 0) rfl; have x1 := hb9.cell (i := 1) rfl; have x2 := hb9.cell (i := 2) rfl; have x3 := hb9.cell (i := 3) rfl; have x4 := hb9.cell (i := 4) rfl; have x5 := hb9.cell (i := 5) rfl; have x6 := hb9.cell (i := 6) rfl; have x7 := hb9.cell (i := 7) rfl; have x8 := hb9.cell (i := 8) rfl; have x9 := hb9.cell (i := 9) rfl; have y0 := hc9.cell (i := 0) rfl; have y1 := hc9.cell (i := 1) rfl; have y2 := hc9.cell (i := 2) rfl; have y3 := hc9.cell (i := 3) rfl; have y4 := hc9.cell (i := 4) rfl; clear hb9 hc9; go_simp; try with_reducible rfl)
  try simp only [Act.put, List.setIfInBounds_toArray, List.set_cons_zero, List.set_cons_succ]
  refine qstep (o := ⟨some 33, _, _, _, _, _⟩) (v := ?_) (by rfl) (fun wq hSw => ?_) ?_
  rotate_left
  · (go_simp; try with_reducible rfl)
  try simp only [Act.put, List.setIfInBounds_toArray, List.set_cons_zero, List.set_cons_succ]
  refine qstep (o := ⟨some 34, _, _, _, _, _⟩) (v := ?_) (by rfl) (fun wq hSw => ?_) ?_
  rotate_left
  · (go_simp; try with_reducible rfl)
  try simp only [Act.put, List.setIfInBounds_toArray, List.set_cons_zero, List.set_cons_succ]
  refine wpQuiet_nil ?_
  intro wz hHeld
  obtain ⟨hK5, hP5, hS5⟩ := hHeld
  have hB5 := hK5.below (Nat.le_refl _) (fun _ h => h.elim)
  have HR5 := Lib.hid (HR.out.below hB5 (Nat.le_refl _))
  have HBW := Lib.hid (HB.out.trans (hB5.mono (by rw [HZ.out]; omega)))
  have hwz : w.heap.size ≤ wz.heap.size := HBW.out.size
  have hO := World.ownsRow_lit (base := w.heap.size) (e := 79) (size := 4) wz #[.int .i64 a0, .int .u64 (n : Int), .string ⟨#[]⟩, .int .u64 (lv : Int), .int .i64 a1, .int .u64 h0, .string h1, .int .u64 h2, .int .i64 a2, .int .u64 (rt : Int), .string ⟨#[]⟩, .int .u64 0] 3 hwz (by unfold maxLen; omega) rfl
  have HO := Lib.hid (show (wz.alloc (.cells #[.int .i64 a0, .int .u64 (n : Int), .string ⟨#[]⟩, .int .u64 (lv : Int), .int .i64 a1, .int .u64 h0, .string h1, .int .u64 h2, .int .i64 a2, .int .u64 (rt : Int), .string ⟨#[]⟩, .int .u64 0] 79)).ownsRow w.heap.size 79 4 (.slice (some ⟨wz.heap.size, 0, none⟩) (3 + 0) 3) (3 + 0) (flat4 ((pst (adr N F fa nid) (⟨lv, hi, la, rt, xs⟩ : Pg)).take (0 + 3))) by rw [Nat.zero_add, H3.out]; exact hO)
  have hPa := hP5.alloc (.cells #[.int .i64 a0, .int .u64 (n : Int), .string ⟨#[]⟩, .int .u64 (lv : Int), .int .i64 a1, .int .u64 h0, .string h1, .int .u64 h2, .int .i64 a2, .int .u64 (rt : Int), .string ⟨#[]⟩, .int .u64 0] 79)
  have hSa := hS5.alloc (.cells #[.int .i64 a0, .int .u64 (n : Int), .string ⟨#[]⟩, .int .u64 (lv : Int), .int .i64 a1, .int .u64 h0, .string h1, .int .u64 h2, .int .i64 a2, .int .u64 (rt : Int), .string ⟨#[]⟩, .int .u64 0] 79)
  have HPa := Lib.hid hPa
  have HSa := Lib.hid hSa
  have hBa := (Below.refl wz.heap.size wz).alloc (Nat.le_refl _) (.cells #[.int .i64 a0, .int .u64 (n : Int), .string ⟨#[]⟩, .int .u64 (lv : Int), .int .i64 a1, .int .u64 h0, .string h1, .int .u64 h2, .int .i64 a2, .int .u64 (rt : Int), .string ⟨#[]⟩, .int .u64 0] 79)
  have HRa := Lib.hid (HR5.out.below hBa (Nat.le_refl _))
  have HBa := Lib.hid (HBW.out.trans (hBa.mono hwz))
  have y1 := hS5.cell (i := 1) rfl
  have hb1z := hS5.lt
  clear hK5 hP5 hS5 hB5 hO hPa hSa hBa HR HP HS HB HR5 HBW HA0 HA1 HA2 HHH H3
  go_wp2_with fail
  generalize wz.alloc (.cells #[.int .i64 a0, .int .u64 (n : Int), .string ⟨#[]⟩, .int .u64 (lv : Int), .int .i64 a1, .int .u64 h0, .string h1, .int .u64 h2, .int .i64 a2, .int .u64 (rt : Int), .string ⟨#[]⟩, .int .u64 0] 79) = W2 at *
  clear y1
  go_loopw [7, 39] (fun v i wr => ∃ (j g cap : Nat), j ≤ n ∧ i = .int .i64 j ∧ v = .slice (some ⟨g, 0, none⟩) (3 + j) cap ∧ wr.ownsRow w.heap.size 79 4 (.slice (some ⟨g, 0, none⟩) (3 + j) cap) (3 + j) (flat4 ((pst (adr N F fa nid) (⟨lv, hi, la, rt, xs⟩ : Pg)).take (j + 3))) ∧ Blk wr w.heap.size 30 [.int .i64 T, .int .i64 S, .int .i64 N, .int .i64 C, .int .i64 R, .int .i64 (F : Int), .int .u64 K, .int .i64 fa, .int .i64 fb, .int .i64 fd] ∧ Rs wr A c xs ∧ Below w.heap.size w wr) (fun _ i _ => n - (intOf i).toNat)
  case atStart => exact ⟨0, _, _, Nat.zero_le _, rfl, rfl, HO.out, HPa.out, HRa.out, HBa.out⟩
  case round =>
    obtain ⟨j, g, cap, hj, rfl, rfl, hO, hP, hR, hB⟩ := hrel
    rename World => wr
    clear HO HPa HSa HRa HBa
    have HO := Lib.hid hO
    have HP := Lib.hid hP
    have HR := Lib.hid hR
    have HB := Lib.hid hB
    clear hO hP hR hB
    by_cases hlt : j < n
    · obtain ⟨x, hx⟩ : ∃ x, xs[j]? = some x := ⟨_, List.getElem?_eq_getElem (by omega)⟩
      obtain ⟨gx, off, rfl, hgx, hcell⟩ := HR.out.at (by omega)
      obtain ⟨cx0, cx1⟩ := hcell j x hx
      obtain ⟨aj, haj⟩ : ∃ y, slotAt N (F : Int) fa (nid : Int) (j : Int) = y := ⟨_, rfl⟩
      have HAJ := Lib.hid haj
      have hnext : flat4 ((pst (adr N F fa nid) (⟨lv, hi, la, rt, xs⟩ : Pg)).take (j + 1 + 3)) = flat4 ((pst (adr N F fa nid) (⟨lv, hi, la, rt, xs⟩ : Pg)).take (j + 3)) ++ [.int .i64 aj, .int .u64 (x.2 : Int), .string x.1, .int .u64 0] := by
        rw [show j + 1 + 3 = (j + 3) + 1 by omega, pst_step _ _ _ (by show j + 3 < xs.length + 3; omega), flat4_append, adr_slot, haj, pc_slot (P := (⟨lv, hi, la, rt, xs⟩ : Pg)) hx]; rfl
      have HNX := Lib.hid hnext
      clear hcell hx haj hnext
      go_upto_region 5 with fail
      clear cx0 cx1
      have HX := Lib.hid (Blk.new wr [.string x.1, .int .u64 (x.2 : Int)] 86)
      have hbl := (Below.refl wr.heap.size wr).alloc (Nat.le_refl _) (.cells #[.string x.1, .int .u64 (x.2 : Int)] 86)
      replace HO := Lib.hid (own_below HO.out hbl (Nat.le_refl _))
      replace HP := Lib.hid (HP.out.alloc (.cells #[.string x.1, .int .u64 (x.2 : Int)] 86))
      replace HR := Lib.hid (HR.out.below hbl (Nat.le_refl _))
      have hwr := HB.out.size
      replace HB := Lib.hid (HB.out.alloc hwr (.cells #[.string x.1, .int .u64 (x.2 : Int)] 86))
      have hwr2 : w.heap.size ≤ (wr.alloc (.cells #[.string x.1, .int .u64 (x.2 : Int)] 86)).heap.size := by rw [nblk_alloc]; omega
      have hgw := (HO.out.lt g rfl).1
      clear hbl
      generalize wr.alloc (.cells #[.string x.1, .int .u64 (x.2 : Int)] 86) = V at *
      generalize wr.heap.size = bx at *
      replace HX := Lib.hid (HX.out.of (w' := V.drew) rfl)
      replace HP := Lib.hid (HP.out.of (w' := V.drew) rfl)
      replace HO := Lib.hid HO.out.drew
      replace HR := Lib.hid (HR.out.keptF ((Kept.refl (fun _ => False) V).drew) (fun _ _ h => h))
      replace HB := Lib.hid HB.out.drew
      replace hwr2 : w.heap.size ≤ V.drew.heap.size := hwr2
      have hgb := own_far HO.out HX.out (by decide)
      have hgl := own_far HO.out HP.out (by decide)
      refine wp_region_held_drew (S := (fun w' => Blk w' w.heap.size 30 [.int .i64 T, .int .i64 S, .int .i64 N, .int .i64 C, .int .i64 R, .int .i64 (F : Int), .int .u64 K, .int .i64 fa, .int .i64 fb, .int .i64 fd] ∧ Blk w' bx 86 [.string x.1, .int .u64 (x.2 : Int)])) (by kernel_rfl) ?_ (fun hHeld => ?_)
      · exact ⟨HP.out, HX.out⟩
      generalize V.drew = G at *
      refine wpAnyH_take (i := 0) (oi := ⟨some 44, _, _, _, _, _⟩) (v := ?_) rfl (by kernel_rfl) (by kernel_rfl) (by kernel_rfl) (fun _ _ _ h => h) (Or.inl ⟨by rfl, ?_⟩) hHeld ?_
      rotate_left
      · (intro wq hSw; go_simp; try with_reducible rfl)
      try simp only [Act.put, List.setIfInBounds_toArray, List.set_cons_zero, List.set_cons_succ]
      refine wpAnyH_take (i := 1) (oi := ⟨some 45, _, _, _, _, _⟩) (v := ?_) rfl (by kernel_rfl) (by kernel_rfl) (by kernel_rfl) (fun _ _ _ h => h) (Or.inl ⟨by rfl, ?_⟩) hHeld ?_
      rotate_left
      · (intro wq hSw; have hb9 := hSw.1; have hc9 := hSw.2; have x0 := hb9.cell (i := 0) rfl; have x1 := hb9.cell (i := 1) rfl; have x2 := hb9.cell (i := 2) rfl; have x3 := hb9.cell (i := 3) rfl; have x4 := hb9.cell (i := 4) rfl; have x5 := hb9.cell (i := 5) rfl; have x6 := hb9.cell (i := 6) rfl; have x7 := hb9.cell (i := 7) rfl; have x8 := hb9.cell (i := 8) rfl; have x9 := hb9.cell (i := 9) rfl; have y0 := hc9.cell (i := 0) rfl; have y1 := hc9.cell (i := 1) rfl; clear hb9 hc9; go_simp; try with_reducible rfl)
      try simp only [Act.put, List.setIfInBounds_toArray, List.set_cons_zero, List.set_cons_succ]
      refine wpAnyH_take (i := 2) (oi := ⟨some 46, _, _, _, _, _⟩) (v := ?_) rfl (by kernel_rfl) (by kernel_rfl) (by kernel_rfl) (fun _ _ _ h => h) (Or.inl ⟨by rfl, ?_⟩) hHeld ?_
      rotate_left
      · (intro wq hSw; go_simp; try with_reducible rfl)
      try simp only [Act.put, List.setIfInBounds_toArray, List.set_cons_zero, List.set_cons_succ]
      refine wpAnyH_take (i := 3) (oi := ⟨some 47, _, _, _, _, _⟩) (v := ?_) rfl (by kernel_rfl) (by kernel_rfl) (by kernel_rfl) (fun _ _ _ h => h) (Or.inl ⟨by rfl, ?_⟩) hHeld ?_
      rotate_left
      · (intro wq hSw; go_simp; try with_reducible rfl)
      try simp only [Act.put, List.setIfInBounds_toArray, List.set_cons_zero, List.set_cons_succ]
      refine wpAnyH_take (i := 5) (oi := ⟨some 49, _, _, _, _, _⟩) (v := ?_) rfl (by kernel_rfl) (by kernel_rfl) (by kernel_rfl) (fun _ _ _ h => h) (Or.inl ⟨by rfl, ?_⟩) hHeld ?_
      rotate_left
      · (intro wq hSw; go_simp; try with_reducible rfl)
      try simp only [Act.put, List.setIfInBounds_toArray, List.set_cons_zero, List.set_cons_succ]
      refine wpAnyH_take (i := 6) (oi := ⟨some 50, _, _, _, _, _⟩) (v := ?_) rfl (by kernel_rfl) (by kernel_rfl) (by kernel_rfl) (fun _ _ _ h => h) (Or.inl ⟨by rfl, ?_⟩) hHeld ?_
      rotate_left
      · (intro wq hSw; have hb9 := hSw.1; have hc9 := hSw.2; have x0 := hb9.cell (i := 0) rfl; have x1 := hb9.cell (i := 1) rfl; have x2 := hb9.cell (i := 2) rfl; have x3 := hb9.cell (i := 3) rfl; have x4 := hb9.cell (i := 4) rfl; have x5 := hb9.cell (i := 5) rfl; have x6 := hb9.cell (i := 6) rfl; have x7 := hb9.cell (i := 7) rfl; have x8 := hb9.cell (i := 8) rfl; have x9 := hb9.cell (i := 9) rfl; have y0 := hc9.cell (i := 0) rfl; have y1 := hc9.cell (i := 1) rfl; clear hb9 hc9; go_simp; try with_reducible rfl)
      try simp only [Act.put, List.setIfInBounds_toArray, List.set_cons_zero, List.set_cons_succ]
      refine wpAnyH_take (i := 7) (oi := ⟨some 51, _, _, _, _, _⟩) (v := ?_) rfl (by kernel_rfl) (by kernel_rfl) (by kernel_rfl) (fun _ _ _ h => h) (Or.inl ⟨by rfl, ?_⟩) hHeld ?_
      rotate_left
      · (intro wq hSw; go_simp; try with_reducible rfl)
      try simp only [Act.put, List.setIfInBounds_toArray, List.set_cons_zero, List.set_cons_succ]
      refine wpAnyH_take (i := 8) (oi := ⟨some 52, _, _, _, _, _⟩) (v := ?_) rfl (by kernel_rfl) (by kernel_rfl) (by kernel_rfl) (fun _ _ _ h => h) (Or.inl ⟨by rfl, ?_⟩) hHeld ?_
      rotate_left
      · (intro wq hSw; have hb9 := hSw.1; have hc9 := hSw.2; have x0 := hb9.cell (i := 0) rfl; have x1 := hb9.cell (i := 1) rfl; have x2 := hb9.cell (i := 2) rfl; have x3 := hb9.cell (i := 3) rfl; have x4 := hb9.cell (i := 4) rfl; have x5 := hb9.cell (i := 5) rfl; have x6 := hb9.cell (i := 6) rfl; have x7 := hb9.cell (i := 7) rfl; have x8 := hb9.cell (i := 8) rfl; have x9 := hb9.cell (i := 9) rfl; have y0 := hc9.cell (i := 0) rfl; have y1 := hc9.cell (i := 1) rfl; clear hb9 hc9; go_simp; try with_reducible rfl)
      try simp only [Act.put, List.setIfInBounds_toArray, List.set_cons_zero, List.set_cons_succ]
      refine wpAnyH_take (i := 9) (oi := ⟨some 53, _, _, _, _, _⟩) (v := ?_) rfl (by kernel_rfl) (by kernel_rfl) (by kernel_rfl) (fun _ _ _ h => h) (Or.inl ⟨by rfl, ?_⟩) hHeld ?_
      rotate_left
      · (intro wq hSw; go_simp; try with_reducible rfl)
      try simp only [Act.put, List.setIfInBounds_toArray, List.set_cons_zero, List.set_cons_succ]
      refine wpAnyH_ready (rs := [4]) (by kernel_rfl) (by simp) ?_
      refine AllReadyH.cons (o := ⟨some 48, _, _, _, _, _⟩) rfl (fun KK hK => ?_) AllReadyH.nil
      go_simp
      go_at_call 63
      refine (slot_to T S N C R F K fa fb fd hl hd (nid : Int) (j : Int) aj HAJ.out _).mono ?_; rintro e w5 ⟨rfl, hK5⟩
      have hB5 := hK5.below (Nat.le_refl _) (fun _ h => h.elim)
      replace HP := Lib.hid (hK5.blk HP.out (fun h => h))
      replace HX := Lib.hid (hK5.blk HX.out (fun h => h))
      replace HO := Lib.hid (own_below HO.out hB5 (Nat.le_refl _))
      replace HR := Lib.hid (HR.out.below hB5 (Nat.le_refl _))
      replace HB := Lib.hid (HB.out.trans (hB5.mono hwr2))
      have hw5 : w.heap.size ≤ w5.heap.size := HB.out.size
      clear hK5 hB5
      refine hK.out _ _ ?_ (fun hHeld2 => ?_)
      · exact ⟨HP.out, HX.out⟩
      clear hK KK hHeld
      have hHeld := hHeld2
      clear hHeld2
      try simp only [Act.put, List.setIfInBounds_toArray, List.set_cons_zero, List.set_cons_succ]
      refine wpAnyH_take (i := 10) (oi := ⟨some 54, _, _, _, _, _⟩) (v := ?_) rfl (by kernel_rfl) (by kernel_rfl) (by kernel_rfl) (fun _ _ _ h => h) (Or.inl ⟨by rfl, ?_⟩) hHeld ?_
      rotate_left
      · (intro wq hSw; go_simp; try with_reducible rfl)
      try simp only [Act.put, List.setIfInBounds_toArray, List.set_cons_zero, List.set_cons_succ]
      refine wpAnyH_ready (rs := [11]) (by kernel_rfl) (by simp) ?_
      refine AllReadyH.cons (o := ⟨some 55, _, _, _, _, _⟩) rfl (fun KK hK => ?_) AllReadyH.nil
      go_simp
      have HNb := Lib.hid (show (w5.alloc (.cells #[.int .i64 aj, .int .u64 (x.2 : Int), .string x.1, .int .u64 0] 79)).heap[w5.heap.size]? = some (.cells #[.int .i64 aj, .int .u64 (x.2 : Int), .string x.1, .int .u64 0] 79 (0, 0)) from Blk.new w5 [.int .i64 aj, .int .u64 (x.2 : Int), .string x.1, .int .u64 0] 79)
      have hbl := (Below.refl w5.heap.size w5).alloc (Nat.le_refl _) (.cells #[.int .i64 aj, .int .u64 (x.2 : Int), .string x.1, .int .u64 0] 79)
      replace HO := Lib.hid (own_below HO.out hbl (Nat.le_refl _))
      replace HP := Lib.hid (HP.out.alloc (.cells #[.int .i64 aj, .int .u64 (x.2 : Int), .string x.1, .int .u64 0] 79))
      replace HX := Lib.hid (HX.out.alloc (.cells #[.int .i64 aj, .int .u64 (x.2 : Int), .string x.1, .int .u64 0] 79))
      replace HR := Lib.hid (HR.out.below hbl (Nat.le_refl _))
      replace HB := Lib.hid (HB.out.alloc hw5 (.cells #[.int .i64 aj, .int .u64 (x.2 : Int), .string x.1, .int .u64 0] 79))
      have hw6 : w.heap.size ≤ (w5.alloc (.cells #[.int .i64 aj, .int .u64 (x.2 : Int), .string x.1, .int .u64 0] 79)).heap.size := by rw [nblk_alloc]; omega
      clear hbl
      generalize w5.alloc (.cells #[.int .i64 aj, .int .u64 (x.2 : Int), .string x.1, .int .u64 0] 79) = V6 at *
      refine hK.out _ _ ?_ (fun hHeld2 => ?_)
      · exact ⟨HP.out, HX.out⟩
      clear hK KK hHeld
      have hHeld := hHeld2
      clear hHeld2
      try simp only [Act.put, List.setIfInBounds_toArray, List.set_cons_zero, List.set_cons_succ]
      refine wpAnyH_ready (rs := [12]) (by kernel_rfl) (by simp) ?_
      refine AllReadyH.cons (o := ⟨some 56, _, _, _, _, _⟩) rfl (fun KK hK => ?_) AllReadyH.nil
      refine step_append_lies _ (by rfl) (.tmp 44) (.tmp 55) 76 (by rfl) w.heap.size 79 i0 _ 4 40 Try.underlying76 HI0.out HI1.out HI2.out HI3.out rfl (by decide) _ (3 + j) _ (by rfl) HO.out ⟨w5.heap.size, 0, none⟩ 1 1 [.int .i64 aj, .int .u64 (x.2 : Int), .string x.1, .int .u64 0] (by rfl) (by rfl) (World.news_of_block HNb.out) (one_sto _ _ _ _) (by omega) (by unfold maxLen; omega) (by omega) hw6 _ rfl ?_
      intro g4 cap4 w4 hown4 hgrow4 hat4 hlt4
      replace HP := Lib.hid (HP.out.of (hgrow4.block _ HP.out.lt (fun e => hgl e.symm)))
      replace HX := Lib.hid (HX.out.of (hgrow4.block bx HX.out.lt (fun e => hgb e.symm)))
      have hbel := (Below.refl w.heap.size V6).grown hgrow4 hw6 (fun k hk => (World.ownsRow.lt HO.out k hk).1)
      replace HB := Lib.hid (HB.out.trans hbel)
      replace HR := Lib.hid (HRW.out.below HB.out (Nat.le_refl _))
      replace HO := Lib.hid (show w4.ownsRow w.heap.size 79 4 (.slice (some ⟨g4, 0, none⟩) (3 + (j + 1)) cap4) (3 + (j + 1)) (flat4 ((pst (adr N F fa nid) (⟨lv, hi, la, rt, xs⟩ : Pg)).take (j + 1 + 3))) by rw [HNX.out]; exact hown4)
      clear hown4 hgrow4 hat4 hlt4 HNb hbel
      refine hK.out _ _ ?_ (fun hHeld2 => ?_)
      · exact ⟨HP.out, HX.out⟩
      clear hK KK hHeld
      have hHeld := hHeld2
      clear hHeld2
      try simp only [Act.put, List.setIfInBounds_toArray, List.set_cons_zero, List.set_cons_succ]
      refine wpAnyH_take (i := 13) (oi := ⟨some 7, _, _, _, _, _⟩) (v := ?_) rfl (by kernel_rfl) (by kernel_rfl) (by kernel_rfl) (fun _ _ _ h => h) (Or.inl ⟨by rfl, ?_⟩) hHeld ?_
      rotate_left
      · (intro wq hSw; go_simp; try with_reducible rfl)
      try simp only [Act.put, List.setIfInBounds_toArray, List.set_cons_zero, List.set_cons_succ]
      refine wpAnyH_done (by kernel_rfl) ?_ _
      clear hHeld
      go_wp2
      go_roundw
      case rel => exact ⟨j + 1, g4, cap4, by omega, by go_num, by first | rfl | simp; omega, HO.out, HP.out, HR.out, HB.out⟩
      case measure => simp [intOf]; omega
    · obtain rfl : j = n := by omega
      go_wp2
      go_ret
      refine ⟨g, cap, rfl, ?_, HB.out⟩
      have hO := HO.out
      rw [show j + 3 = xs.length + 3 by omega, pst_all _ (⟨lv, hi, la, rt, xs⟩ : Pg)] at hO
      exact hO

set_option maxRecDepth 100000 in
set_option maxHeartbeats 4000000 in
theorem changes_any (fr tg : List Sto) (gf gt cf ct n m : Nat) (w : World) (hn : fr.length = n) (hm : tg.length = m) (hn40 : n ≤ 1000000) (hm40 : m ≤ 1000000) (hf : gf < w.heap.size ∧ ∀ i u, (flat4 fr)[i]? = some u → w.cell? ⟨gf, i, none⟩ = some u) (ht : gt < w.heap.size ∧ ∀ i u, (flat4 tg)[i]? = some u → w.cell? ⟨gt, i, none⟩ = some u)
    (hsm : ∀ (i : Nat) (s t : Sto), fr[i]? = some s → tg[i]? = some t → s.1 = t.1) :
    Calls Try.prog 49 #[.slice (some ⟨gf, 0, none⟩) n cf, .slice (some ⟨gt, 0, none⟩) m ct] w fun e w' => ∃ v, e = .returned v ∧ w'.ownsRow w.heap.size 79 4 v (chg fr tg).length (flat4 (chg fr tg)) ∧ Below w.heap.size w w' := by
  have HT := Lib.hid ht
  have HF := Lib.hid hf
  have HSM := Lib.hid hsm
  clear ht hf hsm
  obtain ⟨i0, hi0, hz0, hz1, hz2⟩ := info_parts Try.info79
  have HI0 := Lib.hid hi0
  have HI1 := Lib.hid hz0
  have HI2 := Lib.hid hz1
  have HI3 := Lib.hid hz2
  clear hi0 hz0 hz1 hz2
  go_enter Try.func49, Try.ntmps49
  go_wp2_with fail
  go_loopw [5, 10] (fun v i wr => ∃ (j : Nat), j ≤ m ∧ i = .int .i64 j ∧ wr.ownsRow w.heap.size 79 4 v (chgTo fr tg j).length (flat4 (chgTo fr tg j)) ∧ Below w.heap.size w wr) (fun _ i _ => m - (intOf i).toNat)
  case atStart => exact ⟨0, Nat.zero_le _, rfl, World.ownsRow_nil _ _ _ _, Below.refl _ _⟩
  case round =>
    obtain ⟨j, hj, rfl, hO, hB⟩ := hrel
    rename World => wr
    have HO := Lib.hid hO
    have HB := Lib.hid hB
    clear hO hB
    by_cases hlt : j < m
    · obtain ⟨⟨aj, cN, cK, cM⟩, hsj⟩ : ∃ s, tg[j]? = some s := ⟨_, List.getElem?_eq_getElem (by omega)⟩
      obtain ⟨f0, f1, f2, f3⟩ := flat4_at tg j _ hsj
      have t0 := (HB.out.cell (p := ⟨gt, j * 4, none⟩) HT.out.1).trans (HT.out.2 _ _ f0)
      have t1 := (HB.out.cell (p := ⟨gt, j * 4 + 1, none⟩) HT.out.1).trans (HT.out.2 _ _ f1)
      have t2 := (HB.out.cell (p := ⟨gt, j * 4 + 2, none⟩) HT.out.1).trans (HT.out.2 _ _ f2)
      have t3 := (HB.out.cell (p := ⟨gt, j * 4 + 3, none⟩) HT.out.1).trans (HT.out.2 _ _ f3)
      have hgt : gt < wr.heap.size := Nat.lt_of_lt_of_le HT.out.1 HB.out.size
      have hjm : (j : Int) < (m : Int) := by omega
      have hj0 : (0 : Int) ≤ (j : Int) := by omega
      have hstep := chgTo_step (fr := fr) hsj
      have HSTEP := Lib.hid hstep
      have hwr := HB.out.size
      have HC1 := Lib.hid (chgTo_length fr tg j)
      clear f0 f1 f2 f3 hstep
      simp only at t0 t1 t2 t3
      by_cases hfl : j < n
      · obtain ⟨⟨af, dN, dK, dM⟩, hfj⟩ : ∃ s, fr[j]? = some s := ⟨_, List.getElem?_eq_getElem (by omega)⟩
        obtain rfl : af = aj := HSM.out j _ _ hfj hsj
        obtain ⟨f0, f1, f2, f3⟩ := flat4_at fr j _ hfj
        have q0 := (HB.out.cell (p := ⟨gf, j * 4, none⟩) HF.out.1).trans (HF.out.2 _ _ f0)
        have q1 := (HB.out.cell (p := ⟨gf, j * 4 + 1, none⟩) HF.out.1).trans (HF.out.2 _ _ f1)
        have q2 := (HB.out.cell (p := ⟨gf, j * 4 + 2, none⟩) HF.out.1).trans (HF.out.2 _ _ f2)
        have q3 := (HB.out.cell (p := ⟨gf, j * 4 + 3, none⟩) HF.out.1).trans (HF.out.2 _ _ f3)
        have hgf : gf < wr.heap.size := Nat.lt_of_lt_of_le HF.out.1 HB.out.size
        have hjn : (j : Int) < (n : Int) := by omega
        have hnn : decide ((n : Int) ≤ (j : Int)) = false := by simp; omega
        simp only at q0 q1 q2 q3
        clear f0 f1 f2 f3
        obtain ⟨bb, hbb⟩ : ∃ bb, (!(decide (((af, cN, cK, cM) : Sto) = (af, dN, dK, dM)))) = bb := ⟨_, rfl⟩
        have hnq : ∀ w : World, (binOp .neq 79 (.agg #[.int .i64 af, .int .u64 cN, .string cK, .int .u64 cM]) (.agg #[.int .i64 af, .int .u64 dN, .string dK, .int .u64 dM])).run Try.prog w = .ok (.bool bb) w := fun w => by rw [← hbb]; exact neq_sto _ _ _ _ _ _ _ w
        have HNW := Lib.hid (show news fr (af, cN, cK, cM) j = bb by unfold news; rw [hfj]; exact hbb)
        clear hbb hfj hsj
        go_upto_region 5 with fail
        have HX := Lib.hid (Blk.new wr [.int .i64 af, .int .u64 cN, .string cK, .int .u64 cM] 79)
        have hbl := (Below.refl wr.heap.size wr).alloc (Nat.le_refl _) (.cells #[.int .i64 af, .int .u64 cN, .string cK, .int .u64 cM] 79)
        replace HO := Lib.hid (own_below HO.out hbl (Nat.le_refl _))
        replace HB := Lib.hid (HB.out.alloc hwr (.cells #[.int .i64 af, .int .u64 cN, .string cK, .int .u64 cM] 79))
        replace hwr : w.heap.size ≤ (wr.alloc (.cells #[.int .i64 af, .int .u64 cN, .string cK, .int .u64 cM] 79)).heap.size := by rw [nblk_alloc]; omega
        replace q0 := (hbl.cell (p := ⟨gf, j * 4, none⟩) hgf).trans q0
        replace q1 := (hbl.cell (p := ⟨gf, j * 4 + 1, none⟩) hgf).trans q1
        replace q2 := (hbl.cell (p := ⟨gf, j * 4 + 2, none⟩) hgf).trans q2
        replace q3 := (hbl.cell (p := ⟨gf, j * 4 + 3, none⟩) hgf).trans q3
        clear hgf
        clear hbl t0 t1 t2 t3 hgt
        generalize wr.alloc (.cells #[.int .i64 af, .int .u64 cN, .string cK, .int .u64 cM] 79) = V at *
        generalize wr.heap.size = bx at *
        have hX := HX.out
        have u0 := hX.cell (i := 0) rfl
        have u1 := hX.cell (i := 1) rfl
        have u2 := hX.cell (i := 2) rfl
        have u3 := hX.cell (i := 3) rfl
        clear hX
        cases bb
        · go_quiet (fail)
          go_wp2
          go_roundw
          case rel => exact ⟨j + 1, by omega, by go_num, by rw [HSTEP.out, if_neg (by rw [HNW.out]; simp)]; exact own_kept HO.out ((Kept.refl (fun _ => False) V).drewN _) (fun _ _ h => h), below_drewN HB.out _⟩
          case measure => simp [intOf]; omega
        · go_quiet (fail)
          have HO2 := Lib.hid (own_kept HO.out ((Kept.refl (fun _ => False) V).drewN nq) (fun _ _ h => h))
          have HB2 := Lib.hid (below_drewN HB.out nq)
          have HX2 := Lib.hid (HX.out.of (w' := V.drewN nq) rfl)
          have hw2 : w.heap.size ≤ (V.drewN nq).heap.size := hwr
          clear HO HB HX u0 u1 u2 u3 q0 q1 q2 q3 hwr
          generalize V.drewN nq = V2 at *
          have u0 := HX2.out.cell (i := 0) rfl
          have u1 := HX2.out.cell (i := 1) rfl
          have u2 := HX2.out.cell (i := 2) rfl
          have u3 := HX2.out.cell (i := 3) rfl
          have hwx : w.heap.size ≤ (V2.alloc (.cells #[.int .i64 af, .int .u64 cN, .string cK, .int .u64 cM] 79)).heap.size := by rw [nblk_alloc]; omega
          have HWX := Lib.hid hwx
          clear hwx
          go_wp2_with (at_builtin; go_must (refine wpList_append_lies _ rfl (.tmp 27) (.tmp 29) 76 rfl w.heap.size 79 i0 _ 4 40 Try.underlying76 HI0.out HI1.out HI2.out HI3.out rfl (by decide) _ (chgTo fr tg j).length _ rfl (HO2.out.alloc _) ⟨V2.heap.size, 0, none⟩ 1 1 [.int .i64 af, .int .u64 cN, .string cK, .int .u64 cM] rfl rfl (World.news_of_block (Blk.new V2 [.int .i64 af, .int .u64 cN, .string cK, .int .u64 cM] 79)) (one_sto _ _ _ _) (by omega) (by have := HC1.out; unfold maxLen; omega) (by have := HC1.out; omega) HWX.out _ rfl ?_))
          intro g4 cap4 w4 hown4 hgrow4 hat4 hlt4
          have HB4 := Lib.hid ((HB2.out.alloc hw2 (.cells #[.int .i64 af, .int .u64 cN, .string cK, .int .u64 cM] 79)).trans ((Below.refl w.heap.size _).grown hgrow4 HWX.out (fun k hk => (World.ownsRow.lt (HO2.out.alloc (.cells #[.int .i64 af, .int .u64 cN, .string cK, .int .u64 cM] 79)) k hk).1)))
          have HO4 := Lib.hid (show w4.ownsRow w.heap.size 79 4 (.slice (some ⟨g4, 0, none⟩) ((chgTo fr tg j).length + 1) cap4) (chgTo fr tg (j + 1)).length (flat4 (chgTo fr tg (j + 1))) by
            rw [HSTEP.out, if_pos HNW.out, flat4_append, List.length_append]; exact hown4)
          clear hown4 hgrow4 hat4 hlt4 HO2 HB2 HX2 u0 u1 u2 u3
          go_wp2
          go_roundw
          case rel => exact ⟨j + 1, by omega, by go_num, HO4.out, HB4.out⟩
          case measure => simp [intOf]; omega
      · have hnn : decide ((n : Int) ≤ (j : Int)) = true := by simp; omega
        have HNW := Lib.hid (show news fr (aj, cN, cK, cM) j = true by unfold news; rw [List.getElem?_eq_none (by omega)])
        clear hsj
        go_upto_region 5 with fail
        have HX := Lib.hid (Blk.new wr [.int .i64 aj, .int .u64 cN, .string cK, .int .u64 cM] 79)
        have hbl := (Below.refl wr.heap.size wr).alloc (Nat.le_refl _) (.cells #[.int .i64 aj, .int .u64 cN, .string cK, .int .u64 cM] 79)
        replace HO := Lib.hid (own_below HO.out hbl (Nat.le_refl _))
        replace HB := Lib.hid (HB.out.alloc hwr (.cells #[.int .i64 aj, .int .u64 cN, .string cK, .int .u64 cM] 79))
        replace hwr : w.heap.size ≤ (wr.alloc (.cells #[.int .i64 aj, .int .u64 cN, .string cK, .int .u64 cM] 79)).heap.size := by rw [nblk_alloc]; omega
        clear hbl t0 t1 t2 t3 hgt
        generalize wr.alloc (.cells #[.int .i64 aj, .int .u64 cN, .string cK, .int .u64 cM] 79) = V at *
        generalize wr.heap.size = bx at *
        have hX := HX.out
        have u0 := hX.cell (i := 0) rfl
        have u1 := hX.cell (i := 1) rfl
        have u2 := hX.cell (i := 2) rfl
        have u3 := hX.cell (i := 3) rfl
        clear hX
        go_quiet (fail)
        have HO2 := Lib.hid (own_kept HO.out ((Kept.refl (fun _ => False) V).drewN nq) (fun _ _ h => h))
        have HB2 := Lib.hid (below_drewN HB.out nq)
        have HX2 := Lib.hid (HX.out.of (w' := V.drewN nq) rfl)
        have hw2 : w.heap.size ≤ (V.drewN nq).heap.size := hwr
        clear HO HB HX u0 u1 u2 u3 hwr
        generalize V.drewN nq = V2 at *
        have u0 := HX2.out.cell (i := 0) rfl
        have u1 := HX2.out.cell (i := 1) rfl
        have u2 := HX2.out.cell (i := 2) rfl
        have u3 := HX2.out.cell (i := 3) rfl
        have hwx : w.heap.size ≤ (V2.alloc (.cells #[.int .i64 aj, .int .u64 cN, .string cK, .int .u64 cM] 79)).heap.size := by rw [nblk_alloc]; omega
        have HWX := Lib.hid hwx
        clear hwx
        go_wp2_with (at_builtin; go_must (refine wpList_append_lies _ rfl (.tmp 27) (.tmp 29) 76 rfl w.heap.size 79 i0 _ 4 40 Try.underlying76 HI0.out HI1.out HI2.out HI3.out rfl (by decide) _ (chgTo fr tg j).length _ rfl (HO2.out.alloc _) ⟨V2.heap.size, 0, none⟩ 1 1 [.int .i64 aj, .int .u64 cN, .string cK, .int .u64 cM] rfl rfl (World.news_of_block (Blk.new V2 [.int .i64 aj, .int .u64 cN, .string cK, .int .u64 cM] 79)) (one_sto _ _ _ _) (by omega) (by have := HC1.out; unfold maxLen; omega) (by have := HC1.out; omega) HWX.out _ rfl ?_))
        intro g4 cap4 w4 hown4 hgrow4 hat4 hlt4
        have HB4 := Lib.hid ((HB2.out.alloc hw2 (.cells #[.int .i64 aj, .int .u64 cN, .string cK, .int .u64 cM] 79)).trans ((Below.refl w.heap.size _).grown hgrow4 HWX.out (fun k hk => (World.ownsRow.lt (HO2.out.alloc (.cells #[.int .i64 aj, .int .u64 cN, .string cK, .int .u64 cM] 79)) k hk).1)))
        have HO4 := Lib.hid (show w4.ownsRow w.heap.size 79 4 (.slice (some ⟨g4, 0, none⟩) ((chgTo fr tg j).length + 1) cap4) (chgTo fr tg (j + 1)).length (flat4 (chgTo fr tg (j + 1))) by
          rw [HSTEP.out, if_pos HNW.out, flat4_append, List.length_append]; exact hown4)
        clear hown4 hgrow4 hat4 hlt4 HO2 HB2 HX2 u0 u1 u2 u3
        go_wp2
        go_roundw
        case rel => exact ⟨j + 1, by omega, by go_num, HO4.out, HB4.out⟩
        case measure => simp [intOf]; omega
    · obtain rfl : j = m := by omega
      go_wp2
      go_ret
      have hO := HO.out
      rw [show j = tg.length from hm.symm] at hO
      exact ⟨_, rfl, hO, HB.out⟩

end Go.Proofs.Ytlehpcbhfdnkdaa
