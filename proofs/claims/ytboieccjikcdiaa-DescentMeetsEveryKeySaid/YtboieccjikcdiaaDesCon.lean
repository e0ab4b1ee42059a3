/-
  A content that is being read: what a step of it does, with the blocks that are its own. Condition: a layout within its limits.
-/
import Derived.Test.YtboieccjikcdiaaDesTake
namespace Go.Proofs.Ytboieccjikcdiaa
open Go.RowKit Go.Deep Plain
set_option linter.unusedVariables false

/-- A content at the head of block q, with the row of the slots that it has read; both belong to the blocks Z, which are its machine's own. -/
structure Con (Z : Nat → Prop) (w : World) (T S N C R : Int) (F : Nat) (K fa fb fd : Int) (q : Nat) (t : TypeId) (nid : Nat) (s : Cs) (tl : List Value) : Prop where
  lt : ∀ i, Z i → i < w.heap.size
  own : Z q
  ex : ∃ v, Blk w q t (conv T S N C R F K fa fb fd nid s.rd s.en s.lv v s.hi s.la s.rt tl) ∧ w.ownsRow 0 65 2 v s.xs.length (flat s.xs) ∧ ∀ i, v.ownBlock = some i → Z i
section
variable {Z Y : Nat → Prop} {w w' : World} {T S N C R : Int} {F : Nat} {K fa fb fd : Int} {q : Nat} {t : TypeId} {nid : Nat} {s : Cs} {tl : List Value}
theorem Con.kept (h : Con Z w T S N C R F K fa fb fd q t nid s tl) (hk : Kept Y w w') (hd : ∀ i, Z i → ¬ Y i) : Con Z w' T S N C R F K fa fb fd q t nid s tl :=
  let ⟨v, h1, h2, h3⟩ := h.ex
  ⟨fun i hi => Nat.lt_of_lt_of_le (h.lt i hi) hk.size, h.own, v, hk.blk h1 (hd q h.own), own_kept h2 hk (fun i hi => hd i (h3 i hi)), h3⟩
/-- What lies behind the content may be written. -/
theorem Con.setTail (h : Con Z w T S N C R F K fa fb fd q t nid s tl) (ht : t ≠ 65) (i : Nat) (u : Value) : Con Z (w.setCell ⟨q, 18 + i, none⟩ u) T S N C R F K fa fb fd q t nid s (tl.set i u) := by
  obtain ⟨v, h1, h2, h3⟩ := h.ex
  have hk := (Kept.refl (fun i => i = q) w).setCell (a := ⟨q, 18 + i, none⟩) (fun _ => rfl) u
  refine ⟨fun j hj => Nat.lt_of_lt_of_le (h.lt j hj) hk.size, h.own, v, ?_, own_kept h2 hk (fun j hj e => own_far h2 h1 ht (by rw [hj, e])), h3⟩
  have e : (conv T S N C R F K fa fb fd nid s.rd s.en s.lv v s.hi s.la s.rt tl).set (18 + i) u = (conv T S N C R F K fa fb fd nid s.rd s.en s.lv v s.hi s.la s.rt (tl.set i u)) := by
    rw [Nat.add_comm]; rfl
  rw [← e]; exact h1.set _ _
end

theorem take_any (Z : Nat → Prop) (T S N C R : Int) (F : Nat) (K fa fb fd : Int) (hl : Lim T S N C R (F : Int)) (hd : Reach3 fa fb fd) (q : Nat) (t : TypeId) (nid : Nat) (s s' : Cs) (tl : List Value) (w : World) (h : Con Z w T S N C R F K fa fb fd q t nid s tl) (ht : t ≠ 65) (hok : Oks F s) (hlt : s.rd = 0 ∨ s.rd < s.en)
    (nN mM : Nat) (kK : ByteArray) (hN : nN < 18446744073709551616) (hM : mM < 9223372036854775808) (hs : tk F s nN kK mM = s') (r : Bool) (hr : (s'.rd == s'.en) = r) :
    Calls Try.prog 86 #[.pointer (some ⟨q, 0, none⟩), .agg #[.int .u64 (nN : Int), .string kK, .int .u64 (mM : Int)]] w fun e w' => e = .returned (.bool r) ∧ ∃ Z', Con Z' w' T S N C R F K fa fb fd q t nid s' tl ∧ Kept Z w w' ∧ (∀ i, Z' i → Z i ∨ w.heap.size ≤ i) := by
  obtain ⟨v, h1, h2, h3⟩ := h.ex
  have hF := hl.f2
  have hrd := hok.lt
  have hx := hok.xs
  have hkq : ∀ {w' : World}, Kept (fun i => i = q) w w' → Kept Z w w' := fun hk => hk.mono (fun i e => by subst e; exact h.own)
  have hfar := own_far h2 h1 ht
  have hlt' : ∀ {w' : World}, Kept (fun i => i = q) w w' → ∀ i, Z i → i < w'.heap.size := fun hk i hi => Nat.lt_of_lt_of_le (h.lt i hi) hk.size
  have hrow : ∀ {w' : World}, Kept (fun i => i = q) w w' → w'.ownsRow 0 65 2 v s.xs.length (flat s.xs) := fun hk => own_kept h2 hk (fun i hi e => hfar (by rw [hi, e]))
  have hen : s.en ≤ 40 := by
    by_cases h0 : s.rd = 0
    · rw [hok.zero h0]; show 0 ≤ 40; omega
    · have := hok.en (by omega); omega
  rcases (by omega : s.rd = 0 ∨ s.rd = 1 ∨ s.rd = 2 ∨ 3 ≤ s.rd) with h0 | h0 | h0 | h0
  · have e : s' = { s with rd := 1, en := 3 + min nN F, lv := mM } := by rw [← hs]; unfold tk; rw [if_pos h0]
    subst e
    obtain rfl : false = r := by rw [← hr]; show false = (1 == 3 + min nN F); symm; simp; omega
    refine (take_0 T S N C R F K fa fb fd hl hd q t nid s.rd s.en s.lv v s.hi s.la s.rt tl w h1 h0 nN mM kK hN hM).mono ?_
    rintro e w' ⟨he, hB, hk⟩
    exact ⟨he, Z, ⟨hlt' hk, h.own, v, hB, hrow hk, h3⟩, hkq hk, fun i hi => .inl hi⟩
  · have e : s' = { s with rd := 2, hi := kK, la := mM == 1 } := by rw [← hs]; unfold tk; rw [if_neg (by omega), if_pos h0]
    subst e
    refine (take_1 T S N C R F K fa fb fd hl hd q t nid s.rd s.en s.lv v s.hi s.la s.rt tl w h1 h0 hen nN mM kK hN hM r hr).mono ?_
    rintro e w' ⟨he, hB, hk⟩
    exact ⟨he, Z, ⟨hlt' hk, h.own, v, hB, hrow hk, h3⟩, hkq hk, fun i hi => .inl hi⟩
  · have e : s' = { s with rd := 3, rt := nN } := by rw [← hs]; unfold tk; rw [if_neg (by omega), if_neg (by omega), if_pos h0]
    subst e
    refine (take_2 T S N C R F K fa fb fd hl hd q t nid s.rd s.en s.lv v s.hi s.la s.rt tl w h1 h0 hen nN mM kK hN hM r hr).mono ?_
    rintro e w' ⟨he, hB, hk⟩
    exact ⟨he, Z, ⟨hlt' hk, h.own, v, hB, hrow hk, h3⟩, hkq hk, fun i hi => .inl hi⟩
  · have e : s' = { s with rd := s.rd + 1, xs := s.xs ++ [(kK, nN)] } := by rw [← hs]; unfold tk; rw [if_neg (by omega), if_neg (by omega), if_neg (by omega)]
    subst e
    refine (take_3 T S N C R F K fa fb fd hl hd q t nid s.rd s.en s.lv v s.hi s.la s.rt tl s.xs s.xs.length w h1 h2 ht (by omega) ⟨h0, by omega⟩ (by omega) nN mM kK hN hM r hr).mono ?_
    rintro e w' ⟨he, g, cap, hB, hO, hat, hk⟩
    refine ⟨he, fun i => Z i ∨ i = g, ⟨fun i hi => ?_, .inl h.own, _, hB, ?_, fun i hi => .inr (by cases hi; rfl)⟩, hk.mono (fun i hi => ?_), fun i hi => ?_⟩
    · rcases hi with hi | rfl
      · exact Nat.lt_of_lt_of_le (h.lt i hi) hk.size
      · exact (hO.lt i rfl).2
    · simp only [List.length_append, List.length_cons, List.length_nil, flat_append]; exact hO
    · rcases hi with rfl | hi
      · exact h.own
      · exact h3 i hi
    · rcases hi with hi | rfl
      · exact .inl hi
      · rcases hat with hat | hat
        · exact .inl (h3 i hat)
        · exact .inr hat

set_option maxHeartbeats 2000000 in
theorem cload_any (Z : Nat → Prop) (T S N C R : Int) (F : Nat) (K fa fb fd : Int) (hl : Lim T S N C R (F : Int)) (hd : Reach3 fa fb fd) (q : Nat) (t : TypeId) (nid : Nat) (s s' : Cs) (tl : List Value) (w : World) (h : Con Z w T S N C R F K fa fb fd q t nid s tl) (ht : t ≠ 65) (b g : Nat) (l : List Cel) (k : Nat) (hm : Mem w b g l k) (hb : ¬ Z b) (hg : ¬ Z g) (hk : k < 9223372036854775808) (hok : Oks F s) (hlt : s.rd = 0 ∨ s.rd < s.en) (ad : Int) (had : adr N F fa nid s.rd = ad)
    (nN mM : Nat) (kK : ByteArray) (hc : cellAt l ad = ((nN : Int), kK, (mM : Int))) (hN : nN < 18446744073709551616) (hM : mM < 9223372036854775808) (hs : tk F s nN kK mM = s') (r : Bool) (hr : (s'.rd == s'.en) = r) :
    Calls Try.prog 72 #[.pointer (some ⟨q, 0, none⟩), .pointer (some ⟨b, 0, none⟩)] w fun e w' => e = .returned (.bool r) ∧ Mem w' b g l (k + 1) ∧ ∃ Z', Con Z' w' T S N C R F K fa fb fd q t nid s' tl ∧ Kept (fun i => Z i ∨ i = b ∨ i = g) w w' ∧ (∀ i, Z' i → Z i ∨ w.heap.size ≤ i) := by
  obtain ⟨v, h1, h2, h3⟩ := h.ex
  have hF := hl.f2
  have hrd := hok.lt
  have HC := Lib.hid hc
  have HAD := Lib.hid had
  have HM := Lib.hid hm
  have HH := Lib.hid h
  have HS := Lib.hid hs
  have HR := Lib.hid hr
  have HOK := Lib.hid hok
  have HLT := Lib.hid hlt
  have HB := Lib.hid h1
  clear hc had hm h hs hr hok hlt h1 h2 h3
  go_enter Try.func72, Try.ntmps72
  go_wp2_with fail
  refine (address_any T S N C R F K fa fb fd hl hd q t nid s.rd s.en s.lv v s.hi s.la s.rt tl _ HB.out (by omega) ad HAD.out).mono ?_; rintro e w1 ⟨rfl, hK1⟩
  have HM1 := Lib.hid (HM.out.kept hK1 (fun h => h) (fun h => h))
  have HH1 := Lib.hid (HH.out.kept hK1 (fun _ _ h => h))
  have HK1 := Lib.hid (hK1.mono (T := fun i => Z i ∨ i = b ∨ i = g) (fun _ h => h.elim))
  clear hK1 HB
  go_wp2_with fail
  refine (load_any b g l k ad (nN : Int) (mM : Int) kK _ HM1.out hk HC.out).mono ?_; rintro e w2 ⟨rfl, hM2, hK2⟩
  have HM2 := Lib.hid hM2
  have HH2 := Lib.hid (HH1.out.kept hK2 (fun i hi e => by rcases e with rfl | rfl; exact hb hi; exact hg hi))
  have HK2 := Lib.hid (HK1.out.trans hK2 (T := Own b g) (fun i _ e => .inr e))
  clear hM2 hK2 HM1 HH1 HK1 HM HH
  go_wp2_with fail
  refine (take_any Z T S N C R F K fa fb fd hl hd q t nid s s' tl _ HH2.out ht HOK.out HLT.out nN mM kK hN hM HS.out r HR.out).mono ?_; rintro e w3 ⟨rfl, Z', hC3, hK3, hn3⟩
  have HM3 := Lib.hid (HM2.out.kept hK3 hb hg)
  have HK3 := Lib.hid (HK2.out.trans hK3 (fun i _ e => .inl e))
  have HN3 := Lib.hid (show ∀ i, Z' i → Z i ∨ w.heap.size ≤ i from fun i hi => by rcases hn3 i hi with h | h; exact .inl h; exact .inr (Nat.le_trans HK2.out.size h))
  have HC3 := Lib.hid hC3
  clear hC3 hK3 hn3 HM2 HK2 HH2
  go_wp2
  go_ret
  exact ⟨rfl, HM3.out, Z', HC3.out, HK3.out, HN3.out⟩

set_option maxHeartbeats 2000000 in
theorem restart_any (T S N C R : Int) (F : Nat) (K fa fb fd : Int) (hl : Lim T S N C R (F : Int)) (hd : Reach3 fa fb fd) (q : Nat) (t : TypeId) (nid rd en lv : Nat) (v : Value) (hi : ByteArray) (la : Bool) (rt : Nat) (tl : List Value) (w : World) (h : Blk w q t (conv T S N C R F K fa fb fd nid rd en lv v hi la rt tl)) :
    Calls Try.prog 85 #[.pointer (some ⟨q, 0, none⟩)] w fun e w' => e = .returned (.tuple #[]) ∧ Blk w' q t (conv T S N C R F K fa fb fd nid 0 0 0 (.slice none 0 0) ⟨#[]⟩ false 0 tl) ∧ Kept (fun i => i = q) w w' := by
  have HB := Lib.hid h
  clear h
  go_enter Try.func85, Try.ntmps85
  go_wp2_with fail
  refine qtail 10 (fun w' => Kept (fun _ => False) w w' ∧ Blk w' q t (conv T S N C R F K fa fb fd nid rd en lv v hi la rt tl)) (by kernel_rfl) (by kernel_rfl) ⟨(Kept.refl _ _).drew, HB.out⟩ ?_
  simp only [List.take_succ_cons, List.take_zero, List.drop_succ_cons, List.drop_zero]
  refine qstep (o := ⟨some 2, _, _, _, _, _⟩) (v := ?_) (by rfl) (fun wq hSw => ?_) ?_
  rotate_left
  · (go_simp; try with_reducible rfl)
  try simp only [Act.put, List.setIfInBounds_toArray, List.set_cons_zero, List.set_cons_succ]
  refine qstep (o := ⟨some 3, _, _, _, _, _⟩) (v := ?_) (by rfl) (fun wq hSw => ?_) ?_
  rotate_left
  · (go_simp; try with_reducible rfl)
  try simp only [Act.put, List.setIfInBounds_toArray, List.set_cons_zero, List.set_cons_succ]
  refine qstep (o := ⟨some 4, _, _, _, _, _⟩) (v := ?_) (by rfl) (fun wq hSw => ?_) ?_
  rotate_left
  · (go_simp; try with_reducible rfl)
  try simp only [Act.put, List.setIfInBounds_toArray, List.set_cons_zero, List.set_cons_succ]
  refine qstep (o := ⟨some 5, _, _, _, _, _⟩) (v := ?_) (by rfl) (fun wq hSw => ?_) ?_
  rotate_left
  · (go_simp; try with_reducible rfl)
  try simp only [Act.put, List.setIfInBounds_toArray, List.set_cons_zero, List.set_cons_succ]
  refine qstep (o := ⟨some 6, _, _, _, _, _⟩) (v := ?_) (by rfl) (fun wq hSw => ?_) ?_
  rotate_left
  · (have hb9 := hSw.2; have x0 := hb9.cell (i := 0) rfl; have x1 := hb9.cell (i := 1) rfl; have x2 := hb9.cell (i := 2) rfl; have x3 := hb9.cell (i := 3) rfl; have x4 := hb9.cell (i := 4) rfl; have x5 := hb9.cell (i := 5) rfl; have x6 := hb9.cell (i := 6) rfl; have x7 := hb9.cell (i := 7) rfl; have x8 := hb9.cell (i := 8) rfl; have x9 := hb9.cell (i := 9) rfl; have x10 := hb9.cell (i := 10) rfl; clear hb9; go_simp; try with_reducible rfl)
  try simp only [Act.put, List.setIfInBounds_toArray, List.set_cons_zero, List.set_cons_succ]
  refine qstep (o := ⟨some 7, _, _, _, _, _⟩) (v := ?_) (by rfl) (fun wq hSw => ?_) ?_
  rotate_left
  · (go_simp; try with_reducible rfl)
  try simp only [Act.put, List.setIfInBounds_toArray, List.set_cons_zero, List.set_cons_succ]
  refine qstep (o := ⟨some 8, _, _, _, _, _⟩) (v := ?_) (by rfl) (fun wq hSw => ?_) ?_
  rotate_left
  · (go_simp; try with_reducible rfl)
  try simp only [Act.put, List.setIfInBounds_toArray, List.set_cons_zero, List.set_cons_succ]
  refine qstep (o := ⟨some 9, _, _, _, _, _⟩) (v := ?_) (by rfl) (fun wq hSw => ?_) ?_
  rotate_left
  · (go_simp; try with_reducible rfl)
  try simp only [Act.put, List.setIfInBounds_toArray, List.set_cons_zero, List.set_cons_succ]
  refine qstep (o := ⟨some 10, _, _, _, _, _⟩) (v := ?_) (by rfl) (fun wq hSw => ?_) ?_
  rotate_left
  · (have hb9 := hSw.2; have x0 := hb9.cell (i := 0) rfl; have x1 := hb9.cell (i := 1) rfl; have x2 := hb9.cell (i := 2) rfl; have x3 := hb9.cell (i := 3) rfl; have x4 := hb9.cell (i := 4) rfl; have x5 := hb9.cell (i := 5) rfl; have x6 := hb9.cell (i := 6) rfl; have x7 := hb9.cell (i := 7) rfl; have x8 := hb9.cell (i := 8) rfl; have x9 := hb9.cell (i := 9) rfl; have x10 := hb9.cell (i := 10) rfl; clear hb9; go_simp; try with_reducible rfl)
  try simp only [Act.put, List.setIfInBounds_toArray, List.set_cons_zero, List.set_cons_succ]
  refine qstep (o := ⟨some 11, _, _, _, _, _⟩) (v := ?_) (by rfl) (fun wq hSw => ?_) ?_
  rotate_left
  · (go_simp; try with_reducible rfl)
  try simp only [Act.put, List.setIfInBounds_toArray, List.set_cons_zero, List.set_cons_succ]
  refine wpQuiet_nil ?_
  intro wz hHeld
  obtain ⟨hK, hB⟩ := hHeld
  have x0 := hB.cell (i := 0) rfl
  have z0 := hB.frozen 0
  have x1 := hB.cell (i := 1) rfl
  have z1 := hB.frozen 1
  have x2 := hB.cell (i := 2) rfl
  have z2 := hB.frozen 2
  have x3 := hB.cell (i := 3) rfl
  have z3 := hB.frozen 3
  have x4 := hB.cell (i := 4) rfl
  have z4 := hB.frozen 4
  have x5 := hB.cell (i := 5) rfl
  have z5 := hB.frozen 5
  have x6 := hB.cell (i := 6) rfl
  have z6 := hB.frozen 6
  have x7 := hB.cell (i := 7) rfl
  have z7 := hB.frozen 7
  have x8 := hB.cell (i := 8) rfl
  have z8 := hB.frozen 8
  have x9 := hB.cell (i := 9) rfl
  have z9 := hB.frozen 9
  have x10 := hB.cell (i := 10) rfl
  have z10 := hB.frozen 10
  have x11 := hB.cell (i := 11) rfl
  have z11 := hB.frozen 11
  have x12 := hB.cell (i := 12) rfl
  have z12 := hB.frozen 12
  have x13 := hB.cell (i := 13) rfl
  have z13 := hB.frozen 13
  have x14 := hB.cell (i := 14) rfl
  have z14 := hB.frozen 14
  have x15 := hB.cell (i := 15) rfl
  have z15 := hB.frozen 15
  have x16 := hB.cell (i := 16) rfl
  have z16 := hB.frozen 16
  have x17 := hB.cell (i := 17) rfl
  have z17 := hB.frozen 17
  have HB5 := Lib.hid hB
  have HK5 := Lib.hid (hK.mono (T := fun i => i = q) (fun _ h => h.elim))
  clear hB hK HB
  go_wp2
  go_end0
  exact ⟨rfl, ((((((((((((((((((HB5.out.set 0 (.int .i64 T)).set 1 (.int .i64 S)).set 2 (.int .i64 N)).set 3 (.int .i64 C)).set 4 (.int .i64 R)).set 5 (.int .i64 (F : Int))).set 6 (.int .u64 K)).set 7 (.int .i64 fa)).set 8 (.int .i64 fb)).set 9 (.int .i64 fd)).set 10 (.int .u64 (nid : Int))).set 11 (.int .i64 0)).set 12 (.int .i64 0)).set 13 (.int .i64 0)).set 14 (.slice none 0 0)).set 15 (.string ⟨#[]⟩)).set 16 (.bool false)).set 17 (.int .u64 0)), ((((((((((((((((((HK5.out.setCell (a := ⟨q, 0, none⟩) (fun _ => rfl) (.int .i64 T)).setCell (a := ⟨q, 1, none⟩) (fun _ => rfl) (.int .i64 S)).setCell (a := ⟨q, 2, none⟩) (fun _ => rfl) (.int .i64 N)).setCell (a := ⟨q, 3, none⟩) (fun _ => rfl) (.int .i64 C)).setCell (a := ⟨q, 4, none⟩) (fun _ => rfl) (.int .i64 R)).setCell (a := ⟨q, 5, none⟩) (fun _ => rfl) (.int .i64 (F : Int))).setCell (a := ⟨q, 6, none⟩) (fun _ => rfl) (.int .u64 K)).setCell (a := ⟨q, 7, none⟩) (fun _ => rfl) (.int .i64 fa)).setCell (a := ⟨q, 8, none⟩) (fun _ => rfl) (.int .i64 fb)).setCell (a := ⟨q, 9, none⟩) (fun _ => rfl) (.int .i64 fd)).setCell (a := ⟨q, 10, none⟩) (fun _ => rfl) (.int .u64 (nid : Int))).setCell (a := ⟨q, 11, none⟩) (fun _ => rfl) (.int .i64 0)).setCell (a := ⟨q, 12, none⟩) (fun _ => rfl) (.int .i64 0)).setCell (a := ⟨q, 13, none⟩) (fun _ => rfl) (.int .i64 0)).setCell (a := ⟨q, 14, none⟩) (fun _ => rfl) (.slice none 0 0)).setCell (a := ⟨q, 15, none⟩) (fun _ => rfl) (.string ⟨#[]⟩)).setCell (a := ⟨q, 16, none⟩) (fun _ => rfl) (.bool false)).setCell (a := ⟨q, 17, none⟩) (fun _ => rfl) (.int .u64 0))⟩

end Go.Proofs.Ytboieccjikcdiaa
