/-
  The statement of layer 3 'Start returns a memory of which exactly the specified cells are not zero, without an access': it returns true for every configuration; nothing that was there is written. Condition: none.
-/
import Derived.Test.YtfbfhlolnooipaaLayLetters
import Derived.Test.YtfbfhlolnooipaaKeptRegion
import Derived.Deep.DeepCutAuto
namespace Go.Proofs.Ytfbfhlolnooipaa
open Go.RowKit Go.Deep
set_option linter.unusedVariables false

theorem cellAt_putAt (l : List Cel) (i j : Nat) (c : Cel) (hi : i < l.length) : cellAt (putAt l i c) j = if i = j then c else cellAt l j := by
  rw [putAt_in]
  unfold cellAt
  simp only [Int.natCast_nonneg, if_true, Int.toNat_natCast, List.getD_eq_getElem?_getD]
  by_cases h : i = j
  · subst h; rw [List.getElem?_set_self hi]; simp
  · rw [List.getElem?_set_ne h, if_neg h]
theorem start_at (n x k : Nat) (hx : x < n) (h4 : 4 < x) : cellAt (putAt (putAt (putAt (List.replicate n cel0) ((0 : Nat) : Int) (1, ⟨#[]⟩, 0)) ((4 : Nat) : Int) (1, ⟨#[]⟩, 0)) (x : Int) (0, ⟨#[]⟩, 1)) k =
    if x = k then (0, ⟨#[]⟩, 1) else if 4 = k then (1, ⟨#[]⟩, 0) else if 0 = k then (1, ⟨#[]⟩, 0) else (0, ⟨#[]⟩, 0) := by
  rw [cellAt_putAt _ x k _ (by rw [putAt_length, putAt_length, List.length_replicate]; exact hx), cellAt_putAt _ 4 k _ (by rw [putAt_length, List.length_replicate]; omega), cellAt_putAt _ 0 k _ (by rw [List.length_replicate]; omega), cellAt_zero]
def StartTo (T S N C R F K a b d : Int) (tot x : Nat) (w : World) (e : Ending) (w' : World) : Prop :=
  ∃ (mb mg : Nat) (l : List Cel), e = .returned (.tuple #[.agg #[.int .i64 T, .int .i64 S, .int .i64 N, .int .i64 C, .int .i64 R, .int .i64 F, .int .u64 K, .int .i64 a, .int .i64 b, .int .i64 d], .pointer (some ⟨mb, 0, none⟩), .int .i64 0]) ∧ Mem w' mb mg l 0 ∧ w.heap.size ≤ mb ∧ w.heap.size ≤ mg ∧ Kept (fun _ => False) w w' ∧ l.length = tot ∧
    (∀ k : Nat, cellAt l k = if x = k then (0, ⟨#[]⟩, 1) else if 4 = k then (1, ⟨#[]⟩, 0) else if 0 = k then (1, ⟨#[]⟩, 0) else (0, ⟨#[]⟩, 0))
theorem start_to (T S N C R F K a b d : Int) (tot x : Nat) (hl : Lim T S N C R F) (hk1 : 1 ≤ K) (hk2 : K ≤ 1099511627776) (ha : firstNode T S = a) (hb : firstChain T S N F = b) (hd : firstRecord T S N C F = d) (ht : allCells T S N C R F = (tot : Int)) (hx : nodeAt N F a 1 2 = (x : Int)) (h4 : 4 < x) (hxt : x < tot) (w : World) :
    Calls Try.prog 13 #[.agg #[.int .i64 T, .int .i64 S, .int .i64 N, .int .i64 C, .int .i64 R, .int .i64 F, .int .u64 K]] w (StartTo T S N C R F K a b d tot x w) := by
  subst ha hb hd
  refine (start_yes T S N C R F K hl hk1 hk2 w).mono fun e w' h => ?_
  obtain ⟨mb, mg, he, hm, h1, h2, hk⟩ := h
  refine ⟨mb, mg, _, he, hm, h1, h2, hk, ?_, fun k => ?_⟩
  · unfold startCells; rw [putAt_length, putAt_length, putAt_length, List.length_replicate, ht]; simp
  · unfold startCells; rw [ht, hx]; exact start_at tot x k hxt h4
theorem refCells_of (T S N C R F K  v : Int) (hl : Lim T S N C R F)  (hv : allCells T S N C R F = v) (w : World) :
    Calls Try.prog 16 #[.agg #[.int .i64 T, .int .i64 S, .int .i64 N, .int .i64 C, .int .i64 R, .int .i64 F, .int .u64 K]] w fun e w' => e = .returned (.int .i64 v) ∧ Kept (fun _ => False) w w' := by
  have := refCells_any T S N C R F K hl w; rwa [hv] at this
theorem refNode_of (T S N C R F K a n part v : Int) (hl : Lim T S N C R F) (ha : firstNode T S = a) (h3 : 0 ≤ part) (h4 : part < F + 4) (h0 : 0 ≤ n) (hv : nodeAt N F a n part = v) (w : World) :
    Calls Try.prog 28 #[.agg #[.int .i64 T, .int .i64 S, .int .i64 N, .int .i64 C, .int .i64 R, .int .i64 F, .int .u64 K], .int .u64 n, .int .i64 part] w fun e w' => e = .returned (.int .i64 v) ∧ Kept (fun _ => False) w w' := by
  have := refNode_any T S N C R F K n part hl h3 h4 h0 w; rwa [ha, hv] at this
theorem cells_to (b g : Nat) (l : List Cel) (k n : Nat) (w : World) (h : Mem w b g l k) (hn : l.length = n) :
    Calls Try.prog 40 #[.pointer (some ⟨b, 0, none⟩)] w fun e w' => e = .returned (.int .i64 (n : Int)) ∧ w = w' := by
  subst hn; exact cells_any b g l k w h
theorem keep3 {W w w' : World} {r : Nat} {a b c : Value} (hk : Kept (fun _ => False) w w') (hr : r < W.heap.size) (h : Kept (fun _ => False) W w ∧ w.cell? ⟨r, 0, none⟩ = some a ∧ w.cell? ⟨r, 1, none⟩ = some b ∧ w.cell? ⟨r, 2, none⟩ = some c) :
    Kept (fun _ => False) W w' ∧ w'.cell? ⟨r, 0, none⟩ = some a ∧ w'.cell? ⟨r, 1, none⟩ = some b ∧ w'.cell? ⟨r, 2, none⟩ = some c := by
  obtain ⟨hK, h0, h1, h2⟩ := h
  have hs : r < w.heap.size := Nat.lt_of_lt_of_le hr hK.size
  have e : ∀ i, w'.cell? ⟨r, i, none⟩ = w.cell? ⟨r, i, none⟩ := fun i => hk.cell (p := ⟨r, i, none⟩) hs id
  exact ⟨hK.trans hk (fun _ _ h => h), (e _).trans h0, (e _).trans h1, (e _).trans h2⟩
set_option maxRecDepth 100000 in
set_option maxHeartbeats 8000000 in
theorem lawStarts_all (T0 S0 N0 C0 R0 F0 K0 : Int) (h0 : 0 ≤ K0) (w : World) :
    Calls Try.prog 6 #[.agg #[.int .i64 T0, .int .i64 S0, .int .i64 N0, .int .i64 C0, .int .i64 R0, .int .i64 F0, .int .u64 K0]] w fun e w' => e = .returned (.bool true) ∧ Below w.heap.size w w' := by
  go_enter Try.func6, Try.ntmps6
  go_wp2_with fail
  have HK := Lib.hid ((Kept.refl (fun _ => False) w).alloc (.cells #[.int .i64 T0, .int .i64 S0, .int .i64 N0, .int .i64 C0, .int .i64 R0, .int .i64 F0, .int .u64 K0] 24))
  generalize w.alloc (.cells #[.int .i64 T0, .int .i64 S0, .int .i64 N0, .int .i64 C0, .int .i64 R0, .int .i64 F0, .int .u64 K0] 24) = W0 at *
  refine (small_of T0 S0 N0 C0 R0 F0 K0 h0 _).mono ?_; rintro e w1 ⟨T, S, N, C, R, F, K, rfl, hT, hk⟩
  replace HK : Hid (Kept (fun _ => False) w w1) := Lib.hid (HK.out.trans hk (fun _ _ h => h))
  clear hk
  have hl := hT.lim
  have hk1 := hT.k1
  have hk2 : K ≤ 1099511627776 := by have := hT.k2; omega
  obtain ⟨a, ha⟩ : ∃ x, firstNode T S = x := ⟨_, rfl⟩
  obtain ⟨b, hb⟩ : ∃ x, firstChain T S N F = x := ⟨_, rfl⟩
  obtain ⟨d, hd⟩ : ∃ x, firstRecord T S N C F = x := ⟨_, rfl⟩
  have hrc := hl.reach
  rw [ha, hb, hd] at hrc
  have HA := Lib.hid ha
  have HB := Lib.hid hb
  have HD := Lib.hid hd
  have HT := Lib.hid hT
  clear ha hb hd hT
  go_wp2_with fail
  have HC := Lib.hid (Blk.new w1 [.int .i64 T, .int .i64 S, .int .i64 N, .int .i64 C, .int .i64 R, .int .i64 F, .int .u64 K] 24)
  replace HK := Lib.hid (HK.out.alloc (.cells #[.int .i64 T, .int .i64 S, .int .i64 N, .int .i64 C, .int .i64 R, .int .i64 F, .int .u64 K] 24))
  generalize w1.alloc (.cells #[.int .i64 T, .int .i64 S, .int .i64 N, .int .i64 C, .int .i64 R, .int .i64 F, .int .u64 K] 24) = W1 at *
  generalize hss : w1.heap.size = r at *
  have HRR := Lib.hid hss
  clear hss
  obtain ⟨tot, htot⟩ : ∃ tot : Nat, allCells T S N C R F = (tot : Int) := ⟨(allCells T S N C R F).toNat, by have := (allCells_bd hl).1; omega⟩
  obtain ⟨x, hx⟩ : ∃ x : Nat, nodeAt N F a 1 2 = (x : Int) := ⟨(a + 2).toNat, by have := hrc.a1; unfold nodeAt; rw [if_pos ⟨by omega, hl.n1⟩]; simp; omega⟩
  have hxa : (x : Int) = a + 2 := by rw [← hx]; unfold nodeAt; rw [if_pos ⟨by omega, hl.n1⟩]; simp
  have htd : (tot : Int) = d + R * 3 := by rw [← htot]; unfold allCells; rw [HD.out]
  have h4 : 4 < x := by have := HA.out; have := hl.ts; unfold firstNode at *; omega
  have hxt : x < tot := by have := HA.out; have := HB.out; have := HD.out; have := hl.ts; have := hl.nf; have := hl.n1; have := hl.c1; have := hl.r1; unfold firstRecord firstChain firstNode at *; omega
  have htb : tot ≤ 1048576 := by have := (allCells_bd hl).2; omega
  have HTOT := Lib.hid htot
  have HX := Lib.hid hx
  clear htot hx hxa htd
  refine (start_to T S N C R F K a b d tot x hl hk1 hk2 HA.out HB.out HD.out HTOT.out HX.out h4 hxt _).mono ?_; rintro e w2 ⟨mb, mg, l, rfl, hm, hm1, hm2, hk, hlen, hat⟩
  replace HC := Lib.hid (hk.blk HC.out id)
  replace HK : Hid (Kept (fun _ => False) w w2) := Lib.hid (HK.out.trans hk (fun _ _ h => h))
  have HM := Lib.hid hm
  have HLEN := Lib.hid hlen
  have HAT := Lib.hid hat
  clear hk hm hlen hat hm1 hm2
  go_wp2_with fail
  replace HC := Lib.hid (HC.out.alloc (.cells #[.int .i64 T, .int .i64 S, .int .i64 N, .int .i64 C, .int .i64 R, .int .i64 F, .int .u64 K, .int .i64 a, .int .i64 b, .int .i64 d] 27))
  replace HM := Lib.hid (HM.out.alloc (.cells #[.int .i64 T, .int .i64 S, .int .i64 N, .int .i64 C, .int .i64 R, .int .i64 F, .int .u64 K, .int .i64 a, .int .i64 b, .int .i64 d] 27))
  have HL := Lib.hid (Blk.new w2 [.int .i64 T, .int .i64 S, .int .i64 N, .int .i64 C, .int .i64 R, .int .i64 F, .int .u64 K, .int .i64 a, .int .i64 b, .int .i64 d] 27)
  replace HK := Lib.hid (HK.out.alloc (.cells #[.int .i64 T, .int .i64 S, .int .i64 N, .int .i64 C, .int .i64 R, .int .i64 F, .int .u64 K, .int .i64 a, .int .i64 b, .int .i64 d] 27))
  generalize w2.alloc (.cells #[.int .i64 T, .int .i64 S, .int .i64 N, .int .i64 C, .int .i64 R, .int .i64 F, .int .u64 K, .int .i64 a, .int .i64 b, .int .i64 d] 27) = W at *
  generalize hss : w2.heap.size = s at *
  have HSS := Lib.hid hss
  clear hss
  have x0 := HL.out.cell (i := 0) rfl
  have x1 := HL.out.cell (i := 1) rfl
  have x2 := HL.out.cell (i := 2) rfl
  have x3 := HL.out.cell (i := 3) rfl
  have x4 := HL.out.cell (i := 4) rfl
  have x5 := HL.out.cell (i := 5) rfl
  have x6 := HL.out.cell (i := 6) rfl
  have x7 := HL.out.cell (i := 7) rfl
  have x8 := HL.out.cell (i := 8) rfl
  have x9 := HL.out.cell (i := 9) rfl
  have y0 := HC.out.cell (i := 0) rfl
  have y1 := HC.out.cell (i := 1) rfl
  have y2 := HC.out.cell (i := 2) rfl
  have y3 := HC.out.cell (i := 3) rfl
  have y4 := HC.out.cell (i := 4) rfl
  have y5 := HC.out.cell (i := 5) rfl
  have y6 := HC.out.cell (i := 6) rfl
  have hs := HL.out.lt
  have hr := HC.out.lt
  refine qregion (fun w' => Kept (fun _ => False) W w' ∧ w'.cell? ⟨s, 0, none⟩ = some (.int .i64 T) ∧ w'.cell? ⟨s, 1, none⟩ = some (.int .i64 S) ∧ w'.cell? ⟨s, 2, none⟩ = some (.int .i64 N) ∧ w'.cell? ⟨s, 3, none⟩ = some (.int .i64 C) ∧ w'.cell? ⟨s, 4, none⟩ = some (.int .i64 R) ∧ w'.cell? ⟨s, 5, none⟩ = some (.int .i64 F) ∧ w'.cell? ⟨s, 6, none⟩ = some (.int .u64 K) ∧ w'.cell? ⟨s, 7, none⟩ = some (.int .i64 a) ∧ w'.cell? ⟨s, 8, none⟩ = some (.int .i64 b) ∧ w'.cell? ⟨s, 9, none⟩ = some (.int .i64 d) ∧ w'.cell? ⟨r, 0, none⟩ = some (.int .i64 T) ∧ w'.cell? ⟨r, 1, none⟩ = some (.int .i64 S) ∧ w'.cell? ⟨r, 2, none⟩ = some (.int .i64 N) ∧ w'.cell? ⟨r, 3, none⟩ = some (.int .i64 C) ∧ w'.cell? ⟨r, 4, none⟩ = some (.int .i64 R) ∧ w'.cell? ⟨r, 5, none⟩ = some (.int .i64 F) ∧ w'.cell? ⟨r, 6, none⟩ = some (.int .u64 K)) (by kernel_rfl) (by kernel_rfl) ⟨(Kept.refl _ _).drew, x0, x1, x2, x3, x4, x5, x6, x7, x8, x9, y0, y1, y2, y3, y4, y5, y6⟩ ?_
  refine qcall (o := ⟨some 17, _, _, _, _, _⟩) (v := .bool true) (by rfl) (fun wq hSw => ?_) (fun wq hSw => Calls.mono (awake_any _) ?_) ?_
  · (try dsimp only at hSw); go_simp; try with_reducible rfl
  · rintro e w9 ⟨rfl, hk⟩; exact ⟨rfl, keep17 hk hs hr hSw⟩
  try simp only [Act.put, List.setIfInBounds_toArray, List.set_cons_zero, List.set_cons_succ]
  refine qstep (o := ⟨some 18, _, _, _, _, _⟩) (v := ?_) (by rfl) (fun wq hSw => ?_) ?_
  rotate_left
  · (try dsimp only at hSw); go_simp; try with_reducible rfl
  try simp only [Act.put, List.setIfInBounds_toArray, List.set_cons_zero, List.set_cons_succ]
  refine qstep (o := ⟨some 19, _, _, _, _, _⟩) (v := ?_) (by rfl) (fun wq hSw => ?_) ?_
  rotate_left
  · (try dsimp only at hSw); go_simp; try with_reducible rfl
  try simp only [Act.put, List.setIfInBounds_toArray, List.set_cons_zero, List.set_cons_succ]
  refine qstep (o := ⟨some 20, _, _, _, _, _⟩) (v := ?_) (by rfl) (fun wq hSw => ?_) ?_
  rotate_left
  · (try dsimp only at hSw); go_simp; try with_reducible rfl
  try simp only [Act.put, List.setIfInBounds_toArray, List.set_cons_zero, List.set_cons_succ]
  refine qstep (o := ⟨some 21, _, _, _, _, _⟩) (v := ?_) (by rfl) (fun wq hSw => ?_) ?_
  rotate_left
  · (try dsimp only at hSw); go_simp; try with_reducible rfl
  try simp only [Act.put, List.setIfInBounds_toArray, List.set_cons_zero, List.set_cons_succ]
  refine qstep (o := ⟨some 22, _, _, _, _, _⟩) (v := ?_) (by rfl) (fun wq hSw => ?_) ?_
  rotate_left
  · (try dsimp only at hSw); go_simp; try with_reducible rfl
  try simp only [Act.put, List.setIfInBounds_toArray, List.set_cons_zero, List.set_cons_succ]
  refine qstep (o := ⟨some 23, _, _, _, _, _⟩) (v := ?_) (by rfl) (fun wq hSw => ?_) ?_
  rotate_left
  · (try dsimp only at hSw); go_simp; try with_reducible rfl
  try simp only [Act.put, List.setIfInBounds_toArray, List.set_cons_zero, List.set_cons_succ]
  refine qstep (o := ⟨some 24, _, _, _, _, _⟩) (v := ?_) (by rfl) (fun wq hSw => ?_) ?_
  rotate_left
  · (try dsimp only at hSw); go_simp; try with_reducible rfl
  try simp only [Act.put, List.setIfInBounds_toArray, List.set_cons_zero, List.set_cons_succ]
  refine qstep (o := ⟨some 25, _, _, _, _, _⟩) (v := ?_) (by rfl) (fun wq hSw => ?_) ?_
  rotate_left
  · (try dsimp only at hSw); go_simp; try with_reducible rfl
  try simp only [Act.put, List.setIfInBounds_toArray, List.set_cons_zero, List.set_cons_succ]
  refine qstep (o := ⟨some 26, _, _, _, _, _⟩) (v := ?_) (by rfl) (fun wq hSw => ?_) ?_
  rotate_left
  · (try dsimp only at hSw); go_simp; try with_reducible rfl
  try simp only [Act.put, List.setIfInBounds_toArray, List.set_cons_zero, List.set_cons_succ]
  refine qstep (o := ⟨some 27, _, _, _, _, _⟩) (v := ?_) (by rfl) (fun wq hSw => ?_) ?_
  rotate_left
  · (try dsimp only at hSw); go_simp; try with_reducible rfl
  try simp only [Act.put, List.setIfInBounds_toArray, List.set_cons_zero, List.set_cons_succ]
  refine qstep (o := ⟨some 28, _, _, _, _, _⟩) (v := ?_) (by rfl) (fun wq hSw => ?_) ?_
  rotate_left
  · (try dsimp only at hSw); go_simp; try with_reducible rfl
  try simp only [Act.put, List.setIfInBounds_toArray, List.set_cons_zero, List.set_cons_succ]
  refine qcall (o := ⟨some 29, _, _, _, _, _⟩) (v := .agg #[.int .i64 T, .int .i64 S, .int .i64 N, .int .i64 C, .int .i64 R, .int .i64 F, .int .u64 K]) (by rfl) (fun wq hSw => ?_) (fun wq hSw => Calls.mono (config_any T S N C R F K a b d _) ?_) ?_
  · (try dsimp only at hSw); go_simp; try with_reducible rfl
  · rintro e w9 ⟨rfl, hk⟩; exact ⟨rfl, keep17 hk hs hr hSw⟩
  try simp only [Act.put, List.setIfInBounds_toArray, List.set_cons_zero, List.set_cons_succ]
  refine qstep (o := ⟨some 30, _, _, _, _, _⟩) (v := ?_) (by rfl) (fun wq hSw => ?_) ?_
  rotate_left
  · (try dsimp only at hSw); go_simp; try with_reducible rfl
  try simp only [Act.put, List.setIfInBounds_toArray, List.set_cons_zero, List.set_cons_succ]
  refine qstep (o := ⟨some 31, _, _, _, _, _⟩) (v := ?_) (by rfl) (fun wq hSw => ?_) ?_
  rotate_left
  · (try dsimp only at hSw); go_simp; try with_reducible rfl
  try simp only [Act.put, List.setIfInBounds_toArray, List.set_cons_zero, List.set_cons_succ]
  refine qstep (o := ⟨some 32, _, _, _, _, _⟩) (v := ?_) (by rfl) (fun wq hSw => ?_) ?_
  rotate_left
  · (try dsimp only at hSw); go_simp; try with_reducible rfl
  try simp only [Act.put, List.setIfInBounds_toArray, List.set_cons_zero, List.set_cons_succ]
  refine qstep (o := ⟨some 33, _, _, _, _, _⟩) (v := ?_) (by rfl) (fun wq hSw => ?_) ?_
  rotate_left
  · (try dsimp only at hSw); go_simp; try with_reducible rfl
  try simp only [Act.put, List.setIfInBounds_toArray, List.set_cons_zero, List.set_cons_succ]
  refine qstep (o := ⟨some 34, _, _, _, _, _⟩) (v := ?_) (by rfl) (fun wq hSw => ?_) ?_
  rotate_left
  · (try dsimp only at hSw); go_simp; try with_reducible rfl
  try simp only [Act.put, List.setIfInBounds_toArray, List.set_cons_zero, List.set_cons_succ]
  refine qcall (o := ⟨some 35, _, _, _, _, _⟩) (v := .int .i64 (tot : Int)) (by rfl) (fun wq hSw => ?_) (fun wq hSw => Calls.mono (cells_to mb mg l 0 tot _ (HM.out.kept hSw.1 id id) HLEN.out) ?_) ?_
  · (try dsimp only at hSw); go_simp; try with_reducible rfl
  · rintro e w9 ⟨rfl, rfl⟩; exact ⟨rfl, hSw⟩
  try simp only [Act.put, List.setIfInBounds_toArray, List.set_cons_zero, List.set_cons_succ]
  refine qstep (o := ⟨some 36, _, _, _, _, _⟩) (v := ?_) (by rfl) (fun wq hSw => ?_) ?_
  rotate_left
  · (try dsimp only at hSw); go_simp; try with_reducible rfl
  try simp only [Act.put, List.setIfInBounds_toArray, List.set_cons_zero, List.set_cons_succ]
  refine qcall (o := ⟨some 37, _, _, _, _, _⟩) (v := .int .i64 (tot : Int)) (by rfl) (fun wq hSw => ?_) (fun wq hSw => Calls.mono (refCells_of T S N C R F K (tot : Int) hl HTOT.out _) ?_) ?_
  · (try dsimp only at hSw); go_simp; try with_reducible rfl
  · rintro e w9 ⟨rfl, hk⟩; exact ⟨rfl, keep17 hk hs hr hSw⟩
  try simp only [Act.put, List.setIfInBounds_toArray, List.set_cons_zero, List.set_cons_succ]
  refine qstep (o := ⟨some 38, _, _, _, _, _⟩) (v := ?_) (by rfl) (fun wq hSw => ?_) ?_
  rotate_left
  · (try dsimp only at hSw); go_simp; try with_reducible rfl
  try simp only [Act.put, List.setIfInBounds_toArray, List.set_cons_zero, List.set_cons_succ]
  refine qstep (o := ⟨some 39, _, _, _, _, _⟩) (v := ?_) (by rfl) (fun wq hSw => ?_) ?_
  rotate_left
  · (try dsimp only at hSw); go_simp; try with_reducible rfl
  try simp only [Act.put, List.setIfInBounds_toArray, List.set_cons_zero, List.set_cons_succ]
  refine qstep (o := ⟨some 40, _, _, _, _, _⟩) (v := ?_) (by rfl) (fun wq hSw => ?_) ?_
  rotate_left
  · (try dsimp only at hSw); go_simp; try with_reducible rfl
  try simp only [Act.put, List.setIfInBounds_toArray, List.set_cons_zero, List.set_cons_succ]
  refine qstep (o := ⟨some 41, _, _, _, _, _⟩) (v := ?_) (by rfl) (fun wq hSw => ?_) ?_
  rotate_left
  · (try dsimp only at hSw); go_simp; try with_reducible rfl
  try simp only [Act.put, List.setIfInBounds_toArray, List.set_cons_zero, List.set_cons_succ]
  refine qcall (o := ⟨some 42, _, _, _, _, _⟩) (v := .int .u64 0) (by rfl) (fun wq hSw => ?_) (fun wq hSw => Calls.mono (accesses_any mb mg l 0 _ (HM.out.kept hSw.1 id id)) ?_) ?_
  · (try dsimp only at hSw); go_simp; try with_reducible rfl
  · rintro e w9 ⟨rfl, rfl⟩; exact ⟨rfl, hSw⟩
  try simp only [Act.put, List.setIfInBounds_toArray, List.set_cons_zero, List.set_cons_succ]
  refine qstep (o := ⟨some 43, _, _, _, _, _⟩) (v := ?_) (by rfl) (fun wq hSw => ?_) ?_
  rotate_left
  · (try dsimp only at hSw); go_simp; try with_reducible rfl
  try simp only [Act.put, List.setIfInBounds_toArray, List.set_cons_zero, List.set_cons_succ]
  refine qstep (o := ⟨some 44, _, _, _, _, _⟩) (v := ?_) (by rfl) (fun wq hSw => ?_) ?_
  rotate_left
  · (try dsimp only at hSw); go_simp; try with_reducible rfl
  try simp only [Act.put, List.setIfInBounds_toArray, List.set_cons_zero, List.set_cons_succ]
  refine wpQuiet_nil ?_
  intro wz hHeld
  clear x0 x1 x2 x3 x4 x5 x6 x7 x8 x9
  clear y0 y1 y2 y3 y4 y5 y6
  have hk := hHeld.1
  replace HL := Lib.hid (hk.blk HL.out id)
  replace HC := Lib.hid (hk.blk HC.out id)
  replace HK : Hid (Kept (fun _ => False) w wz) := Lib.hid (HK.out.trans hk (fun _ _ h => h))
  replace HM := Lib.hid (HM.out.kept hk id id)
  clear hk hHeld hs hr
  go_wp2_with fail
  go_loopw [7] (fun sk wr => ∃ k : Nat, k ≤ tot ∧ sk = .int .i64 k ∧ Mem wr mb mg l 0 ∧ Blk wr r 24 [.int .i64 T, .int .i64 S, .int .i64 N, .int .i64 C, .int .i64 R, .int .i64 F, .int .u64 K] ∧ Kept (fun _ => False) w wr) (fun sk _ => tot - (intOf sk).toNat)
  case atStart => exact ⟨0, by omega, rfl, HM.out, HC.out, HK.out⟩
  case round =>
    clear HM HC HK HL
    obtain ⟨k, hk, rfl, hM, hC, hK⟩ := hrel
    rename World => wr
    have HM := Lib.hid hM
    have HC := Lib.hid hC
    have HK := Lib.hid hK
    clear hM hC hK
    have hf1 := HT.out.f1
    by_cases hlt : k < tot
    rotate_left
    · obtain rfl : k = tot := by omega
      go_wp2_with (go_at_call 40; refine (cells_to mb mg l 0 k _ HM.out HLEN.out).mono ?_; rintro e w6 ⟨rfl, rfl⟩)
      go_ret
      exact ⟨rfl, HK.out.below (Nat.le_refl _) (fun _ h => h.elim)⟩
    by_cases c0 : k = 0
    · skip
      have HP : Hid (cellAt l k = (1, ⟨#[]⟩, 0)) := Lib.hid (by rw [HAT.out k]; rw [if_neg (by omega), if_neg (by omega), if_pos (by omega)])
      have g0 : ((k : Int) == 0) = true := by simp [c0]
      clear c0
      go_wp2_with fail
      refine (cells_to mb mg l 0 tot _ HM.out HLEN.out).mono ?_; rintro e w6 ⟨rfl, rfl⟩
      go_wp2_with fail
      have HW := Lib.hid (Blk.new wr [.int .u64 1, .string ⟨#[]⟩, .int .u64 0] 50)
      replace HM := Lib.hid (HM.out.alloc (.cells #[.int .u64 1, .string ⟨#[]⟩, .int .u64 0] 50))
      replace HC := Lib.hid (HC.out.alloc (.cells #[.int .u64 1, .string ⟨#[]⟩, .int .u64 0] 50))
      replace HK := Lib.hid (HK.out.alloc (.cells #[.int .u64 1, .string ⟨#[]⟩, .int .u64 0] 50))
      generalize wr.alloc (.cells #[.int .u64 1, .string ⟨#[]⟩, .int .u64 0] 50) = W4 at *
      generalize wr.heap.size = q at *
      have cw0 := HW.out.cell (i := 0) rfl
      have cw1 := HW.out.cell (i := 1) rfl
      have cw2 := HW.out.cell (i := 2) rfl
      have hq := HW.out.lt
      refine qregion (fun w' => Kept (fun _ => False) W4 w' ∧ w'.cell? ⟨q, 0, none⟩ = some (.int .u64 1) ∧ w'.cell? ⟨q, 1, none⟩ = some (.string ⟨#[]⟩) ∧ w'.cell? ⟨q, 2, none⟩ = some (.int .u64 0)) (by kernel_rfl) (by kernel_rfl) ⟨(Kept.refl _ _).drew, cw0, cw1, cw2⟩ ?_
      refine qstep (o := ⟨some 62, _, _, _, _, _⟩) (v := ?_) (by rfl) (fun wq hSw => ?_) ?_
      rotate_left
      · (try dsimp only at hSw); go_simp; try with_reducible rfl
      try simp only [Act.put, List.setIfInBounds_toArray, List.set_cons_zero, List.set_cons_succ]
      refine qstep (o := ⟨some 63, _, _, _, _, _⟩) (v := ?_) (by rfl) (fun wq hSw => ?_) ?_
      rotate_left
      · (try dsimp only at hSw); go_simp; try with_reducible rfl
      try simp only [Act.put, List.setIfInBounds_toArray, List.set_cons_zero, List.set_cons_succ]
      refine qcall (o := ⟨some 64, _, _, _, _, _⟩) (v := .agg #[.int .u64 1, .string ⟨#[]⟩, .int .u64 0]) (by rfl) (fun wq hSw => ?_) (fun wq hSw => Calls.mono (peek_any mb mg l 0 k 1 0 ⟨#[]⟩ _ (HM.out.kept hSw.1 id id) HP.out) ?_) ?_
      · (try dsimp only at hSw); go_simp; try with_reducible rfl
      · rintro e w9 ⟨rfl, hk⟩; exact ⟨rfl, keep3 hk hq hSw⟩
      try simp only [Act.put, List.setIfInBounds_toArray, List.set_cons_zero, List.set_cons_succ]
      refine qstep (o := ⟨some 65, _, _, _, _, _⟩) (v := ?_) (by rfl) (fun wq hSw => ?_) ?_
      rotate_left
      · (try dsimp only at hSw); go_simp; try with_reducible rfl
      try simp only [Act.put, List.setIfInBounds_toArray, List.set_cons_zero, List.set_cons_succ]
      refine qstep (o := ⟨some 66, _, _, _, _, _⟩) (v := ?_) (by rfl) (fun wq hSw => ?_) ?_
      rotate_left
      · (try dsimp only at hSw); go_simp; try with_reducible rfl
      try simp only [Act.put, List.setIfInBounds_toArray, List.set_cons_zero, List.set_cons_succ]
      refine wpQuiet_nil ?_
      intro wz hHeld
      have hk := hHeld.1
      replace HM := Lib.hid (HM.out.kept hk id id)
      replace HC := Lib.hid (HC.out.of (hk.block _ HC.out.lt id))
      replace HK : Hid (Kept (fun _ => False) w wz) := Lib.hid (HK.out.trans hk (fun _ _ h => h))
      clear hk hHeld cw0 cw1 cw2 hq HW
      go_wp2
      go_roundw
      case rel => exact ⟨k + 1, by omega, by go_num, HM.out, HC.out, HK.out⟩
      case measure => simp [intOf]; omega
    by_cases c4 : k = 4
    · skip
      have HP : Hid (cellAt l k = (1, ⟨#[]⟩, 0)) := Lib.hid (by rw [HAT.out k]; rw [if_neg (by omega), if_pos (by omega)])
      have g0 : ((k : Int) == 0) = false := by rw [beq_eq_false_iff_ne]; omega
      have g1 : ((k : Int) == 4) = true := by simp [c4]
      clear c0 c4
      go_wp2_with fail
      refine (cells_to mb mg l 0 tot _ HM.out HLEN.out).mono ?_; rintro e w6 ⟨rfl, rfl⟩
      go_wp2_with fail
      have HW := Lib.hid (Blk.new wr [.int .u64 1, .string ⟨#[]⟩, .int .u64 0] 50)
      replace HM := Lib.hid (HM.out.alloc (.cells #[.int .u64 1, .string ⟨#[]⟩, .int .u64 0] 50))
      replace HC := Lib.hid (HC.out.alloc (.cells #[.int .u64 1, .string ⟨#[]⟩, .int .u64 0] 50))
      replace HK := Lib.hid (HK.out.alloc (.cells #[.int .u64 1, .string ⟨#[]⟩, .int .u64 0] 50))
      generalize wr.alloc (.cells #[.int .u64 1, .string ⟨#[]⟩, .int .u64 0] 50) = W4 at *
      generalize wr.heap.size = q at *
      have cw0 := HW.out.cell (i := 0) rfl
      have cw1 := HW.out.cell (i := 1) rfl
      have cw2 := HW.out.cell (i := 2) rfl
      have hq := HW.out.lt
      refine qregion (fun w' => Kept (fun _ => False) W4 w' ∧ w'.cell? ⟨q, 0, none⟩ = some (.int .u64 1) ∧ w'.cell? ⟨q, 1, none⟩ = some (.string ⟨#[]⟩) ∧ w'.cell? ⟨q, 2, none⟩ = some (.int .u64 0)) (by kernel_rfl) (by kernel_rfl) ⟨(Kept.refl _ _).drew, cw0, cw1, cw2⟩ ?_
      refine qstep (o := ⟨some 62, _, _, _, _, _⟩) (v := ?_) (by rfl) (fun wq hSw => ?_) ?_
      rotate_left
      · (try dsimp only at hSw); go_simp; try with_reducible rfl
      try simp only [Act.put, List.setIfInBounds_toArray, List.set_cons_zero, List.set_cons_succ]
      refine qstep (o := ⟨some 63, _, _, _, _, _⟩) (v := ?_) (by rfl) (fun wq hSw => ?_) ?_
      rotate_left
      · (try dsimp only at hSw); go_simp; try with_reducible rfl
      try simp only [Act.put, List.setIfInBounds_toArray, List.set_cons_zero, List.set_cons_succ]
      refine qcall (o := ⟨some 64, _, _, _, _, _⟩) (v := .agg #[.int .u64 1, .string ⟨#[]⟩, .int .u64 0]) (by rfl) (fun wq hSw => ?_) (fun wq hSw => Calls.mono (peek_any mb mg l 0 k 1 0 ⟨#[]⟩ _ (HM.out.kept hSw.1 id id) HP.out) ?_) ?_
      · (try dsimp only at hSw); go_simp; try with_reducible rfl
      · rintro e w9 ⟨rfl, hk⟩; exact ⟨rfl, keep3 hk hq hSw⟩
      try simp only [Act.put, List.setIfInBounds_toArray, List.set_cons_zero, List.set_cons_succ]
      refine qstep (o := ⟨some 65, _, _, _, _, _⟩) (v := ?_) (by rfl) (fun wq hSw => ?_) ?_
      rotate_left
      · (try dsimp only at hSw); go_simp; try with_reducible rfl
      try simp only [Act.put, List.setIfInBounds_toArray, List.set_cons_zero, List.set_cons_succ]
      refine qstep (o := ⟨some 66, _, _, _, _, _⟩) (v := ?_) (by rfl) (fun wq hSw => ?_) ?_
      rotate_left
      · (try dsimp only at hSw); go_simp; try with_reducible rfl
      try simp only [Act.put, List.setIfInBounds_toArray, List.set_cons_zero, List.set_cons_succ]
      refine wpQuiet_nil ?_
      intro wz hHeld
      have hk := hHeld.1
      replace HM := Lib.hid (HM.out.kept hk id id)
      replace HC := Lib.hid (HC.out.of (hk.block _ HC.out.lt id))
      replace HK : Hid (Kept (fun _ => False) w wz) := Lib.hid (HK.out.trans hk (fun _ _ h => h))
      clear hk hHeld cw0 cw1 cw2 hq HW
      go_wp2
      go_roundw
      case rel => exact ⟨k + 1, by omega, by go_num, HM.out, HC.out, HK.out⟩
      case measure => simp [intOf]; omega
    by_cases cx : k = x
    · skip
      have HP : Hid (cellAt l k = (0, ⟨#[]⟩, 1)) := Lib.hid (by rw [HAT.out k]; rw [if_pos (by omega)])
      have g0 : ((k : Int) == 0) = false := by rw [beq_eq_false_iff_ne]; omega
      have g1 : ((k : Int) == 4) = false := by rw [beq_eq_false_iff_ne]; omega
      have g2 : ((k : Int) == (x : Int)) = true := by simp [cx]
      clear c0 c4 cx
      have hcm := HM.out.obj.lt
      have hcg := HM.out.row.lt
      have hcr := HC.out.lt
      have hck := HK.out.size
      have HNB : Hid (mb < wr.heap.size ∧ mg < wr.heap.size ∧ r < wr.heap.size ∧ w.heap.size ≤ wr.heap.size) := Lib.hid ⟨hcm, hcg, hcr, hck⟩
      clear hcm hcg hcr hck
      have y0 := HC.out.cell (i := 0) rfl
      have y1 := HC.out.cell (i := 1) rfl
      have y2 := HC.out.cell (i := 2) rfl
      have y3 := HC.out.cell (i := 3) rfl
      have y4 := HC.out.cell (i := 4) rfl
      have y5 := HC.out.cell (i := 5) rfl
      have y6 := HC.out.cell (i := 6) rfl
      have hr := HC.out.lt
      go_wp2_with fail
      refine (cells_to mb mg l 0 tot _ HM.out HLEN.out).mono ?_; rintro e w6 ⟨rfl, rfl⟩
      go_wp2_with fail
      clear y0 y1 y2 y3 y4 y5 y6
      clear hr
      have HW := Lib.hid (Blk.new wr [.int .u64 0, .string ⟨#[]⟩, .int .u64 0] 50)
      replace HM := Lib.hid (HM.out.alloc (.cells #[.int .u64 0, .string ⟨#[]⟩, .int .u64 0] 50))
      replace HC := Lib.hid (HC.out.alloc (.cells #[.int .u64 0, .string ⟨#[]⟩, .int .u64 0] 50))
      replace HK := Lib.hid (HK.out.alloc (.cells #[.int .u64 0, .string ⟨#[]⟩, .int .u64 0] 50))
      generalize wr.alloc (.cells #[.int .u64 0, .string ⟨#[]⟩, .int .u64 0] 50) = W4 at *
      generalize wr.heap.size = q at *
      refine (refNode_of T S N C R F K a 1 2 (x : Int) hl HA.out (by omega) (by omega) (by omega) HX.out _).mono ?_; rintro e w7 ⟨rfl, hk⟩
      replace HM := Lib.hid (HM.out.kept hk id id)
      replace HC := Lib.hid (HC.out.of (hk.block _ HC.out.lt id))
      replace HW := Lib.hid (hk.blk HW.out id)
      replace HK : Hid (Kept (fun _ => False) w w7) := Lib.hid (HK.out.trans hk (fun _ _ h => h))
      clear hk
      have hnb := HNB.out
      have cz2 := HW.out.cell (i := 2) rfl
      have czf := HW.out.frozen 2
      go_wp2_with fail
      clear cz2 czf
      replace HW := Lib.hid (HW.out.set 2 (.int .u64 1))
      replace HM := Lib.hid (HM.out.farq (q := q) (by unfold Own; omega) 2 (.int .u64 1))
      replace HC := Lib.hid (HC.out.other (a := ⟨q, 2, none⟩) (by simp; omega) (.int .u64 1))
      replace HK := Lib.hid (HK.out.setNew (b := q) (by omega) 2 (.int .u64 1))
      clear hnb
      generalize w7.setCell ⟨q, 2, none⟩ (.int .u64 1) = W5 at *
      have cw0 := HW.out.cell (i := 0) rfl
      have cw1 := HW.out.cell (i := 1) rfl
      have cw2 := HW.out.cell (i := 2) rfl
      have hq := HW.out.lt
      refine qregion (fun w' => Kept (fun _ => False) W5 w' ∧ w'.cell? ⟨q, 0, none⟩ = some (.int .u64 0) ∧ w'.cell? ⟨q, 1, none⟩ = some (.string ⟨#[]⟩) ∧ w'.cell? ⟨q, 2, none⟩ = some (.int .u64 1)) (by kernel_rfl) (by kernel_rfl) ⟨(Kept.refl _ _).drew, cw0, cw1, cw2⟩ ?_
      refine qstep (o := ⟨some 62, _, _, _, _, _⟩) (v := ?_) (by rfl) (fun wq hSw => ?_) ?_
      rotate_left
      · (try dsimp only at hSw); go_simp; try with_reducible rfl
      try simp only [Act.put, List.setIfInBounds_toArray, List.set_cons_zero, List.set_cons_succ]
      refine qstep (o := ⟨some 63, _, _, _, _, _⟩) (v := ?_) (by rfl) (fun wq hSw => ?_) ?_
      rotate_left
      · (try dsimp only at hSw); go_simp; try with_reducible rfl
      try simp only [Act.put, List.setIfInBounds_toArray, List.set_cons_zero, List.set_cons_succ]
      refine qcall (o := ⟨some 64, _, _, _, _, _⟩) (v := .agg #[.int .u64 0, .string ⟨#[]⟩, .int .u64 1]) (by rfl) (fun wq hSw => ?_) (fun wq hSw => Calls.mono (peek_any mb mg l 0 k 0 1 ⟨#[]⟩ _ (HM.out.kept hSw.1 id id) HP.out) ?_) ?_
      · (try dsimp only at hSw); go_simp; try with_reducible rfl
      · rintro e w9 ⟨rfl, hk⟩; exact ⟨rfl, keep3 hk hq hSw⟩
      try simp only [Act.put, List.setIfInBounds_toArray, List.set_cons_zero, List.set_cons_succ]
      refine qstep (o := ⟨some 65, _, _, _, _, _⟩) (v := ?_) (by rfl) (fun wq hSw => ?_) ?_
      rotate_left
      · (try dsimp only at hSw); go_simp; try with_reducible rfl
      try simp only [Act.put, List.setIfInBounds_toArray, List.set_cons_zero, List.set_cons_succ]
      refine qstep (o := ⟨some 66, _, _, _, _, _⟩) (v := ?_) (by rfl) (fun wq hSw => ?_) ?_
      rotate_left
      · (try dsimp only at hSw); go_simp; try with_reducible rfl
      try simp only [Act.put, List.setIfInBounds_toArray, List.set_cons_zero, List.set_cons_succ]
      refine wpQuiet_nil ?_
      intro wz hHeld
      have hk := hHeld.1
      replace HM := Lib.hid (HM.out.kept hk id id)
      replace HC := Lib.hid (HC.out.of (hk.block _ HC.out.lt id))
      replace HK : Hid (Kept (fun _ => False) w wz) := Lib.hid (HK.out.trans hk (fun _ _ h => h))
      clear hk hHeld cw0 cw1 cw2 hq HW
      go_wp2
      go_roundw
      case rel => exact ⟨k + 1, by omega, by go_num, HM.out, HC.out, HK.out⟩
      case measure => simp [intOf]; omega
    · skip
      have HP : Hid (cellAt l k = (0, ⟨#[]⟩, 0)) := Lib.hid (by rw [HAT.out k]; rw [if_neg (by omega), if_neg (by omega), if_neg (by omega)])
      have g0 : ((k : Int) == 0) = false := by rw [beq_eq_false_iff_ne]; omega
      have g1 : ((k : Int) == 4) = false := by rw [beq_eq_false_iff_ne]; omega
      have g2 : ((k : Int) == (x : Int)) = false := by rw [beq_eq_false_iff_ne]; omega
      clear c0 c4 cx
      have y0 := HC.out.cell (i := 0) rfl
      have y1 := HC.out.cell (i := 1) rfl
      have y2 := HC.out.cell (i := 2) rfl
      have y3 := HC.out.cell (i := 3) rfl
      have y4 := HC.out.cell (i := 4) rfl
      have y5 := HC.out.cell (i := 5) rfl
      have y6 := HC.out.cell (i := 6) rfl
      have hr := HC.out.lt
      go_wp2_with fail
      refine (cells_to mb mg l 0 tot _ HM.out HLEN.out).mono ?_; rintro e w6 ⟨rfl, rfl⟩
      go_wp2_with fail
      clear y0 y1 y2 y3 y4 y5 y6
      clear hr
      have HW := Lib.hid (Blk.new wr [.int .u64 0, .string ⟨#[]⟩, .int .u64 0] 50)
      replace HM := Lib.hid (HM.out.alloc (.cells #[.int .u64 0, .string ⟨#[]⟩, .int .u64 0] 50))
      replace HC := Lib.hid (HC.out.alloc (.cells #[.int .u64 0, .string ⟨#[]⟩, .int .u64 0] 50))
      replace HK := Lib.hid (HK.out.alloc (.cells #[.int .u64 0, .string ⟨#[]⟩, .int .u64 0] 50))
      generalize wr.alloc (.cells #[.int .u64 0, .string ⟨#[]⟩, .int .u64 0] 50) = W4 at *
      generalize wr.heap.size = q at *
      refine (refNode_of T S N C R F K a 1 2 (x : Int) hl HA.out (by omega) (by omega) (by omega) HX.out _).mono ?_; rintro e w7 ⟨rfl, hk⟩
      replace HM := Lib.hid (HM.out.kept hk id id)
      replace HC := Lib.hid (HC.out.of (hk.block _ HC.out.lt id))
      replace HW := Lib.hid (hk.blk HW.out id)
      replace HK : Hid (Kept (fun _ => False) w w7) := Lib.hid (HK.out.trans hk (fun _ _ h => h))
      clear hk
      go_wp2_with fail
      have cw0 := HW.out.cell (i := 0) rfl
      have cw1 := HW.out.cell (i := 1) rfl
      have cw2 := HW.out.cell (i := 2) rfl
      have hq := HW.out.lt
      refine qregion (fun w' => Kept (fun _ => False) w7 w' ∧ w'.cell? ⟨q, 0, none⟩ = some (.int .u64 0) ∧ w'.cell? ⟨q, 1, none⟩ = some (.string ⟨#[]⟩) ∧ w'.cell? ⟨q, 2, none⟩ = some (.int .u64 0)) (by kernel_rfl) (by kernel_rfl) ⟨(Kept.refl _ _).drew, cw0, cw1, cw2⟩ ?_
      refine qstep (o := ⟨some 62, _, _, _, _, _⟩) (v := ?_) (by rfl) (fun wq hSw => ?_) ?_
      rotate_left
      · (try dsimp only at hSw); go_simp; try with_reducible rfl
      try simp only [Act.put, List.setIfInBounds_toArray, List.set_cons_zero, List.set_cons_succ]
      refine qstep (o := ⟨some 63, _, _, _, _, _⟩) (v := ?_) (by rfl) (fun wq hSw => ?_) ?_
      rotate_left
      · (try dsimp only at hSw); go_simp; try with_reducible rfl
      try simp only [Act.put, List.setIfInBounds_toArray, List.set_cons_zero, List.set_cons_succ]
      refine qcall (o := ⟨some 64, _, _, _, _, _⟩) (v := .agg #[.int .u64 0, .string ⟨#[]⟩, .int .u64 0]) (by rfl) (fun wq hSw => ?_) (fun wq hSw => Calls.mono (peek_any mb mg l 0 k 0 0 ⟨#[]⟩ _ (HM.out.kept hSw.1 id id) HP.out) ?_) ?_
      · (try dsimp only at hSw); go_simp; try with_reducible rfl
      · rintro e w9 ⟨rfl, hk⟩; exact ⟨rfl, keep3 hk hq hSw⟩
      try simp only [Act.put, List.setIfInBounds_toArray, List.set_cons_zero, List.set_cons_succ]
      refine qstep (o := ⟨some 65, _, _, _, _, _⟩) (v := ?_) (by rfl) (fun wq hSw => ?_) ?_
      rotate_left
      · (try dsimp only at hSw); go_simp; try with_reducible rfl
      try simp only [Act.put, List.setIfInBounds_toArray, List.set_cons_zero, List.set_cons_succ]
      refine qstep (o := ⟨some 66, _, _, _, _, _⟩) (v := ?_) (by rfl) (fun wq hSw => ?_) ?_
      rotate_left
      · (try dsimp only at hSw); go_simp; try with_reducible rfl
      try simp only [Act.put, List.setIfInBounds_toArray, List.set_cons_zero, List.set_cons_succ]
      refine wpQuiet_nil ?_
      intro wz hHeld
      have hk := hHeld.1
      replace HM := Lib.hid (HM.out.kept hk id id)
      replace HC := Lib.hid (HC.out.of (hk.block _ HC.out.lt id))
      replace HK : Hid (Kept (fun _ => False) w wz) := Lib.hid (HK.out.trans hk (fun _ _ h => h))
      clear hk hHeld cw0 cw1 cw2 hq HW
      go_wp2
      go_roundw
      case rel => exact ⟨k + 1, by omega, by go_num, HM.out, HC.out, HK.out⟩
      case measure => simp [intOf]; omega

end Go.Proofs.Ytfbfhlolnooipaa
