/-
  The statement of layer 3 'all addresses are those of the reference': it returns true for every configuration and all numbers; nothing that was there is written. Condition: none.
-/
import Derived.Test.YtfbfhlolnooipaaLayLetters
import Derived.Test.YtfbfhlolnooipaaKeptRegion
import Derived.Test.YtfbfhlolnooipaaLayLex
import Derived.Deep.DeepCutAuto
namespace Go.Proofs.Ytfbfhlolnooipaa
open Go.RowKit Go.Deep
set_option linter.unusedVariables false

theorem refCells_of (T S N C R F K  v : Int) (hl : Lim T S N C R F)  (hv : allCells T S N C R F = v) (w : World) :
    Calls Try.prog 16 #[.agg #[.int .i64 T, .int .i64 S, .int .i64 N, .int .i64 C, .int .i64 R, .int .i64 F, .int .u64 K]] w fun e w' => e = .returned (.int .i64 v) ∧ Kept (fun _ => False) w w' := by
  have := refCells_any T S N C R F K hl w; rwa [hv] at this
theorem refSnap_of (T S N C R F K t j v : Int) (hl : Lim T S N C R F)  (hv : snapAt T S t j = v) (w : World) :
    Calls Try.prog 26 #[.agg #[.int .i64 T, .int .i64 S, .int .i64 N, .int .i64 C, .int .i64 R, .int .i64 F, .int .u64 K], .int .i64 t, .int .i64 j] w fun e w' => e = .returned (.int .i64 v) ∧ Kept (fun _ => False) w w' := by
  have := refSnap_any T S N C R F K t j hl w; rwa [hv] at this
theorem refNode_of (T S N C R F K a n part v : Int) (hl : Lim T S N C R F) (ha : firstNode T S = a) (h3 : 0 ≤ part) (h4 : part < F + 4) (h0 : 0 ≤ n) (hv : nodeAt N F a n part = v) (w : World) :
    Calls Try.prog 28 #[.agg #[.int .i64 T, .int .i64 S, .int .i64 N, .int .i64 C, .int .i64 R, .int .i64 F, .int .u64 K], .int .u64 n, .int .i64 part] w fun e w' => e = .returned (.int .i64 v) ∧ Kept (fun _ => False) w w' := by
  have := refNode_any T S N C R F K n part hl h3 h4 h0 w; rwa [ha, hv] at this
theorem refChain_of (T S N C R F K b n v : Int) (hl : Lim T S N C R F) (hb : firstChain T S N F = b) (h0 : 0 ≤ n) (hv : chainAt C b n = v) (w : World) :
    Calls Try.prog 33 #[.agg #[.int .i64 T, .int .i64 S, .int .i64 N, .int .i64 C, .int .i64 R, .int .i64 F, .int .u64 K], .int .u64 n] w fun e w' => e = .returned (.int .i64 v) ∧ Kept (fun _ => False) w w' := by
  have := refChain_any T S N C R F K n hl h0 w; rwa [hb, hv] at this
theorem refRec_of (T S N C R F K d n part v : Int) (hl : Lim T S N C R F) (hd : firstRecord T S N C F = d) (h3 : 0 ≤ part) (h4 : part ≤ 1000) (h0 : 0 ≤ n) (hv : recAt R d n part = v) (w : World) :
    Calls Try.prog 35 #[.agg #[.int .i64 T, .int .i64 S, .int .i64 N, .int .i64 C, .int .i64 R, .int .i64 F, .int .u64 K], .int .u64 n, .int .i64 part] w fun e w' => e = .returned (.int .i64 v) ∧ Kept (fun _ => False) w w' := by
  have := refRec_any T S N C R F K n part hl h3 h4 h0 w; rwa [hd, hv] at this
set_option maxRecDepth 100000 in
set_option maxHeartbeats 8000000 in
theorem lawAddresses_all (T0 S0 N0 C0 R0 F0 K0 : Int) (h0 : 0 ≤ K0) (t0 j0 i0 n0 : Int) (hn0 : 0 ≤ n0) (w : World) :
    Calls Try.prog 4 #[.agg #[.int .i64 T0, .int .i64 S0, .int .i64 N0, .int .i64 C0, .int .i64 R0, .int .i64 F0, .int .u64 K0], .int .i64 t0, .int .i64 j0, .int .i64 i0, .int .u64 n0] w fun e w' => e = .returned (.bool true) ∧ Below w.heap.size w w' := by
  go_enter Try.func4, Try.ntmps4
  go_wp2_with fail
  have HK := Lib.hid ((Kept.refl (fun _ => False) w).alloc (.cells #[.int .i64 T0, .int .i64 S0, .int .i64 N0, .int .i64 C0, .int .i64 R0, .int .i64 F0, .int .u64 K0] 24))
  generalize w.alloc (.cells #[.int .i64 T0, .int .i64 S0, .int .i64 N0, .int .i64 C0, .int .i64 R0, .int .i64 F0, .int .u64 K0] 24) = W0 at *
  refine (small_of T0 S0 N0 C0 R0 F0 K0 h0 _).mono ?_; rintro e w1 ⟨T, S, N, C, R, F, K, rfl, hT, hk⟩
  replace HK : Hid (Kept (fun _ => False) w w1) := Lib.hid (HK.out.trans hk (fun _ _ h => h))
  clear hk
  have hl := hT.lim
  have hk1 := hT.k1
  have hk2 : K ≤ 1099511627776 := by have := hT.k2; omega
  obtain ⟨a, ha⟩ : ∃ x, firstNode T S = x := ⟨_, rfl⟩
  obtain ⟨b, hb⟩ : ∃ x, firstChain T S N F = x := ⟨_, rfl⟩
  obtain ⟨d, hd⟩ : ∃ x, firstRecord T S N C F = x := ⟨_, rfl⟩
  have hrc := hl.reach
  rw [ha, hb, hd] at hrc
  have HA := Lib.hid ha
  have HB := Lib.hid hb
  have HD := Lib.hid hd
  have HT := Lib.hid hT
  clear ha hb hd hT
  go_wp2_with fail
  have HC := Lib.hid (Blk.new w1 [.int .i64 T, .int .i64 S, .int .i64 N, .int .i64 C, .int .i64 R, .int .i64 F, .int .u64 K] 24)
  replace HK := Lib.hid (HK.out.alloc (.cells #[.int .i64 T, .int .i64 S, .int .i64 N, .int .i64 C, .int .i64 R, .int .i64 F, .int .u64 K] 24))
  generalize w1.alloc (.cells #[.int .i64 T, .int .i64 S, .int .i64 N, .int .i64 C, .int .i64 R, .int .i64 F, .int .u64 K] 24) = W1 at *
  generalize hss : w1.heap.size = r at *
  have HRR := Lib.hid hss
  clear hss
  refine (new_to T S N C R F K a b d hl hk1 hk2 HA.out HB.out HD.out _).mono ?_; rintro e w2 ⟨rfl, hk⟩
  replace HC := Lib.hid (hk.blk HC.out id)
  replace HK : Hid (Kept (fun _ => False) w w2) := Lib.hid (HK.out.trans hk (fun _ _ h => h))
  clear hk
  go_wp2_with fail
  replace HC := Lib.hid (HC.out.alloc (.cells #[.int .i64 T, .int .i64 S, .int .i64 N, .int .i64 C, .int .i64 R, .int .i64 F, .int .u64 K, .int .i64 a, .int .i64 b, .int .i64 d] 27))
  have HL := Lib.hid (Blk.new w2 [.int .i64 T, .int .i64 S, .int .i64 N, .int .i64 C, .int .i64 R, .int .i64 F, .int .u64 K, .int .i64 a, .int .i64 b, .int .i64 d] 27)
  replace HK := Lib.hid (HK.out.alloc (.cells #[.int .i64 T, .int .i64 S, .int .i64 N, .int .i64 C, .int .i64 R, .int .i64 F, .int .u64 K, .int .i64 a, .int .i64 b, .int .i64 d] 27))
  generalize w2.alloc (.cells #[.int .i64 T, .int .i64 S, .int .i64 N, .int .i64 C, .int .i64 R, .int .i64 F, .int .u64 K, .int .i64 a, .int .i64 b, .int .i64 d] 27) = W at *
  generalize hss : w2.heap.size = s at *
  have HSS := Lib.hid hss
  clear hss
  have x0 := HL.out.cell (i := 0) rfl
  have x1 := HL.out.cell (i := 1) rfl
  have x2 := HL.out.cell (i := 2) rfl
  have x3 := HL.out.cell (i := 3) rfl
  have x4 := HL.out.cell (i := 4) rfl
  have x5 := HL.out.cell (i := 5) rfl
  have x6 := HL.out.cell (i := 6) rfl
  have x7 := HL.out.cell (i := 7) rfl
  have x8 := HL.out.cell (i := 8) rfl
  have x9 := HL.out.cell (i := 9) rfl
  have y0 := HC.out.cell (i := 0) rfl
  have y1 := HC.out.cell (i := 1) rfl
  have y2 := HC.out.cell (i := 2) rfl
  have y3 := HC.out.cell (i := 3) rfl
  have y4 := HC.out.cell (i := 4) rfl
  have y5 := HC.out.cell (i := 5) rfl
  have y6 := HC.out.cell (i := 6) rfl
  have hs := HL.out.lt
  have hr := HC.out.lt
  have htot : allCells T S N C R F = d + R * 3 := by unfold allCells; rw [HD.out]
  have HTOT := Lib.hid htot
  clear htot
  refine qregion (fun w' => Kept (fun _ => False) W w' ∧ w'.cell? ⟨s, 0, none⟩ = some (.int .i64 T) ∧ w'.cell? ⟨s, 1, none⟩ = some (.int .i64 S) ∧ w'.cell? ⟨s, 2, none⟩ = some (.int .i64 N) ∧ w'.cell? ⟨s, 3, none⟩ = some (.int .i64 C) ∧ w'.cell? ⟨s, 4, none⟩ = some (.int .i64 R) ∧ w'.cell? ⟨s, 5, none⟩ = some (.int .i64 F) ∧ w'.cell? ⟨s, 6, none⟩ = some (.int .u64 K) ∧ w'.cell? ⟨s, 7, none⟩ = some (.int .i64 a) ∧ w'.cell? ⟨s, 8, none⟩ = some (.int .i64 b) ∧ w'.cell? ⟨s, 9, none⟩ = some (.int .i64 d) ∧ w'.cell? ⟨r, 0, none⟩ = some (.int .i64 T) ∧ w'.cell? ⟨r, 1, none⟩ = some (.int .i64 S) ∧ w'.cell? ⟨r, 2, none⟩ = some (.int .i64 N) ∧ w'.cell? ⟨r, 3, none⟩ = some (.int .i64 C) ∧ w'.cell? ⟨r, 4, none⟩ = some (.int .i64 R) ∧ w'.cell? ⟨r, 5, none⟩ = some (.int .i64 F) ∧ w'.cell? ⟨r, 6, none⟩ = some (.int .u64 K)) (by kernel_rfl) (lexOf lexAddresses3 (by kernel_rfl)) ⟨(Kept.refl _ _).drew, x0, x1, x2, x3, x4, x5, x6, x7, x8, x9, y0, y1, y2, y3, y4, y5, y6⟩ ?_
  refine qcall (o := ⟨some 23, _, _, _, _, _⟩) (v := .bool true) (by rfl) (fun wq hSw => ?_) (fun wq hSw => Calls.mono (awake_any _) ?_) ?_
  · (try dsimp only at hSw); go_simp; try with_reducible rfl
  · rintro e w9 ⟨rfl, hk⟩; exact ⟨rfl, keep17 hk hs hr hSw⟩
  try simp only [Act.put, List.setIfInBounds_toArray, List.set_cons_zero, List.set_cons_succ]
  refine qstep (o := ⟨some 24, _, _, _, _, _⟩) (v := ?_) (by rfl) (fun wq hSw => ?_) ?_
  rotate_left
  · (try dsimp only at hSw); go_simp; try with_reducible rfl
  try simp only [Act.put, List.setIfInBounds_toArray, List.set_cons_zero, List.set_cons_succ]
  refine qstep (o := ⟨some 25, _, _, _, _, _⟩) (v := ?_) (by rfl) (fun wq hSw => ?_) ?_
  rotate_left
  · (try dsimp only at hSw); go_simp; try with_reducible rfl
  try simp only [Act.put, List.setIfInBounds_toArray, List.set_cons_zero, List.set_cons_succ]
  refine qstep (o := ⟨some 26, _, _, _, _, _⟩) (v := ?_) (by rfl) (fun wq hSw => ?_) ?_
  rotate_left
  · (try dsimp only at hSw); go_simp; try with_reducible rfl
  try simp only [Act.put, List.setIfInBounds_toArray, List.set_cons_zero, List.set_cons_succ]
  refine qstep (o := ⟨some 27, _, _, _, _, _⟩) (v := ?_) (by rfl) (fun wq hSw => ?_) ?_
  rotate_left
  · (try dsimp only at hSw); go_simp; try with_reducible rfl
  try simp only [Act.put, List.setIfInBounds_toArray, List.set_cons_zero, List.set_cons_succ]
  refine qstep (o := ⟨some 28, _, _, _, _, _⟩) (v := ?_) (by rfl) (fun wq hSw => ?_) ?_
  rotate_left
  · (try dsimp only at hSw); go_simp; try with_reducible rfl
  try simp only [Act.put, List.setIfInBounds_toArray, List.set_cons_zero, List.set_cons_succ]
  refine qstep (o := ⟨some 29, _, _, _, _, _⟩) (v := ?_) (by rfl) (fun wq hSw => ?_) ?_
  rotate_left
  · (try dsimp only at hSw); go_simp; try with_reducible rfl
  try simp only [Act.put, List.setIfInBounds_toArray, List.set_cons_zero, List.set_cons_succ]
  refine qstep (o := ⟨some 30, _, _, _, _, _⟩) (v := ?_) (by rfl) (fun wq hSw => ?_) ?_
  rotate_left
  · (try dsimp only at hSw); go_simp; try with_reducible rfl
  try simp only [Act.put, List.setIfInBounds_toArray, List.set_cons_zero, List.set_cons_succ]
  refine qcall (o := ⟨some 31, _, _, _, _, _⟩) (v := .int .i64 (d + R * 3)) (by rfl) (fun wq hSw => ?_) (fun wq hSw => Calls.mono (cellsum_of T S N C R F K a b d (d + R * 3) hl hrc rfl _) ?_) ?_
  · (try dsimp only at hSw); go_simp; try with_reducible rfl
  · rintro e w9 ⟨rfl, hk⟩; exact ⟨rfl, keep17 hk hs hr hSw⟩
  try simp only [Act.put, List.setIfInBounds_toArray, List.set_cons_zero, List.set_cons_succ]
  refine qstep (o := ⟨some 32, _, _, _, _, _⟩) (v := ?_) (by rfl) (fun wq hSw => ?_) ?_
  rotate_left
  · (try dsimp only at hSw); go_simp; try with_reducible rfl
  try simp only [Act.put, List.setIfInBounds_toArray, List.set_cons_zero, List.set_cons_succ]
  refine qcall (o := ⟨some 33, _, _, _, _, _⟩) (v := .int .i64 (d + R * 3)) (by rfl) (fun wq hSw => ?_) (fun wq hSw => Calls.mono (refCells_of T S N C R F K (d + R * 3) hl HTOT.out _) ?_) ?_
  · (try dsimp only at hSw); go_simp; try with_reducible rfl
  · rintro e w9 ⟨rfl, hk⟩; exact ⟨rfl, keep17 hk hs hr hSw⟩
  try simp only [Act.put, List.setIfInBounds_toArray, List.set_cons_zero, List.set_cons_succ]
  refine qstep (o := ⟨some 34, _, _, _, _, _⟩) (v := ?_) (by rfl) (fun wq hSw => ?_) ?_
  rotate_left
  · (try dsimp only at hSw); go_simp; try with_reducible rfl
  try simp only [Act.put, List.setIfInBounds_toArray, List.set_cons_zero, List.set_cons_succ]
  refine qstep (o := ⟨some 35, _, _, _, _, _⟩) (v := ?_) (by rfl) (fun wq hSw => ?_) ?_
  rotate_left
  · (try dsimp only at hSw); go_simp; try with_reducible rfl
  try simp only [Act.put, List.setIfInBounds_toArray, List.set_cons_zero, List.set_cons_succ]
  refine qstep (o := ⟨some 36, _, _, _, _, _⟩) (v := ?_) (by rfl) (fun wq hSw => ?_) ?_
  rotate_left
  · (try dsimp only at hSw); go_simp; try with_reducible rfl
  try simp only [Act.put, List.setIfInBounds_toArray, List.set_cons_zero, List.set_cons_succ]
  refine qstep (o := ⟨some 37, _, _, _, _, _⟩) (v := ?_) (by rfl) (fun wq hSw => ?_) ?_
  rotate_left
  · (try dsimp only at hSw); go_simp; try with_reducible rfl
  try simp only [Act.put, List.setIfInBounds_toArray, List.set_cons_zero, List.set_cons_succ]
  refine qcall (o := ⟨some 38, _, _, _, _, _⟩) (v := .int .i64 0) (by rfl) (fun wq hSw => ?_) (fun wq hSw => Calls.mono (root_any T S N C R F K a b d _) ?_) ?_
  · (try dsimp only at hSw); go_simp; try with_reducible rfl
  · rintro e w9 ⟨rfl, hk⟩; exact ⟨rfl, keep17 hk hs hr hSw⟩
  try simp only [Act.put, List.setIfInBounds_toArray, List.set_cons_zero, List.set_cons_succ]
  refine qstep (o := ⟨some 39, _, _, _, _, _⟩) (v := ?_) (by rfl) (fun wq hSw => ?_) ?_
  rotate_left
  · (try dsimp only at hSw); go_simp; try with_reducible rfl
  try simp only [Act.put, List.setIfInBounds_toArray, List.set_cons_zero, List.set_cons_succ]
  refine qstep (o := ⟨some 40, _, _, _, _, _⟩) (v := ?_) (by rfl) (fun wq hSw => ?_) ?_
  rotate_left
  · (try dsimp only at hSw); go_simp; try with_reducible rfl
  try simp only [Act.put, List.setIfInBounds_toArray, List.set_cons_zero, List.set_cons_succ]
  refine qstep (o := ⟨some 41, _, _, _, _, _⟩) (v := ?_) (by rfl) (fun wq hSw => ?_) ?_
  rotate_left
  · (try dsimp only at hSw); go_simp; try with_reducible rfl
  try simp only [Act.put, List.setIfInBounds_toArray, List.set_cons_zero, List.set_cons_succ]
  refine qstep (o := ⟨some 42, _, _, _, _, _⟩) (v := ?_) (by rfl) (fun wq hSw => ?_) ?_
  rotate_left
  · (try dsimp only at hSw); go_simp; try with_reducible rfl
  try simp only [Act.put, List.setIfInBounds_toArray, List.set_cons_zero, List.set_cons_succ]
  refine qcall (o := ⟨some 43, _, _, _, _, _⟩) (v := .int .i64 1) (by rfl) (fun wq hSw => ?_) (fun wq hSw => Calls.mono (allocated_any T S N C R F K a b d _) ?_) ?_
  · (try dsimp only at hSw); go_simp; try with_reducible rfl
  · rintro e w9 ⟨rfl, hk⟩; exact ⟨rfl, keep17 hk hs hr hSw⟩
  try simp only [Act.put, List.setIfInBounds_toArray, List.set_cons_zero, List.set_cons_succ]
  refine qstep (o := ⟨some 44, _, _, _, _, _⟩) (v := ?_) (by rfl) (fun wq hSw => ?_) ?_
  rotate_left
  · (try dsimp only at hSw); go_simp; try with_reducible rfl
  try simp only [Act.put, List.setIfInBounds_toArray, List.set_cons_zero, List.set_cons_succ]
  refine qstep (o := ⟨some 45, _, _, _, _, _⟩) (v := ?_) (by rfl) (fun wq hSw => ?_) ?_
  rotate_left
  · (try dsimp only at hSw); go_simp; try with_reducible rfl
  try simp only [Act.put, List.setIfInBounds_toArray, List.set_cons_zero, List.set_cons_succ]
  refine qstep (o := ⟨some 46, _, _, _, _, _⟩) (v := ?_) (by rfl) (fun wq hSw => ?_) ?_
  rotate_left
  · (try dsimp only at hSw); go_simp; try with_reducible rfl
  try simp only [Act.put, List.setIfInBounds_toArray, List.set_cons_zero, List.set_cons_succ]
  refine qstep (o := ⟨some 47, _, _, _, _, _⟩) (v := ?_) (by rfl) (fun wq hSw => ?_) ?_
  rotate_left
  · (try dsimp only at hSw); go_simp; try with_reducible rfl
  try simp only [Act.put, List.setIfInBounds_toArray, List.set_cons_zero, List.set_cons_succ]
  refine qcall (o := ⟨some 48, _, _, _, _, _⟩) (v := .int .i64 2) (by rfl) (fun wq hSw => ?_) (fun wq hSw => Calls.mono (published_any T S N C R F K a b d _) ?_) ?_
  · (try dsimp only at hSw); go_simp; try with_reducible rfl
  · rintro e w9 ⟨rfl, hk⟩; exact ⟨rfl, keep17 hk hs hr hSw⟩
  try simp only [Act.put, List.setIfInBounds_toArray, List.set_cons_zero, List.set_cons_succ]
  refine qstep (o := ⟨some 49, _, _, _, _, _⟩) (v := ?_) (by rfl) (fun wq hSw => ?_) ?_
  rotate_left
  · (try dsimp only at hSw); go_simp; try with_reducible rfl
  try simp only [Act.put, List.setIfInBounds_toArray, List.set_cons_zero, List.set_cons_succ]
  refine qstep (o := ⟨some 50, _, _, _, _, _⟩) (v := ?_) (by rfl) (fun wq hSw => ?_) ?_
  rotate_left
  · (try dsimp only at hSw); go_simp; try with_reducible rfl
  try simp only [Act.put, List.setIfInBounds_toArray, List.set_cons_zero, List.set_cons_succ]
  refine qstep (o := ⟨some 51, _, _, _, _, _⟩) (v := ?_) (by rfl) (fun wq hSw => ?_) ?_
  rotate_left
  · (try dsimp only at hSw); go_simp; try with_reducible rfl
  try simp only [Act.put, List.setIfInBounds_toArray, List.set_cons_zero, List.set_cons_succ]
  refine qstep (o := ⟨some 52, _, _, _, _, _⟩) (v := ?_) (by rfl) (fun wq hSw => ?_) ?_
  rotate_left
  · (try dsimp only at hSw); go_simp; try with_reducible rfl
  try simp only [Act.put, List.setIfInBounds_toArray, List.set_cons_zero, List.set_cons_succ]
  refine qcall (o := ⟨some 53, _, _, _, _, _⟩) (v := .int .i64 3) (by rfl) (fun wq hSw => ?_) (fun wq hSw => Calls.mono (floor_any T S N C R F K a b d _) ?_) ?_
  · (try dsimp only at hSw); go_simp; try with_reducible rfl
  · rintro e w9 ⟨rfl, hk⟩; exact ⟨rfl, keep17 hk hs hr hSw⟩
  try simp only [Act.put, List.setIfInBounds_toArray, List.set_cons_zero, List.set_cons_succ]
  refine qstep (o := ⟨some 54, _, _, _, _, _⟩) (v := ?_) (by rfl) (fun wq hSw => ?_) ?_
  rotate_left
  · (try dsimp only at hSw); go_simp; try with_reducible rfl
  try simp only [Act.put, List.setIfInBounds_toArray, List.set_cons_zero, List.set_cons_succ]
  refine qstep (o := ⟨some 55, _, _, _, _, _⟩) (v := ?_) (by rfl) (fun wq hSw => ?_) ?_
  rotate_left
  · (try dsimp only at hSw); go_simp; try with_reducible rfl
  try simp only [Act.put, List.setIfInBounds_toArray, List.set_cons_zero, List.set_cons_succ]
  refine qstep (o := ⟨some 56, _, _, _, _, _⟩) (v := ?_) (by rfl) (fun wq hSw => ?_) ?_
  rotate_left
  · (try dsimp only at hSw); go_simp; try with_reducible rfl
  try simp only [Act.put, List.setIfInBounds_toArray, List.set_cons_zero, List.set_cons_succ]
  refine qstep (o := ⟨some 57, _, _, _, _, _⟩) (v := ?_) (by rfl) (fun wq hSw => ?_) ?_
  rotate_left
  · (try dsimp only at hSw); go_simp; try with_reducible rfl
  try simp only [Act.put, List.setIfInBounds_toArray, List.set_cons_zero, List.set_cons_succ]
  refine qcall (o := ⟨some 58, _, _, _, _, _⟩) (v := .int .i64 4) (by rfl) (fun wq hSw => ?_) (fun wq hSw => Calls.mono (nodes_any T S N C R F K a b d _) ?_) ?_
  · (try dsimp only at hSw); go_simp; try with_reducible rfl
  · rintro e w9 ⟨rfl, hk⟩; exact ⟨rfl, keep17 hk hs hr hSw⟩
  try simp only [Act.put, List.setIfInBounds_toArray, List.set_cons_zero, List.set_cons_succ]
  refine qstep (o := ⟨some 59, _, _, _, _, _⟩) (v := ?_) (by rfl) (fun wq hSw => ?_) ?_
  rotate_left
  · (try dsimp only at hSw); go_simp; try with_reducible rfl
  try simp only [Act.put, List.setIfInBounds_toArray, List.set_cons_zero, List.set_cons_succ]
  refine qstep (o := ⟨some 60, _, _, _, _, _⟩) (v := ?_) (by rfl) (fun wq hSw => ?_) ?_
  rotate_left
  · (try dsimp only at hSw); go_simp; try with_reducible rfl
  try simp only [Act.put, List.setIfInBounds_toArray, List.set_cons_zero, List.set_cons_succ]
  refine qstep (o := ⟨some 61, _, _, _, _, _⟩) (v := ?_) (by rfl) (fun wq hSw => ?_) ?_
  rotate_left
  · (try dsimp only at hSw); go_simp; try with_reducible rfl
  try simp only [Act.put, List.setIfInBounds_toArray, List.set_cons_zero, List.set_cons_succ]
  refine qstep (o := ⟨some 62, _, _, _, _, _⟩) (v := ?_) (by rfl) (fun wq hSw => ?_) ?_
  rotate_left
  · (try dsimp only at hSw); go_simp; try with_reducible rfl
  try simp only [Act.put, List.setIfInBounds_toArray, List.set_cons_zero, List.set_cons_succ]
  refine qcall (o := ⟨some 63, _, _, _, _, _⟩) (v := .int .i64 5) (by rfl) (fun wq hSw => ?_) (fun wq hSw => Calls.mono (chains_any T S N C R F K a b d _) ?_) ?_
  · (try dsimp only at hSw); go_simp; try with_reducible rfl
  · rintro e w9 ⟨rfl, hk⟩; exact ⟨rfl, keep17 hk hs hr hSw⟩
  try simp only [Act.put, List.setIfInBounds_toArray, List.set_cons_zero, List.set_cons_succ]
  refine qstep (o := ⟨some 64, _, _, _, _, _⟩) (v := ?_) (by rfl) (fun wq hSw => ?_) ?_
  rotate_left
  · (try dsimp only at hSw); go_simp; try with_reducible rfl
  try simp only [Act.put, List.setIfInBounds_toArray, List.set_cons_zero, List.set_cons_succ]
  refine qstep (o := ⟨some 65, _, _, _, _, _⟩) (v := ?_) (by rfl) (fun wq hSw => ?_) ?_
  rotate_left
  · (try dsimp only at hSw); go_simp; try with_reducible rfl
  try simp only [Act.put, List.setIfInBounds_toArray, List.set_cons_zero, List.set_cons_succ]
  refine qstep (o := ⟨some 66, _, _, _, _, _⟩) (v := ?_) (by rfl) (fun wq hSw => ?_) ?_
  rotate_left
  · (try dsimp only at hSw); go_simp; try with_reducible rfl
  try simp only [Act.put, List.setIfInBounds_toArray, List.set_cons_zero, List.set_cons_succ]
  refine qstep (o := ⟨some 67, _, _, _, _, _⟩) (v := ?_) (by rfl) (fun wq hSw => ?_) ?_
  rotate_left
  · (try dsimp only at hSw); go_simp; try with_reducible rfl
  try simp only [Act.put, List.setIfInBounds_toArray, List.set_cons_zero, List.set_cons_succ]
  refine qcall (o := ⟨some 68, _, _, _, _, _⟩) (v := .int .i64 6) (by rfl) (fun wq hSw => ?_) (fun wq hSw => Calls.mono (records_any T S N C R F K a b d _) ?_) ?_
  · (try dsimp only at hSw); go_simp; try with_reducible rfl
  · rintro e w9 ⟨rfl, hk⟩; exact ⟨rfl, keep17 hk hs hr hSw⟩
  try simp only [Act.put, List.setIfInBounds_toArray, List.set_cons_zero, List.set_cons_succ]
  refine qstep (o := ⟨some 69, _, _, _, _, _⟩) (v := ?_) (by rfl) (fun wq hSw => ?_) ?_
  rotate_left
  · (try dsimp only at hSw); go_simp; try with_reducible rfl
  try simp only [Act.put, List.setIfInBounds_toArray, List.set_cons_zero, List.set_cons_succ]
  refine qstep (o := ⟨some 70, _, _, _, _, _⟩) (v := ?_) (by rfl) (fun wq hSw => ?_) ?_
  rotate_left
  · (try dsimp only at hSw); go_simp; try with_reducible rfl
  try simp only [Act.put, List.setIfInBounds_toArray, List.set_cons_zero, List.set_cons_succ]
  refine qstep (o := ⟨some 71, _, _, _, _, _⟩) (v := ?_) (by rfl) (fun wq hSw => ?_) ?_
  rotate_left
  · (try dsimp only at hSw); go_simp; try with_reducible rfl
  try simp only [Act.put, List.setIfInBounds_toArray, List.set_cons_zero, List.set_cons_succ]
  refine qstep (o := ⟨some 72, _, _, _, _, _⟩) (v := ?_) (by rfl) (fun wq hSw => ?_) ?_
  rotate_left
  · (try dsimp only at hSw); go_simp; try with_reducible rfl
  try simp only [Act.put, List.setIfInBounds_toArray, List.set_cons_zero, List.set_cons_succ]
  refine qcall (o := ⟨some 73, _, _, _, _, _⟩) (v := .int .i64 7) (by rfl) (fun wq hSw => ?_) (fun wq hSw => Calls.mono (grow_any T S N C R F K a b d _) ?_) ?_
  · (try dsimp only at hSw); go_simp; try with_reducible rfl
  · rintro e w9 ⟨rfl, hk⟩; exact ⟨rfl, keep17 hk hs hr hSw⟩
  try simp only [Act.put, List.setIfInBounds_toArray, List.set_cons_zero, List.set_cons_succ]
  refine qstep (o := ⟨some 74, _, _, _, _, _⟩) (v := ?_) (by rfl) (fun wq hSw => ?_) ?_
  rotate_left
  · (try dsimp only at hSw); go_simp; try with_reducible rfl
  try simp only [Act.put, List.setIfInBounds_toArray, List.set_cons_zero, List.set_cons_succ]
  refine qstep (o := ⟨some 75, _, _, _, _, _⟩) (v := ?_) (by rfl) (fun wq hSw => ?_) ?_
  rotate_left
  · (try dsimp only at hSw); go_simp; try with_reducible rfl
  try simp only [Act.put, List.setIfInBounds_toArray, List.set_cons_zero, List.set_cons_succ]
  refine wpQuiet_nil ?_
  intro wz hHeld
  clear x0 x1 x2 x3 x4 x5 x6 x7 x8 x9
  clear y0 y1 y2 y3 y4 y5 y6
  have hk := hHeld.1
  replace HL := Lib.hid (hk.blk HL.out id)
  replace HC := Lib.hid (hk.blk HC.out id)
  replace HK : Hid (Kept (fun _ => False) w wz) := Lib.hid (HK.out.trans hk (fun _ _ h => h))
  clear hk hHeld hs hr
  go_wp2_with fail
  go_loopw [14, 1, 2, 3, 4] (fun sk st sj si sn wr => ∃ (k : Nat) (t j i n : Int), k ≤ 2 ∧ sk = .int .i64 k ∧ st = .int .i64 t ∧ sj = .int .i64 j ∧ si = .int .i64 i ∧ sn = .int .u64 n ∧ 0 ≤ n ∧ Blk wr s 27 [.int .i64 T, .int .i64 S, .int .i64 N, .int .i64 C, .int .i64 R, .int .i64 F, .int .u64 K, .int .i64 a, .int .i64 b, .int .i64 d] ∧ Blk wr r 24 [.int .i64 T, .int .i64 S, .int .i64 N, .int .i64 C, .int .i64 R, .int .i64 F, .int .u64 K] ∧ Kept (fun _ => False) w wr) (fun sk _ _ _ _ _ => 2 - (intOf sk).toNat)
  case atStart => exact ⟨0, t0, j0, i0, n0, by omega, rfl, rfl, rfl, rfl, rfl, hn0, HL.out, HC.out, HK.out⟩
  case round =>
    clear HL HC HK
    obtain ⟨k, t, j, i, n, hk, rfl, rfl, rfl, rfl, rfl, hn, hL, hC, hK⟩ := hrel
    have HL := Lib.hid hL
    have HC := Lib.hid hC
    have HK := Lib.hid hK
    clear hL hC hK
    by_cases hlt : k < 2
    rotate_left
    · obtain rfl : k = 2 := by omega
      go_wp2
      go_ret
      exact ⟨rfl, HK.out.below (Nat.le_refl _) (fun _ h => h.elim)⟩
    have x0 := HL.out.cell (i := 0) rfl
    have x1 := HL.out.cell (i := 1) rfl
    have x2 := HL.out.cell (i := 2) rfl
    have x3 := HL.out.cell (i := 3) rfl
    have x4 := HL.out.cell (i := 4) rfl
    have x5 := HL.out.cell (i := 5) rfl
    have x6 := HL.out.cell (i := 6) rfl
    have x7 := HL.out.cell (i := 7) rfl
    have x8 := HL.out.cell (i := 8) rfl
    have x9 := HL.out.cell (i := 9) rfl
    have y0 := HC.out.cell (i := 0) rfl
    have y1 := HC.out.cell (i := 1) rfl
    have y2 := HC.out.cell (i := 2) rfl
    have y3 := HC.out.cell (i := 3) rfl
    have y4 := HC.out.cell (i := 4) rfl
    have y5 := HC.out.cell (i := 5) rfl
    have y6 := HC.out.cell (i := 6) rfl
    have hs := HL.out.lt
    have hr := HC.out.lt
    have hf1 := HT.out.f1
    have hf2 := HT.out.f2
    go_wp2_with fail
    obtain ⟨v0, hv0⟩ : ∃ x, snapAt T S t j = x := ⟨_, rfl⟩
    have Hv0 := Lib.hid hv0
    clear hv0
    obtain ⟨v1, hv1⟩ : ∃ x, nodeAt N F a n 0 = x := ⟨_, rfl⟩
    have Hv1 := Lib.hid hv1
    clear hv1
    obtain ⟨v2, hv2⟩ : ∃ x, nodeAt N F a n 1 = x := ⟨_, rfl⟩
    have Hv2 := Lib.hid hv2
    clear hv2
    obtain ⟨v3, hv3⟩ : ∃ x, nodeAt N F a n 2 = x := ⟨_, rfl⟩
    have Hv3 := Lib.hid hv3
    clear hv3
    obtain ⟨v4, hv4⟩ : ∃ x, nodeAt N F a n 3 = x := ⟨_, rfl⟩
    have Hv4 := Lib.hid hv4
    clear hv4
    obtain ⟨v5, hv5⟩ : ∃ x, chainAt C b n = x := ⟨_, rfl⟩
    have Hv5 := Lib.hid hv5
    clear hv5
    obtain ⟨v6, hv6⟩ : ∃ x, recAt R d n 0 = x := ⟨_, rfl⟩
    have Hv6 := Lib.hid hv6
    clear hv6
    obtain ⟨v7, hv7⟩ : ∃ x, recAt R d n 1 = x := ⟨_, rfl⟩
    have Hv7 := Lib.hid hv7
    clear hv7
    obtain ⟨v8, hv8⟩ : ∃ x, recAt R d n 2 = x := ⟨_, rfl⟩
    have Hv8 := Lib.hid hv8
    clear hv8
    obtain ⟨v9, hv9⟩ : ∃ x, slotAt N F a n i = x := ⟨_, rfl⟩
    have Hv9 := Lib.hid hv9
    clear hv9
    rename World => wr
    refine qregion (fun w' => Kept (fun _ => False) wr w' ∧ w'.cell? ⟨s, 0, none⟩ = some (.int .i64 T) ∧ w'.cell? ⟨s, 1, none⟩ = some (.int .i64 S) ∧ w'.cell? ⟨s, 2, none⟩ = some (.int .i64 N) ∧ w'.cell? ⟨s, 3, none⟩ = some (.int .i64 C) ∧ w'.cell? ⟨s, 4, none⟩ = some (.int .i64 R) ∧ w'.cell? ⟨s, 5, none⟩ = some (.int .i64 F) ∧ w'.cell? ⟨s, 6, none⟩ = some (.int .u64 K) ∧ w'.cell? ⟨s, 7, none⟩ = some (.int .i64 a) ∧ w'.cell? ⟨s, 8, none⟩ = some (.int .i64 b) ∧ w'.cell? ⟨s, 9, none⟩ = some (.int .i64 d) ∧ w'.cell? ⟨r, 0, none⟩ = some (.int .i64 T) ∧ w'.cell? ⟨r, 1, none⟩ = some (.int .i64 S) ∧ w'.cell? ⟨r, 2, none⟩ = some (.int .i64 N) ∧ w'.cell? ⟨r, 3, none⟩ = some (.int .i64 C) ∧ w'.cell? ⟨r, 4, none⟩ = some (.int .i64 R) ∧ w'.cell? ⟨r, 5, none⟩ = some (.int .i64 F) ∧ w'.cell? ⟨r, 6, none⟩ = some (.int .u64 K)) (by kernel_rfl) (lexOf lexAddresses8 (by kernel_rfl)) ⟨(Kept.refl _ _).drew, x0, x1, x2, x3, x4, x5, x6, x7, x8, x9, y0, y1, y2, y3, y4, y5, y6⟩ ?_
    refine qstep (o := ⟨some 80, _, _, _, _, _⟩) (v := ?_) (by rfl) (fun wq hSw => ?_) ?_
    rotate_left
    · (try dsimp only at hSw); go_simp; try with_reducible rfl
    try simp only [Act.put, List.setIfInBounds_toArray, List.set_cons_zero, List.set_cons_succ]
    refine qstep (o := ⟨some 81, _, _, _, _, _⟩) (v := ?_) (by rfl) (fun wq hSw => ?_) ?_
    rotate_left
    · (try dsimp only at hSw); go_simp; try with_reducible rfl
    try simp only [Act.put, List.setIfInBounds_toArray, List.set_cons_zero, List.set_cons_succ]
    refine qstep (o := ⟨some 82, _, _, _, _, _⟩) (v := ?_) (by rfl) (fun wq hSw => ?_) ?_
    rotate_left
    · (try dsimp only at hSw); go_simp; try with_reducible rfl
    try simp only [Act.put, List.setIfInBounds_toArray, List.set_cons_zero, List.set_cons_succ]
    refine qcall (o := ⟨some 83, _, _, _, _, _⟩) (v := .int .i64 v0) (by rfl) (fun wq hSw => ?_) (fun wq hSw => Calls.mono (snap_of T S N C R F K a b d t j v0 hl hrc Hv0.out _) ?_) ?_
    · (try dsimp only at hSw); go_simp; try with_reducible rfl
    · rintro e w9 ⟨rfl, hk⟩; exact ⟨rfl, keep17 hk hs hr hSw⟩
    try simp only [Act.put, List.setIfInBounds_toArray, List.set_cons_zero, List.set_cons_succ]
    refine qstep (o := ⟨some 84, _, _, _, _, _⟩) (v := ?_) (by rfl) (fun wq hSw => ?_) ?_
    rotate_left
    · (try dsimp only at hSw); go_simp; try with_reducible rfl
    try simp only [Act.put, List.setIfInBounds_toArray, List.set_cons_zero, List.set_cons_succ]
    refine qstep (o := ⟨some 85, _, _, _, _, _⟩) (v := ?_) (by rfl) (fun wq hSw => ?_) ?_
    rotate_left
    · (try dsimp only at hSw); go_simp; try with_reducible rfl
    try simp only [Act.put, List.setIfInBounds_toArray, List.set_cons_zero, List.set_cons_succ]
    refine qstep (o := ⟨some 86, _, _, _, _, _⟩) (v := ?_) (by rfl) (fun wq hSw => ?_) ?_
    rotate_left
    · (try dsimp only at hSw); go_simp; try with_reducible rfl
    try simp only [Act.put, List.setIfInBounds_toArray, List.set_cons_zero, List.set_cons_succ]
    refine qcall (o := ⟨some 87, _, _, _, _, _⟩) (v := .int .i64 v0) (by rfl) (fun wq hSw => ?_) (fun wq hSw => Calls.mono (refSnap_of T S N C R F K t j v0 hl Hv0.out _) ?_) ?_
    · (try dsimp only at hSw); go_simp; try with_reducible rfl
    · rintro e w9 ⟨rfl, hk⟩; exact ⟨rfl, keep17 hk hs hr hSw⟩
    try simp only [Act.put, List.setIfInBounds_toArray, List.set_cons_zero, List.set_cons_succ]
    refine qstep (o := ⟨some 88, _, _, _, _, _⟩) (v := ?_) (by rfl) (fun wq hSw => ?_) ?_
    rotate_left
    · (try dsimp only at hSw); go_simp; try with_reducible rfl
    try simp only [Act.put, List.setIfInBounds_toArray, List.set_cons_zero, List.set_cons_succ]
    refine qstep (o := ⟨some 89, _, _, _, _, _⟩) (v := ?_) (by rfl) (fun wq hSw => ?_) ?_
    rotate_left
    · (try dsimp only at hSw); go_simp; try with_reducible rfl
    try simp only [Act.put, List.setIfInBounds_toArray, List.set_cons_zero, List.set_cons_succ]
    refine qstep (o := ⟨some 90, _, _, _, _, _⟩) (v := ?_) (by rfl) (fun wq hSw => ?_) ?_
    rotate_left
    · (try dsimp only at hSw); go_simp; try with_reducible rfl
    try simp only [Act.put, List.setIfInBounds_toArray, List.set_cons_zero, List.set_cons_succ]
    refine qstep (o := ⟨some 91, _, _, _, _, _⟩) (v := ?_) (by rfl) (fun wq hSw => ?_) ?_
    rotate_left
    · (try dsimp only at hSw); go_simp; try with_reducible rfl
    try simp only [Act.put, List.setIfInBounds_toArray, List.set_cons_zero, List.set_cons_succ]
    refine qcall (o := ⟨some 92, _, _, _, _, _⟩) (v := .int .i64 v1) (by rfl) (fun wq hSw => ?_) (fun wq hSw => Calls.mono (latch_of T S N C R F K a b d n v1 hl hrc Hv1.out _) ?_) ?_
    · (try dsimp only at hSw); go_simp; try with_reducible rfl
    · rintro e w9 ⟨rfl, hk⟩; exact ⟨rfl, keep17 hk hs hr hSw⟩
    try simp only [Act.put, List.setIfInBounds_toArray, List.set_cons_zero, List.set_cons_succ]
    refine qstep (o := ⟨some 93, _, _, _, _, _⟩) (v := ?_) (by rfl) (fun wq hSw => ?_) ?_
    rotate_left
    · (try dsimp only at hSw); go_simp; try with_reducible rfl
    try simp only [Act.put, List.setIfInBounds_toArray, List.set_cons_zero, List.set_cons_succ]
    refine qstep (o := ⟨some 94, _, _, _, _, _⟩) (v := ?_) (by rfl) (fun wq hSw => ?_) ?_
    rotate_left
    · (try dsimp only at hSw); go_simp; try with_reducible rfl
    try simp only [Act.put, List.setIfInBounds_toArray, List.set_cons_zero, List.set_cons_succ]
    refine qcall (o := ⟨some 95, _, _, _, _, _⟩) (v := .int .i64 v1) (by rfl) (fun wq hSw => ?_) (fun wq hSw => Calls.mono (refNode_of T S N C R F K a n 0 v1 hl HA.out (by omega) (by omega) hn Hv1.out _) ?_) ?_
    · (try dsimp only at hSw); go_simp; try with_reducible rfl
    · rintro e w9 ⟨rfl, hk⟩; exact ⟨rfl, keep17 hk hs hr hSw⟩
    try simp only [Act.put, List.setIfInBounds_toArray, List.set_cons_zero, List.set_cons_succ]
    refine qstep (o := ⟨some 96, _, _, _, _, _⟩) (v := ?_) (by rfl) (fun wq hSw => ?_) ?_
    rotate_left
    · (try dsimp only at hSw); go_simp; try with_reducible rfl
    try simp only [Act.put, List.setIfInBounds_toArray, List.set_cons_zero, List.set_cons_succ]
    refine qstep (o := ⟨some 97, _, _, _, _, _⟩) (v := ?_) (by rfl) (fun wq hSw => ?_) ?_
    rotate_left
    · (try dsimp only at hSw); go_simp; try with_reducible rfl
    try simp only [Act.put, List.setIfInBounds_toArray, List.set_cons_zero, List.set_cons_succ]
    refine qstep (o := ⟨some 98, _, _, _, _, _⟩) (v := ?_) (by rfl) (fun wq hSw => ?_) ?_
    rotate_left
    · (try dsimp only at hSw); go_simp; try with_reducible rfl
    try simp only [Act.put, List.setIfInBounds_toArray, List.set_cons_zero, List.set_cons_succ]
    refine qstep (o := ⟨some 99, _, _, _, _, _⟩) (v := ?_) (by rfl) (fun wq hSw => ?_) ?_
    rotate_left
    · (try dsimp only at hSw); go_simp; try with_reducible rfl
    try simp only [Act.put, List.setIfInBounds_toArray, List.set_cons_zero, List.set_cons_succ]
    refine qstep (o := ⟨some 100, _, _, _, _, _⟩) (v := ?_) (by rfl) (fun wq hSw => ?_) ?_
    rotate_left
    · (try dsimp only at hSw); go_simp; try with_reducible rfl
    try simp only [Act.put, List.setIfInBounds_toArray, List.set_cons_zero, List.set_cons_succ]
    refine qcall (o := ⟨some 101, _, _, _, _, _⟩) (v := .int .i64 v2) (by rfl) (fun wq hSw => ?_) (fun wq hSw => Calls.mono (head_of T S N C R F K a b d n v2 hl hrc Hv2.out _) ?_) ?_
    · (try dsimp only at hSw); go_simp; try with_reducible rfl
    · rintro e w9 ⟨rfl, hk⟩; exact ⟨rfl, keep17 hk hs hr hSw⟩
    try simp only [Act.put, List.setIfInBounds_toArray, List.set_cons_zero, List.set_cons_succ]
    refine qstep (o := ⟨some 102, _, _, _, _, _⟩) (v := ?_) (by rfl) (fun wq hSw => ?_) ?_
    rotate_left
    · (try dsimp only at hSw); go_simp; try with_reducible rfl
    try simp only [Act.put, List.setIfInBounds_toArray, List.set_cons_zero, List.set_cons_succ]
    refine qstep (o := ⟨some 103, _, _, _, _, _⟩) (v := ?_) (by rfl) (fun wq hSw => ?_) ?_
    rotate_left
    · (try dsimp only at hSw); go_simp; try with_reducible rfl
    try simp only [Act.put, List.setIfInBounds_toArray, List.set_cons_zero, List.set_cons_succ]
    refine qcall (o := ⟨some 104, _, _, _, _, _⟩) (v := .int .i64 v2) (by rfl) (fun wq hSw => ?_) (fun wq hSw => Calls.mono (refNode_of T S N C R F K a n 1 v2 hl HA.out (by omega) (by omega) hn Hv2.out _) ?_) ?_
    · (try dsimp only at hSw); go_simp; try with_reducible rfl
    · rintro e w9 ⟨rfl, hk⟩; exact ⟨rfl, keep17 hk hs hr hSw⟩
    try simp only [Act.put, List.setIfInBounds_toArray, List.set_cons_zero, List.set_cons_succ]
    refine qstep (o := ⟨some 105, _, _, _, _, _⟩) (v := ?_) (by rfl) (fun wq hSw => ?_) ?_
    rotate_left
    · (try dsimp only at hSw); go_simp; try with_reducible rfl
    try simp only [Act.put, List.setIfInBounds_toArray, List.set_cons_zero, List.set_cons_succ]
    refine qstep (o := ⟨some 106, _, _, _, _, _⟩) (v := ?_) (by rfl) (fun wq hSw => ?_) ?_
    rotate_left
    · (try dsimp only at hSw); go_simp; try with_reducible rfl
    try simp only [Act.put, List.setIfInBounds_toArray, List.set_cons_zero, List.set_cons_succ]
    refine qstep (o := ⟨some 107, _, _, _, _, _⟩) (v := ?_) (by rfl) (fun wq hSw => ?_) ?_
    rotate_left
    · (try dsimp only at hSw); go_simp; try with_reducible rfl
    try simp only [Act.put, List.setIfInBounds_toArray, List.set_cons_zero, List.set_cons_succ]
    refine qstep (o := ⟨some 108, _, _, _, _, _⟩) (v := ?_) (by rfl) (fun wq hSw => ?_) ?_
    rotate_left
    · (try dsimp only at hSw); go_simp; try with_reducible rfl
    try simp only [Act.put, List.setIfInBounds_toArray, List.set_cons_zero, List.set_cons_succ]
    refine qstep (o := ⟨some 109, _, _, _, _, _⟩) (v := ?_) (by rfl) (fun wq hSw => ?_) ?_
    rotate_left
    · (try dsimp only at hSw); go_simp; try with_reducible rfl
    try simp only [Act.put, List.setIfInBounds_toArray, List.set_cons_zero, List.set_cons_succ]
    refine qcall (o := ⟨some 110, _, _, _, _, _⟩) (v := .int .i64 v3) (by rfl) (fun wq hSw => ?_) (fun wq hSw => Calls.mono (high_of T S N C R F K a b d n v3 hl hrc Hv3.out _) ?_) ?_
    · (try dsimp only at hSw); go_simp; try with_reducible rfl
    · rintro e w9 ⟨rfl, hk⟩; exact ⟨rfl, keep17 hk hs hr hSw⟩
    try simp only [Act.put, List.setIfInBounds_toArray, List.set_cons_zero, List.set_cons_succ]
    refine qstep (o := ⟨some 111, _, _, _, _, _⟩) (v := ?_) (by rfl) (fun wq hSw => ?_) ?_
    rotate_left
    · (try dsimp only at hSw); go_simp; try with_reducible rfl
    try simp only [Act.put, List.setIfInBounds_toArray, List.set_cons_zero, List.set_cons_succ]
    refine qstep (o := ⟨some 112, _, _, _, _, _⟩) (v := ?_) (by rfl) (fun wq hSw => ?_) ?_
    rotate_left
    · (try dsimp only at hSw); go_simp; try with_reducible rfl
    try simp only [Act.put, List.setIfInBounds_toArray, List.set_cons_zero, List.set_cons_succ]
    refine qcall (o := ⟨some 113, _, _, _, _, _⟩) (v := .int .i64 v3) (by rfl) (fun wq hSw => ?_) (fun wq hSw => Calls.mono (refNode_of T S N C R F K a n 2 v3 hl HA.out (by omega) (by omega) hn Hv3.out _) ?_) ?_
    · (try dsimp only at hSw); go_simp; try with_reducible rfl
    · rintro e w9 ⟨rfl, hk⟩; exact ⟨rfl, keep17 hk hs hr hSw⟩
    try simp only [Act.put, List.setIfInBounds_toArray, List.set_cons_zero, List.set_cons_succ]
    refine qstep (o := ⟨some 114, _, _, _, _, _⟩) (v := ?_) (by rfl) (fun wq hSw => ?_) ?_
    rotate_left
    · (try dsimp only at hSw); go_simp; try with_reducible rfl
    try simp only [Act.put, List.setIfInBounds_toArray, List.set_cons_zero, List.set_cons_succ]
    refine qstep (o := ⟨some 115, _, _, _, _, _⟩) (v := ?_) (by rfl) (fun wq hSw => ?_) ?_
    rotate_left
    · (try dsimp only at hSw); go_simp; try with_reducible rfl
    try simp only [Act.put, List.setIfInBounds_toArray, List.set_cons_zero, List.set_cons_succ]
    refine qstep (o := ⟨some 116, _, _, _, _, _⟩) (v := ?_) (by rfl) (fun wq hSw => ?_) ?_
    rotate_left
    · (try dsimp only at hSw); go_simp; try with_reducible rfl
    try simp only [Act.put, List.setIfInBounds_toArray, List.set_cons_zero, List.set_cons_succ]
    refine qstep (o := ⟨some 117, _, _, _, _, _⟩) (v := ?_) (by rfl) (fun wq hSw => ?_) ?_
    rotate_left
    · (try dsimp only at hSw); go_simp; try with_reducible rfl
    try simp only [Act.put, List.setIfInBounds_toArray, List.set_cons_zero, List.set_cons_succ]
    refine qstep (o := ⟨some 118, _, _, _, _, _⟩) (v := ?_) (by rfl) (fun wq hSw => ?_) ?_
    rotate_left
    · (try dsimp only at hSw); go_simp; try with_reducible rfl
    try simp only [Act.put, List.setIfInBounds_toArray, List.set_cons_zero, List.set_cons_succ]
    refine qcall (o := ⟨some 119, _, _, _, _, _⟩) (v := .int .i64 v4) (by rfl) (fun wq hSw => ?_) (fun wq hSw => Calls.mono (right_of T S N C R F K a b d n v4 hl hrc Hv4.out _) ?_) ?_
    · (try dsimp only at hSw); go_simp; try with_reducible rfl
    · rintro e w9 ⟨rfl, hk⟩; exact ⟨rfl, keep17 hk hs hr hSw⟩
    try simp only [Act.put, List.setIfInBounds_toArray, List.set_cons_zero, List.set_cons_succ]
    refine qstep (o := ⟨some 120, _, _, _, _, _⟩) (v := ?_) (by rfl) (fun wq hSw => ?_) ?_
    rotate_left
    · (try dsimp only at hSw); go_simp; try with_reducible rfl
    try simp only [Act.put, List.setIfInBounds_toArray, List.set_cons_zero, List.set_cons_succ]
    refine qstep (o := ⟨some 121, _, _, _, _, _⟩) (v := ?_) (by rfl) (fun wq hSw => ?_) ?_
    rotate_left
    · (try dsimp only at hSw); go_simp; try with_reducible rfl
    try simp only [Act.put, List.setIfInBounds_toArray, List.set_cons_zero, List.set_cons_succ]
    refine qcall (o := ⟨some 122, _, _, _, _, _⟩) (v := .int .i64 v4) (by rfl) (fun wq hSw => ?_) (fun wq hSw => Calls.mono (refNode_of T S N C R F K a n 3 v4 hl HA.out (by omega) (by omega) hn Hv4.out _) ?_) ?_
    · (try dsimp only at hSw); go_simp; try with_reducible rfl
    · rintro e w9 ⟨rfl, hk⟩; exact ⟨rfl, keep17 hk hs hr hSw⟩
    try simp only [Act.put, List.setIfInBounds_toArray, List.set_cons_zero, List.set_cons_succ]
    refine qstep (o := ⟨some 123, _, _, _, _, _⟩) (v := ?_) (by rfl) (fun wq hSw => ?_) ?_
    rotate_left
    · (try dsimp only at hSw); go_simp; try with_reducible rfl
    try simp only [Act.put, List.setIfInBounds_toArray, List.set_cons_zero, List.set_cons_succ]
    refine qstep (o := ⟨some 124, _, _, _, _, _⟩) (v := ?_) (by rfl) (fun wq hSw => ?_) ?_
    rotate_left
    · (try dsimp only at hSw); go_simp; try with_reducible rfl
    try simp only [Act.put, List.setIfInBounds_toArray, List.set_cons_zero, List.set_cons_succ]
    refine qstep (o := ⟨some 125, _, _, _, _, _⟩) (v := ?_) (by rfl) (fun wq hSw => ?_) ?_
    rotate_left
    · (try dsimp only at hSw); go_simp; try with_reducible rfl
    try simp only [Act.put, List.setIfInBounds_toArray, List.set_cons_zero, List.set_cons_succ]
    refine qstep (o := ⟨some 126, _, _, _, _, _⟩) (v := ?_) (by rfl) (fun wq hSw => ?_) ?_
    rotate_left
    · (try dsimp only at hSw); go_simp; try with_reducible rfl
    try simp only [Act.put, List.setIfInBounds_toArray, List.set_cons_zero, List.set_cons_succ]
    refine qstep (o := ⟨some 127, _, _, _, _, _⟩) (v := ?_) (by rfl) (fun wq hSw => ?_) ?_
    rotate_left
    · (try dsimp only at hSw); go_simp; try with_reducible rfl
    try simp only [Act.put, List.setIfInBounds_toArray, List.set_cons_zero, List.set_cons_succ]
    refine qcall (o := ⟨some 128, _, _, _, _, _⟩) (v := .int .i64 v5) (by rfl) (fun wq hSw => ?_) (fun wq hSw => Calls.mono (chain_of T S N C R F K a b d n v5 hl hrc Hv5.out _) ?_) ?_
    · (try dsimp only at hSw); go_simp; try with_reducible rfl
    · rintro e w9 ⟨rfl, hk⟩; exact ⟨rfl, keep17 hk hs hr hSw⟩
    try simp only [Act.put, List.setIfInBounds_toArray, List.set_cons_zero, List.set_cons_succ]
    refine qstep (o := ⟨some 129, _, _, _, _, _⟩) (v := ?_) (by rfl) (fun wq hSw => ?_) ?_
    rotate_left
    · (try dsimp only at hSw); go_simp; try with_reducible rfl
    try simp only [Act.put, List.setIfInBounds_toArray, List.set_cons_zero, List.set_cons_succ]
    refine qstep (o := ⟨some 130, _, _, _, _, _⟩) (v := ?_) (by rfl) (fun wq hSw => ?_) ?_
    rotate_left
    · (try dsimp only at hSw); go_simp; try with_reducible rfl
    try simp only [Act.put, List.setIfInBounds_toArray, List.set_cons_zero, List.set_cons_succ]
    refine qcall (o := ⟨some 131, _, _, _, _, _⟩) (v := .int .i64 v5) (by rfl) (fun wq hSw => ?_) (fun wq hSw => Calls.mono (refChain_of T S N C R F K b n v5 hl HB.out hn Hv5.out _) ?_) ?_
    · (try dsimp only at hSw); go_simp; try with_reducible rfl
    · rintro e w9 ⟨rfl, hk⟩; exact ⟨rfl, keep17 hk hs hr hSw⟩
    try simp only [Act.put, List.setIfInBounds_toArray, List.set_cons_zero, List.set_cons_succ]
    refine qstep (o := ⟨some 132, _, _, _, _, _⟩) (v := ?_) (by rfl) (fun wq hSw => ?_) ?_
    rotate_left
    · (try dsimp only at hSw); go_simp; try with_reducible rfl
    try simp only [Act.put, List.setIfInBounds_toArray, List.set_cons_zero, List.set_cons_succ]
    refine qstep (o := ⟨some 133, _, _, _, _, _⟩) (v := ?_) (by rfl) (fun wq hSw => ?_) ?_
    rotate_left
    · (try dsimp only at hSw); go_simp; try with_reducible rfl
    try simp only [Act.put, List.setIfInBounds_toArray, List.set_cons_zero, List.set_cons_succ]
    refine qstep (o := ⟨some 134, _, _, _, _, _⟩) (v := ?_) (by rfl) (fun wq hSw => ?_) ?_
    rotate_left
    · (try dsimp only at hSw); go_simp; try with_reducible rfl
    try simp only [Act.put, List.setIfInBounds_toArray, List.set_cons_zero, List.set_cons_succ]
    refine qstep (o := ⟨some 135, _, _, _, _, _⟩) (v := ?_) (by rfl) (fun wq hSw => ?_) ?_
    rotate_left
    · (try dsimp only at hSw); go_simp; try with_reducible rfl
    try simp only [Act.put, List.setIfInBounds_toArray, List.set_cons_zero, List.set_cons_succ]
    refine qstep (o := ⟨some 136, _, _, _, _, _⟩) (v := ?_) (by rfl) (fun wq hSw => ?_) ?_
    rotate_left
    · (try dsimp only at hSw); go_simp; try with_reducible rfl
    try simp only [Act.put, List.setIfInBounds_toArray, List.set_cons_zero, List.set_cons_succ]
    refine qcall (o := ⟨some 137, _, _, _, _, _⟩) (v := .int .i64 v6) (by rfl) (fun wq hSw => ?_) (fun wq hSw => Calls.mono (stamp_of T S N C R F K a b d n v6 hl hrc Hv6.out _) ?_) ?_
    · (try dsimp only at hSw); go_simp; try with_reducible rfl
    · rintro e w9 ⟨rfl, hk⟩; exact ⟨rfl, keep17 hk hs hr hSw⟩
    try simp only [Act.put, List.setIfInBounds_toArray, List.set_cons_zero, List.set_cons_succ]
    refine qstep (o := ⟨some 138, _, _, _, _, _⟩) (v := ?_) (by rfl) (fun wq hSw => ?_) ?_
    rotate_left
    · (try dsimp only at hSw); go_simp; try with_reducible rfl
    try simp only [Act.put, List.setIfInBounds_toArray, List.set_cons_zero, List.set_cons_succ]
    refine qstep (o := ⟨some 139, _, _, _, _, _⟩) (v := ?_) (by rfl) (fun wq hSw => ?_) ?_
    rotate_left
    · (try dsimp only at hSw); go_simp; try with_reducible rfl
    try simp only [Act.put, List.setIfInBounds_toArray, List.set_cons_zero, List.set_cons_succ]
    refine qcall (o := ⟨some 140, _, _, _, _, _⟩) (v := .int .i64 v6) (by rfl) (fun wq hSw => ?_) (fun wq hSw => Calls.mono (refRec_of T S N C R F K d n 0 v6 hl HD.out (by omega) (by omega) hn Hv6.out _) ?_) ?_
    · (try dsimp only at hSw); go_simp; try with_reducible rfl
    · rintro e w9 ⟨rfl, hk⟩; exact ⟨rfl, keep17 hk hs hr hSw⟩
    try simp only [Act.put, List.setIfInBounds_toArray, List.set_cons_zero, List.set_cons_succ]
    refine qstep (o := ⟨some 141, _, _, _, _, _⟩) (v := ?_) (by rfl) (fun wq hSw => ?_) ?_
    rotate_left
    · (try dsimp only at hSw); go_simp; try with_reducible rfl
    try simp only [Act.put, List.setIfInBounds_toArray, List.set_cons_zero, List.set_cons_succ]
    refine qstep (o := ⟨some 142, _, _, _, _, _⟩) (v := ?_) (by rfl) (fun wq hSw => ?_) ?_
    rotate_left
    · (try dsimp only at hSw); go_simp; try with_reducible rfl
    try simp only [Act.put, List.setIfInBounds_toArray, List.set_cons_zero, List.set_cons_succ]
    refine qstep (o := ⟨some 143, _, _, _, _, _⟩) (v := ?_) (by rfl) (fun wq hSw => ?_) ?_
    rotate_left
    · (try dsimp only at hSw); go_simp; try with_reducible rfl
    try simp only [Act.put, List.setIfInBounds_toArray, List.set_cons_zero, List.set_cons_succ]
    refine qstep (o := ⟨some 144, _, _, _, _, _⟩) (v := ?_) (by rfl) (fun wq hSw => ?_) ?_
    rotate_left
    · (try dsimp only at hSw); go_simp; try with_reducible rfl
    try simp only [Act.put, List.setIfInBounds_toArray, List.set_cons_zero, List.set_cons_succ]
    refine qstep (o := ⟨some 145, _, _, _, _, _⟩) (v := ?_) (by rfl) (fun wq hSw => ?_) ?_
    rotate_left
    · (try dsimp only at hSw); go_simp; try with_reducible rfl
    try simp only [Act.put, List.setIfInBounds_toArray, List.set_cons_zero, List.set_cons_succ]
    refine qcall (o := ⟨some 146, _, _, _, _, _⟩) (v := .int .i64 v7) (by rfl) (fun wq hSw => ?_) (fun wq hSw => Calls.mono (value_of T S N C R F K a b d n v7 hl hrc Hv7.out _) ?_) ?_
    · (try dsimp only at hSw); go_simp; try with_reducible rfl
    · rintro e w9 ⟨rfl, hk⟩; exact ⟨rfl, keep17 hk hs hr hSw⟩
    try simp only [Act.put, List.setIfInBounds_toArray, List.set_cons_zero, List.set_cons_succ]
    refine qstep (o := ⟨some 147, _, _, _, _, _⟩) (v := ?_) (by rfl) (fun wq hSw => ?_) ?_
    rotate_left
    · (try dsimp only at hSw); go_simp; try with_reducible rfl
    try simp only [Act.put, List.setIfInBounds_toArray, List.set_cons_zero, List.set_cons_succ]
    refine qstep (o := ⟨some 148, _, _, _, _, _⟩) (v := ?_) (by rfl) (fun wq hSw => ?_) ?_
    rotate_left
    · (try dsimp only at hSw); go_simp; try with_reducible rfl
    try simp only [Act.put, List.setIfInBounds_toArray, List.set_cons_zero, List.set_cons_succ]
    refine qcall (o := ⟨some 149, _, _, _, _, _⟩) (v := .int .i64 v7) (by rfl) (fun wq hSw => ?_) (fun wq hSw => Calls.mono (refRec_of T S N C R F K d n 1 v7 hl HD.out (by omega) (by omega) hn Hv7.out _) ?_) ?_
    · (try dsimp only at hSw); go_simp; try with_reducible rfl
    · rintro e w9 ⟨rfl, hk⟩; exact ⟨rfl, keep17 hk hs hr hSw⟩
    try simp only [Act.put, List.setIfInBounds_toArray, List.set_cons_zero, List.set_cons_succ]
    refine qstep (o := ⟨some 150, _, _, _, _, _⟩) (v := ?_) (by rfl) (fun wq hSw => ?_) ?_
    rotate_left
    · (try dsimp only at hSw); go_simp; try with_reducible rfl
    try simp only [Act.put, List.setIfInBounds_toArray, List.set_cons_zero, List.set_cons_succ]
    refine qstep (o := ⟨some 151, _, _, _, _, _⟩) (v := ?_) (by rfl) (fun wq hSw => ?_) ?_
    rotate_left
    · (try dsimp only at hSw); go_simp; try with_reducible rfl
    try simp only [Act.put, List.setIfInBounds_toArray, List.set_cons_zero, List.set_cons_succ]
    refine qstep (o := ⟨some 152, _, _, _, _, _⟩) (v := ?_) (by rfl) (fun wq hSw => ?_) ?_
    rotate_left
    · (try dsimp only at hSw); go_simp; try with_reducible rfl
    try simp only [Act.put, List.setIfInBounds_toArray, List.set_cons_zero, List.set_cons_succ]
    refine qstep (o := ⟨some 153, _, _, _, _, _⟩) (v := ?_) (by rfl) (fun wq hSw => ?_) ?_
    rotate_left
    · (try dsimp only at hSw); go_simp; try with_reducible rfl
    try simp only [Act.put, List.setIfInBounds_toArray, List.set_cons_zero, List.set_cons_succ]
    refine qstep (o := ⟨some 154, _, _, _, _, _⟩) (v := ?_) (by rfl) (fun wq hSw => ?_) ?_
    rotate_left
    · (try dsimp only at hSw); go_simp; try with_reducible rfl
    try simp only [Act.put, List.setIfInBounds_toArray, List.set_cons_zero, List.set_cons_succ]
    refine qcall (o := ⟨some 155, _, _, _, _, _⟩) (v := .int .i64 v8) (by rfl) (fun wq hSw => ?_) (fun wq hSw => Calls.mono (next_of T S N C R F K a b d n v8 hl hrc Hv8.out _) ?_) ?_
    · (try dsimp only at hSw); go_simp; try with_reducible rfl
    · rintro e w9 ⟨rfl, hk⟩; exact ⟨rfl, keep17 hk hs hr hSw⟩
    try simp only [Act.put, List.setIfInBounds_toArray, List.set_cons_zero, List.set_cons_succ]
    refine qstep (o := ⟨some 156, _, _, _, _, _⟩) (v := ?_) (by rfl) (fun wq hSw => ?_) ?_
    rotate_left
    · (try dsimp only at hSw); go_simp; try with_reducible rfl
    try simp only [Act.put, List.setIfInBounds_toArray, List.set_cons_zero, List.set_cons_succ]
    refine qstep (o := ⟨some 157, _, _, _, _, _⟩) (v := ?_) (by rfl) (fun wq hSw => ?_) ?_
    rotate_left
    · (try dsimp only at hSw); go_simp; try with_reducible rfl
    try simp only [Act.put, List.setIfInBounds_toArray, List.set_cons_zero, List.set_cons_succ]
    refine qcall (o := ⟨some 158, _, _, _, _, _⟩) (v := .int .i64 v8) (by rfl) (fun wq hSw => ?_) (fun wq hSw => Calls.mono (refRec_of T S N C R F K d n 2 v8 hl HD.out (by omega) (by omega) hn Hv8.out _) ?_) ?_
    · (try dsimp only at hSw); go_simp; try with_reducible rfl
    · rintro e w9 ⟨rfl, hk⟩; exact ⟨rfl, keep17 hk hs hr hSw⟩
    try simp only [Act.put, List.setIfInBounds_toArray, List.set_cons_zero, List.set_cons_succ]
    refine qstep (o := ⟨some 159, _, _, _, _, _⟩) (v := ?_) (by rfl) (fun wq hSw => ?_) ?_
    rotate_left
    · (try dsimp only at hSw); go_simp; try with_reducible rfl
    try simp only [Act.put, List.setIfInBounds_toArray, List.set_cons_zero, List.set_cons_succ]
    refine qstep (o := ⟨some 160, _, _, _, _, _⟩) (v := ?_) (by rfl) (fun wq hSw => ?_) ?_
    rotate_left
    · (try dsimp only at hSw); go_simp; try with_reducible rfl
    try simp only [Act.put, List.setIfInBounds_toArray, List.set_cons_zero, List.set_cons_succ]
    refine wpQuiet_nil ?_
    intro wz hHeld
    clear x0 x1 x2 x3 x4 x5 x6 x7 x8 x9
    clear y0 y1 y2 y3 y4 y5 y6
    have hk := hHeld.1
    replace HL := Lib.hid (hk.blk HL.out id)
    replace HC := Lib.hid (hk.blk HC.out id)
    replace HK : Hid (Kept (fun _ => False) w wz) := Lib.hid (HK.out.trans hk (fun _ _ h => h))
    clear hk hHeld hs hr
    have y0 := HC.out.cell (i := 0) rfl
    have y1 := HC.out.cell (i := 1) rfl
    have y2 := HC.out.cell (i := 2) rfl
    have y3 := HC.out.cell (i := 3) rfl
    have y4 := HC.out.cell (i := 4) rfl
    have y5 := HC.out.cell (i := 5) rfl
    have y6 := HC.out.cell (i := 6) rfl
    by_cases q1 : 0 ≤ i
    · by_cases q2 : i < F
      · skip
        have hv : nodeAt N F a n (4 + i) = v9 := by have := Hv9.out; unfold slotAt at this; rwa [if_pos ⟨q1, q2⟩] at this
        have HV := Lib.hid hv
        clear hv
        go_wp2_with fail
        refine (refNode_of T S N C R F K a n (4 + i) v9 hl HA.out (by omega) (by omega) hn HV.out _).mono ?_; rintro e w7 ⟨rfl, hk⟩
        clear y0 y1 y2 y3 y4 y5 y6
        replace HL := Lib.hid (hk.blk HL.out id)
        replace HC := Lib.hid (hk.blk HC.out id)
        replace HK : Hid (Kept (fun _ => False) w w7) := Lib.hid (HK.out.trans hk (fun _ _ h => h))
        clear hk
        have x0 := HL.out.cell (i := 0) rfl
        have x1 := HL.out.cell (i := 1) rfl
        have x2 := HL.out.cell (i := 2) rfl
        have x3 := HL.out.cell (i := 3) rfl
        have x4 := HL.out.cell (i := 4) rfl
        have x5 := HL.out.cell (i := 5) rfl
        have x6 := HL.out.cell (i := 6) rfl
        have x7 := HL.out.cell (i := 7) rfl
        have x8 := HL.out.cell (i := 8) rfl
        have x9 := HL.out.cell (i := 9) rfl
        go_wp2_with fail
        refine (slot_of T S N C R F K a b d n i v9 hl hrc Hv9.out _).mono ?_; rintro e w8 ⟨rfl, hk⟩
        clear x0 x1 x2 x3 x4 x5 x6 x7 x8 x9
        replace HL := Lib.hid (hk.blk HL.out id)
        replace HC := Lib.hid (hk.blk HC.out id)
        replace HK : Hid (Kept (fun _ => False) w w8) := Lib.hid (HK.out.trans hk (fun _ _ h => h))
        clear hk
        have y0 := HC.out.cell (i := 0) rfl
        have y1 := HC.out.cell (i := 1) rfl
        have y2 := HC.out.cell (i := 2) rfl
        have y3 := HC.out.cell (i := 3) rfl
        have y4 := HC.out.cell (i := 4) rfl
        have y5 := HC.out.cell (i := 5) rfl
        have y6 := HC.out.cell (i := 6) rfl
        have gt1 := HT.out.t1
        have gt2 := HT.out.t2
        have gs1 := HT.out.s1
        have gs2 := HT.out.s2
        have gn1 := HT.out.n1
        have gn2 := HT.out.n2
        obtain ⟨t1, ht1, _, _⟩ := emod_ex t (T + 1) (by omega)
        obtain ⟨j1, hj1, _, _⟩ := emod_ex j (S + 1) (by omega)
        obtain ⟨i1, hi1, _, _⟩ := emod_ex i (F + 1) (by omega)
        have HT1 := Lib.hid ht1
        have HJ1 := Lib.hid hj1
        have HI1 := Lib.hid hi1
        clear ht1 hj1 hi1
        obtain ⟨n1, p1, _, n10, n11⟩ := tmod_ex n (N + 2) hn (by omega)
        have e1 : IntKind.i64.wrap (T + 1) = T + 1 := IntWalk.i64_in _ (by omega)
        have e2 : IntKind.i64.wrap (S + 1) = S + 1 := IntWalk.i64_in _ (by omega)
        have e3 : IntKind.i64.wrap (F + 1) = F + 1 := IntWalk.i64_in _ (by omega)
        have e4 : IntKind.i64.wrap (N + 2) = N + 2 := IntWalk.i64_in _ (by omega)
        have e5 : IntKind.u64.wrap (N + 2) = N + 2 := IntWalk.u64_in _ (by omega)
        have e6 : IntKind.u64.wrap n1 = n1 := IntWalk.u64_in _ (by omega)
        go_wp2_with fail
        go_quiet ((go_at_call 39; (first | (with_reducible exact Calls.still (mod_to t (T + 1) t1 _ (by omega) (by omega) HT1.out)) | (with_reducible exact Calls.still (mod_to j (S + 1) j1 _ (by omega) (by omega) HJ1.out)) | (with_reducible exact Calls.still (mod_to i (F + 1) i1 _ (by omega) (by omega) HI1.out)))))
        clear y0 y1 y2 y3 y4 y5 y6
        clear e1 e2 e3 e4 e5 e6 p1
        replace HL : Hid (Blk (w8.drewN nq) s 27 [.int .i64 T, .int .i64 S, .int .i64 N, .int .i64 C, .int .i64 R, .int .i64 F, .int .u64 K, .int .i64 a, .int .i64 b, .int .i64 d]) := Lib.hid HL.out
        replace HC : Hid (Blk (w8.drewN nq) r 24 [.int .i64 T, .int .i64 S, .int .i64 N, .int .i64 C, .int .i64 R, .int .i64 F, .int .u64 K]) := Lib.hid HC.out
        replace HK : Hid (Kept (fun _ => False) w (w8.drewN nq)) := Lib.hid (HK.out.drewN _)
        generalize (w8.drewN nq) = w9 at *
        go_wp2
        go_roundw
        case rel => exact ⟨k + 1, t1, j1, i1, n1, by omega, by go_num, rfl, rfl, rfl, rfl, n10, HL.out, HC.out, HK.out⟩
        case measure => simp [intOf]; omega
      · have q3 : decide (i < F) = false := decide_eq_false q2
        have hv : v9 = -1 := by rw [← Hv9.out]; unfold slotAt; rw [if_neg (by omega)]
        subst hv
        have x0 := HL.out.cell (i := 0) rfl
        have x1 := HL.out.cell (i := 1) rfl
        have x2 := HL.out.cell (i := 2) rfl
        have x3 := HL.out.cell (i := 3) rfl
        have x4 := HL.out.cell (i := 4) rfl
        have x5 := HL.out.cell (i := 5) rfl
        have x6 := HL.out.cell (i := 6) rfl
        have x7 := HL.out.cell (i := 7) rfl
        have x8 := HL.out.cell (i := 8) rfl
        have x9 := HL.out.cell (i := 9) rfl
        go_wp2_with fail
        refine (slot_of T S N C R F K a b d n i (-1) hl hrc Hv9.out _).mono ?_; rintro e w8 ⟨rfl, hk⟩
        clear x0 x1 x2 x3 x4 x5 x6 x7 x8 x9
        clear y0 y1 y2 y3 y4 y5 y6
        replace HL := Lib.hid (hk.blk HL.out id)
        replace HC := Lib.hid (hk.blk HC.out id)
        replace HK : Hid (Kept (fun _ => False) w w8) := Lib.hid (HK.out.trans hk (fun _ _ h => h))
        clear hk
        have y0 := HC.out.cell (i := 0) rfl
        have y1 := HC.out.cell (i := 1) rfl
        have y2 := HC.out.cell (i := 2) rfl
        have y3 := HC.out.cell (i := 3) rfl
        have y4 := HC.out.cell (i := 4) rfl
        have y5 := HC.out.cell (i := 5) rfl
        have y6 := HC.out.cell (i := 6) rfl
        have gt1 := HT.out.t1
        have gt2 := HT.out.t2
        have gs1 := HT.out.s1
        have gs2 := HT.out.s2
        have gn1 := HT.out.n1
        have gn2 := HT.out.n2
        obtain ⟨t1, ht1, _, _⟩ := emod_ex t (T + 1) (by omega)
        obtain ⟨j1, hj1, _, _⟩ := emod_ex j (S + 1) (by omega)
        obtain ⟨i1, hi1, _, _⟩ := emod_ex i (F + 1) (by omega)
        have HT1 := Lib.hid ht1
        have HJ1 := Lib.hid hj1
        have HI1 := Lib.hid hi1
        clear ht1 hj1 hi1
        obtain ⟨n1, p1, _, n10, n11⟩ := tmod_ex n (N + 2) hn (by omega)
        have e1 : IntKind.i64.wrap (T + 1) = T + 1 := IntWalk.i64_in _ (by omega)
        have e2 : IntKind.i64.wrap (S + 1) = S + 1 := IntWalk.i64_in _ (by omega)
        have e3 : IntKind.i64.wrap (F + 1) = F + 1 := IntWalk.i64_in _ (by omega)
        have e4 : IntKind.i64.wrap (N + 2) = N + 2 := IntWalk.i64_in _ (by omega)
        have e5 : IntKind.u64.wrap (N + 2) = N + 2 := IntWalk.u64_in _ (by omega)
        have e6 : IntKind.u64.wrap n1 = n1 := IntWalk.u64_in _ (by omega)
        go_wp2_with fail
        go_quiet ((go_at_call 39; (first | (with_reducible exact Calls.still (mod_to t (T + 1) t1 _ (by omega) (by omega) HT1.out)) | (with_reducible exact Calls.still (mod_to j (S + 1) j1 _ (by omega) (by omega) HJ1.out)) | (with_reducible exact Calls.still (mod_to i (F + 1) i1 _ (by omega) (by omega) HI1.out)))))
        clear y0 y1 y2 y3 y4 y5 y6
        clear e1 e2 e3 e4 e5 e6 p1
        replace HL : Hid (Blk (w8.drewN nq) s 27 [.int .i64 T, .int .i64 S, .int .i64 N, .int .i64 C, .int .i64 R, .int .i64 F, .int .u64 K, .int .i64 a, .int .i64 b, .int .i64 d]) := Lib.hid HL.out
        replace HC : Hid (Blk (w8.drewN nq) r 24 [.int .i64 T, .int .i64 S, .int .i64 N, .int .i64 C, .int .i64 R, .int .i64 F, .int .u64 K]) := Lib.hid HC.out
        replace HK : Hid (Kept (fun _ => False) w (w8.drewN nq)) := Lib.hid (HK.out.drewN _)
        generalize (w8.drewN nq) = w9 at *
        go_wp2
        go_roundw
        case rel => exact ⟨k + 1, t1, j1, i1, n1, by omega, by go_num, rfl, rfl, rfl, rfl, n10, HL.out, HC.out, HK.out⟩
        case measure => simp [intOf]; omega
    · have q3 : decide (0 ≤ i) = false := decide_eq_false q1
      have hv : v9 = -1 := by rw [← Hv9.out]; unfold slotAt; rw [if_neg (by omega)]
      subst hv
      have x0 := HL.out.cell (i := 0) rfl
      have x1 := HL.out.cell (i := 1) rfl
      have x2 := HL.out.cell (i := 2) rfl
      have x3 := HL.out.cell (i := 3) rfl
      have x4 := HL.out.cell (i := 4) rfl
      have x5 := HL.out.cell (i := 5) rfl
      have x6 := HL.out.cell (i := 6) rfl
      have x7 := HL.out.cell (i := 7) rfl
      have x8 := HL.out.cell (i := 8) rfl
      have x9 := HL.out.cell (i := 9) rfl
      go_wp2_with fail
      refine (slot_of T S N C R F K a b d n i (-1) hl hrc Hv9.out _).mono ?_; rintro e w8 ⟨rfl, hk⟩
      clear x0 x1 x2 x3 x4 x5 x6 x7 x8 x9
      clear y0 y1 y2 y3 y4 y5 y6
      replace HL := Lib.hid (hk.blk HL.out id)
      replace HC := Lib.hid (hk.blk HC.out id)
      replace HK : Hid (Kept (fun _ => False) w w8) := Lib.hid (HK.out.trans hk (fun _ _ h => h))
      clear hk
      have y0 := HC.out.cell (i := 0) rfl
      have y1 := HC.out.cell (i := 1) rfl
      have y2 := HC.out.cell (i := 2) rfl
      have y3 := HC.out.cell (i := 3) rfl
      have y4 := HC.out.cell (i := 4) rfl
      have y5 := HC.out.cell (i := 5) rfl
      have y6 := HC.out.cell (i := 6) rfl
      have gt1 := HT.out.t1
      have gt2 := HT.out.t2
      have gs1 := HT.out.s1
      have gs2 := HT.out.s2
      have gn1 := HT.out.n1
      have gn2 := HT.out.n2
      obtain ⟨t1, ht1, _, _⟩ := emod_ex t (T + 1) (by omega)
      obtain ⟨j1, hj1, _, _⟩ := emod_ex j (S + 1) (by omega)
      obtain ⟨i1, hi1, _, _⟩ := emod_ex i (F + 1) (by omega)
      have HT1 := Lib.hid ht1
      have HJ1 := Lib.hid hj1
      have HI1 := Lib.hid hi1
      clear ht1 hj1 hi1
      obtain ⟨n1, p1, _, n10, n11⟩ := tmod_ex n (N + 2) hn (by omega)
      have e1 : IntKind.i64.wrap (T + 1) = T + 1 := IntWalk.i64_in _ (by omega)
      have e2 : IntKind.i64.wrap (S + 1) = S + 1 := IntWalk.i64_in _ (by omega)
      have e3 : IntKind.i64.wrap (F + 1) = F + 1 := IntWalk.i64_in _ (by omega)
      have e4 : IntKind.i64.wrap (N + 2) = N + 2 := IntWalk.i64_in _ (by omega)
      have e5 : IntKind.u64.wrap (N + 2) = N + 2 := IntWalk.u64_in _ (by omega)
      have e6 : IntKind.u64.wrap n1 = n1 := IntWalk.u64_in _ (by omega)
      go_wp2_with fail
      go_quiet ((go_at_call 39; (first | (with_reducible exact Calls.still (mod_to t (T + 1) t1 _ (by omega) (by omega) HT1.out)) | (with_reducible exact Calls.still (mod_to j (S + 1) j1 _ (by omega) (by omega) HJ1.out)) | (with_reducible exact Calls.still (mod_to i (F + 1) i1 _ (by omega) (by omega) HI1.out)))))
      clear y0 y1 y2 y3 y4 y5 y6
      clear e1 e2 e3 e4 e5 e6 p1
      replace HL : Hid (Blk (w8.drewN nq) s 27 [.int .i64 T, .int .i64 S, .int .i64 N, .int .i64 C, .int .i64 R, .int .i64 F, .int .u64 K, .int .i64 a, .int .i64 b, .int .i64 d]) := Lib.hid HL.out
      replace HC : Hid (Blk (w8.drewN nq) r 24 [.int .i64 T, .int .i64 S, .int .i64 N, .int .i64 C, .int .i64 R, .int .i64 F, .int .u64 K]) := Lib.hid HC.out
      replace HK : Hid (Kept (fun _ => False) w (w8.drewN nq)) := Lib.hid (HK.out.drewN _)
      generalize (w8.drewN nq) = w9 at *
      go_wp2
      go_roundw
      case rel => exact ⟨k + 1, t1, j1, i1, n1, by omega, by go_num, rfl, rfl, rfl, rfl, n10, HL.out, HC.out, HK.out⟩
      case measure => simp [intOf]; omega

end Go.Proofs.Ytfbfhlolnooipaa
