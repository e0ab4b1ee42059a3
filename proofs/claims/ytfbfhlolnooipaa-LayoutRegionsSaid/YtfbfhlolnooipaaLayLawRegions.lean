/-
  The statement of layer 3 'snapshots, nodes, chains and records follow each other, the parts of a node lie together': it returns true for every configuration and all numbers; nothing that was there is written. Condition: none.
-/
import Derived.Test.YtfbfhlolnooipaaLayLetters
import Derived.Test.YtfbfhlolnooipaaKeptRegion
import Derived.Test.YtfbfhlolnooipaaLayLex
import Derived.Deep.DeepCutAuto
namespace Go.Proofs.Ytfbfhlolnooipaa
open Go.RowKit Go.Deep
set_option linter.unusedVariables false

set_option maxRecDepth 100000 in
set_option maxHeartbeats 4000000 in
theorem lawRegions_all (T0 S0 N0 C0 R0 F0 K0 : Int) (h0 : 0 ≤ K0) (t0 j0 i0 n0 c0 r0 : Int) (hn0 : 0 ≤ n0) (hc0 : 0 ≤ c0) (hr0 : 0 ≤ r0) (w : World) :
    Calls Try.prog 7 #[.agg #[.int .i64 T0, .int .i64 S0, .int .i64 N0, .int .i64 C0, .int .i64 R0, .int .i64 F0, .int .u64 K0], .int .i64 t0, .int .i64 j0, .int .i64 i0, .int .u64 n0, .int .u64 c0, .int .u64 r0] w fun e w' => e = .returned (.bool true) ∧ Below w.heap.size w w' := by
  go_enter Try.func7, Try.ntmps7
  go_wp2_with fail
  have HK := Lib.hid ((Kept.refl (fun _ => False) w).alloc (.cells #[.int .i64 T0, .int .i64 S0, .int .i64 N0, .int .i64 C0, .int .i64 R0, .int .i64 F0, .int .u64 K0] 24))
  generalize w.alloc (.cells #[.int .i64 T0, .int .i64 S0, .int .i64 N0, .int .i64 C0, .int .i64 R0, .int .i64 F0, .int .u64 K0] 24) = W0 at *
  refine (small_of T0 S0 N0 C0 R0 F0 K0 h0 _).mono ?_; rintro e w1 ⟨T, S, N, C, R, F, K, rfl, hT, hk⟩
  replace HK : Hid (Kept (fun _ => False) w w1) := Lib.hid (HK.out.trans hk (fun _ _ h => h))
  clear hk
  have hl := hT.lim
  have hk1 := hT.k1
  have hk2 : K ≤ 1099511627776 := by have := hT.k2; omega
  obtain ⟨a, ha⟩ : ∃ x, firstNode T S = x := ⟨_, rfl⟩
  obtain ⟨b, hb⟩ : ∃ x, firstChain T S N F = x := ⟨_, rfl⟩
  obtain ⟨d, hd⟩ : ∃ x, firstRecord T S N C F = x := ⟨_, rfl⟩
  have hrc := hl.reach
  rw [ha, hb, hd] at hrc
  have HA := Lib.hid ha
  have HB := Lib.hid hb
  have HD := Lib.hid hd
  have HT := Lib.hid hT
  clear ha hb hd hT
  go_wp2_with fail
  have HC := Lib.hid (Blk.new w1 [.int .i64 T, .int .i64 S, .int .i64 N, .int .i64 C, .int .i64 R, .int .i64 F, .int .u64 K] 24)
  replace HK := Lib.hid (HK.out.alloc (.cells #[.int .i64 T, .int .i64 S, .int .i64 N, .int .i64 C, .int .i64 R, .int .i64 F, .int .u64 K] 24))
  generalize w1.alloc (.cells #[.int .i64 T, .int .i64 S, .int .i64 N, .int .i64 C, .int .i64 R, .int .i64 F, .int .u64 K] 24) = W1 at *
  generalize hss : w1.heap.size = r at *
  have HRR := Lib.hid hss
  clear hss
  refine (new_to T S N C R F K a b d hl hk1 hk2 HA.out HB.out HD.out _).mono ?_; rintro e w2 ⟨rfl, hk⟩
  replace HC := Lib.hid (hk.blk HC.out id)
  replace HK : Hid (Kept (fun _ => False) w w2) := Lib.hid (HK.out.trans hk (fun _ _ h => h))
  clear hk
  go_wp2_with fail
  replace HC := Lib.hid (HC.out.alloc (.cells #[.int .i64 T, .int .i64 S, .int .i64 N, .int .i64 C, .int .i64 R, .int .i64 F, .int .u64 K, .int .i64 a, .int .i64 b, .int .i64 d] 27))
  have HL := Lib.hid (Blk.new w2 [.int .i64 T, .int .i64 S, .int .i64 N, .int .i64 C, .int .i64 R, .int .i64 F, .int .u64 K, .int .i64 a, .int .i64 b, .int .i64 d] 27)
  replace HK := Lib.hid (HK.out.alloc (.cells #[.int .i64 T, .int .i64 S, .int .i64 N, .int .i64 C, .int .i64 R, .int .i64 F, .int .u64 K, .int .i64 a, .int .i64 b, .int .i64 d] 27))
  generalize w2.alloc (.cells #[.int .i64 T, .int .i64 S, .int .i64 N, .int .i64 C, .int .i64 R, .int .i64 F, .int .u64 K, .int .i64 a, .int .i64 b, .int .i64 d] 27) = W at *
  generalize hss : w2.heap.size = s at *
  have HSS := Lib.hid hss
  clear hss
  refine (awake_any _).mono ?_; rintro e w3 ⟨rfl, hk⟩
  replace HL := Lib.hid (hk.blk HL.out id)
  replace HC := Lib.hid (hk.blk HC.out id)
  replace HK : Hid (Kept (fun _ => False) w w3) := Lib.hid (HK.out.trans hk (fun _ _ h => h))
  clear hk
  have y0 := HC.out.cell (i := 0) rfl
  have y1 := HC.out.cell (i := 1) rfl
  have y2 := HC.out.cell (i := 2) rfl
  have y3 := HC.out.cell (i := 3) rfl
  have y4 := HC.out.cell (i := 4) rfl
  have y5 := HC.out.cell (i := 5) rfl
  have y6 := HC.out.cell (i := 6) rfl
  go_wp2_with fail
  have hF1 : 1 ≤ F := Int.le_trans (by omega) HT.out.f1
  obtain ⟨t, ht, t0', t1'⟩ := emod_ex t0 T HT.out.t1
  have Htm := Lib.hid ht
  clear ht
  obtain ⟨j, hj, j0', j1'⟩ := emod_ex j0 S HT.out.s1
  have Hjm := Lib.hid hj
  clear hj
  obtain ⟨i, hi, i0', i1'⟩ := emod_ex i0 F hF1
  have Him := Lib.hid hi
  clear hi
  have ht1 := HT.out.t1
  have ht2 := HT.out.t2
  have hs1 := HT.out.s1
  have hs2 := HT.out.s2
  have hf1 := HT.out.f1
  have hf2 := HT.out.f2
  have hn1 := HT.out.n1
  have hn2 := HT.out.n2
  have hc1 := HT.out.c1
  have hc2 := HT.out.c2
  have hr1 := HT.out.r1
  have hr2 := HT.out.r2
  go_quiet ((go_at_call 39; (first | (with_reducible exact Calls.still (mod_to t0 T t _ (by omega) (by omega) Htm.out)) | (with_reducible exact Calls.still (mod_to j0 S j _ (by omega) (by omega) Hjm.out)) | (with_reducible exact Calls.still (mod_to i0 F i _ (by omega) (by omega) Him.out)))))
  clear y0 y1 y2 y3 y4 y5 y6
  replace HL : Hid (Blk (w3.drewN nq) s 27 [.int .i64 T, .int .i64 S, .int .i64 N, .int .i64 C, .int .i64 R, .int .i64 F, .int .u64 K, .int .i64 a, .int .i64 b, .int .i64 d]) := Lib.hid HL.out
  replace HC : Hid (Blk (w3.drewN nq) r 24 [.int .i64 T, .int .i64 S, .int .i64 N, .int .i64 C, .int .i64 R, .int .i64 F, .int .u64 K]) := Lib.hid HC.out
  replace HK : Hid (Kept (fun _ => False) w (w3.drewN nq)) := Lib.hid (HK.out.drewN _)
  generalize (w3.drewN nq) = w4 at *
  have y0 := HC.out.cell (i := 0) rfl
  have y1 := HC.out.cell (i := 1) rfl
  have y2 := HC.out.cell (i := 2) rfl
  have y3 := HC.out.cell (i := 3) rfl
  have y4 := HC.out.cell (i := 4) rfl
  have y5 := HC.out.cell (i := 5) rfl
  have y6 := HC.out.cell (i := 6) rfl
  obtain ⟨mn, pn, _, n0', n1'⟩ := tmod_ex n0 N hn0 hn1
  have qn : IntKind.u64.wrap mn = mn := IntWalk.u64_in _ (by omega)
  have on : IntKind.u64.wrap (1 + mn) = 1 + mn := IntWalk.u64_in _ (by omega)
  have zn : IntKind.u64.wrap N = N := IntWalk.u64_in _ (by omega)
  obtain ⟨mc, pc, _, c0', c1'⟩ := tmod_ex c0 C hc0 hc1
  have qc : IntKind.u64.wrap mc = mc := IntWalk.u64_in _ (by omega)
  have oc : IntKind.u64.wrap (1 + mc) = 1 + mc := IntWalk.u64_in _ (by omega)
  have zc : IntKind.u64.wrap C = C := IntWalk.u64_in _ (by omega)
  obtain ⟨mr, pr, _, r0', r1'⟩ := tmod_ex r0 R hr0 hr1
  have qr : IntKind.u64.wrap mr = mr := IntWalk.u64_in _ (by omega)
  have or : IntKind.u64.wrap (1 + mr) = 1 + mr := IntWalk.u64_in _ (by omega)
  have zr : IntKind.u64.wrap R = R := IntWalk.u64_in _ (by omega)
  go_wp2_with fail
  go_quiet (fail)
  clear y0 y1 y2 y3 y4 y5 y6
  replace HL : Hid (Blk (w4.drewN nq) s 27 [.int .i64 T, .int .i64 S, .int .i64 N, .int .i64 C, .int .i64 R, .int .i64 F, .int .u64 K, .int .i64 a, .int .i64 b, .int .i64 d]) := Lib.hid HL.out
  replace HC : Hid (Blk (w4.drewN nq) r 24 [.int .i64 T, .int .i64 S, .int .i64 N, .int .i64 C, .int .i64 R, .int .i64 F, .int .u64 K]) := Lib.hid HC.out
  replace HK : Hid (Kept (fun _ => False) w (w4.drewN nq)) := Lib.hid (HK.out.drewN _)
  generalize (w4.drewN nq) = w5 at *
  obtain ⟨sn, la, ch, st, hE⟩ := rows_of hl t0' t1' j0' j1' i0' i1' (n := 1 + mn) (by omega) (by omega) (c := 1 + mc) (by omega) (by omega) (r := 1 + mr) (by omega) (by omega)
  rw [HA.out, HB.out, HD.out] at hE
  clear pn qn on zn
  clear pc qc oc zc
  clear pr qr or zr
  have v1 := hE.sn0
  have v2 := hE.sn1
  have v3 := hE.la0
  have v4 := hE.ch0
  have v5 := hE.ch1
  have v6 := hE.st0
  have v7 := hE.st1
  have HE := Lib.hid hE
  clear hE HC
  have x0 := HL.out.cell (i := 0) rfl
  have x1 := HL.out.cell (i := 1) rfl
  have x2 := HL.out.cell (i := 2) rfl
  have x3 := HL.out.cell (i := 3) rfl
  have x4 := HL.out.cell (i := 4) rfl
  have x5 := HL.out.cell (i := 5) rfl
  have x6 := HL.out.cell (i := 6) rfl
  have x7 := HL.out.cell (i := 7) rfl
  have x8 := HL.out.cell (i := 8) rfl
  have x9 := HL.out.cell (i := 9) rfl
  go_wp2_with fail
  refine (latch_of T S N C R F K a b d (1 + mn) la hl hrc HE.out.e2 _).mono ?_; rintro e u0 ⟨rfl, hk⟩
  clear x0 x1 x2 x3 x4 x5 x6 x7 x8 x9
  have hB : Blk u0 s 27 [.int .i64 T, .int .i64 S, .int .i64 N, .int .i64 C, .int .i64 R, .int .i64 F, .int .u64 K, .int .i64 a, .int .i64 b, .int .i64 d] := hk.blk HL.out id
  replace HL := Lib.hid hB
  clear hB
  have x0 := HL.out.cell (i := 0) rfl
  have x1 := HL.out.cell (i := 1) rfl
  have x2 := HL.out.cell (i := 2) rfl
  have x3 := HL.out.cell (i := 3) rfl
  have x4 := HL.out.cell (i := 4) rfl
  have x5 := HL.out.cell (i := 5) rfl
  have x6 := HL.out.cell (i := 6) rfl
  have x7 := HL.out.cell (i := 7) rfl
  have x8 := HL.out.cell (i := 8) rfl
  have x9 := HL.out.cell (i := 9) rfl
  replace HK : Hid (Kept (fun _ => False) w u0) := Lib.hid (HK.out.trans hk (fun _ _ h => h))
  clear hk
  go_wp2_with fail
  have hr : s < u0.heap.size := HL.out.lt
  have ela1 : IntKind.i64.wrap (la + 1) = la + 1 := IntWalk.i64_in _ (by omega)
  have ela2 : IntKind.i64.wrap (la + 2) = la + 2 := IntWalk.i64_in _ (by omega)
  have ela3 : IntKind.i64.wrap (la + 3) = la + 3 := IntWalk.i64_in _ (by omega)
  have ela4 : IntKind.i64.wrap (la + 4) = la + 4 := IntWalk.i64_in _ (by omega)
  have ela4i : IntKind.i64.wrap (la + 4 + i) = la + 4 + i := IntWalk.i64_in _ (by omega)
  have est1 : IntKind.i64.wrap (st + 1) = st + 1 := IntWalk.i64_in _ (by omega)
  have est2 : IntKind.i64.wrap (st + 2) = st + 2 := IntWalk.i64_in _ (by omega)
  have b0 : decide (7 < sn) = true := decide_eq_true (by omega)
  have b1 : decide (sn < la) = true := decide_eq_true (by omega)
  have b2 : decide (la + 4 + i < ch) = true := decide_eq_true (by omega)
  have b3 : decide (ch < st) = true := decide_eq_true (by omega)
  have b4 : decide (st + 2 < d + R * 3) = true := decide_eq_true (by omega)
  refine qregion (fun w' => Kept (fun _ => False) u0 w' ∧ w'.cell? ⟨s, 0, none⟩ = some (.int .i64 T) ∧ w'.cell? ⟨s, 1, none⟩ = some (.int .i64 S) ∧ w'.cell? ⟨s, 2, none⟩ = some (.int .i64 N) ∧ w'.cell? ⟨s, 3, none⟩ = some (.int .i64 C) ∧ w'.cell? ⟨s, 4, none⟩ = some (.int .i64 R) ∧ w'.cell? ⟨s, 5, none⟩ = some (.int .i64 F) ∧ w'.cell? ⟨s, 6, none⟩ = some (.int .u64 K) ∧ w'.cell? ⟨s, 7, none⟩ = some (.int .i64 a) ∧ w'.cell? ⟨s, 8, none⟩ = some (.int .i64 b) ∧ w'.cell? ⟨s, 9, none⟩ = some (.int .i64 d)) (by kernel_rfl) (lexOf lexRegions8 (by kernel_rfl)) ⟨(Kept.refl _ _).drew, x0, x1, x2, x3, x4, x5, x6, x7, x8, x9⟩ ?_
  refine qstep (o := ⟨some 65, _, _, _, _, _⟩) (v := ?_) (by rfl) (fun wq hSw => ?_) ?_
  rotate_left
  · (try dsimp only at hSw); go_simp; try with_reducible rfl
  try simp only [Act.put, List.setIfInBounds_toArray, List.set_cons_zero, List.set_cons_succ]
  refine qstep (o := ⟨some 66, _, _, _, _, _⟩) (v := ?_) (by rfl) (fun wq hSw => ?_) ?_
  rotate_left
  · (try dsimp only at hSw); go_simp; try with_reducible rfl
  try simp only [Act.put, List.setIfInBounds_toArray, List.set_cons_zero, List.set_cons_succ]
  refine qstep (o := ⟨some 67, _, _, _, _, _⟩) (v := ?_) (by rfl) (fun wq hSw => ?_) ?_
  rotate_left
  · (try dsimp only at hSw); go_simp; try with_reducible rfl
  try simp only [Act.put, List.setIfInBounds_toArray, List.set_cons_zero, List.set_cons_succ]
  refine qcall (o := ⟨some 68, _, _, _, _, _⟩) (v := .int .i64 sn) (by rfl) (fun wq hSw => ?_) (fun wq hSw => Calls.mono (snap_of T S N C R F K a b d t j sn hl hrc HE.out.e1 _) ?_) ?_
  · (try dsimp only at hSw); go_simp; try with_reducible rfl
  · rintro e w9 ⟨rfl, hk⟩; exact ⟨rfl, keep10 hk hr hSw⟩
  try simp only [Act.put, List.setIfInBounds_toArray, List.set_cons_zero, List.set_cons_succ]
  refine qstep (o := ⟨some 69, _, _, _, _, _⟩) (v := ?_) (by rfl) (fun wq hSw => ?_) ?_
  rotate_left
  · (try dsimp only at hSw); go_simp; try with_reducible rfl
  try simp only [Act.put, List.setIfInBounds_toArray, List.set_cons_zero, List.set_cons_succ]
  refine qstep (o := ⟨some 70, _, _, _, _, _⟩) (v := ?_) (by rfl) (fun wq hSw => ?_) ?_
  rotate_left
  · (try dsimp only at hSw); go_simp; try with_reducible rfl
  try simp only [Act.put, List.setIfInBounds_toArray, List.set_cons_zero, List.set_cons_succ]
  refine qstep (o := ⟨some 71, _, _, _, _, _⟩) (v := ?_) (by rfl) (fun wq hSw => ?_) ?_
  rotate_left
  · (try dsimp only at hSw); go_simp; try with_reducible rfl
  try simp only [Act.put, List.setIfInBounds_toArray, List.set_cons_zero, List.set_cons_succ]
  refine qstep (o := ⟨some 72, _, _, _, _, _⟩) (v := ?_) (by rfl) (fun wq hSw => ?_) ?_
  rotate_left
  · (try dsimp only at hSw); go_simp; try with_reducible rfl
  try simp only [Act.put, List.setIfInBounds_toArray, List.set_cons_zero, List.set_cons_succ]
  refine qstep (o := ⟨some 73, _, _, _, _, _⟩) (v := ?_) (by rfl) (fun wq hSw => ?_) ?_
  rotate_left
  · (try dsimp only at hSw); go_simp; try with_reducible rfl
  try simp only [Act.put, List.setIfInBounds_toArray, List.set_cons_zero, List.set_cons_succ]
  refine qcall (o := ⟨some 74, _, _, _, _, _⟩) (v := .int .i64 sn) (by rfl) (fun wq hSw => ?_) (fun wq hSw => Calls.mono (snap_of T S N C R F K a b d t j sn hl hrc HE.out.e1 _) ?_) ?_
  · (try dsimp only at hSw); go_simp; try with_reducible rfl
  · rintro e w9 ⟨rfl, hk⟩; exact ⟨rfl, keep10 hk hr hSw⟩
  try simp only [Act.put, List.setIfInBounds_toArray, List.set_cons_zero, List.set_cons_succ]
  refine qstep (o := ⟨some 75, _, _, _, _, _⟩) (v := ?_) (by rfl) (fun wq hSw => ?_) ?_
  rotate_left
  · (try dsimp only at hSw); go_simp; try with_reducible rfl
  try simp only [Act.put, List.setIfInBounds_toArray, List.set_cons_zero, List.set_cons_succ]
  refine qstep (o := ⟨some 76, _, _, _, _, _⟩) (v := ?_) (by rfl) (fun wq hSw => ?_) ?_
  rotate_left
  · (try dsimp only at hSw); go_simp; try with_reducible rfl
  try simp only [Act.put, List.setIfInBounds_toArray, List.set_cons_zero, List.set_cons_succ]
  refine qstep (o := ⟨some 77, _, _, _, _, _⟩) (v := ?_) (by rfl) (fun wq hSw => ?_) ?_
  rotate_left
  · (try dsimp only at hSw); go_simp; try with_reducible rfl
  try simp only [Act.put, List.setIfInBounds_toArray, List.set_cons_zero, List.set_cons_succ]
  refine qstep (o := ⟨some 78, _, _, _, _, _⟩) (v := ?_) (by rfl) (fun wq hSw => ?_) ?_
  rotate_left
  · (try dsimp only at hSw); go_simp; try with_reducible rfl
  try simp only [Act.put, List.setIfInBounds_toArray, List.set_cons_zero, List.set_cons_succ]
  refine qstep (o := ⟨some 79, _, _, _, _, _⟩) (v := ?_) (by rfl) (fun wq hSw => ?_) ?_
  rotate_left
  · (try dsimp only at hSw); go_simp; try with_reducible rfl
  try simp only [Act.put, List.setIfInBounds_toArray, List.set_cons_zero, List.set_cons_succ]
  refine qstep (o := ⟨some 80, _, _, _, _, _⟩) (v := ?_) (by rfl) (fun wq hSw => ?_) ?_
  rotate_left
  · (try dsimp only at hSw); go_simp; try with_reducible rfl
  try simp only [Act.put, List.setIfInBounds_toArray, List.set_cons_zero, List.set_cons_succ]
  refine qcall (o := ⟨some 81, _, _, _, _, _⟩) (v := .int .i64 (la + 1)) (by rfl) (fun wq hSw => ?_) (fun wq hSw => Calls.mono (head_of T S N C R F K a b d (1 + mn) (la + 1) hl hrc HE.out.e3 _) ?_) ?_
  · (try dsimp only at hSw); go_simp; try with_reducible rfl
  · rintro e w9 ⟨rfl, hk⟩; exact ⟨rfl, keep10 hk hr hSw⟩
  try simp only [Act.put, List.setIfInBounds_toArray, List.set_cons_zero, List.set_cons_succ]
  refine qstep (o := ⟨some 82, _, _, _, _, _⟩) (v := ?_) (by rfl) (fun wq hSw => ?_) ?_
  rotate_left
  · (try dsimp only at hSw); go_simp; try with_reducible rfl
  try simp only [Act.put, List.setIfInBounds_toArray, List.set_cons_zero, List.set_cons_succ]
  refine qstep (o := ⟨some 83, _, _, _, _, _⟩) (v := ?_) (by rfl) (fun wq hSw => ?_) ?_
  rotate_left
  · (try dsimp only at hSw); go_simp; try with_reducible rfl
  try simp only [Act.put, List.setIfInBounds_toArray, List.set_cons_zero, List.set_cons_succ]
  refine qstep (o := ⟨some 84, _, _, _, _, _⟩) (v := ?_) (by rfl) (fun wq hSw => ?_) ?_
  rotate_left
  · (try dsimp only at hSw); go_simp; try with_reducible rfl
  try simp only [Act.put, List.setIfInBounds_toArray, List.set_cons_zero, List.set_cons_succ]
  refine qstep (o := ⟨some 85, _, _, _, _, _⟩) (v := ?_) (by rfl) (fun wq hSw => ?_) ?_
  rotate_left
  · (try dsimp only at hSw); go_simp; try with_reducible rfl
  try simp only [Act.put, List.setIfInBounds_toArray, List.set_cons_zero, List.set_cons_succ]
  refine qstep (o := ⟨some 86, _, _, _, _, _⟩) (v := ?_) (by rfl) (fun wq hSw => ?_) ?_
  rotate_left
  · (try dsimp only at hSw); go_simp; try with_reducible rfl
  try simp only [Act.put, List.setIfInBounds_toArray, List.set_cons_zero, List.set_cons_succ]
  refine qstep (o := ⟨some 87, _, _, _, _, _⟩) (v := ?_) (by rfl) (fun wq hSw => ?_) ?_
  rotate_left
  · (try dsimp only at hSw); go_simp; try with_reducible rfl
  try simp only [Act.put, List.setIfInBounds_toArray, List.set_cons_zero, List.set_cons_succ]
  refine qstep (o := ⟨some 88, _, _, _, _, _⟩) (v := ?_) (by rfl) (fun wq hSw => ?_) ?_
  rotate_left
  · (try dsimp only at hSw); go_simp; try with_reducible rfl
  try simp only [Act.put, List.setIfInBounds_toArray, List.set_cons_zero, List.set_cons_succ]
  refine qcall (o := ⟨some 89, _, _, _, _, _⟩) (v := .int .i64 (la + 2)) (by rfl) (fun wq hSw => ?_) (fun wq hSw => Calls.mono (high_of T S N C R F K a b d (1 + mn) (la + 2) hl hrc HE.out.e4 _) ?_) ?_
  · (try dsimp only at hSw); go_simp; try with_reducible rfl
  · rintro e w9 ⟨rfl, hk⟩; exact ⟨rfl, keep10 hk hr hSw⟩
  try simp only [Act.put, List.setIfInBounds_toArray, List.set_cons_zero, List.set_cons_succ]
  refine qstep (o := ⟨some 90, _, _, _, _, _⟩) (v := ?_) (by rfl) (fun wq hSw => ?_) ?_
  rotate_left
  · (try dsimp only at hSw); go_simp; try with_reducible rfl
  try simp only [Act.put, List.setIfInBounds_toArray, List.set_cons_zero, List.set_cons_succ]
  refine qstep (o := ⟨some 91, _, _, _, _, _⟩) (v := ?_) (by rfl) (fun wq hSw => ?_) ?_
  rotate_left
  · (try dsimp only at hSw); go_simp; try with_reducible rfl
  try simp only [Act.put, List.setIfInBounds_toArray, List.set_cons_zero, List.set_cons_succ]
  refine qstep (o := ⟨some 92, _, _, _, _, _⟩) (v := ?_) (by rfl) (fun wq hSw => ?_) ?_
  rotate_left
  · (try dsimp only at hSw); go_simp; try with_reducible rfl
  try simp only [Act.put, List.setIfInBounds_toArray, List.set_cons_zero, List.set_cons_succ]
  refine qstep (o := ⟨some 93, _, _, _, _, _⟩) (v := ?_) (by rfl) (fun wq hSw => ?_) ?_
  rotate_left
  · (try dsimp only at hSw); go_simp; try with_reducible rfl
  try simp only [Act.put, List.setIfInBounds_toArray, List.set_cons_zero, List.set_cons_succ]
  refine qstep (o := ⟨some 94, _, _, _, _, _⟩) (v := ?_) (by rfl) (fun wq hSw => ?_) ?_
  rotate_left
  · (try dsimp only at hSw); go_simp; try with_reducible rfl
  try simp only [Act.put, List.setIfInBounds_toArray, List.set_cons_zero, List.set_cons_succ]
  refine qstep (o := ⟨some 95, _, _, _, _, _⟩) (v := ?_) (by rfl) (fun wq hSw => ?_) ?_
  rotate_left
  · (try dsimp only at hSw); go_simp; try with_reducible rfl
  try simp only [Act.put, List.setIfInBounds_toArray, List.set_cons_zero, List.set_cons_succ]
  refine qstep (o := ⟨some 96, _, _, _, _, _⟩) (v := ?_) (by rfl) (fun wq hSw => ?_) ?_
  rotate_left
  · (try dsimp only at hSw); go_simp; try with_reducible rfl
  try simp only [Act.put, List.setIfInBounds_toArray, List.set_cons_zero, List.set_cons_succ]
  refine qcall (o := ⟨some 97, _, _, _, _, _⟩) (v := .int .i64 (la + 3)) (by rfl) (fun wq hSw => ?_) (fun wq hSw => Calls.mono (right_of T S N C R F K a b d (1 + mn) (la + 3) hl hrc HE.out.e5 _) ?_) ?_
  · (try dsimp only at hSw); go_simp; try with_reducible rfl
  · rintro e w9 ⟨rfl, hk⟩; exact ⟨rfl, keep10 hk hr hSw⟩
  try simp only [Act.put, List.setIfInBounds_toArray, List.set_cons_zero, List.set_cons_succ]
  refine qstep (o := ⟨some 98, _, _, _, _, _⟩) (v := ?_) (by rfl) (fun wq hSw => ?_) ?_
  rotate_left
  · (try dsimp only at hSw); go_simp; try with_reducible rfl
  try simp only [Act.put, List.setIfInBounds_toArray, List.set_cons_zero, List.set_cons_succ]
  refine qstep (o := ⟨some 99, _, _, _, _, _⟩) (v := ?_) (by rfl) (fun wq hSw => ?_) ?_
  rotate_left
  · (try dsimp only at hSw); go_simp; try with_reducible rfl
  try simp only [Act.put, List.setIfInBounds_toArray, List.set_cons_zero, List.set_cons_succ]
  refine qstep (o := ⟨some 100, _, _, _, _, _⟩) (v := ?_) (by rfl) (fun wq hSw => ?_) ?_
  rotate_left
  · (try dsimp only at hSw); go_simp; try with_reducible rfl
  try simp only [Act.put, List.setIfInBounds_toArray, List.set_cons_zero, List.set_cons_succ]
  refine qstep (o := ⟨some 101, _, _, _, _, _⟩) (v := ?_) (by rfl) (fun wq hSw => ?_) ?_
  rotate_left
  · (try dsimp only at hSw); go_simp; try with_reducible rfl
  try simp only [Act.put, List.setIfInBounds_toArray, List.set_cons_zero, List.set_cons_succ]
  refine qstep (o := ⟨some 102, _, _, _, _, _⟩) (v := ?_) (by rfl) (fun wq hSw => ?_) ?_
  rotate_left
  · (try dsimp only at hSw); go_simp; try with_reducible rfl
  try simp only [Act.put, List.setIfInBounds_toArray, List.set_cons_zero, List.set_cons_succ]
  refine qstep (o := ⟨some 103, _, _, _, _, _⟩) (v := ?_) (by rfl) (fun wq hSw => ?_) ?_
  rotate_left
  · (try dsimp only at hSw); go_simp; try with_reducible rfl
  try simp only [Act.put, List.setIfInBounds_toArray, List.set_cons_zero, List.set_cons_succ]
  refine qstep (o := ⟨some 104, _, _, _, _, _⟩) (v := ?_) (by rfl) (fun wq hSw => ?_) ?_
  rotate_left
  · (try dsimp only at hSw); go_simp; try with_reducible rfl
  try simp only [Act.put, List.setIfInBounds_toArray, List.set_cons_zero, List.set_cons_succ]
  refine qstep (o := ⟨some 105, _, _, _, _, _⟩) (v := ?_) (by rfl) (fun wq hSw => ?_) ?_
  rotate_left
  · (try dsimp only at hSw); go_simp; try with_reducible rfl
  try simp only [Act.put, List.setIfInBounds_toArray, List.set_cons_zero, List.set_cons_succ]
  refine qcall (o := ⟨some 106, _, _, _, _, _⟩) (v := .int .i64 (la + 4 + i)) (by rfl) (fun wq hSw => ?_) (fun wq hSw => Calls.mono (slot_of T S N C R F K a b d (1 + mn) i (la + 4 + i) hl hrc HE.out.e6 _) ?_) ?_
  · (try dsimp only at hSw); go_simp; try with_reducible rfl
  · rintro e w9 ⟨rfl, hk⟩; exact ⟨rfl, keep10 hk hr hSw⟩
  try simp only [Act.put, List.setIfInBounds_toArray, List.set_cons_zero, List.set_cons_succ]
  refine qstep (o := ⟨some 107, _, _, _, _, _⟩) (v := ?_) (by rfl) (fun wq hSw => ?_) ?_
  rotate_left
  · (try dsimp only at hSw); go_simp; try with_reducible rfl
  try simp only [Act.put, List.setIfInBounds_toArray, List.set_cons_zero, List.set_cons_succ]
  refine qstep (o := ⟨some 108, _, _, _, _, _⟩) (v := ?_) (by rfl) (fun wq hSw => ?_) ?_
  rotate_left
  · (try dsimp only at hSw); go_simp; try with_reducible rfl
  try simp only [Act.put, List.setIfInBounds_toArray, List.set_cons_zero, List.set_cons_succ]
  refine qstep (o := ⟨some 109, _, _, _, _, _⟩) (v := ?_) (by rfl) (fun wq hSw => ?_) ?_
  rotate_left
  · (try dsimp only at hSw); go_simp; try with_reducible rfl
  try simp only [Act.put, List.setIfInBounds_toArray, List.set_cons_zero, List.set_cons_succ]
  refine qstep (o := ⟨some 110, _, _, _, _, _⟩) (v := ?_) (by rfl) (fun wq hSw => ?_) ?_
  rotate_left
  · (try dsimp only at hSw); go_simp; try with_reducible rfl
  try simp only [Act.put, List.setIfInBounds_toArray, List.set_cons_zero, List.set_cons_succ]
  refine qstep (o := ⟨some 111, _, _, _, _, _⟩) (v := ?_) (by rfl) (fun wq hSw => ?_) ?_
  rotate_left
  · (try dsimp only at hSw); go_simp; try with_reducible rfl
  try simp only [Act.put, List.setIfInBounds_toArray, List.set_cons_zero, List.set_cons_succ]
  refine qstep (o := ⟨some 112, _, _, _, _, _⟩) (v := ?_) (by rfl) (fun wq hSw => ?_) ?_
  rotate_left
  · (try dsimp only at hSw); go_simp; try with_reducible rfl
  try simp only [Act.put, List.setIfInBounds_toArray, List.set_cons_zero, List.set_cons_succ]
  refine qstep (o := ⟨some 113, _, _, _, _, _⟩) (v := ?_) (by rfl) (fun wq hSw => ?_) ?_
  rotate_left
  · (try dsimp only at hSw); go_simp; try with_reducible rfl
  try simp only [Act.put, List.setIfInBounds_toArray, List.set_cons_zero, List.set_cons_succ]
  refine qstep (o := ⟨some 114, _, _, _, _, _⟩) (v := ?_) (by rfl) (fun wq hSw => ?_) ?_
  rotate_left
  · (try dsimp only at hSw); go_simp; try with_reducible rfl
  try simp only [Act.put, List.setIfInBounds_toArray, List.set_cons_zero, List.set_cons_succ]
  refine qstep (o := ⟨some 115, _, _, _, _, _⟩) (v := ?_) (by rfl) (fun wq hSw => ?_) ?_
  rotate_left
  · (try dsimp only at hSw); go_simp; try with_reducible rfl
  try simp only [Act.put, List.setIfInBounds_toArray, List.set_cons_zero, List.set_cons_succ]
  refine qstep (o := ⟨some 116, _, _, _, _, _⟩) (v := ?_) (by rfl) (fun wq hSw => ?_) ?_
  rotate_left
  · (try dsimp only at hSw); go_simp; try with_reducible rfl
  try simp only [Act.put, List.setIfInBounds_toArray, List.set_cons_zero, List.set_cons_succ]
  refine qstep (o := ⟨some 117, _, _, _, _, _⟩) (v := ?_) (by rfl) (fun wq hSw => ?_) ?_
  rotate_left
  · (try dsimp only at hSw); go_simp; try with_reducible rfl
  try simp only [Act.put, List.setIfInBounds_toArray, List.set_cons_zero, List.set_cons_succ]
  refine qstep (o := ⟨some 118, _, _, _, _, _⟩) (v := ?_) (by rfl) (fun wq hSw => ?_) ?_
  rotate_left
  · (try dsimp only at hSw); go_simp; try with_reducible rfl
  try simp only [Act.put, List.setIfInBounds_toArray, List.set_cons_zero, List.set_cons_succ]
  refine qstep (o := ⟨some 119, _, _, _, _, _⟩) (v := ?_) (by rfl) (fun wq hSw => ?_) ?_
  rotate_left
  · (try dsimp only at hSw); go_simp; try with_reducible rfl
  try simp only [Act.put, List.setIfInBounds_toArray, List.set_cons_zero, List.set_cons_succ]
  refine qcall (o := ⟨some 120, _, _, _, _, _⟩) (v := .int .i64 ch) (by rfl) (fun wq hSw => ?_) (fun wq hSw => Calls.mono (chain_of T S N C R F K a b d (1 + mc) ch hl hrc HE.out.e7 _) ?_) ?_
  · (try dsimp only at hSw); go_simp; try with_reducible rfl
  · rintro e w9 ⟨rfl, hk⟩; exact ⟨rfl, keep10 hk hr hSw⟩
  try simp only [Act.put, List.setIfInBounds_toArray, List.set_cons_zero, List.set_cons_succ]
  refine qstep (o := ⟨some 121, _, _, _, _, _⟩) (v := ?_) (by rfl) (fun wq hSw => ?_) ?_
  rotate_left
  · (try dsimp only at hSw); go_simp; try with_reducible rfl
  try simp only [Act.put, List.setIfInBounds_toArray, List.set_cons_zero, List.set_cons_succ]
  refine qstep (o := ⟨some 122, _, _, _, _, _⟩) (v := ?_) (by rfl) (fun wq hSw => ?_) ?_
  rotate_left
  · (try dsimp only at hSw); go_simp; try with_reducible rfl
  try simp only [Act.put, List.setIfInBounds_toArray, List.set_cons_zero, List.set_cons_succ]
  refine qstep (o := ⟨some 123, _, _, _, _, _⟩) (v := ?_) (by rfl) (fun wq hSw => ?_) ?_
  rotate_left
  · (try dsimp only at hSw); go_simp; try with_reducible rfl
  try simp only [Act.put, List.setIfInBounds_toArray, List.set_cons_zero, List.set_cons_succ]
  refine qstep (o := ⟨some 124, _, _, _, _, _⟩) (v := ?_) (by rfl) (fun wq hSw => ?_) ?_
  rotate_left
  · (try dsimp only at hSw); go_simp; try with_reducible rfl
  try simp only [Act.put, List.setIfInBounds_toArray, List.set_cons_zero, List.set_cons_succ]
  refine qstep (o := ⟨some 125, _, _, _, _, _⟩) (v := ?_) (by rfl) (fun wq hSw => ?_) ?_
  rotate_left
  · (try dsimp only at hSw); go_simp; try with_reducible rfl
  try simp only [Act.put, List.setIfInBounds_toArray, List.set_cons_zero, List.set_cons_succ]
  refine qcall (o := ⟨some 126, _, _, _, _, _⟩) (v := .int .i64 ch) (by rfl) (fun wq hSw => ?_) (fun wq hSw => Calls.mono (chain_of T S N C R F K a b d (1 + mc) ch hl hrc HE.out.e7 _) ?_) ?_
  · (try dsimp only at hSw); go_simp; try with_reducible rfl
  · rintro e w9 ⟨rfl, hk⟩; exact ⟨rfl, keep10 hk hr hSw⟩
  try simp only [Act.put, List.setIfInBounds_toArray, List.set_cons_zero, List.set_cons_succ]
  refine qstep (o := ⟨some 127, _, _, _, _, _⟩) (v := ?_) (by rfl) (fun wq hSw => ?_) ?_
  rotate_left
  · (try dsimp only at hSw); go_simp; try with_reducible rfl
  try simp only [Act.put, List.setIfInBounds_toArray, List.set_cons_zero, List.set_cons_succ]
  refine qstep (o := ⟨some 128, _, _, _, _, _⟩) (v := ?_) (by rfl) (fun wq hSw => ?_) ?_
  rotate_left
  · (try dsimp only at hSw); go_simp; try with_reducible rfl
  try simp only [Act.put, List.setIfInBounds_toArray, List.set_cons_zero, List.set_cons_succ]
  refine qcall (o := ⟨some 129, _, _, _, _, _⟩) (v := .int .i64 st) (by rfl) (fun wq hSw => ?_) (fun wq hSw => Calls.mono (stamp_of T S N C R F K a b d (1 + mr) st hl hrc HE.out.e8 _) ?_) ?_
  · (try dsimp only at hSw); go_simp; try with_reducible rfl
  · rintro e w9 ⟨rfl, hk⟩; exact ⟨rfl, keep10 hk hr hSw⟩
  try simp only [Act.put, List.setIfInBounds_toArray, List.set_cons_zero, List.set_cons_succ]
  refine qstep (o := ⟨some 130, _, _, _, _, _⟩) (v := ?_) (by rfl) (fun wq hSw => ?_) ?_
  rotate_left
  · (try dsimp only at hSw); go_simp; try with_reducible rfl
  try simp only [Act.put, List.setIfInBounds_toArray, List.set_cons_zero, List.set_cons_succ]
  refine qstep (o := ⟨some 131, _, _, _, _, _⟩) (v := ?_) (by rfl) (fun wq hSw => ?_) ?_
  rotate_left
  · (try dsimp only at hSw); go_simp; try with_reducible rfl
  try simp only [Act.put, List.setIfInBounds_toArray, List.set_cons_zero, List.set_cons_succ]
  refine qstep (o := ⟨some 132, _, _, _, _, _⟩) (v := ?_) (by rfl) (fun wq hSw => ?_) ?_
  rotate_left
  · (try dsimp only at hSw); go_simp; try with_reducible rfl
  try simp only [Act.put, List.setIfInBounds_toArray, List.set_cons_zero, List.set_cons_succ]
  refine qstep (o := ⟨some 133, _, _, _, _, _⟩) (v := ?_) (by rfl) (fun wq hSw => ?_) ?_
  rotate_left
  · (try dsimp only at hSw); go_simp; try with_reducible rfl
  try simp only [Act.put, List.setIfInBounds_toArray, List.set_cons_zero, List.set_cons_succ]
  refine qstep (o := ⟨some 134, _, _, _, _, _⟩) (v := ?_) (by rfl) (fun wq hSw => ?_) ?_
  rotate_left
  · (try dsimp only at hSw); go_simp; try with_reducible rfl
  try simp only [Act.put, List.setIfInBounds_toArray, List.set_cons_zero, List.set_cons_succ]
  refine qcall (o := ⟨some 135, _, _, _, _, _⟩) (v := .int .i64 (st + 1)) (by rfl) (fun wq hSw => ?_) (fun wq hSw => Calls.mono (value_of T S N C R F K a b d (1 + mr) (st + 1) hl hrc HE.out.e9 _) ?_) ?_
  · (try dsimp only at hSw); go_simp; try with_reducible rfl
  · rintro e w9 ⟨rfl, hk⟩; exact ⟨rfl, keep10 hk hr hSw⟩
  try simp only [Act.put, List.setIfInBounds_toArray, List.set_cons_zero, List.set_cons_succ]
  refine qstep (o := ⟨some 136, _, _, _, _, _⟩) (v := ?_) (by rfl) (fun wq hSw => ?_) ?_
  rotate_left
  · (try dsimp only at hSw); go_simp; try with_reducible rfl
  try simp only [Act.put, List.setIfInBounds_toArray, List.set_cons_zero, List.set_cons_succ]
  refine qstep (o := ⟨some 137, _, _, _, _, _⟩) (v := ?_) (by rfl) (fun wq hSw => ?_) ?_
  rotate_left
  · (try dsimp only at hSw); go_simp; try with_reducible rfl
  try simp only [Act.put, List.setIfInBounds_toArray, List.set_cons_zero, List.set_cons_succ]
  refine qcall (o := ⟨some 138, _, _, _, _, _⟩) (v := .int .i64 st) (by rfl) (fun wq hSw => ?_) (fun wq hSw => Calls.mono (stamp_of T S N C R F K a b d (1 + mr) st hl hrc HE.out.e8 _) ?_) ?_
  · (try dsimp only at hSw); go_simp; try with_reducible rfl
  · rintro e w9 ⟨rfl, hk⟩; exact ⟨rfl, keep10 hk hr hSw⟩
  try simp only [Act.put, List.setIfInBounds_toArray, List.set_cons_zero, List.set_cons_succ]
  refine qstep (o := ⟨some 139, _, _, _, _, _⟩) (v := ?_) (by rfl) (fun wq hSw => ?_) ?_
  rotate_left
  · (try dsimp only at hSw); go_simp; try with_reducible rfl
  try simp only [Act.put, List.setIfInBounds_toArray, List.set_cons_zero, List.set_cons_succ]
  refine qstep (o := ⟨some 140, _, _, _, _, _⟩) (v := ?_) (by rfl) (fun wq hSw => ?_) ?_
  rotate_left
  · (try dsimp only at hSw); go_simp; try with_reducible rfl
  try simp only [Act.put, List.setIfInBounds_toArray, List.set_cons_zero, List.set_cons_succ]
  refine qstep (o := ⟨some 141, _, _, _, _, _⟩) (v := ?_) (by rfl) (fun wq hSw => ?_) ?_
  rotate_left
  · (try dsimp only at hSw); go_simp; try with_reducible rfl
  try simp only [Act.put, List.setIfInBounds_toArray, List.set_cons_zero, List.set_cons_succ]
  refine qstep (o := ⟨some 142, _, _, _, _, _⟩) (v := ?_) (by rfl) (fun wq hSw => ?_) ?_
  rotate_left
  · (try dsimp only at hSw); go_simp; try with_reducible rfl
  try simp only [Act.put, List.setIfInBounds_toArray, List.set_cons_zero, List.set_cons_succ]
  refine qstep (o := ⟨some 143, _, _, _, _, _⟩) (v := ?_) (by rfl) (fun wq hSw => ?_) ?_
  rotate_left
  · (try dsimp only at hSw); go_simp; try with_reducible rfl
  try simp only [Act.put, List.setIfInBounds_toArray, List.set_cons_zero, List.set_cons_succ]
  refine qstep (o := ⟨some 144, _, _, _, _, _⟩) (v := ?_) (by rfl) (fun wq hSw => ?_) ?_
  rotate_left
  · (try dsimp only at hSw); go_simp; try with_reducible rfl
  try simp only [Act.put, List.setIfInBounds_toArray, List.set_cons_zero, List.set_cons_succ]
  refine qcall (o := ⟨some 145, _, _, _, _, _⟩) (v := .int .i64 (st + 2)) (by rfl) (fun wq hSw => ?_) (fun wq hSw => Calls.mono (next_of T S N C R F K a b d (1 + mr) (st + 2) hl hrc HE.out.e10 _) ?_) ?_
  · (try dsimp only at hSw); go_simp; try with_reducible rfl
  · rintro e w9 ⟨rfl, hk⟩; exact ⟨rfl, keep10 hk hr hSw⟩
  try simp only [Act.put, List.setIfInBounds_toArray, List.set_cons_zero, List.set_cons_succ]
  refine qstep (o := ⟨some 146, _, _, _, _, _⟩) (v := ?_) (by rfl) (fun wq hSw => ?_) ?_
  rotate_left
  · (try dsimp only at hSw); go_simp; try with_reducible rfl
  try simp only [Act.put, List.setIfInBounds_toArray, List.set_cons_zero, List.set_cons_succ]
  refine qstep (o := ⟨some 147, _, _, _, _, _⟩) (v := ?_) (by rfl) (fun wq hSw => ?_) ?_
  rotate_left
  · (try dsimp only at hSw); go_simp; try with_reducible rfl
  try simp only [Act.put, List.setIfInBounds_toArray, List.set_cons_zero, List.set_cons_succ]
  refine qcall (o := ⟨some 148, _, _, _, _, _⟩) (v := .int .i64 st) (by rfl) (fun wq hSw => ?_) (fun wq hSw => Calls.mono (stamp_of T S N C R F K a b d (1 + mr) st hl hrc HE.out.e8 _) ?_) ?_
  · (try dsimp only at hSw); go_simp; try with_reducible rfl
  · rintro e w9 ⟨rfl, hk⟩; exact ⟨rfl, keep10 hk hr hSw⟩
  try simp only [Act.put, List.setIfInBounds_toArray, List.set_cons_zero, List.set_cons_succ]
  refine qstep (o := ⟨some 149, _, _, _, _, _⟩) (v := ?_) (by rfl) (fun wq hSw => ?_) ?_
  rotate_left
  · (try dsimp only at hSw); go_simp; try with_reducible rfl
  try simp only [Act.put, List.setIfInBounds_toArray, List.set_cons_zero, List.set_cons_succ]
  refine qstep (o := ⟨some 150, _, _, _, _, _⟩) (v := ?_) (by rfl) (fun wq hSw => ?_) ?_
  rotate_left
  · (try dsimp only at hSw); go_simp; try with_reducible rfl
  try simp only [Act.put, List.setIfInBounds_toArray, List.set_cons_zero, List.set_cons_succ]
  refine qstep (o := ⟨some 151, _, _, _, _, _⟩) (v := ?_) (by rfl) (fun wq hSw => ?_) ?_
  rotate_left
  · (try dsimp only at hSw); go_simp; try with_reducible rfl
  try simp only [Act.put, List.setIfInBounds_toArray, List.set_cons_zero, List.set_cons_succ]
  refine qstep (o := ⟨some 152, _, _, _, _, _⟩) (v := ?_) (by rfl) (fun wq hSw => ?_) ?_
  rotate_left
  · (try dsimp only at hSw); go_simp; try with_reducible rfl
  try simp only [Act.put, List.setIfInBounds_toArray, List.set_cons_zero, List.set_cons_succ]
  refine qstep (o := ⟨some 153, _, _, _, _, _⟩) (v := ?_) (by rfl) (fun wq hSw => ?_) ?_
  rotate_left
  · (try dsimp only at hSw); go_simp; try with_reducible rfl
  try simp only [Act.put, List.setIfInBounds_toArray, List.set_cons_zero, List.set_cons_succ]
  refine qstep (o := ⟨some 154, _, _, _, _, _⟩) (v := ?_) (by rfl) (fun wq hSw => ?_) ?_
  rotate_left
  · (try dsimp only at hSw); go_simp; try with_reducible rfl
  try simp only [Act.put, List.setIfInBounds_toArray, List.set_cons_zero, List.set_cons_succ]
  refine qcall (o := ⟨some 155, _, _, _, _, _⟩) (v := .int .i64 (st + 2)) (by rfl) (fun wq hSw => ?_) (fun wq hSw => Calls.mono (next_of T S N C R F K a b d (1 + mr) (st + 2) hl hrc HE.out.e10 _) ?_) ?_
  · (try dsimp only at hSw); go_simp; try with_reducible rfl
  · rintro e w9 ⟨rfl, hk⟩; exact ⟨rfl, keep10 hk hr hSw⟩
  try simp only [Act.put, List.setIfInBounds_toArray, List.set_cons_zero, List.set_cons_succ]
  refine qstep (o := ⟨some 156, _, _, _, _, _⟩) (v := ?_) (by rfl) (fun wq hSw => ?_) ?_
  rotate_left
  · (try dsimp only at hSw); go_simp; try with_reducible rfl
  try simp only [Act.put, List.setIfInBounds_toArray, List.set_cons_zero, List.set_cons_succ]
  refine qcall (o := ⟨some 157, _, _, _, _, _⟩) (v := .int .i64 (d + R * 3)) (by rfl) (fun wq hSw => ?_) (fun wq hSw => Calls.mono (cellsum_of T S N C R F K a b d (d + R * 3) hl hrc rfl _) ?_) ?_
  · (try dsimp only at hSw); go_simp; try with_reducible rfl
  · rintro e w9 ⟨rfl, hk⟩; exact ⟨rfl, keep10 hk hr hSw⟩
  try simp only [Act.put, List.setIfInBounds_toArray, List.set_cons_zero, List.set_cons_succ]
  refine qstep (o := ⟨some 158, _, _, _, _, _⟩) (v := ?_) (by rfl) (fun wq hSw => ?_) ?_
  rotate_left
  · (try dsimp only at hSw); go_simp; try with_reducible rfl
  try simp only [Act.put, List.setIfInBounds_toArray, List.set_cons_zero, List.set_cons_succ]
  refine qstep (o := ⟨some 159, _, _, _, _, _⟩) (v := ?_) (by rfl) (fun wq hSw => ?_) ?_
  rotate_left
  · (try dsimp only at hSw); go_simp; try with_reducible rfl
  try simp only [Act.put, List.setIfInBounds_toArray, List.set_cons_zero, List.set_cons_succ]
  refine qstep (o := ⟨some 14, _, _, _, _, _⟩) (v := ?_) (by rfl) (fun wq hSw => ?_) ?_
  rotate_left
  · (try dsimp only at hSw); go_simp; try with_reducible rfl
  try simp only [Act.put, List.setIfInBounds_toArray, List.set_cons_zero, List.set_cons_succ]
  refine wpQuiet_nil ?_
  intro wz hHeld
  replace HK := Lib.hid (HK.out.trans hHeld.1 (fun _ _ h => h))
  go_wp2
  go_ret
  exact ⟨rfl, HK.out.below (Nat.le_refl _) (fun _ h => h.elim)⟩

theorem lawRegions_fr (T0 S0 N0 C0 R0 F0 K0 : Int) (h0 : 0 ≤ K0) (t0 j0 i0 n0 : Int) (hn0 : 0 ≤ n0) (c0 : Int) (hc0 : 0 ≤ c0) (r0 : Int) (hr0 : 0 ≤ r0) (w : World) :
    Calls Try.prog 7 #[.agg #[.int .i64 T0, .int .i64 S0, .int .i64 N0, .int .i64 C0, .int .i64 R0, .int .i64 F0, .int .u64 K0], .int .i64 t0, .int .i64 j0, .int .i64 i0, .int .u64 n0, .int .u64 c0, .int .u64 r0] w fun e w' => e = .returned (.bool true) ∧ Below w.heap.size w w' :=
  lawRegions_all T0 S0 N0 C0 R0 F0 K0 h0 t0 j0 i0 n0 c0 r0 hn0 hc0 hr0 w
end Go.Proofs.Ytfbfhlolnooipaa
