/-
  The statement of layer 3 'the addresses of all cells are different, and are all numbers from 0 to Cells() - 1': it returns true for every configuration; nothing that was there is written. Condition: none.
-/
import Derived.Test.YtfbfhlolnooipaaLayExact
import Derived.Deep.RegionHeld3
import Derived.Deep.DeepCutAuto
import Derived.OwnWalk
namespace Go.Proofs.Ytfbfhlolnooipaa
open Go.RowKit Go.Deep
set_option linter.unusedVariables false

set_option maxRecDepth 100000 in
set_option maxHeartbeats 8000000 in
theorem lawExact_all (T0 S0 N0 C0 R0 F0 K0 : Int) (h0 : 0 ≤ K0) (w : World) :
    Calls Try.prog 5 #[.agg #[.int .i64 T0, .int .i64 S0, .int .i64 N0, .int .i64 C0, .int .i64 R0, .int .i64 F0, .int .u64 K0]] w fun e w' => e = .returned (.bool true) ∧ Below w.heap.size w w' := by
  go_enter Try.func5, Try.ntmps5
  go_wp2_with fail
  have HK := Lib.hid ((Kept.refl (fun _ => False) w).alloc (.cells #[.int .i64 T0, .int .i64 S0, .int .i64 N0, .int .i64 C0, .int .i64 R0, .int .i64 F0, .int .u64 K0] 24))
  generalize w.alloc (.cells #[.int .i64 T0, .int .i64 S0, .int .i64 N0, .int .i64 C0, .int .i64 R0, .int .i64 F0, .int .u64 K0] 24) = W0 at *
  refine (small_of T0 S0 N0 C0 R0 F0 K0 h0 _).mono ?_; rintro e w1 ⟨T, S, N, C, R, F, K, rfl, hT, hk⟩
  replace HK : Hid (Kept (fun _ => False) w w1) := Lib.hid (HK.out.trans hk (fun _ _ h => h))
  clear hk
  have hl := hT.lim
  have hk1 := hT.k1
  have hk2 : K ≤ 1099511627776 := by have := hT.k2; omega
  obtain ⟨a, ha⟩ : ∃ x, firstNode T S = x := ⟨_, rfl⟩
  obtain ⟨b, hb⟩ : ∃ x, firstChain T S N F = x := ⟨_, rfl⟩
  obtain ⟨d, hd⟩ : ∃ x, firstRecord T S N C F = x := ⟨_, rfl⟩
  have hrc := hl.reach
  rw [ha, hb, hd] at hrc
  have HA := Lib.hid ha
  have HB := Lib.hid hb
  have HD := Lib.hid hd
  have HT := Lib.hid hT
  clear ha hb hd hT
  go_wp2_with fail
  have HC := Lib.hid (Blk.new w1 [.int .i64 T, .int .i64 S, .int .i64 N, .int .i64 C, .int .i64 R, .int .i64 F, .int .u64 K] 24)
  replace HK := Lib.hid (HK.out.alloc (.cells #[.int .i64 T, .int .i64 S, .int .i64 N, .int .i64 C, .int .i64 R, .int .i64 F, .int .u64 K] 24))
  generalize w1.alloc (.cells #[.int .i64 T, .int .i64 S, .int .i64 N, .int .i64 C, .int .i64 R, .int .i64 F, .int .u64 K] 24) = W1 at *
  generalize hss : w1.heap.size = r at *
  have HRR := Lib.hid hss
  clear hss
  refine (new_to T S N C R F K a b d hl hk1 hk2 HA.out HB.out HD.out _).mono ?_; rintro e w2 ⟨rfl, hk⟩
  replace HC := Lib.hid (hk.blk HC.out id)
  replace HK : Hid (Kept (fun _ => False) w w2) := Lib.hid (HK.out.trans hk (fun _ _ h => h))
  clear hk
  go_wp2_with fail
  replace HC := Lib.hid (HC.out.alloc (.cells #[.int .i64 T, .int .i64 S, .int .i64 N, .int .i64 C, .int .i64 R, .int .i64 F, .int .u64 K, .int .i64 a, .int .i64 b, .int .i64 d] 27))
  have HL := Lib.hid (Blk.new w2 [.int .i64 T, .int .i64 S, .int .i64 N, .int .i64 C, .int .i64 R, .int .i64 F, .int .u64 K, .int .i64 a, .int .i64 b, .int .i64 d] 27)
  replace HK := Lib.hid (HK.out.alloc (.cells #[.int .i64 T, .int .i64 S, .int .i64 N, .int .i64 C, .int .i64 R, .int .i64 F, .int .u64 K, .int .i64 a, .int .i64 b, .int .i64 d] 27))
  generalize w2.alloc (.cells #[.int .i64 T, .int .i64 S, .int .i64 N, .int .i64 C, .int .i64 R, .int .i64 F, .int .u64 K, .int .i64 a, .int .i64 b, .int .i64 d] 27) = W at *
  generalize hss : w2.heap.size = s at *
  have HSS := Lib.hid hss
  clear hss
  obtain ⟨T, rfl⟩ : ∃ n : Nat, T = (n : Int) := ⟨T.toNat, by have := HT.out.t1; omega⟩
  obtain ⟨S, rfl⟩ : ∃ n : Nat, S = (n : Int) := ⟨S.toNat, by have := HT.out.s1; omega⟩
  obtain ⟨N, rfl⟩ : ∃ n : Nat, N = (n : Int) := ⟨N.toNat, by have := HT.out.n1; omega⟩
  obtain ⟨C, rfl⟩ : ∃ n : Nat, C = (n : Int) := ⟨C.toNat, by have := HT.out.c1; omega⟩
  obtain ⟨R, rfl⟩ : ∃ n : Nat, R = (n : Int) := ⟨R.toNat, by have := HT.out.r1; omega⟩
  obtain ⟨F, rfl⟩ : ∃ n : Nat, F = (n : Int) := ⟨F.toNat, by have := HT.out.f1; omega⟩
  obtain ⟨a, rfl⟩ : ∃ n : Nat, a = (n : Int) := ⟨a.toNat, by have := hrc.a1; omega⟩
  obtain ⟨b, rfl⟩ : ∃ n : Nat, b = (n : Int) := ⟨b.toNat, by have := hrc.b1; omega⟩
  obtain ⟨d, rfl⟩ : ∃ n : Nat, d = (n : Int) := ⟨d.toNat, by have := hrc.d1; omega⟩
  have eA : ((T * S : Nat) : Int) = (T : Int) * S := Int.natCast_mul T S
  have eB : ((N * (F + 4) : Nat) : Int) = (N : Int) * F + (N : Int) * 4 := by rw [Int.natCast_mul, Int.natCast_add, Int.mul_add]; rfl
  have hA : a = 8 + T * S := by have := HA.out; unfold firstNode at this; omega
  have hB : b = a + N * (F + 4) := by have := HA.out; have := HB.out; unfold firstChain at this; omega
  have hD : d = b + C := by have := HD.out; have := HB.out; unfold firstRecord at *; omega
  obtain ⟨tot, htot⟩ : ∃ tot : Nat, tot = d + R * 3 := ⟨_, rfl⟩
  have ht5 : tot ≤ 5000 := by
    have e1 : T * S ≤ 6 * 8 := Nat.mul_le_mul (by have := HT.out.t2; omega) (by have := HT.out.s2; omega)
    have e2 : N * (F + 4) ≤ 12 * 13 := Nat.mul_le_mul (by have := HT.out.n2; omega) (by have := HT.out.f2; omega)
    have := HT.out.c2; have := HT.out.r2; omega
  have ht1 : 8 ≤ tot := by omega
  have HNA := Lib.hid hA
  have HNB := Lib.hid hB
  have HND := Lib.hid hD
  have HNT := Lib.hid htot
  clear hA hB hD htot eA eB
  refine (awake_any _).mono ?_; rintro e w3 ⟨rfl, hk⟩
  replace HL := Lib.hid (hk.blk HL.out id)
  replace HC := Lib.hid (hk.blk HC.out id)
  replace HK : Hid (Kept (fun _ => False) w w3) := Lib.hid (HK.out.trans hk (fun _ _ h => h))
  clear hk
  have x0 := HL.out.cell (i := 0) rfl
  have x1 := HL.out.cell (i := 1) rfl
  have x2 := HL.out.cell (i := 2) rfl
  have x3 := HL.out.cell (i := 3) rfl
  have x4 := HL.out.cell (i := 4) rfl
  have x5 := HL.out.cell (i := 5) rfl
  have x6 := HL.out.cell (i := 6) rfl
  have x7 := HL.out.cell (i := 7) rfl
  have x8 := HL.out.cell (i := 8) rfl
  have x9 := HL.out.cell (i := 9) rfl
  go_wp2_with fail
  refine (cellsum_of T S N C R F K a b d (tot : Int) hl hrc (by rw [HNT.out]; omega) _).mono ?_; rintro e w4 ⟨rfl, hk⟩
  clear x0 x1 x2 x3 x4 x5 x6 x7 x8 x9
  replace HL := Lib.hid (hk.blk HL.out id)
  replace HC := Lib.hid (hk.blk HC.out id)
  replace HK : Hid (Kept (fun _ => False) w w4) := Lib.hid (HK.out.trans hk (fun _ _ h => h))
  clear hk
  have x0 := HL.out.cell (i := 0) rfl
  have x1 := HL.out.cell (i := 1) rfl
  have x2 := HL.out.cell (i := 2) rfl
  have x3 := HL.out.cell (i := 3) rfl
  have x4 := HL.out.cell (i := 4) rfl
  have x5 := HL.out.cell (i := 5) rfl
  have x6 := HL.out.cell (i := 6) rfl
  have x7 := HL.out.cell (i := 7) rfl
  have x8 := HL.out.cell (i := 8) rfl
  have x9 := HL.out.cell (i := 9) rfl
  go_wp2_with fail
  refine (cellsum_of T S N C R F K a b d (tot : Int) hl hrc (by rw [HNT.out]; omega) _).mono ?_; rintro e w5 ⟨rfl, hk⟩
  clear x0 x1 x2 x3 x4 x5 x6 x7 x8 x9
  replace HL := Lib.hid (hk.blk HL.out id)
  replace HC := Lib.hid (hk.blk HC.out id)
  replace HK : Hid (Kept (fun _ => False) w w5) := Lib.hid (HK.out.trans hk (fun _ _ h => h))
  clear hk
  have x0 := HL.out.cell (i := 0) rfl
  have x1 := HL.out.cell (i := 1) rfl
  have x2 := HL.out.cell (i := 2) rfl
  have x3 := HL.out.cell (i := 3) rfl
  have x4 := HL.out.cell (i := 4) rfl
  have x5 := HL.out.cell (i := 5) rfl
  have x6 := HL.out.cell (i := 6) rfl
  have x7 := HL.out.cell (i := 7) rfl
  have x8 := HL.out.cell (i := 8) rfl
  have x9 := HL.out.cell (i := 9) rfl
  go_wp2_with fail
  have hr : s < w5.heap.size := HL.out.lt
  refine wp_region_held_drew (S := (fun w' => Kept (fun _ => False) w5 w' ∧ w'.cell? ⟨s, 0, none⟩ = some (.int .i64 T) ∧ w'.cell? ⟨s, 1, none⟩ = some (.int .i64 S) ∧ w'.cell? ⟨s, 2, none⟩ = some (.int .i64 N) ∧ w'.cell? ⟨s, 3, none⟩ = some (.int .i64 C) ∧ w'.cell? ⟨s, 4, none⟩ = some (.int .i64 R) ∧ w'.cell? ⟨s, 5, none⟩ = some (.int .i64 F) ∧ w'.cell? ⟨s, 6, none⟩ = some (.int .u64 K) ∧ w'.cell? ⟨s, 7, none⟩ = some (.int .i64 a) ∧ w'.cell? ⟨s, 8, none⟩ = some (.int .i64 b) ∧ w'.cell? ⟨s, 9, none⟩ = some (.int .i64 d))) (by kernel_rfl) ?_ (fun hHeld => ?_)
  · try dsimp only
    (first | assumption | exact ⟨(Kept.refl _ _).drew, x0, x1, x2, x3, x4, x5, x6, x7, x8, x9⟩ | exact keep10 (by assumption) hr (by assumption) | exact keep10 (Kept.ofDrew (by assumption)) hr (by assumption) | exact keep10 ((Kept.refl _ _).alloc _) hr (by assumption))
  refine wpAnyH_take (i := 0) (oi := ⟨some 38, _, _, _, _, _⟩) (v := ?_) rfl (by kernel_rfl) (by kernel_rfl) (by kernel_rfl) (fun _ _ _ h => h) (Or.inl ⟨by rfl, ?_⟩) hHeld ?_
  rotate_left
  · (intro wq hSw; (try dsimp only at hSw); go_simp; try with_reducible rfl)
  try simp only [Act.put, List.setIfInBounds_toArray, List.set_cons_zero, List.set_cons_succ]
  refine wpAnyH_take (i := 2) (oi := ⟨some 40, _, _, _, _, _⟩) (v := ?_) rfl (by kernel_rfl) (by kernel_rfl) (by kernel_rfl) (fun _ _ _ h => h) (Or.inl ⟨by rfl, ?_⟩) hHeld ?_
  rotate_left
  · (intro wq hSw; (try dsimp only at hSw); go_simp; try with_reducible rfl)
  try simp only [Act.put, List.setIfInBounds_toArray, List.set_cons_zero, List.set_cons_succ]
  refine wpAnyH_take (i := 4) (oi := ⟨some 42, _, _, _, _, _⟩) (v := ?_) rfl (by kernel_rfl) (by kernel_rfl) (by kernel_rfl) (fun _ _ _ h => h) (Or.inl ⟨by rfl, ?_⟩) hHeld ?_
  rotate_left
  · (intro wq hSw; (try dsimp only at hSw); go_simp; try with_reducible rfl)
  try simp only [Act.put, List.setIfInBounds_toArray, List.set_cons_zero, List.set_cons_succ]
  refine wpAnyH_take (i := 6) (oi := ⟨some 44, _, _, _, _, _⟩) (v := ?_) rfl (by kernel_rfl) (by kernel_rfl) (by kernel_rfl) (fun _ _ _ h => h) (Or.inl ⟨by rfl, ?_⟩) hHeld ?_
  rotate_left
  · (intro wq hSw; (try dsimp only at hSw); go_simp; try with_reducible rfl)
  try simp only [Act.put, List.setIfInBounds_toArray, List.set_cons_zero, List.set_cons_succ]
  refine wpAnyH_take (i := 8) (oi := ⟨some 46, _, _, _, _, _⟩) (v := ?_) rfl (by kernel_rfl) (by kernel_rfl) (by kernel_rfl) (fun _ _ _ h => h) (Or.inl ⟨by rfl, ?_⟩) hHeld ?_
  rotate_left
  · (intro wq hSw; (try dsimp only at hSw); go_simp; try with_reducible rfl)
  try simp only [Act.put, List.setIfInBounds_toArray, List.set_cons_zero, List.set_cons_succ]
  refine wpAnyH_take (i := 10) (oi := ⟨some 48, _, _, _, _, _⟩) (v := ?_) rfl (by kernel_rfl) (by kernel_rfl) (by kernel_rfl) (fun _ _ _ h => h) (Or.inl ⟨by rfl, ?_⟩) hHeld ?_
  rotate_left
  · (intro wq hSw; (try dsimp only at hSw); go_simp; try with_reducible rfl)
  try simp only [Act.put, List.setIfInBounds_toArray, List.set_cons_zero, List.set_cons_succ]
  refine wpAnyH_take (i := 12) (oi := ⟨some 50, _, _, _, _, _⟩) (v := ?_) rfl (by kernel_rfl) (by kernel_rfl) (by kernel_rfl) (fun _ _ _ h => h) (Or.inl ⟨by rfl, ?_⟩) hHeld ?_
  rotate_left
  · (intro wq hSw; (try dsimp only at hSw); go_simp; try with_reducible rfl)
  try simp only [Act.put, List.setIfInBounds_toArray, List.set_cons_zero, List.set_cons_succ]
  refine wpAnyH_take (i := 14) (oi := ⟨some 52, _, _, _, _, _⟩) (v := ?_) rfl (by kernel_rfl) (by kernel_rfl) (by kernel_rfl) (fun _ _ _ h => h) (Or.inl ⟨by rfl, ?_⟩) hHeld ?_
  rotate_left
  · (intro wq hSw; (try dsimp only at hSw); go_simp; try with_reducible rfl)
  try simp only [Act.put, List.setIfInBounds_toArray, List.set_cons_zero, List.set_cons_succ]
  refine wpAnyH_ready (rs := [1]) (by kernel_rfl) (by simp) ?_
  refine AllReadyH.cons (o := ⟨some 39, _, _, _, _, _⟩) rfl (fun KK hK => ?_) AllReadyH.nil
  go_simp
  (go_at_call 17; refine (root_any T S N C R F K a b d _).mono ?_; rintro e wa0 ⟨rfl, hka0⟩)
  refine hK.out _ _ ?_ (fun hHeld2 => ?_)
  · try dsimp only
    (first | assumption | exact ⟨(Kept.refl _ _).drew, x0, x1, x2, x3, x4, x5, x6, x7, x8, x9⟩ | exact keep10 (by assumption) hr (by assumption) | exact keep10 (Kept.ofDrew (by assumption)) hr (by assumption) | exact keep10 ((Kept.refl _ _).alloc _) hr (by assumption))
  clear hK KK hHeld
  have hHeld := hHeld2
  clear hHeld2
  try simp only [Act.put, List.setIfInBounds_toArray, List.set_cons_zero, List.set_cons_succ]
  refine wpAnyH_ready (rs := [3]) (by kernel_rfl) (by simp) ?_
  refine AllReadyH.cons (o := ⟨some 41, _, _, _, _, _⟩) rfl (fun KK hK => ?_) AllReadyH.nil
  go_simp
  (go_at_call 18; refine (allocated_any T S N C R F K a b d _).mono ?_; rintro e wa1 ⟨rfl, hka1⟩)
  refine hK.out _ _ ?_ (fun hHeld2 => ?_)
  · try dsimp only
    (first | assumption | exact ⟨(Kept.refl _ _).drew, x0, x1, x2, x3, x4, x5, x6, x7, x8, x9⟩ | exact keep10 (by assumption) hr (by assumption) | exact keep10 (Kept.ofDrew (by assumption)) hr (by assumption) | exact keep10 ((Kept.refl _ _).alloc _) hr (by assumption))
  clear hK KK hHeld
  have hHeld := hHeld2
  clear hHeld2
  try simp only [Act.put, List.setIfInBounds_toArray, List.set_cons_zero, List.set_cons_succ]
  refine wpAnyH_ready (rs := [5]) (by kernel_rfl) (by simp) ?_
  refine AllReadyH.cons (o := ⟨some 43, _, _, _, _, _⟩) rfl (fun KK hK => ?_) AllReadyH.nil
  go_simp
  (go_at_call 19; refine (published_any T S N C R F K a b d _).mono ?_; rintro e wa2 ⟨rfl, hka2⟩)
  refine hK.out _ _ ?_ (fun hHeld2 => ?_)
  · try dsimp only
    (first | assumption | exact ⟨(Kept.refl _ _).drew, x0, x1, x2, x3, x4, x5, x6, x7, x8, x9⟩ | exact keep10 (by assumption) hr (by assumption) | exact keep10 (Kept.ofDrew (by assumption)) hr (by assumption) | exact keep10 ((Kept.refl _ _).alloc _) hr (by assumption))
  clear hK KK hHeld
  have hHeld := hHeld2
  clear hHeld2
  try simp only [Act.put, List.setIfInBounds_toArray, List.set_cons_zero, List.set_cons_succ]
  refine wpAnyH_ready (rs := [7]) (by kernel_rfl) (by simp) ?_
  refine AllReadyH.cons (o := ⟨some 45, _, _, _, _, _⟩) rfl (fun KK hK => ?_) AllReadyH.nil
  go_simp
  (go_at_call 20; refine (floor_any T S N C R F K a b d _).mono ?_; rintro e wa3 ⟨rfl, hka3⟩)
  refine hK.out _ _ ?_ (fun hHeld2 => ?_)
  · try dsimp only
    (first | assumption | exact ⟨(Kept.refl _ _).drew, x0, x1, x2, x3, x4, x5, x6, x7, x8, x9⟩ | exact keep10 (by assumption) hr (by assumption) | exact keep10 (Kept.ofDrew (by assumption)) hr (by assumption) | exact keep10 ((Kept.refl _ _).alloc _) hr (by assumption))
  clear hK KK hHeld
  have hHeld := hHeld2
  clear hHeld2
  try simp only [Act.put, List.setIfInBounds_toArray, List.set_cons_zero, List.set_cons_succ]
  refine wpAnyH_ready (rs := [9]) (by kernel_rfl) (by simp) ?_
  refine AllReadyH.cons (o := ⟨some 47, _, _, _, _, _⟩) rfl (fun KK hK => ?_) AllReadyH.nil
  go_simp
  (go_at_call 21; refine (nodes_any T S N C R F K a b d _).mono ?_; rintro e wa4 ⟨rfl, hka4⟩)
  refine hK.out _ _ ?_ (fun hHeld2 => ?_)
  · try dsimp only
    (first | assumption | exact ⟨(Kept.refl _ _).drew, x0, x1, x2, x3, x4, x5, x6, x7, x8, x9⟩ | exact keep10 (by assumption) hr (by assumption) | exact keep10 (Kept.ofDrew (by assumption)) hr (by assumption) | exact keep10 ((Kept.refl _ _).alloc _) hr (by assumption))
  clear hK KK hHeld
  have hHeld := hHeld2
  clear hHeld2
  try simp only [Act.put, List.setIfInBounds_toArray, List.set_cons_zero, List.set_cons_succ]
  refine wpAnyH_ready (rs := [11]) (by kernel_rfl) (by simp) ?_
  refine AllReadyH.cons (o := ⟨some 49, _, _, _, _, _⟩) rfl (fun KK hK => ?_) AllReadyH.nil
  go_simp
  (go_at_call 22; refine (chains_any T S N C R F K a b d _).mono ?_; rintro e wa5 ⟨rfl, hka5⟩)
  refine hK.out _ _ ?_ (fun hHeld2 => ?_)
  · try dsimp only
    (first | assumption | exact ⟨(Kept.refl _ _).drew, x0, x1, x2, x3, x4, x5, x6, x7, x8, x9⟩ | exact keep10 (by assumption) hr (by assumption) | exact keep10 (Kept.ofDrew (by assumption)) hr (by assumption) | exact keep10 ((Kept.refl _ _).alloc _) hr (by assumption))
  clear hK KK hHeld
  have hHeld := hHeld2
  clear hHeld2
  try simp only [Act.put, List.setIfInBounds_toArray, List.set_cons_zero, List.set_cons_succ]
  refine wpAnyH_ready (rs := [13]) (by kernel_rfl) (by simp) ?_
  refine AllReadyH.cons (o := ⟨some 51, _, _, _, _, _⟩) rfl (fun KK hK => ?_) AllReadyH.nil
  go_simp
  (go_at_call 23; refine (records_any T S N C R F K a b d _).mono ?_; rintro e wa6 ⟨rfl, hka6⟩)
  refine hK.out _ _ ?_ (fun hHeld2 => ?_)
  · try dsimp only
    (first | assumption | exact ⟨(Kept.refl _ _).drew, x0, x1, x2, x3, x4, x5, x6, x7, x8, x9⟩ | exact keep10 (by assumption) hr (by assumption) | exact keep10 (Kept.ofDrew (by assumption)) hr (by assumption) | exact keep10 ((Kept.refl _ _).alloc _) hr (by assumption))
  clear hK KK hHeld
  have hHeld := hHeld2
  clear hHeld2
  try simp only [Act.put, List.setIfInBounds_toArray, List.set_cons_zero, List.set_cons_succ]
  refine wpAnyH_ready (rs := [15]) (by kernel_rfl) (by simp) ?_
  refine AllReadyH.cons (o := ⟨some 53, _, _, _, _, _⟩) rfl (fun KK hK => ?_) AllReadyH.nil
  go_simp
  (go_at_call 24; refine (grow_any T S N C R F K a b d _).mono ?_; rintro e wa7 ⟨rfl, hka7⟩)
  refine hK.out _ _ ?_ (fun hHeld2 => ?_)
  · try dsimp only
    (first | assumption | exact ⟨(Kept.refl _ _).drew, x0, x1, x2, x3, x4, x5, x6, x7, x8, x9⟩ | exact keep10 (by assumption) hr (by assumption) | exact keep10 (Kept.ofDrew (by assumption)) hr (by assumption) | exact keep10 ((Kept.refl _ _).alloc _) hr (by assumption))
  clear hK KK hHeld
  have hHeld := hHeld2
  clear hHeld2
  try simp only [Act.put, List.setIfInBounds_toArray, List.set_cons_zero, List.set_cons_succ]
  refine wpAnyH_ready (rs := [16]) (by kernel_rfl) (by simp) ?_
  refine AllReadyH.cons (o := ⟨some 54, _, _, _, _, _⟩) rfl (fun KK hK => ?_) AllReadyH.nil
  go_simp
  refine hK.out _ _ ?_ (fun hHeld2 => ?_)
  · try dsimp only
    (first | assumption | exact ⟨(Kept.refl _ _).drew, x0, x1, x2, x3, x4, x5, x6, x7, x8, x9⟩ | exact keep10 (by assumption) hr (by assumption) | exact keep10 (Kept.ofDrew (by assumption)) hr (by assumption) | exact keep10 ((Kept.refl _ _).alloc _) hr (by assumption))
  clear hK KK hHeld
  have hHeld := hHeld2
  clear hHeld2
  try simp only [Act.put, List.setIfInBounds_toArray, List.set_cons_zero, List.set_cons_succ]
  refine wpAnyH_take (i := 17) (oi := ⟨some 6, _, _, _, _, _⟩) (v := ?_) rfl (by kernel_rfl) (by kernel_rfl) (by kernel_rfl) (fun _ _ _ h => h) (Or.inl ⟨by rfl, ?_⟩) hHeld ?_
  rotate_left
  · (intro wq hSw; (try dsimp only at hSw); go_simp; try with_reducible rfl)
  try simp only [Act.put, List.setIfInBounds_toArray, List.set_cons_zero, List.set_cons_succ]
  refine wpAnyH_done (by kernel_rfl) ?_ _
  have z0 := hka0.size
  have z1 := hka1.size
  have z2 := hka2.size
  have z3 := hka3.size
  have z4 := hka4.size
  have z5 := hka5.size
  have z6 := hka6.size
  have z7 := hka7.size
  simp only [World.size_drew] at z0
  have hsB : s < wa7.heap.size := by omega
  have hrB : r < wa7.heap.size := by have := HC.out.lt; omega
  have hwB : w.heap.size ≤ wa7.heap.size := by have := HK.out.size; omega
  have hA8 : All w (wa7.alloc (.cells #[.int .i64 0, .int .i64 1, .int .i64 2, .int .i64 3, .int .i64 4, .int .i64 5, .int .i64 6, .int .i64 7] 3)) wa7.heap.size s r [.int .i64 T, .int .i64 S, .int .i64 N, .int .i64 C, .int .i64 R, .int .i64 F, .int .u64 K, .int .i64 a, .int .i64 b, .int .i64 d] [.int .i64 T, .int .i64 S, .int .i64 N, .int .i64 C, .int .i64 R, .int .i64 F, .int .u64 K] (.slice (some ⟨wa7.heap.size, 0, none⟩) 8 8) 8 :=
    ⟨own_made wa7 _ 8 (Nat.le_refl _) (by unfold maxLen; omega) [.int .i64 0, .int .i64 1, .int .i64 2, .int .i64 3, .int .i64 4, .int .i64 5, .int .i64 6, .int .i64 7] rfl, hHeld.1.blk HL.out id, hHeld.1.blk HC.out id, HK.out.trans hHeld.1 (fun _ _ h => h), hsB, hrB, hwB, by simp⟩
  have HAL := Lib.hid hA8
  clear hA8 hHeld hsB hrB hwB hr HL HC HK z0 hka0 z1 hka1 z2 hka2 z3 hka3 z4 hka4 z5 hka5 z6 hka6 z7 hka7
  clear x0 x1 x2 x3 x4 x5 x6 x7 x8 x9
  generalize wa7.alloc (.cells #[.int .i64 0, .int .i64 1, .int .i64 2, .int .i64 3, .int .i64 4, .int .i64 5, .int .i64 6, .int .i64 7] 3) = W8 at *
  generalize wa7.heap.size = B at *
  obtain ⟨i0, hi, hz0, hz1, hz2⟩ := info_parts Try.info3
  have HI := Lib.hid hi
  have HZ0 := Lib.hid hz0
  have HZ1 := Lib.hid hz1
  have HZ2 := Lib.hid hz2
  clear hi hz0 hz1 hz2
  have lt1 := HT.out.t1
  have lt2 := HT.out.t2
  have ls1 := HT.out.s1
  have ls2 := HT.out.s2
  have ln1 := HT.out.n1
  have ln2 := HT.out.n2
  have lc1 := HT.out.c1
  have lc2 := HT.out.c2
  have lr1 := HT.out.r1
  have lr2 := HT.out.r2
  have lf1 := HT.out.f1
  have lf2 := HT.out.f2
  go_wp2_with fail
  go_loopw [7, 6] (fun st sv wr => ∃ t : Nat, t ≤ T ∧ st = .int .i64 t ∧ All w wr B s r [.int .i64 T, .int .i64 S, .int .i64 N, .int .i64 C, .int .i64 R, .int .i64 F, .int .u64 K, .int .i64 a, .int .i64 b, .int .i64 d] [.int .i64 T, .int .i64 S, .int .i64 N, .int .i64 C, .int .i64 R, .int .i64 F, .int .u64 K] sv (8 + t * S)) (fun st _ _ => T - (intOf st).toNat)
  case atStart => exact ⟨0, by omega, rfl, by have := HAL.out; rw [Nat.zero_mul]; exact this⟩
  case round =>
    clear HAL
    obtain ⟨t, ht, rfl, hal⟩ := hrel
    rename World => W1
    have HAL := Lib.hid hal
    clear hal
    by_cases hlt : t < T
    · skip
      have y0 := HAL.out.c.cell (i := 0) rfl
      go_wp2_with fail
      clear y0
      go_loopw [8, 6] (fun sj sv wr => ∃ j : Nat, j ≤ S ∧ sj = .int .i64 j ∧ All w wr B s r [.int .i64 T, .int .i64 S, .int .i64 N, .int .i64 C, .int .i64 R, .int .i64 F, .int .u64 K, .int .i64 a, .int .i64 b, .int .i64 d] [.int .i64 T, .int .i64 S, .int .i64 N, .int .i64 C, .int .i64 R, .int .i64 F, .int .u64 K] sv (8 + t * S + j)) (fun sj _ _ => S - (intOf sj).toNat)
      case atStart => exact ⟨0, by omega, rfl, HAL.out⟩
      case round =>
        clear HAL
        obtain ⟨j, hj, rfl, hal⟩ := hrel
        rename World => W2
        obtain ⟨m, hm⟩ : ∃ m, 8 + t * S + j = m := ⟨_, rfl⟩
        rw [hm] at hal
        have HAL := Lib.hid hal
        have HM := Lib.hid hm
        clear hal hm
        by_cases hlj : j < S
        · skip
          have hb : m < 5000 := by
            have e1 := Nat.mul_le_mul_right S (show t + 1 ≤ T by omega)
            rw [Nat.succ_mul] at e1
            have := HM.out; have := HNA.out; have := HNB.out; have := HND.out; have := HNT.out; omega
          have y1 := HAL.out.c.cell (i := 1) rfl
          have x0 := HAL.out.l.cell (i := 0) rfl
          have x1 := HAL.out.l.cell (i := 1) rfl
          have x2 := HAL.out.l.cell (i := 2) rfl
          have x3 := HAL.out.l.cell (i := 3) rfl
          have x4 := HAL.out.l.cell (i := 4) rfl
          have x5 := HAL.out.l.cell (i := 5) rfl
          have x6 := HAL.out.l.cell (i := 6) rfl
          have x7 := HAL.out.l.cell (i := 7) rfl
          have x8 := HAL.out.l.cell (i := 8) rfl
          have x9 := HAL.out.l.cell (i := 9) rfl
          go_wp2_with fail
          clear x0 x1 x2 x3 x4 x5 x6 x7 x8 x9
          clear y1
          refine (snap_of T S N C R F K a b d t j (m : Int) hl hrc (by rw [snapAt_nat T S t j hlt hlj, HM.out]) _).mono ?_; rintro e w3 ⟨rfl, hk⟩
          have HA3 := Lib.hid ((HAL.out.same hk).same ((Kept.refl _ _).alloc (.cells #[.int .i64 (m : Int)] 3)))
          clear hk
          go_wp2_with (at_builtin; go_must (refine wpList_append_lies _ rfl (.tmp 67) (.tmp 72) 46 rfl B 3 i0 _ 1 8 Try.underlying46 HI.out HZ0.out HZ1.out HZ2.out rfl (by decide) _ m (iota m) rfl HA3.out.own ⟨w3.heap.size, 0, none⟩ 1 1 [.int .i64 (m : Int)] rfl rfl (World.news_of_block (cs := #[.int .i64 (m : Int)]) (t := 3) (fr := (0, 0)) (heap_alloc_new w3 _)) (by simp [Value.oneCell']) (by omega) ?ap1 ?ap2 ?ap3 _ rfl ?_))
          try case ap1 => unfold maxLen; omega
          try case ap2 => omega
          try case ap3 => exact HA3.out.b2
          intro g4 cap4 w4 hown4 hgrow4 _ _
          have HA4 := Lib.hid (HA3.out.push hgrow4 hown4 (iota_succ m))
          clear hown4 hgrow4 HA3
          go_wp2
          go_roundw
          case rel => exact ⟨j + 1, by omega, by go_num, by rw [show 8 + t * S + (j + 1) = m + 1 by have := HM.out; omega]; exact HA4.out⟩
          case measure => simp [intOf]; omega
        · skip
          obtain rfl : j = S := by omega
          have y1 := HAL.out.c.cell (i := 1) rfl
          go_wp2
          go_roundw
          case rel => exact ⟨t + 1, by omega, by go_num, by have := HAL.out; rw [← HM.out, show 8 + t * j + j = 8 + (t + 1) * j by rw [Nat.succ_mul]; omega] at this; exact this⟩
          case measure => simp [intOf]; omega
    · skip
      obtain rfl : T = t := by omega
      have y0 := HAL.out.c.cell (i := 0) rfl
      go_wp2_with fail
      clear y0
      go_loopw [9, 6] (fun sn sv wr => ∃ j : Nat, j ≤ N ∧ sn = .int .u64 ((j : Int) + 1) ∧ All w wr B s r [.int .i64 T, .int .i64 S, .int .i64 N, .int .i64 C, .int .i64 R, .int .i64 F, .int .u64 K, .int .i64 a, .int .i64 b, .int .i64 d] [.int .i64 T, .int .i64 S, .int .i64 N, .int .i64 C, .int .i64 R, .int .i64 F, .int .u64 K] sv (a + j * (F + 4))) (fun sn _ _ => N + 1 - (intOf sn).toNat)
      case atStart => exact ⟨0, by omega, rfl, by rw [Nat.zero_mul, show a + 0 = 8 + T * S by have := HNA.out; omega]; exact HAL.out⟩
      case round =>
        clear HAL
        obtain ⟨j, hj, rfl, hal⟩ := hrel
        rename World => W3
        obtain ⟨m, hm⟩ : ∃ m, a + j * (F + 4) = m := ⟨_, rfl⟩
        rw [hm] at hal
        have HAL := Lib.hid hal
        have HM := Lib.hid hm
        clear hal hm
        by_cases hlj : j < N
        · skip
          have e1 := Nat.mul_le_mul_right (F + 4) (show j + 1 ≤ N by omega)
          have e2 : (j + 1) * (F + 4) = j * (F + 4) + (F + 4) := Nat.succ_mul _ _
          have hb : m + F + 4 ≤ 5000 := by have := HM.out; have := HNA.out; have := HNB.out; have := HND.out; have := HNT.out; omega
          have HE := Lib.hid e2
          clear e1 e2
          have y2 := HAL.out.c.cell (i := 2) rfl
          have x0 := HAL.out.l.cell (i := 0) rfl
          have x1 := HAL.out.l.cell (i := 1) rfl
          have x2 := HAL.out.l.cell (i := 2) rfl
          have x3 := HAL.out.l.cell (i := 3) rfl
          have x4 := HAL.out.l.cell (i := 4) rfl
          have x5 := HAL.out.l.cell (i := 5) rfl
          have x6 := HAL.out.l.cell (i := 6) rfl
          have x7 := HAL.out.l.cell (i := 7) rfl
          have x8 := HAL.out.l.cell (i := 8) rfl
          have x9 := HAL.out.l.cell (i := 9) rfl
          go_wp2_with fail
          clear y2
          obtain ⟨m1, hm1⟩ : ∃ x : Nat, x = m + 1 := ⟨_, rfl⟩
          have HM1 := Lib.hid hm1
          clear hm1
          obtain ⟨m2, hm2⟩ : ∃ x : Nat, x = m + 2 := ⟨_, rfl⟩
          have HM2 := Lib.hid hm2
          clear hm2
          obtain ⟨m3, hm3⟩ : ∃ x : Nat, x = m + 3 := ⟨_, rfl⟩
          have HM3 := Lib.hid hm3
          clear hm3
          have HFAR := Lib.hid (HAL.out.far s HAL.out.s1)
          refine wp_region_held_drew (S := (fun w' => w'.cell? ⟨s, 0, none⟩ = some (.int .i64 T) ∧ w'.cell? ⟨s, 1, none⟩ = some (.int .i64 S) ∧ w'.cell? ⟨s, 2, none⟩ = some (.int .i64 N) ∧ w'.cell? ⟨s, 3, none⟩ = some (.int .i64 C) ∧ w'.cell? ⟨s, 4, none⟩ = some (.int .i64 R) ∧ w'.cell? ⟨s, 5, none⟩ = some (.int .i64 F) ∧ w'.cell? ⟨s, 6, none⟩ = some (.int .u64 K) ∧ w'.cell? ⟨s, 7, none⟩ = some (.int .i64 a) ∧ w'.cell? ⟨s, 8, none⟩ = some (.int .i64 b) ∧ w'.cell? ⟨s, 9, none⟩ = some (.int .i64 d))) (by kernel_rfl) ?_ (fun hHeld => ?_)
          · try dsimp only
            (first | assumption | exact ⟨x0, x1, x2, x3, x4, x5, x6, x7, x8, x9⟩ | exact keep10c (by assumption) (by assumption) | exact keep10c (Kept.ofDrew (by assumption)) (by assumption) | exact keep10c ((Kept.refl _ _).alloc _) (by assumption) | exact keep10g hgrow4 HFAR.out (by assumption))
          refine wpAnyH_take (i := 0) (oi := ⟨some 81, _, _, _, _, _⟩) (v := ?_) rfl (by kernel_rfl) (by kernel_rfl) (by kernel_rfl) (fun _ _ _ h => h) (Or.inl ⟨by rfl, ?_⟩) hHeld ?_
          rotate_left
          · (intro wq hSw; (try dsimp only at hSw); go_simp; try with_reducible rfl)
          try simp only [Act.put, List.setIfInBounds_toArray, List.set_cons_zero, List.set_cons_succ]
          refine wpAnyH_take (i := 1) (oi := ⟨some 82, _, _, _, _, _⟩) (v := ?_) rfl (by kernel_rfl) (by kernel_rfl) (by kernel_rfl) (fun _ _ _ h => h) (Or.inl ⟨by rfl, ?_⟩) hHeld ?_
          rotate_left
          · (intro wq hSw; (try dsimp only at hSw); go_simp; try with_reducible rfl)
          try simp only [Act.put, List.setIfInBounds_toArray, List.set_cons_zero, List.set_cons_succ]
          refine wpAnyH_take (i := 2) (oi := ⟨some 83, _, _, _, _, _⟩) (v := ?_) rfl (by kernel_rfl) (by kernel_rfl) (by kernel_rfl) (fun _ _ _ h => h) (Or.inl ⟨by rfl, ?_⟩) hHeld ?_
          rotate_left
          · (intro wq hSw; (try dsimp only at hSw); go_simp; try with_reducible rfl)
          try simp only [Act.put, List.setIfInBounds_toArray, List.set_cons_zero, List.set_cons_succ]
          refine wpAnyH_take (i := 4) (oi := ⟨some 85, _, _, _, _, _⟩) (v := ?_) rfl (by kernel_rfl) (by kernel_rfl) (by kernel_rfl) (fun _ _ _ h => h) (Or.inl ⟨by rfl, ?_⟩) hHeld ?_
          rotate_left
          · (intro wq hSw; (try dsimp only at hSw); go_simp; try with_reducible rfl)
          try simp only [Act.put, List.setIfInBounds_toArray, List.set_cons_zero, List.set_cons_succ]
          refine wpAnyH_take (i := 5) (oi := ⟨some 86, _, _, _, _, _⟩) (v := ?_) rfl (by kernel_rfl) (by kernel_rfl) (by kernel_rfl) (fun _ _ _ h => h) (Or.inl ⟨by rfl, ?_⟩) hHeld ?_
          rotate_left
          · (intro wq hSw; (try dsimp only at hSw); go_simp; try with_reducible rfl)
          try simp only [Act.put, List.setIfInBounds_toArray, List.set_cons_zero, List.set_cons_succ]
          refine wpAnyH_take (i := 7) (oi := ⟨some 88, _, _, _, _, _⟩) (v := ?_) rfl (by kernel_rfl) (by kernel_rfl) (by kernel_rfl) (fun _ _ _ h => h) (Or.inl ⟨by rfl, ?_⟩) hHeld ?_
          rotate_left
          · (intro wq hSw; (try dsimp only at hSw); go_simp; try with_reducible rfl)
          try simp only [Act.put, List.setIfInBounds_toArray, List.set_cons_zero, List.set_cons_succ]
          refine wpAnyH_take (i := 8) (oi := ⟨some 89, _, _, _, _, _⟩) (v := ?_) rfl (by kernel_rfl) (by kernel_rfl) (by kernel_rfl) (fun _ _ _ h => h) (Or.inl ⟨by rfl, ?_⟩) hHeld ?_
          rotate_left
          · (intro wq hSw; (try dsimp only at hSw); go_simp; try with_reducible rfl)
          try simp only [Act.put, List.setIfInBounds_toArray, List.set_cons_zero, List.set_cons_succ]
          refine wpAnyH_take (i := 10) (oi := ⟨some 91, _, _, _, _, _⟩) (v := ?_) rfl (by kernel_rfl) (by kernel_rfl) (by kernel_rfl) (fun _ _ _ h => h) (Or.inl ⟨by rfl, ?_⟩) hHeld ?_
          rotate_left
          · (intro wq hSw; (try dsimp only at hSw); go_simp; try with_reducible rfl)
          try simp only [Act.put, List.setIfInBounds_toArray, List.set_cons_zero, List.set_cons_succ]
          refine wpAnyH_take (i := 11) (oi := ⟨some 92, _, _, _, _, _⟩) (v := ?_) rfl (by kernel_rfl) (by kernel_rfl) (by kernel_rfl) (fun _ _ _ h => h) (Or.inl ⟨by rfl, ?_⟩) hHeld ?_
          rotate_left
          · (intro wq hSw; (try dsimp only at hSw); go_simp; try with_reducible rfl)
          try simp only [Act.put, List.setIfInBounds_toArray, List.set_cons_zero, List.set_cons_succ]
          refine wpAnyH_ready (rs := [3]) (by kernel_rfl) (by simp) ?_
          refine AllReadyH.cons (o := ⟨some 84, _, _, _, _, _⟩) rfl (fun KK hK => ?_) AllReadyH.nil
          go_simp
          (go_at_call 27; refine (latch_of T S N C R F K a b d ((j : Int) + 1) (m : Int) hl hrc ((nodeAt_nat N F a j 0 hlj).trans (by have := HM.out; omega)) _).mono ?_; rintro e wb0 ⟨rfl, hkb0⟩)
          refine hK.out _ _ ?_ (fun hHeld2 => ?_)
          · try dsimp only
            (first | assumption | exact ⟨x0, x1, x2, x3, x4, x5, x6, x7, x8, x9⟩ | exact keep10c (by assumption) (by assumption) | exact keep10c (Kept.ofDrew (by assumption)) (by assumption) | exact keep10c ((Kept.refl _ _).alloc _) (by assumption) | exact keep10g hgrow4 HFAR.out (by assumption))
          clear hK KK hHeld
          have hHeld := hHeld2
          clear hHeld2
          try simp only [Act.put, List.setIfInBounds_toArray, List.set_cons_zero, List.set_cons_succ]
          refine wpAnyH_ready (rs := [6]) (by kernel_rfl) (by simp) ?_
          refine AllReadyH.cons (o := ⟨some 87, _, _, _, _, _⟩) rfl (fun KK hK => ?_) AllReadyH.nil
          go_simp
          (go_at_call 29; refine (head_of T S N C R F K a b d ((j : Int) + 1) (m1 : Int) hl hrc ((nodeAt_nat N F a j 1 hlj).trans (by have := HM.out; have := HM1.out; omega)) _).mono ?_; rintro e wb1 ⟨rfl, hkb1⟩)
          refine hK.out _ _ ?_ (fun hHeld2 => ?_)
          · try dsimp only
            (first | assumption | exact ⟨x0, x1, x2, x3, x4, x5, x6, x7, x8, x9⟩ | exact keep10c (by assumption) (by assumption) | exact keep10c (Kept.ofDrew (by assumption)) (by assumption) | exact keep10c ((Kept.refl _ _).alloc _) (by assumption) | exact keep10g hgrow4 HFAR.out (by assumption))
          clear hK KK hHeld
          have hHeld := hHeld2
          clear hHeld2
          try simp only [Act.put, List.setIfInBounds_toArray, List.set_cons_zero, List.set_cons_succ]
          refine wpAnyH_ready (rs := [9]) (by kernel_rfl) (by simp) ?_
          refine AllReadyH.cons (o := ⟨some 90, _, _, _, _, _⟩) rfl (fun KK hK => ?_) AllReadyH.nil
          go_simp
          (go_at_call 30; refine (high_of T S N C R F K a b d ((j : Int) + 1) (m2 : Int) hl hrc ((nodeAt_nat N F a j 2 hlj).trans (by have := HM.out; have := HM2.out; omega)) _).mono ?_; rintro e wb2 ⟨rfl, hkb2⟩)
          refine hK.out _ _ ?_ (fun hHeld2 => ?_)
          · try dsimp only
            (first | assumption | exact ⟨x0, x1, x2, x3, x4, x5, x6, x7, x8, x9⟩ | exact keep10c (by assumption) (by assumption) | exact keep10c (Kept.ofDrew (by assumption)) (by assumption) | exact keep10c ((Kept.refl _ _).alloc _) (by assumption) | exact keep10g hgrow4 HFAR.out (by assumption))
          clear hK KK hHeld
          have hHeld := hHeld2
          clear hHeld2
          try simp only [Act.put, List.setIfInBounds_toArray, List.set_cons_zero, List.set_cons_succ]
          refine wpAnyH_ready (rs := [12]) (by kernel_rfl) (by simp) ?_
          refine AllReadyH.cons (o := ⟨some 93, _, _, _, _, _⟩) rfl (fun KK hK => ?_) AllReadyH.nil
          go_simp
          (go_at_call 31; refine (right_of T S N C R F K a b d ((j : Int) + 1) (m3 : Int) hl hrc ((nodeAt_nat N F a j 3 hlj).trans (by have := HM.out; have := HM3.out; omega)) _).mono ?_; rintro e wb3 ⟨rfl, hkb3⟩)
          refine hK.out _ _ ?_ (fun hHeld2 => ?_)
          · try dsimp only
            (first | assumption | exact ⟨x0, x1, x2, x3, x4, x5, x6, x7, x8, x9⟩ | exact keep10c (by assumption) (by assumption) | exact keep10c (Kept.ofDrew (by assumption)) (by assumption) | exact keep10c ((Kept.refl _ _).alloc _) (by assumption) | exact keep10g hgrow4 HFAR.out (by assumption))
          clear hK KK hHeld
          have hHeld := hHeld2
          clear hHeld2
          try simp only [Act.put, List.setIfInBounds_toArray, List.set_cons_zero, List.set_cons_succ]
          refine wpAnyH_ready (rs := [13]) (by kernel_rfl) (by simp) ?_
          refine AllReadyH.cons (o := ⟨some 94, _, _, _, _, _⟩) rfl (fun KK hK => ?_) AllReadyH.nil
          go_simp
          refine hK.out _ _ ?_ (fun hHeld2 => ?_)
          · try dsimp only
            (first | assumption | exact ⟨x0, x1, x2, x3, x4, x5, x6, x7, x8, x9⟩ | exact keep10c (by assumption) (by assumption) | exact keep10c (Kept.ofDrew (by assumption)) (by assumption) | exact keep10c ((Kept.refl _ _).alloc _) (by assumption) | exact keep10g hgrow4 HFAR.out (by assumption))
          clear hK KK hHeld
          have hHeld := hHeld2
          clear hHeld2
          try simp only [Act.put, List.setIfInBounds_toArray, List.set_cons_zero, List.set_cons_succ]
          refine wpAnyH_ready (rs := [14]) (by kernel_rfl) (by simp) ?_
          refine AllReadyH.cons (o := ⟨some 95, _, _, _, _, _⟩) rfl (fun KK hK => ?_) AllReadyH.nil
          have HAb := Lib.hid (((((HAL.out.same hkb0.ofDrew).same hkb1).same hkb2).same hkb3).same ((Kept.refl _ _).alloc (.cells #[.int .i64 (m : Int), .int .i64 (m1 : Int), .int .i64 (m2 : Int), .int .i64 (m3 : Int)] 3)))
          refine step_append_lies _ (by rfl) (.tmp 81) (.tmp 94) 46 (by rfl) B 3 i0 _ 1 8 Try.underlying46 HI.out HZ0.out HZ1.out HZ2.out rfl (by decide) _ m (iota m) (by rfl) HAb.out.own ⟨wb3.heap.size, 0, none⟩ 4 4 [.int .i64 (m : Int), .int .i64 (m1 : Int), .int .i64 (m2 : Int), .int .i64 (m3 : Int)] (by rfl) (by rfl) (World.news_of_block (cs := #[.int .i64 (m : Int), .int .i64 (m1 : Int), .int .i64 (m2 : Int), .int .i64 (m3 : Int)]) (t := 3) (fr := (0, 0)) (heap_alloc_new wb3 _)) (by simp [Value.oneCell']) (by omega) (by unfold maxLen; omega) (by omega) HAb.out.b2 _ rfl ?_
          intro g4 cap4 w4 hown4 hgrow4 hat4 hlt4
          refine hK.out _ _ ?_ (fun hHeld2 => ?_)
          · try dsimp only
            (first | assumption | exact ⟨x0, x1, x2, x3, x4, x5, x6, x7, x8, x9⟩ | exact keep10c (by assumption) (by assumption) | exact keep10c (Kept.ofDrew (by assumption)) (by assumption) | exact keep10c ((Kept.refl _ _).alloc _) (by assumption) | exact keep10g hgrow4 HFAR.out (by assumption))
          clear hK KK hHeld
          have hHeld := hHeld2
          clear hHeld2
          try simp only [Act.put, List.setIfInBounds_toArray, List.set_cons_zero, List.set_cons_succ]
          refine wpAnyH_take (i := 15) (oi := ⟨some 6, _, _, _, _, _⟩) (v := ?_) rfl (by kernel_rfl) (by kernel_rfl) (by kernel_rfl) (fun _ _ _ h => h) (Or.inl ⟨by rfl, ?_⟩) hHeld ?_
          rotate_left
          · (intro wq hSw; (try dsimp only at hSw); go_simp; try with_reducible rfl)
          try simp only [Act.put, List.setIfInBounds_toArray, List.set_cons_zero, List.set_cons_succ]
          refine wpAnyH_done (by kernel_rfl) ?_ _
          have HA4 := Lib.hid (HAb.out.push hgrow4 hown4 (by rw [HM1.out, HM2.out, HM3.out]; exact iota_4 m))
          clear hown4 hgrow4 hat4 hlt4 HAb hHeld HFAR hkb0 hkb1 hkb2 hkb3 HM1 HM2 HM3
          clear x0 x1 x2 x3 x4 x5 x6 x7 x8 x9
          go_wp2_with fail
          go_loopw [10, 6] (fun si sv wr => ∃ i : Nat, i ≤ F ∧ si = .int .i64 i ∧ All w wr B s r [.int .i64 T, .int .i64 S, .int .i64 N, .int .i64 C, .int .i64 R, .int .i64 F, .int .u64 K, .int .i64 a, .int .i64 b, .int .i64 d] [.int .i64 T, .int .i64 S, .int .i64 N, .int .i64 C, .int .i64 R, .int .i64 F, .int .u64 K] sv (m + 4 + i)) (fun si _ _ => F - (intOf si).toNat)
          case atStart => exact ⟨0, by omega, rfl, HA4.out⟩
          case round =>
            clear HAL HA4
            obtain ⟨i, hi, rfl, hal⟩ := hrel
            rename World => W4
            obtain ⟨p, hp⟩ : ∃ p, m + 4 + i = p := ⟨_, rfl⟩
            rw [hp] at hal
            have HAL := Lib.hid hal
            have HP := Lib.hid hp
            clear hal hp
            by_cases hli : i < F
            · skip
              have hbp : p < 5000 := by have := HP.out; omega
              have y5 := HAL.out.c.cell (i := 5) rfl
              have x0 := HAL.out.l.cell (i := 0) rfl
              have x1 := HAL.out.l.cell (i := 1) rfl
              have x2 := HAL.out.l.cell (i := 2) rfl
              have x3 := HAL.out.l.cell (i := 3) rfl
              have x4 := HAL.out.l.cell (i := 4) rfl
              have x5 := HAL.out.l.cell (i := 5) rfl
              have x6 := HAL.out.l.cell (i := 6) rfl
              have x7 := HAL.out.l.cell (i := 7) rfl
              have x8 := HAL.out.l.cell (i := 8) rfl
              have x9 := HAL.out.l.cell (i := 9) rfl
              go_wp2_with fail
              clear x0 x1 x2 x3 x4 x5 x6 x7 x8 x9
              clear y5
              refine (slot_of T S N C R F K a b d ((j : Int) + 1) i (p : Int) hl hrc (by rw [slotAt_nat N F a j i hlj hli]; have := HM.out; have := HP.out; omega) _).mono ?_; rintro e w3 ⟨rfl, hk⟩
              have HA3 := Lib.hid ((HAL.out.same hk).same ((Kept.refl _ _).alloc (.cells #[.int .i64 (p : Int)] 3)))
              clear hk
              go_wp2_with (at_builtin; go_must (refine wpList_append_lies _ rfl (.tmp 102) (.tmp 107) 46 rfl B 3 i0 _ 1 8 Try.underlying46 HI.out HZ0.out HZ1.out HZ2.out rfl (by decide) _ p (iota p) rfl HA3.out.own ⟨w3.heap.size, 0, none⟩ 1 1 [.int .i64 (p : Int)] rfl rfl (World.news_of_block (cs := #[.int .i64 (p : Int)]) (t := 3) (fr := (0, 0)) (heap_alloc_new w3 _)) (by simp [Value.oneCell']) (by omega) ?ap1 ?ap2 ?ap3 _ rfl ?_))
              try case ap1 => unfold maxLen; omega
              try case ap2 => omega
              try case ap3 => exact HA3.out.b2
              intro g4 cap4 w4 hown4 hgrow4 _ _
              have HA4 := Lib.hid (HA3.out.push hgrow4 hown4 (iota_succ p))
              clear hown4 hgrow4 HA3
              go_wp2
              go_roundw
              case rel => exact ⟨i + 1, by omega, by go_num, by rw [show m + 4 + (i + 1) = p + 1 by have := HP.out; omega]; exact HA4.out⟩
              case measure => simp [intOf]; omega
            · skip
              obtain rfl : F = i := by omega
              have y5 := HAL.out.c.cell (i := 5) rfl
              go_wp2
              go_roundw
              case rel => exact ⟨j + 1, by omega, congrArg (Value.int .u64) (by omega), by rw [show a + (j + 1) * (F + 4) = p by have := HP.out; have := HM.out; have := HE.out; omega]; exact HAL.out⟩
              case measure => simp [intOf]; omega
        · skip
          obtain rfl : N = j := by omega
          have y2 := HAL.out.c.cell (i := 2) rfl
          go_wp2_with fail
          clear y2
          go_loopw [11, 6] (fun sn sv wr => ∃ j : Nat, j ≤ C ∧ sn = .int .u64 ((j : Int) + 1) ∧ All w wr B s r [.int .i64 T, .int .i64 S, .int .i64 N, .int .i64 C, .int .i64 R, .int .i64 F, .int .u64 K, .int .i64 a, .int .i64 b, .int .i64 d] [.int .i64 T, .int .i64 S, .int .i64 N, .int .i64 C, .int .i64 R, .int .i64 F, .int .u64 K] sv (b + j)) (fun sn _ _ => C + 1 - (intOf sn).toNat)
          case atStart => exact ⟨0, by omega, rfl, by rw [show b + 0 = m by have := HM.out; have := HNA.out; have := HNB.out; have := HND.out; have := HNT.out; omega]; exact HAL.out⟩
          case round =>
            clear HM
            clear HAL
            obtain ⟨j, hj, rfl, hal⟩ := hrel
            rename World => W5
            obtain ⟨m, hm⟩ : ∃ m, b + j = m := ⟨_, rfl⟩
            rw [hm] at hal
            have HAL := Lib.hid hal
            have HM := Lib.hid hm
            clear hal hm
            by_cases hlj : j < C
            · skip
              have hb : m < 5000 := by have := HM.out; have := HNA.out; have := HNB.out; have := HND.out; have := HNT.out; omega
              have y3 := HAL.out.c.cell (i := 3) rfl
              have x0 := HAL.out.l.cell (i := 0) rfl
              have x1 := HAL.out.l.cell (i := 1) rfl
              have x2 := HAL.out.l.cell (i := 2) rfl
              have x3 := HAL.out.l.cell (i := 3) rfl
              have x4 := HAL.out.l.cell (i := 4) rfl
              have x5 := HAL.out.l.cell (i := 5) rfl
              have x6 := HAL.out.l.cell (i := 6) rfl
              have x7 := HAL.out.l.cell (i := 7) rfl
              have x8 := HAL.out.l.cell (i := 8) rfl
              have x9 := HAL.out.l.cell (i := 9) rfl
              go_wp2_with fail
              clear x0 x1 x2 x3 x4 x5 x6 x7 x8 x9
              clear y3
              refine (chain_of T S N C R F K a b d ((j : Int) + 1) (m : Int) hl hrc (by rw [chainAt_nat C b j hlj, HM.out]) _).mono ?_; rintro e w3 ⟨rfl, hk⟩
              have HA3 := Lib.hid ((HAL.out.same hk).same ((Kept.refl _ _).alloc (.cells #[.int .i64 (m : Int)] 3)))
              clear hk
              go_wp2_with (at_builtin; go_must (refine wpList_append_lies _ rfl (.tmp 116) (.tmp 120) 46 rfl B 3 i0 _ 1 8 Try.underlying46 HI.out HZ0.out HZ1.out HZ2.out rfl (by decide) _ m (iota m) rfl HA3.out.own ⟨w3.heap.size, 0, none⟩ 1 1 [.int .i64 (m : Int)] rfl rfl (World.news_of_block (cs := #[.int .i64 (m : Int)]) (t := 3) (fr := (0, 0)) (heap_alloc_new w3 _)) (by simp [Value.oneCell']) (by omega) ?ap1 ?ap2 ?ap3 _ rfl ?_))
              try case ap1 => unfold maxLen; omega
              try case ap2 => omega
              try case ap3 => exact HA3.out.b2
              intro g4 cap4 w4 hown4 hgrow4 _ _
              have HA4 := Lib.hid (HA3.out.push hgrow4 hown4 (iota_succ m))
              clear hown4 hgrow4 HA3
              go_wp2
              go_roundw
              case rel => exact ⟨j + 1, by omega, congrArg (Value.int .u64) (by omega), by rw [show b + (j + 1) = m + 1 by have := HM.out; omega]; exact HA4.out⟩
              case measure => simp [intOf]; omega
            · skip
              obtain rfl : C = j := by omega
              have y3 := HAL.out.c.cell (i := 3) rfl
              go_wp2_with fail
              clear y3
              go_loopw [12, 6] (fun sn sv wr => ∃ j : Nat, j ≤ R ∧ sn = .int .u64 ((j : Int) + 1) ∧ All w wr B s r [.int .i64 T, .int .i64 S, .int .i64 N, .int .i64 C, .int .i64 R, .int .i64 F, .int .u64 K, .int .i64 a, .int .i64 b, .int .i64 d] [.int .i64 T, .int .i64 S, .int .i64 N, .int .i64 C, .int .i64 R, .int .i64 F, .int .u64 K] sv (d + j * 3)) (fun sn _ _ => R + 1 - (intOf sn).toNat)
              case atStart => exact ⟨0, by omega, rfl, by rw [show d + 0 * 3 = m by have := HM.out; have := HNA.out; have := HNB.out; have := HND.out; have := HNT.out; omega]; exact HAL.out⟩
              case round =>
                clear HM
                clear HAL
                obtain ⟨j, hj, rfl, hal⟩ := hrel
                rename World => W6
                obtain ⟨m, hm⟩ : ∃ m, d + j * 3 = m := ⟨_, rfl⟩
                rw [hm] at hal
                have HAL := Lib.hid hal
                have HM := Lib.hid hm
                clear hal hm
                by_cases hlj : j < R
                · skip
                  have hb : m + 3 < 5003 := by have := HM.out; have := HNA.out; have := HNB.out; have := HND.out; have := HNT.out; omega
                  have y4 := HAL.out.c.cell (i := 4) rfl
                  have x0 := HAL.out.l.cell (i := 0) rfl
                  have x1 := HAL.out.l.cell (i := 1) rfl
                  have x2 := HAL.out.l.cell (i := 2) rfl
                  have x3 := HAL.out.l.cell (i := 3) rfl
                  have x4 := HAL.out.l.cell (i := 4) rfl
                  have x5 := HAL.out.l.cell (i := 5) rfl
                  have x6 := HAL.out.l.cell (i := 6) rfl
                  have x7 := HAL.out.l.cell (i := 7) rfl
                  have x8 := HAL.out.l.cell (i := 8) rfl
                  have x9 := HAL.out.l.cell (i := 9) rfl
                  go_wp2_with fail
                  clear y4
                  obtain ⟨m1, hm1⟩ : ∃ x : Nat, x = m + 1 := ⟨_, rfl⟩
                  have HM1 := Lib.hid hm1
                  clear hm1
                  obtain ⟨m2, hm2⟩ : ∃ x : Nat, x = m + 2 := ⟨_, rfl⟩
                  have HM2 := Lib.hid hm2
                  clear hm2
                  have HFAR := Lib.hid (HAL.out.far s HAL.out.s1)
                  refine wp_region_held_drew (S := (fun w' => w'.cell? ⟨s, 0, none⟩ = some (.int .i64 T) ∧ w'.cell? ⟨s, 1, none⟩ = some (.int .i64 S) ∧ w'.cell? ⟨s, 2, none⟩ = some (.int .i64 N) ∧ w'.cell? ⟨s, 3, none⟩ = some (.int .i64 C) ∧ w'.cell? ⟨s, 4, none⟩ = some (.int .i64 R) ∧ w'.cell? ⟨s, 5, none⟩ = some (.int .i64 F) ∧ w'.cell? ⟨s, 6, none⟩ = some (.int .u64 K) ∧ w'.cell? ⟨s, 7, none⟩ = some (.int .i64 a) ∧ w'.cell? ⟨s, 8, none⟩ = some (.int .i64 b) ∧ w'.cell? ⟨s, 9, none⟩ = some (.int .i64 d))) (by kernel_rfl) ?_ (fun hHeld => ?_)
                  · try dsimp only
                    (first | assumption | exact ⟨x0, x1, x2, x3, x4, x5, x6, x7, x8, x9⟩ | exact keep10c (by assumption) (by assumption) | exact keep10c (Kept.ofDrew (by assumption)) (by assumption) | exact keep10c ((Kept.refl _ _).alloc _) (by assumption) | exact keep10g hgrow4 HFAR.out (by assumption))
                  refine wpAnyH_take (i := 0) (oi := ⟨some 129, _, _, _, _, _⟩) (v := ?_) rfl (by kernel_rfl) (by kernel_rfl) (by kernel_rfl) (fun _ _ _ h => h) (Or.inl ⟨by rfl, ?_⟩) hHeld ?_
                  rotate_left
                  · (intro wq hSw; (try dsimp only at hSw); go_simp; try with_reducible rfl)
                  try simp only [Act.put, List.setIfInBounds_toArray, List.set_cons_zero, List.set_cons_succ]
                  refine wpAnyH_take (i := 1) (oi := ⟨some 130, _, _, _, _, _⟩) (v := ?_) rfl (by kernel_rfl) (by kernel_rfl) (by kernel_rfl) (fun _ _ _ h => h) (Or.inl ⟨by rfl, ?_⟩) hHeld ?_
                  rotate_left
                  · (intro wq hSw; (try dsimp only at hSw); go_simp; try with_reducible rfl)
                  try simp only [Act.put, List.setIfInBounds_toArray, List.set_cons_zero, List.set_cons_succ]
                  refine wpAnyH_take (i := 2) (oi := ⟨some 131, _, _, _, _, _⟩) (v := ?_) rfl (by kernel_rfl) (by kernel_rfl) (by kernel_rfl) (fun _ _ _ h => h) (Or.inl ⟨by rfl, ?_⟩) hHeld ?_
                  rotate_left
                  · (intro wq hSw; (try dsimp only at hSw); go_simp; try with_reducible rfl)
                  try simp only [Act.put, List.setIfInBounds_toArray, List.set_cons_zero, List.set_cons_succ]
                  refine wpAnyH_take (i := 4) (oi := ⟨some 133, _, _, _, _, _⟩) (v := ?_) rfl (by kernel_rfl) (by kernel_rfl) (by kernel_rfl) (fun _ _ _ h => h) (Or.inl ⟨by rfl, ?_⟩) hHeld ?_
                  rotate_left
                  · (intro wq hSw; (try dsimp only at hSw); go_simp; try with_reducible rfl)
                  try simp only [Act.put, List.setIfInBounds_toArray, List.set_cons_zero, List.set_cons_succ]
                  refine wpAnyH_take (i := 5) (oi := ⟨some 134, _, _, _, _, _⟩) (v := ?_) rfl (by kernel_rfl) (by kernel_rfl) (by kernel_rfl) (fun _ _ _ h => h) (Or.inl ⟨by rfl, ?_⟩) hHeld ?_
                  rotate_left
                  · (intro wq hSw; (try dsimp only at hSw); go_simp; try with_reducible rfl)
                  try simp only [Act.put, List.setIfInBounds_toArray, List.set_cons_zero, List.set_cons_succ]
                  refine wpAnyH_take (i := 7) (oi := ⟨some 136, _, _, _, _, _⟩) (v := ?_) rfl (by kernel_rfl) (by kernel_rfl) (by kernel_rfl) (fun _ _ _ h => h) (Or.inl ⟨by rfl, ?_⟩) hHeld ?_
                  rotate_left
                  · (intro wq hSw; (try dsimp only at hSw); go_simp; try with_reducible rfl)
                  try simp only [Act.put, List.setIfInBounds_toArray, List.set_cons_zero, List.set_cons_succ]
                  refine wpAnyH_take (i := 8) (oi := ⟨some 137, _, _, _, _, _⟩) (v := ?_) rfl (by kernel_rfl) (by kernel_rfl) (by kernel_rfl) (fun _ _ _ h => h) (Or.inl ⟨by rfl, ?_⟩) hHeld ?_
                  rotate_left
                  · (intro wq hSw; (try dsimp only at hSw); go_simp; try with_reducible rfl)
                  try simp only [Act.put, List.setIfInBounds_toArray, List.set_cons_zero, List.set_cons_succ]
                  refine wpAnyH_ready (rs := [3]) (by kernel_rfl) (by simp) ?_
                  refine AllReadyH.cons (o := ⟨some 132, _, _, _, _, _⟩) rfl (fun KK hK => ?_) AllReadyH.nil
                  go_simp
                  (go_at_call 34; refine (stamp_of T S N C R F K a b d ((j : Int) + 1) (m : Int) hl hrc ((recAt_nat R d j 0 hlj).trans (by have := HM.out; omega)) _).mono ?_; rintro e wb0 ⟨rfl, hkb0⟩)
                  refine hK.out _ _ ?_ (fun hHeld2 => ?_)
                  · try dsimp only
                    (first | assumption | exact ⟨x0, x1, x2, x3, x4, x5, x6, x7, x8, x9⟩ | exact keep10c (by assumption) (by assumption) | exact keep10c (Kept.ofDrew (by assumption)) (by assumption) | exact keep10c ((Kept.refl _ _).alloc _) (by assumption) | exact keep10g hgrow4 HFAR.out (by assumption))
                  clear hK KK hHeld
                  have hHeld := hHeld2
                  clear hHeld2
                  try simp only [Act.put, List.setIfInBounds_toArray, List.set_cons_zero, List.set_cons_succ]
                  refine wpAnyH_ready (rs := [6]) (by kernel_rfl) (by simp) ?_
                  refine AllReadyH.cons (o := ⟨some 135, _, _, _, _, _⟩) rfl (fun KK hK => ?_) AllReadyH.nil
                  go_simp
                  (go_at_call 36; refine (value_of T S N C R F K a b d ((j : Int) + 1) (m1 : Int) hl hrc ((recAt_nat R d j 1 hlj).trans (by have := HM.out; have := HM1.out; omega)) _).mono ?_; rintro e wb1 ⟨rfl, hkb1⟩)
                  refine hK.out _ _ ?_ (fun hHeld2 => ?_)
                  · try dsimp only
                    (first | assumption | exact ⟨x0, x1, x2, x3, x4, x5, x6, x7, x8, x9⟩ | exact keep10c (by assumption) (by assumption) | exact keep10c (Kept.ofDrew (by assumption)) (by assumption) | exact keep10c ((Kept.refl _ _).alloc _) (by assumption) | exact keep10g hgrow4 HFAR.out (by assumption))
                  clear hK KK hHeld
                  have hHeld := hHeld2
                  clear hHeld2
                  try simp only [Act.put, List.setIfInBounds_toArray, List.set_cons_zero, List.set_cons_succ]
                  refine wpAnyH_ready (rs := [9]) (by kernel_rfl) (by simp) ?_
                  refine AllReadyH.cons (o := ⟨some 138, _, _, _, _, _⟩) rfl (fun KK hK => ?_) AllReadyH.nil
                  go_simp
                  (go_at_call 37; refine (next_of T S N C R F K a b d ((j : Int) + 1) (m2 : Int) hl hrc ((recAt_nat R d j 2 hlj).trans (by have := HM.out; have := HM2.out; omega)) _).mono ?_; rintro e wb2 ⟨rfl, hkb2⟩)
                  refine hK.out _ _ ?_ (fun hHeld2 => ?_)
                  · try dsimp only
                    (first | assumption | exact ⟨x0, x1, x2, x3, x4, x5, x6, x7, x8, x9⟩ | exact keep10c (by assumption) (by assumption) | exact keep10c (Kept.ofDrew (by assumption)) (by assumption) | exact keep10c ((Kept.refl _ _).alloc _) (by assumption) | exact keep10g hgrow4 HFAR.out (by assumption))
                  clear hK KK hHeld
                  have hHeld := hHeld2
                  clear hHeld2
                  try simp only [Act.put, List.setIfInBounds_toArray, List.set_cons_zero, List.set_cons_succ]
                  refine wpAnyH_ready (rs := [10]) (by kernel_rfl) (by simp) ?_
                  refine AllReadyH.cons (o := ⟨some 139, _, _, _, _, _⟩) rfl (fun KK hK => ?_) AllReadyH.nil
                  go_simp
                  refine hK.out _ _ ?_ (fun hHeld2 => ?_)
                  · try dsimp only
                    (first | assumption | exact ⟨x0, x1, x2, x3, x4, x5, x6, x7, x8, x9⟩ | exact keep10c (by assumption) (by assumption) | exact keep10c (Kept.ofDrew (by assumption)) (by assumption) | exact keep10c ((Kept.refl _ _).alloc _) (by assumption) | exact keep10g hgrow4 HFAR.out (by assumption))
                  clear hK KK hHeld
                  have hHeld := hHeld2
                  clear hHeld2
                  try simp only [Act.put, List.setIfInBounds_toArray, List.set_cons_zero, List.set_cons_succ]
                  refine wpAnyH_ready (rs := [11]) (by kernel_rfl) (by simp) ?_
                  refine AllReadyH.cons (o := ⟨some 140, _, _, _, _, _⟩) rfl (fun KK hK => ?_) AllReadyH.nil
                  have HAb := Lib.hid ((((HAL.out.same hkb0.ofDrew).same hkb1).same hkb2).same ((Kept.refl _ _).alloc (.cells #[.int .i64 (m : Int), .int .i64 (m1 : Int), .int .i64 (m2 : Int)] 3)))
                  refine step_append_lies _ (by rfl) (.tmp 129) (.tmp 139) 46 (by rfl) B 3 i0 _ 1 8 Try.underlying46 HI.out HZ0.out HZ1.out HZ2.out rfl (by decide) _ m (iota m) (by rfl) HAb.out.own ⟨wb2.heap.size, 0, none⟩ 3 3 [.int .i64 (m : Int), .int .i64 (m1 : Int), .int .i64 (m2 : Int)] (by rfl) (by rfl) (World.news_of_block (cs := #[.int .i64 (m : Int), .int .i64 (m1 : Int), .int .i64 (m2 : Int)]) (t := 3) (fr := (0, 0)) (heap_alloc_new wb2 _)) (by simp [Value.oneCell']) (by omega) (by unfold maxLen; omega) (by omega) HAb.out.b2 _ rfl ?_
                  intro g4 cap4 w4 hown4 hgrow4 hat4 hlt4
                  refine hK.out _ _ ?_ (fun hHeld2 => ?_)
                  · try dsimp only
                    (first | assumption | exact ⟨x0, x1, x2, x3, x4, x5, x6, x7, x8, x9⟩ | exact keep10c (by assumption) (by assumption) | exact keep10c (Kept.ofDrew (by assumption)) (by assumption) | exact keep10c ((Kept.refl _ _).alloc _) (by assumption) | exact keep10g hgrow4 HFAR.out (by assumption))
                  clear hK KK hHeld
                  have hHeld := hHeld2
                  clear hHeld2
                  try simp only [Act.put, List.setIfInBounds_toArray, List.set_cons_zero, List.set_cons_succ]
                  refine wpAnyH_take (i := 12) (oi := ⟨some 6, _, _, _, _, _⟩) (v := ?_) rfl (by kernel_rfl) (by kernel_rfl) (by kernel_rfl) (fun _ _ _ h => h) (Or.inl ⟨by rfl, ?_⟩) hHeld ?_
                  rotate_left
                  · (intro wq hSw; (try dsimp only at hSw); go_simp; try with_reducible rfl)
                  try simp only [Act.put, List.setIfInBounds_toArray, List.set_cons_zero, List.set_cons_succ]
                  refine wpAnyH_done (by kernel_rfl) ?_ _
                  have HA4 := Lib.hid (HAb.out.push hgrow4 hown4 (by rw [HM1.out, HM2.out]; exact iota_3 m))
                  clear hown4 hgrow4 hat4 hlt4 HAb hHeld HFAR hkb0 hkb1 hkb2 HM1 HM2
                  clear x0 x1 x2 x3 x4 x5 x6 x7 x8 x9
                  go_wp2
                  go_roundw
                  case rel => exact ⟨j + 1, by omega, congrArg (Value.int .u64) (by omega), by rw [show d + (j + 1) * 3 = m + 3 by have := HM.out; omega]; exact HA4.out⟩
                  case measure => simp [intOf]; omega
                · skip
                  obtain rfl : R = j := by omega
                  have hmt : m = tot := by have := HM.out; have := HNT.out; omega
                  subst hmt
                  have y4 := HAL.out.c.cell (i := 4) rfl
                  obtain ⟨g, cap, rfl, hBg, hglt, hcells⟩ := own_slice HAL.out.own (by omega)
                  have HCELL := Lib.hid hcells
                  clear hcells
                  have x0 := HAL.out.l.cell (i := 0) rfl
                  have x1 := HAL.out.l.cell (i := 1) rfl
                  have x2 := HAL.out.l.cell (i := 2) rfl
                  have x3 := HAL.out.l.cell (i := 3) rfl
                  have x4 := HAL.out.l.cell (i := 4) rfl
                  have x5 := HAL.out.l.cell (i := 5) rfl
                  have x6 := HAL.out.l.cell (i := 6) rfl
                  have x7 := HAL.out.l.cell (i := 7) rfl
                  have x8 := HAL.out.l.cell (i := 8) rfl
                  have x9 := HAL.out.l.cell (i := 9) rfl
                  go_wp2_with fail
                  refine (cellsum_of T S N C R F K a b d (m : Int) hl hrc (by rw [HNT.out]; omega) _).mono ?_; rintro e wf ⟨rfl, hk⟩
                  have HKF := Lib.hid hk
                  have HKW := Lib.hid (HAL.out.kept.trans hk (fun _ _ h => h))
                  have hgf : g < wf.heap.size := Nat.lt_of_lt_of_le hglt hk.size
                  have hbf : w.heap.size ≤ wf.heap.size := HKW.out.size
                  clear hk y4
                  clear x0 x1 x2 x3 x4 x5 x6 x7 x8 x9
                  have hmk := make_bool m (by omega)
                  go_wp2_with fail
                  clear hmk
                  have hS0 : Blk (wf.alloc (.cells ⟨List.replicate m (.bool false)⟩ 4)) wf.heap.size 4 (marks 0 m) := by rw [marks_0]; exact Blk.new wf _ _
                  have hK0 : Kept (fun _ => False) wf (wf.alloc (.cells ⟨List.replicate m (.bool false)⟩ 4)) := (Kept.refl _ _).alloc _
                  have HS0 := Lib.hid hS0
                  have HK0 := Lib.hid hK0
                  clear hS0 hK0
                  go_loopw [14] (fun sk wr => ∃ k : Nat, k ≤ m ∧ sk = .int .i64 k ∧ Blk wr wf.heap.size 4 (marks k m) ∧ Kept (fun i => i = wf.heap.size) wf wr) (fun sk _ => m - (intOf sk).toNat)
                  case atStart => exact ⟨0, by omega, rfl, HS0.out, HK0.out.mono (fun _ h => h.elim)⟩
                  case round =>
                    clear HS0 HK0
                    obtain ⟨k, hk, rfl, hS, hK⟩ := hrel
                    rename World => W7
                    by_cases hlk : k < m
                    · skip
                      have cg : W7.cell? ⟨g, k, none⟩ = some (.int .i64 (k : Int)) := (hK.cell (p := ⟨g, k, none⟩) hgf (by simp; omega)).trans ((HKF.out.cell (p := ⟨g, k, none⟩) hglt id).trans (HCELL.out k _ (iota_at m k hlk)))
                      have cs := hS.cell (marks_at k m hlk)
                      have cf := hS.frozen k
                      have HS := Lib.hid hS
                      have HK := Lib.hid hK
                      clear hS hK
                      go_wp2
                      go_roundw
                      case rel => exact ⟨k + 1, by omega, by go_num, by rw [← marks_set k m hlk]; exact HS.out.set k _, HK.out.setCell (a := ⟨wf.heap.size, k, none⟩) (fun _ => rfl) _⟩
                      case measure => simp [intOf]; omega
                    · skip
                      obtain rfl : k = m := by omega
                      go_wp2
                      go_ret
                      exact ⟨rfl, (HKW.out.trans hK (fun i hi h => by have h2 : i = wf.heap.size := h; omega)).below (Nat.le_refl _) (fun _ h => h.elim)⟩

end Go.Proofs.Ytfbfhlolnooipaa
