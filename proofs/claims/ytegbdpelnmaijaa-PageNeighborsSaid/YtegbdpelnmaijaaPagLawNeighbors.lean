/-
  The statement of layer 7 'Child of a key of the page is its slot, Below of it is the slot before, for other keys both are the same slot': it returns true. Condition: strings and rows within the model's reach.
-/
import Derived.Test.YtegbdpelnmaijaaPagLawSearch
import Derived.Test.YtegbdpelnmaijaaPagLawInsert
import Derived.Test.YtegbdpelnmaijaaKeptRegion
namespace Go.Proofs.Ytegbdpelnmaijaa
open Go.RowKit Go.Deep Plain
set_option linter.unusedVariables false

theorem kc {B : Nat} {W wq w9 : World} (hk : Below wq.heap.size wq w9) (h : Below B W wq) {p : Addr} (hp : p.block < W.heap.size) {v : Value} (hv : wq.cell? p = some v) : w9.cell? p = some v :=
  (hk.cell (p := p) (Nat.lt_of_lt_of_le hp h.size)).trans hv
theorem near_zero2 (ys : List Sl) : near (before ys 0) = (⟨#[]⟩, 0, false) := rfl
theorem near_at {ys : List Sl} {i : Nat} {x : Sl} (h : ys[i]? = some x) : near (before ys (i + 1)) = (x.1, x.2, true) := by
  unfold before; rw [if_neg (by omega), Nat.add_sub_cancel, h]; rfl
set_option maxRecDepth 100000 in
set_option maxHeartbeats 8000000 in
theorem lawNeighbors (lv : Int) (A : Option Addr) (c : Nat) (hi : ByteArray) (la : Bool) (rt : Nat) (xs : List Sl) (key : ByteArray) (at' : Int) (w : World) (n : Nat) (hn : xs.length = n) (h47 : n ≤ maxLen) (hR : Rs w A c xs) :
    Calls Try.prog 8 #[.agg #[.int .i64 lv, .slice A n c, .string hi, .bool la, .int .u64 (rt : Int)], .string key, .int .i64 at'] w fun e w' => e = .returned (.bool true) ∧ Below w.heap.size w w' := by
  obtain ⟨P0, B0, Z0⟩ := box_one w [.int .i64 lv, .slice A n c, .string hi, .bool la, .int .u64 (rt : Int)] 25
  obtain ⟨ys, hys⟩ : ∃ ys, sorted (xs.take 40) = ys := ⟨_, rfl⟩
  obtain ⟨m, hm⟩ : ∃ m, ys.length = m := ⟨_, rfl⟩
  have hasc := sorted_asc (xs.take 40)
  have hlen := sorted_length (xs.take 40)
  rw [hys] at hasc hlen
  rw [List.length_take, hm] at hlen
  have hm40 : m ≤ 40 := by omega
  clear hlen
  go_enter Try.func8, Try.ntmps8
  go_wp2_with fail
  refine (sorted_any lv A c hi la rt xs _ n hn h47 (hR.below B0 (Nat.le_refl _)) ys hys m hm).mono ?_; rintro e w1 ⟨A1, c1, rfl, hO1, hB1⟩
  rw [Z0] at hO1 hB1
  have hs1 := hB1.size
  rw [Z0] at hs1
  have HB := Lib.hid (B0.trans (hB1.mono (by omega)))
  have hR1 : Rs w1 A1 c1 ys := by obtain ⟨_, _, e9, _, h9, _⟩ := Rs.own hO1; cases e9; exact h9
  have HR := Lib.hid hR1
  have HASC := Lib.hid hasc
  have HYS := Lib.hid hys
  have hw : w.heap.size ≤ w1.heap.size := by omega
  clear hO1 hB1 hs1 hR1 hasc P0 B0 Z0 hR hys
  go_upto_region 2 with fail
  have Hp := Lib.hid (Blk.new w1 [.int .i64 lv, .slice A1 m c1, .string hi, .bool la, .int .u64 (rt : Int)] 25)
  replace HR := Lib.hid (HR.out.below ((Below.refl _ _).alloc (Nat.le_refl _) (.cells #[.int .i64 lv, .slice A1 m c1, .string hi, .bool la, .int .u64 (rt : Int)] 25)) (Nat.le_refl _))
  replace HB := Lib.hid (HB.out.alloc hw (.cells #[.int .i64 lv, .slice A1 m c1, .string hi, .bool la, .int .u64 (rt : Int)] 25))
  have hz9 : (w1.alloc (.cells #[.int .i64 lv, .slice A1 m c1, .string hi, .bool la, .int .u64 (rt : Int)] 25)).heap.size = w1.heap.size + 1 := nblk_alloc _ _
  generalize w1.alloc (.cells #[.int .i64 lv, .slice A1 m c1, .string hi, .bool la, .int .u64 (rt : Int)] 25) = V2 at *
  generalize w1.heap.size = bp at *
  have ltp : bp < V2.heap.size := by omega
  replace hw : w.heap.size ≤ V2.heap.size := by omega
  clear hz9
  have pc0 := Hp.out.cell (i := 0) rfl
  have pc1 := Hp.out.cell (i := 1) rfl
  have pc2 := Hp.out.cell (i := 2) rfl
  have pc3 := Hp.out.cell (i := 3) rfl
  have pc4 := Hp.out.cell (i := 4) rfl
  go_cut [26] (fun t wx => ∃ b : Bool, t = .bool b ∧ (b = true → 0 < m) ∧ wx = V2)
  case first =>
    by_cases h0 : 0 < m
    · have h0' : decide ((0 : Int) < (m : Int)) = true := by simpa using h0
      go_wp2
      go_meet
      exact ⟨_, rfl, fun _ => h0, rfl⟩
    · have h0' : decide ((0 : Int) < (m : Int)) = false := by simpa using h0
      go_wp2
      go_meet
      exact ⟨_, rfl, fun h => (by cases h), rfl⟩
  case rest =>
  obtain ⟨b, rfl, hb, rfl⟩ := hcut
  rename World => V2
  go_upto_if 26 with fail
  go_cut [1] (fun k wx => ∃ kb, k = .string kb ∧ Drawn V2 wx)
  case first =>
    cases b
    · go_wp2
      go_meet
      exact ⟨_, rfl, 0, rfl⟩
    · have h0 := hb rfl
      obtain ⟨r, hr⟩ : ∃ r : Nat, (IntKind.i64.wrap (at'.tdiv 2)) % (m : Int) = (r : Int) := ⟨((IntKind.i64.wrap (at'.tdiv 2)) % (m : Int)).toNat, by have := Int.emod_nonneg (IntKind.i64.wrap (at'.tdiv 2)) (show (m : Int) ≠ 0 by omega); omega⟩
      have hrm : r < m := by have := Int.emod_lt_of_pos (IntKind.i64.wrap (at'.tdiv 2)) (show (0 : Int) < m by omega); omega
      obtain ⟨x, hx⟩ : ∃ x, ys[r]? = some x := ⟨_, List.getElem?_eq_getElem (by omega)⟩
      obtain ⟨g, off, rfl, hg, hcell⟩ := HR.out.at (by omega)
      obtain ⟨c0, c1'⟩ := hcell r x hx
      have HRR := Lib.hid hr
      clear hcell hx hr hb
      go_wp2_with fail
      go_quiet ((go_at_call 13; exact Calls.quiet_of (mod_q _ (m : Int) (r : Int) _ (by omega) (by omega) HRR.out)))
      go_wp2
      go_meet
      exact ⟨_, rfl, _, rfl⟩
  case rest =>
  obtain ⟨kb, rfl, hd⟩ := hcut
  rename World => V3
  have hB9 := hd.below V2.heap.size
  clear hd hb
  clear pc0 pc1 pc2 pc3 pc4
  have hs9 := hB9.size
  replace HB := Lib.hid (HB.out.trans (hB9.mono hw))
  replace Hp := Lib.hid (Hp.out.below hB9 ltp)
  replace ltp := Nat.lt_of_lt_of_le ltp hs9
  replace HR := Lib.hid (HR.out.below hB9 (Nat.le_refl _))
  replace hw := Nat.le_trans hw hs9
  clear hB9 hs9
  obtain ⟨q, hq⟩ : ∃ q, cnt kb ys = q := ⟨_, rfl⟩
  have hqm : q ≤ m := by rw [← hq, ← hm]; exact cnt_le kb ys
  have HQ := Lib.hid hq
  clear hq
  cases hk : has kb ys
  · have HK := Lib.hid hk
    clear hk
    rcases Nat.eq_zero_or_pos m with rfl | hm0
    · obtain rfl : q = 0 := by omega
      clear hqm
      have pc0 := Hp.out.cell (i := 0) rfl
      have pc1 := Hp.out.cell (i := 1) rfl
      have pc2 := Hp.out.cell (i := 2) rfl
      have pc3 := Hp.out.cell (i := 3) rfl
      have pc4 := Hp.out.cell (i := 4) rfl
      go_wp2_with fail
      refine (find_to lv _ c1 hi la rt ys kb _ 0 hm (by omega) HR.out HASC.out 0 false HQ.out HK.out).mono ?_; rintro e w4 ⟨rfl, hB9⟩
      clear pc0 pc1 pc2 pc3 pc4
      have hs9 := hB9.size
      replace HB := Lib.hid (HB.out.trans (hB9.mono hw))
      replace Hp := Lib.hid (Hp.out.below hB9 ltp)
      replace ltp := Nat.lt_of_lt_of_le ltp hs9
      replace HR := Lib.hid (HR.out.below hB9 (Nat.le_refl _))
      replace hw := Nat.le_trans hw hs9
      clear hB9 hs9
      have pc0 := Hp.out.cell (i := 0) rfl
      have pc1 := Hp.out.cell (i := 1) rfl
      have pc2 := Hp.out.cell (i := 2) rfl
      have pc3 := Hp.out.cell (i := 3) rfl
      have pc4 := Hp.out.cell (i := 4) rfl
      go_wp2_with fail
      refine (child_any lv _ c1 hi la rt ys kb _ 0 hm (by omega) HR.out HASC.out ⟨#[]⟩ 0 false (by rw [if_neg (by rw [HK.out]; decide), HQ.out]; exact near_zero2 ys)).mono ?_; rintro e w5 ⟨rfl, hB9⟩
      clear pc0 pc1 pc2 pc3 pc4
      have hs9 := hB9.size
      replace HB := Lib.hid (HB.out.trans (hB9.mono hw))
      replace Hp := Lib.hid (Hp.out.below hB9 ltp)
      replace ltp := Nat.lt_of_lt_of_le ltp hs9
      replace HR := Lib.hid (HR.out.below hB9 (Nat.le_refl _))
      replace hw := Nat.le_trans hw hs9
      clear hB9 hs9
      have pc0 := Hp.out.cell (i := 0) rfl
      have pc1 := Hp.out.cell (i := 1) rfl
      have pc2 := Hp.out.cell (i := 2) rfl
      have pc3 := Hp.out.cell (i := 3) rfl
      have pc4 := Hp.out.cell (i := 4) rfl
      go_wp2_with fail
      clear pc0 pc1 pc2 pc3 pc4
      have Hc := Lib.hid (Blk.new w5 [.string ⟨#[]⟩, .int .u64 0] 32)
      replace Hp := Lib.hid (Hp.out.alloc (.cells #[.string ⟨#[]⟩, .int .u64 0] 32))
      replace HR := Lib.hid (HR.out.below ((Below.refl _ _).alloc (Nat.le_refl _) (.cells #[.string ⟨#[]⟩, .int .u64 0] 32)) (Nat.le_refl _))
      replace HB := Lib.hid (HB.out.alloc hw (.cells #[.string ⟨#[]⟩, .int .u64 0] 32))
      have hz9 : (w5.alloc (.cells #[.string ⟨#[]⟩, .int .u64 0] 32)).heap.size = w5.heap.size + 1 := nblk_alloc _ _
      generalize w5.alloc (.cells #[.string ⟨#[]⟩, .int .u64 0] 32) = V6 at *
      generalize w5.heap.size = bc at *
      have ltc : bc < V6.heap.size := by omega
      replace ltp : bp < V6.heap.size := by omega
      replace hw : w.heap.size ≤ V6.heap.size := by omega
      clear hz9
      have pc0 := Hp.out.cell (i := 0) rfl
      have pc1 := Hp.out.cell (i := 1) rfl
      have pc2 := Hp.out.cell (i := 2) rfl
      have pc3 := Hp.out.cell (i := 3) rfl
      have pc4 := Hp.out.cell (i := 4) rfl
      go_wp2_with fail
      refine (below_any lv _ c1 hi la rt ys kb false _ 0 hm (by omega) HR.out HASC.out ⟨#[]⟩ 0 false (by rw [if_neg (by decide), HQ.out]; exact near_zero2 ys)).mono ?_; rintro e w7 ⟨rfl, hB9⟩
      clear pc0 pc1 pc2 pc3 pc4
      have hs9 := hB9.size
      replace HB := Lib.hid (HB.out.trans (hB9.mono hw))
      replace Hp := Lib.hid (Hp.out.below hB9 ltp)
      replace ltp := Nat.lt_of_lt_of_le ltp hs9
      replace Hc := Lib.hid (Hc.out.below hB9 ltc)
      replace ltc := Nat.lt_of_lt_of_le ltc hs9
      replace HR := Lib.hid (HR.out.below hB9 (Nat.le_refl _))
      replace hw := Nat.le_trans hw hs9
      clear hB9 hs9
      have pc0 := Hp.out.cell (i := 0) rfl
      have pc1 := Hp.out.cell (i := 1) rfl
      have pc2 := Hp.out.cell (i := 2) rfl
      have pc3 := Hp.out.cell (i := 3) rfl
      have pc4 := Hp.out.cell (i := 4) rfl
      go_wp2_with fail
      clear pc0 pc1 pc2 pc3 pc4
      have Hb := Lib.hid (Blk.new w7 [.string ⟨#[]⟩, .int .u64 0] 32)
      replace Hp := Lib.hid (Hp.out.alloc (.cells #[.string ⟨#[]⟩, .int .u64 0] 32))
      replace Hc := Lib.hid (Hc.out.alloc (.cells #[.string ⟨#[]⟩, .int .u64 0] 32))
      replace HR := Lib.hid (HR.out.below ((Below.refl _ _).alloc (Nat.le_refl _) (.cells #[.string ⟨#[]⟩, .int .u64 0] 32)) (Nat.le_refl _))
      replace HB := Lib.hid (HB.out.alloc hw (.cells #[.string ⟨#[]⟩, .int .u64 0] 32))
      have hz9 : (w7.alloc (.cells #[.string ⟨#[]⟩, .int .u64 0] 32)).heap.size = w7.heap.size + 1 := nblk_alloc _ _
      generalize w7.alloc (.cells #[.string ⟨#[]⟩, .int .u64 0] 32) = V8 at *
      generalize w7.heap.size = bb at *
      have ltb : bb < V8.heap.size := by omega
      replace ltp : bp < V8.heap.size := by omega
      replace ltc : bc < V8.heap.size := by omega
      replace hw : w.heap.size ≤ V8.heap.size := by omega
      clear hz9
      have pc0 := Hp.out.cell (i := 0) rfl
      have pc1 := Hp.out.cell (i := 1) rfl
      have pc2 := Hp.out.cell (i := 2) rfl
      have pc3 := Hp.out.cell (i := 3) rfl
      have pc4 := Hp.out.cell (i := 4) rfl
      go_wp2_with fail
      refine (below_any lv _ c1 hi la rt ys kb true _ 0 hm (by omega) HR.out HASC.out ⟨#[]⟩ 0 false (by rw [if_pos rfl]; exact near_zero2 ys)).mono ?_; rintro e w9 ⟨rfl, hB9⟩
      clear pc0 pc1 pc2 pc3 pc4
      have hs9 := hB9.size
      replace HB := Lib.hid (HB.out.trans (hB9.mono hw))
      replace Hp := Lib.hid (Hp.out.below hB9 ltp)
      replace ltp := Nat.lt_of_lt_of_le ltp hs9
      replace Hc := Lib.hid (Hc.out.below hB9 ltc)
      replace ltc := Nat.lt_of_lt_of_le ltc hs9
      replace Hb := Lib.hid (Hb.out.below hB9 ltb)
      replace ltb := Nat.lt_of_lt_of_le ltb hs9
      replace HR := Lib.hid (HR.out.below hB9 (Nat.le_refl _))
      replace hw := Nat.le_trans hw hs9
      clear hB9 hs9
      have pc0 := Hp.out.cell (i := 0) rfl
      have pc1 := Hp.out.cell (i := 1) rfl
      have pc2 := Hp.out.cell (i := 2) rfl
      have pc3 := Hp.out.cell (i := 3) rfl
      have pc4 := Hp.out.cell (i := 4) rfl
      go_wp2_with fail
      clear pc0 pc1 pc2 pc3 pc4
      have Hl := Lib.hid (Blk.new w9 [.string ⟨#[]⟩, .int .u64 0] 32)
      replace Hp := Lib.hid (Hp.out.alloc (.cells #[.string ⟨#[]⟩, .int .u64 0] 32))
      replace Hc := Lib.hid (Hc.out.alloc (.cells #[.string ⟨#[]⟩, .int .u64 0] 32))
      replace Hb := Lib.hid (Hb.out.alloc (.cells #[.string ⟨#[]⟩, .int .u64 0] 32))
      replace HR := Lib.hid (HR.out.below ((Below.refl _ _).alloc (Nat.le_refl _) (.cells #[.string ⟨#[]⟩, .int .u64 0] 32)) (Nat.le_refl _))
      replace HB := Lib.hid (HB.out.alloc hw (.cells #[.string ⟨#[]⟩, .int .u64 0] 32))
      have hz9 : (w9.alloc (.cells #[.string ⟨#[]⟩, .int .u64 0] 32)).heap.size = w9.heap.size + 1 := nblk_alloc _ _
      generalize w9.alloc (.cells #[.string ⟨#[]⟩, .int .u64 0] 32) = V11 at *
      generalize w9.heap.size = bl at *
      have ltl : bl < V11.heap.size := by omega
      replace ltp : bp < V11.heap.size := by omega
      replace ltc : bc < V11.heap.size := by omega
      replace ltb : bb < V11.heap.size := by omega
      replace hw : w.heap.size ≤ V11.heap.size := by omega
      clear hz9
      have pc0 := Hp.out.cell (i := 0) rfl
      have pc1 := Hp.out.cell (i := 1) rfl
      have pc2 := Hp.out.cell (i := 2) rfl
      have pc3 := Hp.out.cell (i := 3) rfl
      have pc4 := Hp.out.cell (i := 4) rfl
      have bc0 := Hb.out.cell (i := 0) rfl
      have bc1 := Hb.out.cell (i := 1) rfl
      have lc0 := Hl.out.cell (i := 0) rfl
      have lc1 := Hl.out.cell (i := 1) rfl
      have cc0 := Hc.out.cell (i := 0) rfl
      have cc1 := Hc.out.cell (i := 1) rfl
      go_upto_region 8 with fail
      refine qregion (fun w' => Below V11.heap.size V11 w' ∧ w'.cell? ⟨bp, 1, none⟩ = some (.slice A1 0 c1) ∧ w'.cell? ⟨bb, 0, none⟩ = some (.string ⟨#[]⟩) ∧ w'.cell? ⟨bb, 1, none⟩ = some (.int .u64 0) ∧ w'.cell? ⟨bl, 0, none⟩ = some (.string ⟨#[]⟩) ∧ w'.cell? ⟨bl, 1, none⟩ = some (.int .u64 0) ∧ w'.cell? ⟨bc, 0, none⟩ = some (.string ⟨#[]⟩) ∧ w'.cell? ⟨bc, 1, none⟩ = some (.int .u64 0)) (by kernel_rfl) (by kernel_rfl) ⟨(Below.refl _ _).drew, pc1, bc0, bc1, lc0, lc1, cc0, cc1⟩ ?_
      refine qcall (o := ⟨some 62, _, _, _, _, _⟩) (v := .bool true) (by rfl) (fun wq hSw => ?_) (fun wq hSw => Calls.mono (awake_any _) ?_) ?_
      · (try dsimp only at hSw); go_simp; try with_reducible rfl
      · rintro e w9 ⟨rfl, hk⟩; exact ⟨rfl, ⟨hSw.1.trans (hk.mono hSw.1.size), kc hk hSw.1 ltp hSw.2.1, kc hk hSw.1 ltb hSw.2.2.1, kc hk hSw.1 ltb hSw.2.2.2.1, kc hk hSw.1 ltl hSw.2.2.2.2.1, kc hk hSw.1 ltl hSw.2.2.2.2.2.1, kc hk hSw.1 ltc hSw.2.2.2.2.2.2.1, kc hk hSw.1 ltc hSw.2.2.2.2.2.2.2⟩⟩
      try simp only [Act.put, List.setIfInBounds_toArray, List.set_cons_zero, List.set_cons_succ]
      refine qstep (o := ⟨some 63, _, _, _, _, _⟩) (v := ?_) (by rfl) (fun wq hSw => ?_) ?_
      rotate_left
      · (try dsimp only at hSw); go_simp; try with_reducible rfl
      try simp only [Act.put, List.setIfInBounds_toArray, List.set_cons_zero, List.set_cons_succ]
      refine qstep (o := ⟨some 64, _, _, _, _, _⟩) (v := ?_) (by rfl) (fun wq hSw => ?_) ?_
      rotate_left
      · (try dsimp only at hSw); go_simp; try with_reducible rfl
      try simp only [Act.put, List.setIfInBounds_toArray, List.set_cons_zero, List.set_cons_succ]
      refine qstep (o := ⟨some 65, _, _, _, _, _⟩) (v := ?_) (by rfl) (fun wq hSw => ?_) ?_
      rotate_left
      · (try dsimp only at hSw); go_simp; try with_reducible rfl
      try simp only [Act.put, List.setIfInBounds_toArray, List.set_cons_zero, List.set_cons_succ]
      refine qstep (o := ⟨some 66, _, _, _, _, _⟩) (v := .bool false) (by rfl) (fun wq hSw => ?_) ?_
      · (try dsimp only at hSw); go_simp; try first | (with_reducible rfl) | (simp; omega) | (intros; omega) | simp [*]
      try simp only [Act.put, List.setIfInBounds_toArray, List.set_cons_zero, List.set_cons_succ]
      refine qstep (o := ⟨some 67, _, _, _, _, _⟩) (v := ?_) (by rfl) (fun wq hSw => ?_) ?_
      rotate_left
      · (try dsimp only at hSw); go_simp; try with_reducible rfl
      try simp only [Act.put, List.setIfInBounds_toArray, List.set_cons_zero, List.set_cons_succ]
      refine qstep (o := ⟨some 68, _, _, _, _, _⟩) (v := ?_) (by rfl) (fun wq hSw => ?_) ?_
      rotate_left
      · (try dsimp only at hSw); go_simp; try with_reducible rfl
      try simp only [Act.put, List.setIfInBounds_toArray, List.set_cons_zero, List.set_cons_succ]
      refine qstep (o := ⟨some 69, _, _, _, _, _⟩) (v := ?_) (by rfl) (fun wq hSw => ?_) ?_
      rotate_left
      · (try dsimp only at hSw); go_simp; try with_reducible rfl
      try simp only [Act.put, List.setIfInBounds_toArray, List.set_cons_zero, List.set_cons_succ]
      refine qstep (o := ⟨some 70, _, _, _, _, _⟩) (v := ?_) (by rfl) (fun wq hSw => ?_) ?_
      rotate_left
      · (try dsimp only at hSw); go_simp; try with_reducible rfl
      try simp only [Act.put, List.setIfInBounds_toArray, List.set_cons_zero, List.set_cons_succ]
      refine qstep (o := ⟨some 71, _, _, _, _, _⟩) (v := ?_) (by rfl) (fun wq hSw => ?_) ?_
      rotate_left
      · (try dsimp only at hSw); go_simp; try with_reducible rfl
      try simp only [Act.put, List.setIfInBounds_toArray, List.set_cons_zero, List.set_cons_succ]
      refine qstep (o := ⟨some 72, _, _, _, _, _⟩) (v := ?_) (by rfl) (fun wq hSw => ?_) ?_
      rotate_left
      · (try dsimp only at hSw); go_simp; try with_reducible rfl
      try simp only [Act.put, List.setIfInBounds_toArray, List.set_cons_zero, List.set_cons_succ]
      refine qstep (o := ⟨some 73, _, _, _, _, _⟩) (v := .bool false) (by rfl) (fun wq hSw => ?_) ?_
      · (try dsimp only at hSw); go_simp; try first | (with_reducible rfl) | (simp; omega) | (intros; omega) | simp [*]
      try simp only [Act.put, List.setIfInBounds_toArray, List.set_cons_zero, List.set_cons_succ]
      refine qstep (o := ⟨some 74, _, _, _, _, _⟩) (v := ?_) (by rfl) (fun wq hSw => ?_) ?_
      rotate_left
      · (try dsimp only at hSw); go_simp; try with_reducible rfl
      try simp only [Act.put, List.setIfInBounds_toArray, List.set_cons_zero, List.set_cons_succ]
      refine qstep (o := ⟨some 75, _, _, _, _, _⟩) (v := ?_) (by rfl) (fun wq hSw => ?_) ?_
      rotate_left
      · (try dsimp only at hSw); go_simp; try with_reducible rfl
      try simp only [Act.put, List.setIfInBounds_toArray, List.set_cons_zero, List.set_cons_succ]
      refine qstep (o := ⟨some 76, _, _, _, _, _⟩) (v := ?_) (by rfl) (fun wq hSw => ?_) ?_
      rotate_left
      · (try dsimp only at hSw); go_simp; try with_reducible rfl
      try simp only [Act.put, List.setIfInBounds_toArray, List.set_cons_zero, List.set_cons_succ]
      refine qstep (o := ⟨some 77, _, _, _, _, _⟩) (v := ?_) (by rfl) (fun wq hSw => ?_) ?_
      rotate_left
      · (try dsimp only at hSw); go_simp; try with_reducible rfl
      try simp only [Act.put, List.setIfInBounds_toArray, List.set_cons_zero, List.set_cons_succ]
      refine qstep (o := ⟨some 78, _, _, _, _, _⟩) (v := .bool false) (by rfl) (fun wq hSw => ?_) ?_
      · (try dsimp only at hSw); go_simp; try first | (with_reducible rfl) | (simp; omega) | (intros; omega) | simp [*]
      try simp only [Act.put, List.setIfInBounds_toArray, List.set_cons_zero, List.set_cons_succ]
      refine qstep (o := ⟨some 79, _, _, _, _, _⟩) (v := .bool false) (by rfl) (fun wq hSw => ?_) ?_
      · (try dsimp only at hSw); go_simp; try first | (with_reducible rfl) | (simp; omega) | (intros; omega) | simp [*]
      try simp only [Act.put, List.setIfInBounds_toArray, List.set_cons_zero, List.set_cons_succ]
      refine qstep (o := ⟨some 80, _, _, _, _, _⟩) (v := ?_) (by rfl) (fun wq hSw => ?_) ?_
      rotate_left
      · (try dsimp only at hSw); go_simp; try with_reducible rfl
      try simp only [Act.put, List.setIfInBounds_toArray, List.set_cons_zero, List.set_cons_succ]
      refine qstep (o := ⟨some 81, _, _, _, _, _⟩) (v := ?_) (by rfl) (fun wq hSw => ?_) ?_
      rotate_left
      · (try dsimp only at hSw); go_simp; try with_reducible rfl
      try simp only [Act.put, List.setIfInBounds_toArray, List.set_cons_zero, List.set_cons_succ]
      refine qstep (o := ⟨some 82, _, _, _, _, _⟩) (v := ?_) (by rfl) (fun wq hSw => ?_) ?_
      rotate_left
      · (try dsimp only at hSw); go_simp; try with_reducible rfl
      try simp only [Act.put, List.setIfInBounds_toArray, List.set_cons_zero, List.set_cons_succ]
      refine qstep (o := ⟨some 83, _, _, _, _, _⟩) (v := ?_) (by rfl) (fun wq hSw => ?_) ?_
      rotate_left
      · (try dsimp only at hSw); go_simp; try with_reducible rfl
      try simp only [Act.put, List.setIfInBounds_toArray, List.set_cons_zero, List.set_cons_succ]
      go_big_quiet_skip
      try simp only [Act.put, List.setIfInBounds_toArray, List.set_cons_zero, List.set_cons_succ]
      go_big_quiet_skip
      try simp only [Act.put, List.setIfInBounds_toArray, List.set_cons_zero, List.set_cons_succ]
      go_big_quiet_skip
      try simp only [Act.put, List.setIfInBounds_toArray, List.set_cons_zero, List.set_cons_succ]
      go_big_quiet_skip
      try simp only [Act.put, List.setIfInBounds_toArray, List.set_cons_zero, List.set_cons_succ]
      go_big_quiet_skip
      try simp only [Act.put, List.setIfInBounds_toArray, List.set_cons_zero, List.set_cons_succ]
      go_big_quiet_skip
      try simp only [Act.put, List.setIfInBounds_toArray, List.set_cons_zero, List.set_cons_succ]
      go_big_quiet_skip
      try simp only [Act.put, List.setIfInBounds_toArray, List.set_cons_zero, List.set_cons_succ]
      go_big_quiet_skip
      try simp only [Act.put, List.setIfInBounds_toArray, List.set_cons_zero, List.set_cons_succ]
      refine qstep (o := ⟨some 92, _, _, _, _, _⟩) (v := ?_) (by rfl) (fun wq hSw => ?_) ?_
      rotate_left
      · (try dsimp only at hSw); go_simp; try with_reducible rfl
      try simp only [Act.put, List.setIfInBounds_toArray, List.set_cons_zero, List.set_cons_succ]
      refine qstep (o := ⟨some 93, _, _, _, _, _⟩) (v := ?_) (by rfl) (fun wq hSw => ?_) ?_
      rotate_left
      · (try dsimp only at hSw); go_simp; try with_reducible rfl
      try simp only [Act.put, List.setIfInBounds_toArray, List.set_cons_zero, List.set_cons_succ]
      refine qstep (o := ⟨some 94, _, _, _, _, _⟩) (v := ?_) (by rfl) (fun wq hSw => ?_) ?_
      rotate_left
      · (try dsimp only at hSw); go_simp; try with_reducible rfl
      try simp only [Act.put, List.setIfInBounds_toArray, List.set_cons_zero, List.set_cons_succ]
      refine qstep (o := ⟨some 95, _, _, _, _, _⟩) (v := ?_) (by rfl) (fun wq hSw => ?_) ?_
      rotate_left
      · (try dsimp only at hSw); go_simp; try with_reducible rfl
      try simp only [Act.put, List.setIfInBounds_toArray, List.set_cons_zero, List.set_cons_succ]
      refine qstep (o := ⟨some 96, _, _, _, _, _⟩) (v := ?_) (by rfl) (fun wq hSw => ?_) ?_
      rotate_left
      · (try dsimp only at hSw); go_simp; try with_reducible rfl
      try simp only [Act.put, List.setIfInBounds_toArray, List.set_cons_zero, List.set_cons_succ]
      refine qstep (o := ⟨some 97, _, _, _, _, _⟩) (v := ?_) (by rfl) (fun wq hSw => ?_) ?_
      rotate_left
      · (try dsimp only at hSw); go_simp; try with_reducible rfl
      try simp only [Act.put, List.setIfInBounds_toArray, List.set_cons_zero, List.set_cons_succ]
      refine qstep (o := ⟨some 98, _, _, _, _, _⟩) (v := ?_) (by rfl) (fun wq hSw => ?_) ?_
      rotate_left
      · (try dsimp only at hSw); go_simp; try with_reducible rfl
      try simp only [Act.put, List.setIfInBounds_toArray, List.set_cons_zero, List.set_cons_succ]
      refine qstep (o := ⟨some 99, _, _, _, _, _⟩) (v := .bool false) (by rfl) (fun wq hSw => ?_) ?_
      · (try dsimp only at hSw); go_simp; try first | (with_reducible rfl) | (simp; omega) | (intros; omega) | simp [*]
      try simp only [Act.put, List.setIfInBounds_toArray, List.set_cons_zero, List.set_cons_succ]
      refine qstep (o := ⟨some 100, _, _, _, _, _⟩) (v := .bool false) (by rfl) (fun wq hSw => ?_) ?_
      · (try dsimp only at hSw); go_simp; try first | (with_reducible rfl) | (simp; omega) | (intros; omega) | simp [*]
      try simp only [Act.put, List.setIfInBounds_toArray, List.set_cons_zero, List.set_cons_succ]
      refine qstep (o := ⟨some 101, _, _, _, _, _⟩) (v := ?_) (by rfl) (fun wq hSw => ?_) ?_
      rotate_left
      · (try dsimp only at hSw); go_simp; try with_reducible rfl
      try simp only [Act.put, List.setIfInBounds_toArray, List.set_cons_zero, List.set_cons_succ]
      refine qstep (o := ⟨some 102, _, _, _, _, _⟩) (v := ?_) (by rfl) (fun wq hSw => ?_) ?_
      rotate_left
      · (try dsimp only at hSw); go_simp; try with_reducible rfl
      try simp only [Act.put, List.setIfInBounds_toArray, List.set_cons_zero, List.set_cons_succ]
      refine qstep (o := ⟨some 103, _, _, _, _, _⟩) (v := ?_) (by rfl) (fun wq hSw => ?_) ?_
      rotate_left
      · (try dsimp only at hSw); go_simp; try with_reducible rfl
      try simp only [Act.put, List.setIfInBounds_toArray, List.set_cons_zero, List.set_cons_succ]
      refine qstep (o := ⟨some 104, _, _, _, _, _⟩) (v := ?_) (by rfl) (fun wq hSw => ?_) ?_
      rotate_left
      · (try dsimp only at hSw); go_simp; try with_reducible rfl
      try simp only [Act.put, List.setIfInBounds_toArray, List.set_cons_zero, List.set_cons_succ]
      go_big_quiet_skip
      try simp only [Act.put, List.setIfInBounds_toArray, List.set_cons_zero, List.set_cons_succ]
      go_big_quiet_skip
      try simp only [Act.put, List.setIfInBounds_toArray, List.set_cons_zero, List.set_cons_succ]
      go_big_quiet_skip
      try simp only [Act.put, List.setIfInBounds_toArray, List.set_cons_zero, List.set_cons_succ]
      go_big_quiet_skip
      try simp only [Act.put, List.setIfInBounds_toArray, List.set_cons_zero, List.set_cons_succ]
      go_big_quiet_skip
      try simp only [Act.put, List.setIfInBounds_toArray, List.set_cons_zero, List.set_cons_succ]
      go_big_quiet_skip
      try simp only [Act.put, List.setIfInBounds_toArray, List.set_cons_zero, List.set_cons_succ]
      go_big_quiet_skip
      try simp only [Act.put, List.setIfInBounds_toArray, List.set_cons_zero, List.set_cons_succ]
      go_big_quiet_skip
      try simp only [Act.put, List.setIfInBounds_toArray, List.set_cons_zero, List.set_cons_succ]
      go_big_quiet_skip
      try simp only [Act.put, List.setIfInBounds_toArray, List.set_cons_zero, List.set_cons_succ]
      go_big_quiet_skip
      try simp only [Act.put, List.setIfInBounds_toArray, List.set_cons_zero, List.set_cons_succ]
      refine qstep (o := ⟨some 115, _, _, _, _, _⟩) (v := ?_) (by rfl) (fun wq hSw => ?_) ?_
      rotate_left
      · (try dsimp only at hSw); go_simp; try with_reducible rfl
      try simp only [Act.put, List.setIfInBounds_toArray, List.set_cons_zero, List.set_cons_succ]
      refine qstep (o := ⟨some 116, _, _, _, _, _⟩) (v := ?_) (by rfl) (fun wq hSw => ?_) ?_
      rotate_left
      · (try dsimp only at hSw); go_simp; try with_reducible rfl
      try simp only [Act.put, List.setIfInBounds_toArray, List.set_cons_zero, List.set_cons_succ]
      refine wpQuiet_nil ?_
      intro wz hHeld
      obtain ⟨hB9, -⟩ := hHeld
      clear pc0 pc1 pc2 pc3 pc4 bc0 bc1 lc0 lc1 cc0 cc1
      have hs9 := hB9.size
      replace HB := Lib.hid (HB.out.trans (hB9.mono hw))
      replace Hp := Lib.hid (Hp.out.below hB9 ltp)
      replace ltp := Nat.lt_of_lt_of_le ltp hs9
      replace Hc := Lib.hid (Hc.out.below hB9 ltc)
      replace ltc := Nat.lt_of_lt_of_le ltc hs9
      replace Hb := Lib.hid (Hb.out.below hB9 ltb)
      replace ltb := Nat.lt_of_lt_of_le ltb hs9
      replace Hl := Lib.hid (Hl.out.below hB9 ltl)
      replace ltl := Nat.lt_of_lt_of_le ltl hs9
      replace HR := Lib.hid (HR.out.below hB9 (Nat.le_refl _))
      replace hw := Nat.le_trans hw hs9
      clear hB9 hs9
      have pc0 := Hp.out.cell (i := 0) rfl
      have pc1 := Hp.out.cell (i := 1) rfl
      have pc2 := Hp.out.cell (i := 2) rfl
      have pc3 := Hp.out.cell (i := 3) rfl
      have pc4 := Hp.out.cell (i := 4) rfl
      have bc0 := Hb.out.cell (i := 0) rfl
      have bc1 := Hb.out.cell (i := 1) rfl
      have cc0 := Hc.out.cell (i := 0) rfl
      have cc1 := Hc.out.cell (i := 1) rfl
      go_wp2_with fail
      go_ret
      exact ⟨rfl, HB.out⟩
    · obtain ⟨j, rfl⟩ : ∃ j, m = j + 1 := ⟨m - 1, by omega⟩
      obtain ⟨z, hz⟩ : ∃ z, ys[j]? = some z := ⟨_, List.getElem?_eq_getElem (by omega)⟩
      have ZX := Lib.hid hz
      clear hz
      rcases Nat.eq_zero_or_pos q with rfl | hq0
      · have hwj : IntKind.i64.wrap (j : Int) = (j : Int) := by rw [IntKind.wrap_i64]; omega
        have hjj : (j : Int) < (j : Int) + 1 := by omega
        clear hqm
        have pc0 := Hp.out.cell (i := 0) rfl
        have pc1 := Hp.out.cell (i := 1) rfl
        have pc2 := Hp.out.cell (i := 2) rfl
        have pc3 := Hp.out.cell (i := 3) rfl
        have pc4 := Hp.out.cell (i := 4) rfl
        go_wp2_with fail
        refine (find_to lv _ c1 hi la rt ys kb _ (j + 1) hm (by omega) HR.out HASC.out 0 false HQ.out HK.out).mono ?_; rintro e w4 ⟨rfl, hB9⟩
        clear pc0 pc1 pc2 pc3 pc4
        have hs9 := hB9.size
        replace HB := Lib.hid (HB.out.trans (hB9.mono hw))
        replace Hp := Lib.hid (Hp.out.below hB9 ltp)
        replace ltp := Nat.lt_of_lt_of_le ltp hs9
        replace HR := Lib.hid (HR.out.below hB9 (Nat.le_refl _))
        replace hw := Nat.le_trans hw hs9
        clear hB9 hs9
        have pc0 := Hp.out.cell (i := 0) rfl
        have pc1 := Hp.out.cell (i := 1) rfl
        have pc2 := Hp.out.cell (i := 2) rfl
        have pc3 := Hp.out.cell (i := 3) rfl
        have pc4 := Hp.out.cell (i := 4) rfl
        go_wp2_with fail
        refine (child_any lv _ c1 hi la rt ys kb _ (j + 1) hm (by omega) HR.out HASC.out ⟨#[]⟩ 0 false (by rw [if_neg (by rw [HK.out]; decide), HQ.out]; exact near_zero2 ys)).mono ?_; rintro e w5 ⟨rfl, hB9⟩
        clear pc0 pc1 pc2 pc3 pc4
        have hs9 := hB9.size
        replace HB := Lib.hid (HB.out.trans (hB9.mono hw))
        replace Hp := Lib.hid (Hp.out.below hB9 ltp)
        replace ltp := Nat.lt_of_lt_of_le ltp hs9
        replace HR := Lib.hid (HR.out.below hB9 (Nat.le_refl _))
        replace hw := Nat.le_trans hw hs9
        clear hB9 hs9
        have pc0 := Hp.out.cell (i := 0) rfl
        have pc1 := Hp.out.cell (i := 1) rfl
        have pc2 := Hp.out.cell (i := 2) rfl
        have pc3 := Hp.out.cell (i := 3) rfl
        have pc4 := Hp.out.cell (i := 4) rfl
        go_wp2_with fail
        clear pc0 pc1 pc2 pc3 pc4
        have Hc := Lib.hid (Blk.new w5 [.string ⟨#[]⟩, .int .u64 0] 32)
        replace Hp := Lib.hid (Hp.out.alloc (.cells #[.string ⟨#[]⟩, .int .u64 0] 32))
        replace HR := Lib.hid (HR.out.below ((Below.refl _ _).alloc (Nat.le_refl _) (.cells #[.string ⟨#[]⟩, .int .u64 0] 32)) (Nat.le_refl _))
        replace HB := Lib.hid (HB.out.alloc hw (.cells #[.string ⟨#[]⟩, .int .u64 0] 32))
        have hz9 : (w5.alloc (.cells #[.string ⟨#[]⟩, .int .u64 0] 32)).heap.size = w5.heap.size + 1 := nblk_alloc _ _
        generalize w5.alloc (.cells #[.string ⟨#[]⟩, .int .u64 0] 32) = V6 at *
        generalize w5.heap.size = bc at *
        have ltc : bc < V6.heap.size := by omega
        replace ltp : bp < V6.heap.size := by omega
        replace hw : w.heap.size ≤ V6.heap.size := by omega
        clear hz9
        have pc0 := Hp.out.cell (i := 0) rfl
        have pc1 := Hp.out.cell (i := 1) rfl
        have pc2 := Hp.out.cell (i := 2) rfl
        have pc3 := Hp.out.cell (i := 3) rfl
        have pc4 := Hp.out.cell (i := 4) rfl
        go_wp2_with fail
        refine (below_any lv _ c1 hi la rt ys kb false _ (j + 1) hm (by omega) HR.out HASC.out ⟨#[]⟩ 0 false (by rw [if_neg (by decide), HQ.out]; exact near_zero2 ys)).mono ?_; rintro e w7 ⟨rfl, hB9⟩
        clear pc0 pc1 pc2 pc3 pc4
        have hs9 := hB9.size
        replace HB := Lib.hid (HB.out.trans (hB9.mono hw))
        replace Hp := Lib.hid (Hp.out.below hB9 ltp)
        replace ltp := Nat.lt_of_lt_of_le ltp hs9
        replace Hc := Lib.hid (Hc.out.below hB9 ltc)
        replace ltc := Nat.lt_of_lt_of_le ltc hs9
        replace HR := Lib.hid (HR.out.below hB9 (Nat.le_refl _))
        replace hw := Nat.le_trans hw hs9
        clear hB9 hs9
        have pc0 := Hp.out.cell (i := 0) rfl
        have pc1 := Hp.out.cell (i := 1) rfl
        have pc2 := Hp.out.cell (i := 2) rfl
        have pc3 := Hp.out.cell (i := 3) rfl
        have pc4 := Hp.out.cell (i := 4) rfl
        go_wp2_with fail
        clear pc0 pc1 pc2 pc3 pc4
        have Hb := Lib.hid (Blk.new w7 [.string ⟨#[]⟩, .int .u64 0] 32)
        replace Hp := Lib.hid (Hp.out.alloc (.cells #[.string ⟨#[]⟩, .int .u64 0] 32))
        replace Hc := Lib.hid (Hc.out.alloc (.cells #[.string ⟨#[]⟩, .int .u64 0] 32))
        replace HR := Lib.hid (HR.out.below ((Below.refl _ _).alloc (Nat.le_refl _) (.cells #[.string ⟨#[]⟩, .int .u64 0] 32)) (Nat.le_refl _))
        replace HB := Lib.hid (HB.out.alloc hw (.cells #[.string ⟨#[]⟩, .int .u64 0] 32))
        have hz9 : (w7.alloc (.cells #[.string ⟨#[]⟩, .int .u64 0] 32)).heap.size = w7.heap.size + 1 := nblk_alloc _ _
        generalize w7.alloc (.cells #[.string ⟨#[]⟩, .int .u64 0] 32) = V8 at *
        generalize w7.heap.size = bb at *
        have ltb : bb < V8.heap.size := by omega
        replace ltp : bp < V8.heap.size := by omega
        replace ltc : bc < V8.heap.size := by omega
        replace hw : w.heap.size ≤ V8.heap.size := by omega
        clear hz9
        have pc0 := Hp.out.cell (i := 0) rfl
        have pc1 := Hp.out.cell (i := 1) rfl
        have pc2 := Hp.out.cell (i := 2) rfl
        have pc3 := Hp.out.cell (i := 3) rfl
        have pc4 := Hp.out.cell (i := 4) rfl
        go_wp2_with fail
        refine (below_any lv _ c1 hi la rt ys kb true _ (j + 1) hm (by omega) HR.out HASC.out z.1 z.2 true (by rw [if_pos rfl]; exact near_at ZX.out)).mono ?_; rintro e w9 ⟨rfl, hB9⟩
        clear pc0 pc1 pc2 pc3 pc4
        have hs9 := hB9.size
        replace HB := Lib.hid (HB.out.trans (hB9.mono hw))
        replace Hp := Lib.hid (Hp.out.below hB9 ltp)
        replace ltp := Nat.lt_of_lt_of_le ltp hs9
        replace Hc := Lib.hid (Hc.out.below hB9 ltc)
        replace ltc := Nat.lt_of_lt_of_le ltc hs9
        replace Hb := Lib.hid (Hb.out.below hB9 ltb)
        replace ltb := Nat.lt_of_lt_of_le ltb hs9
        replace HR := Lib.hid (HR.out.below hB9 (Nat.le_refl _))
        replace hw := Nat.le_trans hw hs9
        clear hB9 hs9
        have pc0 := Hp.out.cell (i := 0) rfl
        have pc1 := Hp.out.cell (i := 1) rfl
        have pc2 := Hp.out.cell (i := 2) rfl
        have pc3 := Hp.out.cell (i := 3) rfl
        have pc4 := Hp.out.cell (i := 4) rfl
        go_wp2_with fail
        clear pc0 pc1 pc2 pc3 pc4
        have Hl := Lib.hid (Blk.new w9 [.string z.1, .int .u64 (z.2 : Int)] 32)
        replace Hp := Lib.hid (Hp.out.alloc (.cells #[.string z.1, .int .u64 (z.2 : Int)] 32))
        replace Hc := Lib.hid (Hc.out.alloc (.cells #[.string z.1, .int .u64 (z.2 : Int)] 32))
        replace Hb := Lib.hid (Hb.out.alloc (.cells #[.string z.1, .int .u64 (z.2 : Int)] 32))
        replace HR := Lib.hid (HR.out.below ((Below.refl _ _).alloc (Nat.le_refl _) (.cells #[.string z.1, .int .u64 (z.2 : Int)] 32)) (Nat.le_refl _))
        replace HB := Lib.hid (HB.out.alloc hw (.cells #[.string z.1, .int .u64 (z.2 : Int)] 32))
        have hz9 : (w9.alloc (.cells #[.string z.1, .int .u64 (z.2 : Int)] 32)).heap.size = w9.heap.size + 1 := nblk_alloc _ _
        generalize w9.alloc (.cells #[.string z.1, .int .u64 (z.2 : Int)] 32) = V11 at *
        generalize w9.heap.size = bl at *
        have ltl : bl < V11.heap.size := by omega
        replace ltp : bp < V11.heap.size := by omega
        replace ltc : bc < V11.heap.size := by omega
        replace ltb : bb < V11.heap.size := by omega
        replace hw : w.heap.size ≤ V11.heap.size := by omega
        clear hz9
        have pc0 := Hp.out.cell (i := 0) rfl
        have pc1 := Hp.out.cell (i := 1) rfl
        have pc2 := Hp.out.cell (i := 2) rfl
        have pc3 := Hp.out.cell (i := 3) rfl
        have pc4 := Hp.out.cell (i := 4) rfl
        have bc0 := Hb.out.cell (i := 0) rfl
        have bc1 := Hb.out.cell (i := 1) rfl
        have lc0 := Hl.out.cell (i := 0) rfl
        have lc1 := Hl.out.cell (i := 1) rfl
        have cc0 := Hc.out.cell (i := 0) rfl
        have cc1 := Hc.out.cell (i := 1) rfl
        obtain ⟨g, off, hA, hg, hcell⟩ := HR.out.at (by omega)
        subst hA
        obtain ⟨dz0, dz1⟩ := hcell j _ ZX.out
        clear hcell
        go_upto_region 8 with fail
        refine qregion (fun w' => Below V11.heap.size V11 w' ∧ w'.cell? ⟨bp, 1, none⟩ = some (.slice (some ⟨g, off, none⟩) (j + 1) c1) ∧ w'.cell? ⟨bb, 0, none⟩ = some (.string ⟨#[]⟩) ∧ w'.cell? ⟨bb, 1, none⟩ = some (.int .u64 0) ∧ w'.cell? ⟨bl, 0, none⟩ = some (.string z.1) ∧ w'.cell? ⟨bl, 1, none⟩ = some (.int .u64 (z.2 : Int)) ∧ w'.cell? ⟨bc, 0, none⟩ = some (.string ⟨#[]⟩) ∧ w'.cell? ⟨bc, 1, none⟩ = some (.int .u64 0) ∧ w'.cell? ⟨g, off + j * 2, none⟩ = some (.string z.1) ∧ w'.cell? ⟨g, off + j * 2 + 1, none⟩ = some (.int .u64 (z.2 : Int))) (by kernel_rfl) (by kernel_rfl) ⟨(Below.refl _ _).drew, pc1, bc0, bc1, lc0, lc1, cc0, cc1, dz0, dz1⟩ ?_
        refine qcall (o := ⟨some 62, _, _, _, _, _⟩) (v := .bool true) (by rfl) (fun wq hSw => ?_) (fun wq hSw => Calls.mono (awake_any _) ?_) ?_
        · (try dsimp only at hSw); go_simp; try with_reducible rfl
        · rintro e w9 ⟨rfl, hk⟩; exact ⟨rfl, ⟨hSw.1.trans (hk.mono hSw.1.size), kc hk hSw.1 ltp hSw.2.1, kc hk hSw.1 ltb hSw.2.2.1, kc hk hSw.1 ltb hSw.2.2.2.1, kc hk hSw.1 ltl hSw.2.2.2.2.1, kc hk hSw.1 ltl hSw.2.2.2.2.2.1, kc hk hSw.1 ltc hSw.2.2.2.2.2.2.1, kc hk hSw.1 ltc hSw.2.2.2.2.2.2.2.1, kc hk hSw.1 hg hSw.2.2.2.2.2.2.2.2.1, kc hk hSw.1 hg hSw.2.2.2.2.2.2.2.2.2⟩⟩
        try simp only [Act.put, List.setIfInBounds_toArray, List.set_cons_zero, List.set_cons_succ]
        refine qstep (o := ⟨some 63, _, _, _, _, _⟩) (v := ?_) (by rfl) (fun wq hSw => ?_) ?_
        rotate_left
        · (try dsimp only at hSw); go_simp; try with_reducible rfl
        try simp only [Act.put, List.setIfInBounds_toArray, List.set_cons_zero, List.set_cons_succ]
        refine qstep (o := ⟨some 64, _, _, _, _, _⟩) (v := ?_) (by rfl) (fun wq hSw => ?_) ?_
        rotate_left
        · (try dsimp only at hSw); go_simp; try with_reducible rfl
        try simp only [Act.put, List.setIfInBounds_toArray, List.set_cons_zero, List.set_cons_succ]
        refine qstep (o := ⟨some 65, _, _, _, _, _⟩) (v := ?_) (by rfl) (fun wq hSw => ?_) ?_
        rotate_left
        · (try dsimp only at hSw); go_simp; try with_reducible rfl
        try simp only [Act.put, List.setIfInBounds_toArray, List.set_cons_zero, List.set_cons_succ]
        refine qstep (o := ⟨some 66, _, _, _, _, _⟩) (v := .bool false) (by rfl) (fun wq hSw => ?_) ?_
        · (try dsimp only at hSw); go_simp; try first | (with_reducible rfl) | (simp; omega) | (intros; omega) | simp [*]
        try simp only [Act.put, List.setIfInBounds_toArray, List.set_cons_zero, List.set_cons_succ]
        refine qstep (o := ⟨some 67, _, _, _, _, _⟩) (v := ?_) (by rfl) (fun wq hSw => ?_) ?_
        rotate_left
        · (try dsimp only at hSw); go_simp; try with_reducible rfl
        try simp only [Act.put, List.setIfInBounds_toArray, List.set_cons_zero, List.set_cons_succ]
        refine qstep (o := ⟨some 68, _, _, _, _, _⟩) (v := ?_) (by rfl) (fun wq hSw => ?_) ?_
        rotate_left
        · (try dsimp only at hSw); go_simp; try with_reducible rfl
        try simp only [Act.put, List.setIfInBounds_toArray, List.set_cons_zero, List.set_cons_succ]
        refine qstep (o := ⟨some 69, _, _, _, _, _⟩) (v := ?_) (by rfl) (fun wq hSw => ?_) ?_
        rotate_left
        · (try dsimp only at hSw); go_simp; try with_reducible rfl
        try simp only [Act.put, List.setIfInBounds_toArray, List.set_cons_zero, List.set_cons_succ]
        refine qstep (o := ⟨some 70, _, _, _, _, _⟩) (v := ?_) (by rfl) (fun wq hSw => ?_) ?_
        rotate_left
        · (try dsimp only at hSw); go_simp; try with_reducible rfl
        try simp only [Act.put, List.setIfInBounds_toArray, List.set_cons_zero, List.set_cons_succ]
        refine qstep (o := ⟨some 71, _, _, _, _, _⟩) (v := ?_) (by rfl) (fun wq hSw => ?_) ?_
        rotate_left
        · (try dsimp only at hSw); go_simp; try with_reducible rfl
        try simp only [Act.put, List.setIfInBounds_toArray, List.set_cons_zero, List.set_cons_succ]
        refine qstep (o := ⟨some 72, _, _, _, _, _⟩) (v := ?_) (by rfl) (fun wq hSw => ?_) ?_
        rotate_left
        · (try dsimp only at hSw); go_simp; try with_reducible rfl
        try simp only [Act.put, List.setIfInBounds_toArray, List.set_cons_zero, List.set_cons_succ]
        refine qstep (o := ⟨some 73, _, _, _, _, _⟩) (v := .bool false) (by rfl) (fun wq hSw => ?_) ?_
        · (try dsimp only at hSw); go_simp; try first | (with_reducible rfl) | (simp; omega) | (intros; omega) | simp [*]
        try simp only [Act.put, List.setIfInBounds_toArray, List.set_cons_zero, List.set_cons_succ]
        refine qstep (o := ⟨some 74, _, _, _, _, _⟩) (v := ?_) (by rfl) (fun wq hSw => ?_) ?_
        rotate_left
        · (try dsimp only at hSw); go_simp; try with_reducible rfl
        try simp only [Act.put, List.setIfInBounds_toArray, List.set_cons_zero, List.set_cons_succ]
        refine qstep (o := ⟨some 75, _, _, _, _, _⟩) (v := ?_) (by rfl) (fun wq hSw => ?_) ?_
        rotate_left
        · (try dsimp only at hSw); go_simp; try with_reducible rfl
        try simp only [Act.put, List.setIfInBounds_toArray, List.set_cons_zero, List.set_cons_succ]
        refine qstep (o := ⟨some 76, _, _, _, _, _⟩) (v := ?_) (by rfl) (fun wq hSw => ?_) ?_
        rotate_left
        · (try dsimp only at hSw); go_simp; try with_reducible rfl
        try simp only [Act.put, List.setIfInBounds_toArray, List.set_cons_zero, List.set_cons_succ]
        refine qstep (o := ⟨some 77, _, _, _, _, _⟩) (v := ?_) (by rfl) (fun wq hSw => ?_) ?_
        rotate_left
        · (try dsimp only at hSw); go_simp; try with_reducible rfl
        try simp only [Act.put, List.setIfInBounds_toArray, List.set_cons_zero, List.set_cons_succ]
        refine qstep (o := ⟨some 78, _, _, _, _, _⟩) (v := .bool false) (by rfl) (fun wq hSw => ?_) ?_
        · (try dsimp only at hSw); go_simp; try first | (with_reducible rfl) | (simp; omega) | (intros; omega) | simp [*]
        try simp only [Act.put, List.setIfInBounds_toArray, List.set_cons_zero, List.set_cons_succ]
        refine qstep (o := ⟨some 79, _, _, _, _, _⟩) (v := .bool false) (by rfl) (fun wq hSw => ?_) ?_
        · (try dsimp only at hSw); go_simp; try first | (with_reducible rfl) | (simp; omega) | (intros; omega) | simp [*]
        try simp only [Act.put, List.setIfInBounds_toArray, List.set_cons_zero, List.set_cons_succ]
        refine qstep (o := ⟨some 80, _, _, _, _, _⟩) (v := ?_) (by rfl) (fun wq hSw => ?_) ?_
        rotate_left
        · (try dsimp only at hSw); go_simp; try with_reducible rfl
        try simp only [Act.put, List.setIfInBounds_toArray, List.set_cons_zero, List.set_cons_succ]
        refine qstep (o := ⟨some 81, _, _, _, _, _⟩) (v := ?_) (by rfl) (fun wq hSw => ?_) ?_
        rotate_left
        · (try dsimp only at hSw); go_simp; try with_reducible rfl
        try simp only [Act.put, List.setIfInBounds_toArray, List.set_cons_zero, List.set_cons_succ]
        refine qstep (o := ⟨some 82, _, _, _, _, _⟩) (v := ?_) (by rfl) (fun wq hSw => ?_) ?_
        rotate_left
        · (try dsimp only at hSw); go_simp; try with_reducible rfl
        try simp only [Act.put, List.setIfInBounds_toArray, List.set_cons_zero, List.set_cons_succ]
        refine qstep (o := ⟨some 83, _, _, _, _, _⟩) (v := ?_) (by rfl) (fun wq hSw => ?_) ?_
        rotate_left
        · (try dsimp only at hSw); go_simp; try with_reducible rfl
        try simp only [Act.put, List.setIfInBounds_toArray, List.set_cons_zero, List.set_cons_succ]
        go_big_quiet_skip
        try simp only [Act.put, List.setIfInBounds_toArray, List.set_cons_zero, List.set_cons_succ]
        go_big_quiet_skip
        try simp only [Act.put, List.setIfInBounds_toArray, List.set_cons_zero, List.set_cons_succ]
        go_big_quiet_skip
        try simp only [Act.put, List.setIfInBounds_toArray, List.set_cons_zero, List.set_cons_succ]
        go_big_quiet_skip
        try simp only [Act.put, List.setIfInBounds_toArray, List.set_cons_zero, List.set_cons_succ]
        go_big_quiet_skip
        try simp only [Act.put, List.setIfInBounds_toArray, List.set_cons_zero, List.set_cons_succ]
        go_big_quiet_skip
        try simp only [Act.put, List.setIfInBounds_toArray, List.set_cons_zero, List.set_cons_succ]
        go_big_quiet_skip
        try simp only [Act.put, List.setIfInBounds_toArray, List.set_cons_zero, List.set_cons_succ]
        go_big_quiet_skip
        try simp only [Act.put, List.setIfInBounds_toArray, List.set_cons_zero, List.set_cons_succ]
        refine qstep (o := ⟨some 92, _, _, _, _, _⟩) (v := ?_) (by rfl) (fun wq hSw => ?_) ?_
        rotate_left
        · (try dsimp only at hSw); go_simp; try with_reducible rfl
        try simp only [Act.put, List.setIfInBounds_toArray, List.set_cons_zero, List.set_cons_succ]
        refine qstep (o := ⟨some 93, _, _, _, _, _⟩) (v := ?_) (by rfl) (fun wq hSw => ?_) ?_
        rotate_left
        · (try dsimp only at hSw); go_simp; try with_reducible rfl
        try simp only [Act.put, List.setIfInBounds_toArray, List.set_cons_zero, List.set_cons_succ]
        refine qstep (o := ⟨some 94, _, _, _, _, _⟩) (v := ?_) (by rfl) (fun wq hSw => ?_) ?_
        rotate_left
        · (try dsimp only at hSw); go_simp; try with_reducible rfl
        try simp only [Act.put, List.setIfInBounds_toArray, List.set_cons_zero, List.set_cons_succ]
        refine qstep (o := ⟨some 95, _, _, _, _, _⟩) (v := ?_) (by rfl) (fun wq hSw => ?_) ?_
        rotate_left
        · (try dsimp only at hSw); go_simp; try with_reducible rfl
        try simp only [Act.put, List.setIfInBounds_toArray, List.set_cons_zero, List.set_cons_succ]
        refine qstep (o := ⟨some 96, _, _, _, _, _⟩) (v := ?_) (by rfl) (fun wq hSw => ?_) ?_
        rotate_left
        · (try dsimp only at hSw); go_simp; try with_reducible rfl
        try simp only [Act.put, List.setIfInBounds_toArray, List.set_cons_zero, List.set_cons_succ]
        refine qstep (o := ⟨some 97, _, _, _, _, _⟩) (v := ?_) (by rfl) (fun wq hSw => ?_) ?_
        rotate_left
        · (try dsimp only at hSw); go_simp; try with_reducible rfl
        try simp only [Act.put, List.setIfInBounds_toArray, List.set_cons_zero, List.set_cons_succ]
        refine qstep (o := ⟨some 98, _, _, _, _, _⟩) (v := ?_) (by rfl) (fun wq hSw => ?_) ?_
        rotate_left
        · (try dsimp only at hSw); go_simp; try with_reducible rfl
        try simp only [Act.put, List.setIfInBounds_toArray, List.set_cons_zero, List.set_cons_succ]
        refine qstep (o := ⟨some 99, _, _, _, _, _⟩) (v := .bool true) (by rfl) (fun wq hSw => ?_) ?_
        · (try dsimp only at hSw); go_simp; try first | (with_reducible rfl) | (simp; omega) | (intros; omega) | simp [*]
        try simp only [Act.put, List.setIfInBounds_toArray, List.set_cons_zero, List.set_cons_succ]
        refine qstep (o := ⟨some 100, _, _, _, _, _⟩) (v := .bool false) (by rfl) (fun wq hSw => ?_) ?_
        · (try dsimp only at hSw); go_simp; try first | (with_reducible rfl) | (simp; omega) | (intros; omega) | simp [*]
        try simp only [Act.put, List.setIfInBounds_toArray, List.set_cons_zero, List.set_cons_succ]
        refine qstep (o := ⟨some 101, _, _, _, _, _⟩) (v := ?_) (by rfl) (fun wq hSw => ?_) ?_
        rotate_left
        · (try dsimp only at hSw); go_simp; try with_reducible rfl
        try simp only [Act.put, List.setIfInBounds_toArray, List.set_cons_zero, List.set_cons_succ]
        refine qstep (o := ⟨some 102, _, _, _, _, _⟩) (v := ?_) (by rfl) (fun wq hSw => ?_) ?_
        rotate_left
        · (try dsimp only at hSw); go_simp; try with_reducible rfl
        try simp only [Act.put, List.setIfInBounds_toArray, List.set_cons_zero, List.set_cons_succ]
        refine qstep (o := ⟨some 103, _, _, _, _, _⟩) (v := ?_) (by rfl) (fun wq hSw => ?_) ?_
        rotate_left
        · (try dsimp only at hSw); go_simp; try with_reducible rfl
        try simp only [Act.put, List.setIfInBounds_toArray, List.set_cons_zero, List.set_cons_succ]
        refine qstep (o := ⟨some 104, _, _, _, _, _⟩) (v := ?_) (by rfl) (fun wq hSw => ?_) ?_
        rotate_left
        · (try dsimp only at hSw); go_simp; try with_reducible rfl
        try simp only [Act.put, List.setIfInBounds_toArray, List.set_cons_zero, List.set_cons_succ]
        refine qstep (o := ⟨some 105, _, _, _, _, _⟩) (v := ?_) (by rfl) (fun wq hSw => ?_) ?_
        rotate_left
        · (try dsimp only at hSw); go_simp; try with_reducible rfl
        try simp only [Act.put, List.setIfInBounds_toArray, List.set_cons_zero, List.set_cons_succ]
        refine qstep (o := ⟨some 106, _, _, _, _, _⟩) (v := ?_) (by rfl) (fun wq hSw => ?_) ?_
        rotate_left
        · (try dsimp only at hSw); go_simp; try with_reducible rfl
        try simp only [Act.put, List.setIfInBounds_toArray, List.set_cons_zero, List.set_cons_succ]
        refine qstep (o := ⟨some 107, _, _, _, _, _⟩) (v := ?_) (by rfl) (fun wq hSw => ?_) ?_
        rotate_left
        · (try dsimp only at hSw); go_simp; try with_reducible rfl
        try simp only [Act.put, List.setIfInBounds_toArray, List.set_cons_zero, List.set_cons_succ]
        refine qstep (o := ⟨some 108, _, _, _, _, _⟩) (v := ?_) (by rfl) (fun wq hSw => ?_) ?_
        rotate_left
        · (try dsimp only at hSw); go_simp; try with_reducible rfl
        try simp only [Act.put, List.setIfInBounds_toArray, List.set_cons_zero, List.set_cons_succ]
        refine qstep (o := ⟨some 109, _, _, _, _, _⟩) (v := ?_) (by rfl) (fun wq hSw => ?_) ?_
        rotate_left
        · (try dsimp only at hSw); go_simp; try with_reducible rfl
        try simp only [Act.put, List.setIfInBounds_toArray, List.set_cons_zero, List.set_cons_succ]
        refine qstep (o := ⟨some 110, _, _, _, _, _⟩) (v := ?_) (by rfl) (fun wq hSw => ?_) ?_
        rotate_left
        · (try dsimp only at hSw); go_simp; try with_reducible rfl
        try simp only [Act.put, List.setIfInBounds_toArray, List.set_cons_zero, List.set_cons_succ]
        refine qstep (o := ⟨some 111, _, _, _, _, _⟩) (v := .int .i64 (j : Int)) (by rfl) (fun wq hSw => ?_) ?_
        · (try dsimp only at hSw); go_simp; try first | (with_reducible rfl) | (simp; omega) | (intros; omega) | simp [*]
        try simp only [Act.put, List.setIfInBounds_toArray, List.set_cons_zero, List.set_cons_succ]
        refine qstep (o := ⟨some 112, _, _, _, _, _⟩) (v := .pointer (some ⟨g, off + j * 2, none⟩)) (by rfl) (fun wq hSw => ?_) ?_
        · (try dsimp only at hSw); go_simp; try first | (with_reducible rfl) | (simp; omega) | (intros; omega) | simp [*]
        try simp only [Act.put, List.setIfInBounds_toArray, List.set_cons_zero, List.set_cons_succ]
        refine qstep (o := ⟨some 113, _, _, _, _, _⟩) (v := ?_) (by rfl) (fun wq hSw => ?_) ?_
        rotate_left
        · (try dsimp only at hSw); go_simp; try with_reducible rfl
        try simp only [Act.put, List.setIfInBounds_toArray, List.set_cons_zero, List.set_cons_succ]
        refine qstep (o := ⟨some 114, _, _, _, _, _⟩) (v := .bool false) (by rfl) (fun wq hSw => ?_) ?_
        · (try dsimp only at hSw); go_simp; try first | (with_reducible rfl) | (simp; omega) | (intros; omega) | simp [*]
        try simp only [Act.put, List.setIfInBounds_toArray, List.set_cons_zero, List.set_cons_succ]
        refine qstep (o := ⟨some 115, _, _, _, _, _⟩) (v := ?_) (by rfl) (fun wq hSw => ?_) ?_
        rotate_left
        · (try dsimp only at hSw); go_simp; try with_reducible rfl
        try simp only [Act.put, List.setIfInBounds_toArray, List.set_cons_zero, List.set_cons_succ]
        refine qstep (o := ⟨some 116, _, _, _, _, _⟩) (v := ?_) (by rfl) (fun wq hSw => ?_) ?_
        rotate_left
        · (try dsimp only at hSw); go_simp; try with_reducible rfl
        try simp only [Act.put, List.setIfInBounds_toArray, List.set_cons_zero, List.set_cons_succ]
        refine wpQuiet_nil ?_
        intro wz hHeld
        obtain ⟨hB9, -⟩ := hHeld
        clear dz0 dz1
        clear pc0 pc1 pc2 pc3 pc4 bc0 bc1 lc0 lc1 cc0 cc1
        have hs9 := hB9.size
        replace HB := Lib.hid (HB.out.trans (hB9.mono hw))
        replace Hp := Lib.hid (Hp.out.below hB9 ltp)
        replace ltp := Nat.lt_of_lt_of_le ltp hs9
        replace Hc := Lib.hid (Hc.out.below hB9 ltc)
        replace ltc := Nat.lt_of_lt_of_le ltc hs9
        replace Hb := Lib.hid (Hb.out.below hB9 ltb)
        replace ltb := Nat.lt_of_lt_of_le ltb hs9
        replace Hl := Lib.hid (Hl.out.below hB9 ltl)
        replace ltl := Nat.lt_of_lt_of_le ltl hs9
        replace HR := Lib.hid (HR.out.below hB9 (Nat.le_refl _))
        replace hw := Nat.le_trans hw hs9
        clear hB9 hs9
        have pc0 := Hp.out.cell (i := 0) rfl
        have pc1 := Hp.out.cell (i := 1) rfl
        have pc2 := Hp.out.cell (i := 2) rfl
        have pc3 := Hp.out.cell (i := 3) rfl
        have pc4 := Hp.out.cell (i := 4) rfl
        have bc0 := Hb.out.cell (i := 0) rfl
        have bc1 := Hb.out.cell (i := 1) rfl
        have cc0 := Hc.out.cell (i := 0) rfl
        have cc1 := Hc.out.cell (i := 1) rfl
        go_wp2_with fail
        go_ret
        exact ⟨rfl, HB.out⟩
      · obtain ⟨i, rfl⟩ : ∃ i, q = i + 1 := ⟨q - 1, by omega⟩
        obtain ⟨x, hx⟩ : ∃ x, ys[i]? = some x := ⟨_, List.getElem?_eq_getElem (by omega)⟩
        have XX := Lib.hid hx
        clear hx
        have hwi : IntKind.i64.wrap (i : Int) = (i : Int) := by rw [IntKind.wrap_i64]; omega
        have hij : (i : Int) < (j : Int) + 1 := by omega
        have hwj : IntKind.i64.wrap (j : Int) = (j : Int) := by rw [IntKind.wrap_i64]; omega
        have hjj : (j : Int) < (j : Int) + 1 := by omega
        clear hqm
        have pc0 := Hp.out.cell (i := 0) rfl
        have pc1 := Hp.out.cell (i := 1) rfl
        have pc2 := Hp.out.cell (i := 2) rfl
        have pc3 := Hp.out.cell (i := 3) rfl
        have pc4 := Hp.out.cell (i := 4) rfl
        go_wp2_with fail
        refine (find_to lv _ c1 hi la rt ys kb _ (j + 1) hm (by omega) HR.out HASC.out (i + 1) false HQ.out HK.out).mono ?_; rintro e w4 ⟨rfl, hB9⟩
        clear pc0 pc1 pc2 pc3 pc4
        have hs9 := hB9.size
        replace HB := Lib.hid (HB.out.trans (hB9.mono hw))
        replace Hp := Lib.hid (Hp.out.below hB9 ltp)
        replace ltp := Nat.lt_of_lt_of_le ltp hs9
        replace HR := Lib.hid (HR.out.below hB9 (Nat.le_refl _))
        replace hw := Nat.le_trans hw hs9
        clear hB9 hs9
        have pc0 := Hp.out.cell (i := 0) rfl
        have pc1 := Hp.out.cell (i := 1) rfl
        have pc2 := Hp.out.cell (i := 2) rfl
        have pc3 := Hp.out.cell (i := 3) rfl
        have pc4 := Hp.out.cell (i := 4) rfl
        go_wp2_with fail
        refine (child_any lv _ c1 hi la rt ys kb _ (j + 1) hm (by omega) HR.out HASC.out x.1 x.2 true (by rw [if_neg (by rw [HK.out]; decide), HQ.out]; exact near_at XX.out)).mono ?_; rintro e w5 ⟨rfl, hB9⟩
        clear pc0 pc1 pc2 pc3 pc4
        have hs9 := hB9.size
        replace HB := Lib.hid (HB.out.trans (hB9.mono hw))
        replace Hp := Lib.hid (Hp.out.below hB9 ltp)
        replace ltp := Nat.lt_of_lt_of_le ltp hs9
        replace HR := Lib.hid (HR.out.below hB9 (Nat.le_refl _))
        replace hw := Nat.le_trans hw hs9
        clear hB9 hs9
        have pc0 := Hp.out.cell (i := 0) rfl
        have pc1 := Hp.out.cell (i := 1) rfl
        have pc2 := Hp.out.cell (i := 2) rfl
        have pc3 := Hp.out.cell (i := 3) rfl
        have pc4 := Hp.out.cell (i := 4) rfl
        go_wp2_with fail
        clear pc0 pc1 pc2 pc3 pc4
        have Hc := Lib.hid (Blk.new w5 [.string x.1, .int .u64 (x.2 : Int)] 32)
        replace Hp := Lib.hid (Hp.out.alloc (.cells #[.string x.1, .int .u64 (x.2 : Int)] 32))
        replace HR := Lib.hid (HR.out.below ((Below.refl _ _).alloc (Nat.le_refl _) (.cells #[.string x.1, .int .u64 (x.2 : Int)] 32)) (Nat.le_refl _))
        replace HB := Lib.hid (HB.out.alloc hw (.cells #[.string x.1, .int .u64 (x.2 : Int)] 32))
        have hz9 : (w5.alloc (.cells #[.string x.1, .int .u64 (x.2 : Int)] 32)).heap.size = w5.heap.size + 1 := nblk_alloc _ _
        generalize w5.alloc (.cells #[.string x.1, .int .u64 (x.2 : Int)] 32) = V6 at *
        generalize w5.heap.size = bc at *
        have ltc : bc < V6.heap.size := by omega
        replace ltp : bp < V6.heap.size := by omega
        replace hw : w.heap.size ≤ V6.heap.size := by omega
        clear hz9
        have pc0 := Hp.out.cell (i := 0) rfl
        have pc1 := Hp.out.cell (i := 1) rfl
        have pc2 := Hp.out.cell (i := 2) rfl
        have pc3 := Hp.out.cell (i := 3) rfl
        have pc4 := Hp.out.cell (i := 4) rfl
        go_wp2_with fail
        refine (below_any lv _ c1 hi la rt ys kb false _ (j + 1) hm (by omega) HR.out HASC.out x.1 x.2 true (by rw [if_neg (by decide), HQ.out]; exact near_at XX.out)).mono ?_; rintro e w7 ⟨rfl, hB9⟩
        clear pc0 pc1 pc2 pc3 pc4
        have hs9 := hB9.size
        replace HB := Lib.hid (HB.out.trans (hB9.mono hw))
        replace Hp := Lib.hid (Hp.out.below hB9 ltp)
        replace ltp := Nat.lt_of_lt_of_le ltp hs9
        replace Hc := Lib.hid (Hc.out.below hB9 ltc)
        replace ltc := Nat.lt_of_lt_of_le ltc hs9
        replace HR := Lib.hid (HR.out.below hB9 (Nat.le_refl _))
        replace hw := Nat.le_trans hw hs9
        clear hB9 hs9
        have pc0 := Hp.out.cell (i := 0) rfl
        have pc1 := Hp.out.cell (i := 1) rfl
        have pc2 := Hp.out.cell (i := 2) rfl
        have pc3 := Hp.out.cell (i := 3) rfl
        have pc4 := Hp.out.cell (i := 4) rfl
        go_wp2_with fail
        clear pc0 pc1 pc2 pc3 pc4
        have Hb := Lib.hid (Blk.new w7 [.string x.1, .int .u64 (x.2 : Int)] 32)
        replace Hp := Lib.hid (Hp.out.alloc (.cells #[.string x.1, .int .u64 (x.2 : Int)] 32))
        replace Hc := Lib.hid (Hc.out.alloc (.cells #[.string x.1, .int .u64 (x.2 : Int)] 32))
        replace HR := Lib.hid (HR.out.below ((Below.refl _ _).alloc (Nat.le_refl _) (.cells #[.string x.1, .int .u64 (x.2 : Int)] 32)) (Nat.le_refl _))
        replace HB := Lib.hid (HB.out.alloc hw (.cells #[.string x.1, .int .u64 (x.2 : Int)] 32))
        have hz9 : (w7.alloc (.cells #[.string x.1, .int .u64 (x.2 : Int)] 32)).heap.size = w7.heap.size + 1 := nblk_alloc _ _
        generalize w7.alloc (.cells #[.string x.1, .int .u64 (x.2 : Int)] 32) = V8 at *
        generalize w7.heap.size = bb at *
        have ltb : bb < V8.heap.size := by omega
        replace ltp : bp < V8.heap.size := by omega
        replace ltc : bc < V8.heap.size := by omega
        replace hw : w.heap.size ≤ V8.heap.size := by omega
        clear hz9
        have pc0 := Hp.out.cell (i := 0) rfl
        have pc1 := Hp.out.cell (i := 1) rfl
        have pc2 := Hp.out.cell (i := 2) rfl
        have pc3 := Hp.out.cell (i := 3) rfl
        have pc4 := Hp.out.cell (i := 4) rfl
        go_wp2_with fail
        refine (below_any lv _ c1 hi la rt ys kb true _ (j + 1) hm (by omega) HR.out HASC.out z.1 z.2 true (by rw [if_pos rfl]; exact near_at ZX.out)).mono ?_; rintro e w9 ⟨rfl, hB9⟩
        clear pc0 pc1 pc2 pc3 pc4
        have hs9 := hB9.size
        replace HB := Lib.hid (HB.out.trans (hB9.mono hw))
        replace Hp := Lib.hid (Hp.out.below hB9 ltp)
        replace ltp := Nat.lt_of_lt_of_le ltp hs9
        replace Hc := Lib.hid (Hc.out.below hB9 ltc)
        replace ltc := Nat.lt_of_lt_of_le ltc hs9
        replace Hb := Lib.hid (Hb.out.below hB9 ltb)
        replace ltb := Nat.lt_of_lt_of_le ltb hs9
        replace HR := Lib.hid (HR.out.below hB9 (Nat.le_refl _))
        replace hw := Nat.le_trans hw hs9
        clear hB9 hs9
        have pc0 := Hp.out.cell (i := 0) rfl
        have pc1 := Hp.out.cell (i := 1) rfl
        have pc2 := Hp.out.cell (i := 2) rfl
        have pc3 := Hp.out.cell (i := 3) rfl
        have pc4 := Hp.out.cell (i := 4) rfl
        go_wp2_with fail
        clear pc0 pc1 pc2 pc3 pc4
        have Hl := Lib.hid (Blk.new w9 [.string z.1, .int .u64 (z.2 : Int)] 32)
        replace Hp := Lib.hid (Hp.out.alloc (.cells #[.string z.1, .int .u64 (z.2 : Int)] 32))
        replace Hc := Lib.hid (Hc.out.alloc (.cells #[.string z.1, .int .u64 (z.2 : Int)] 32))
        replace Hb := Lib.hid (Hb.out.alloc (.cells #[.string z.1, .int .u64 (z.2 : Int)] 32))
        replace HR := Lib.hid (HR.out.below ((Below.refl _ _).alloc (Nat.le_refl _) (.cells #[.string z.1, .int .u64 (z.2 : Int)] 32)) (Nat.le_refl _))
        replace HB := Lib.hid (HB.out.alloc hw (.cells #[.string z.1, .int .u64 (z.2 : Int)] 32))
        have hz9 : (w9.alloc (.cells #[.string z.1, .int .u64 (z.2 : Int)] 32)).heap.size = w9.heap.size + 1 := nblk_alloc _ _
        generalize w9.alloc (.cells #[.string z.1, .int .u64 (z.2 : Int)] 32) = V11 at *
        generalize w9.heap.size = bl at *
        have ltl : bl < V11.heap.size := by omega
        replace ltp : bp < V11.heap.size := by omega
        replace ltc : bc < V11.heap.size := by omega
        replace ltb : bb < V11.heap.size := by omega
        replace hw : w.heap.size ≤ V11.heap.size := by omega
        clear hz9
        have pc0 := Hp.out.cell (i := 0) rfl
        have pc1 := Hp.out.cell (i := 1) rfl
        have pc2 := Hp.out.cell (i := 2) rfl
        have pc3 := Hp.out.cell (i := 3) rfl
        have pc4 := Hp.out.cell (i := 4) rfl
        have bc0 := Hb.out.cell (i := 0) rfl
        have bc1 := Hb.out.cell (i := 1) rfl
        have lc0 := Hl.out.cell (i := 0) rfl
        have lc1 := Hl.out.cell (i := 1) rfl
        have cc0 := Hc.out.cell (i := 0) rfl
        have cc1 := Hc.out.cell (i := 1) rfl
        obtain ⟨g, off, hA, hg, hcell⟩ := HR.out.at (by omega)
        subst hA
        obtain ⟨dx0, dx1⟩ := hcell i _ XX.out
        obtain ⟨dz0, dz1⟩ := hcell j _ ZX.out
        clear hcell
        go_upto_region 8 with fail
        refine qregion (fun w' => Below V11.heap.size V11 w' ∧ w'.cell? ⟨bp, 1, none⟩ = some (.slice (some ⟨g, off, none⟩) (j + 1) c1) ∧ w'.cell? ⟨bb, 0, none⟩ = some (.string x.1) ∧ w'.cell? ⟨bb, 1, none⟩ = some (.int .u64 (x.2 : Int)) ∧ w'.cell? ⟨bl, 0, none⟩ = some (.string z.1) ∧ w'.cell? ⟨bl, 1, none⟩ = some (.int .u64 (z.2 : Int)) ∧ w'.cell? ⟨bc, 0, none⟩ = some (.string x.1) ∧ w'.cell? ⟨bc, 1, none⟩ = some (.int .u64 (x.2 : Int)) ∧ w'.cell? ⟨g, off + i * 2, none⟩ = some (.string x.1) ∧ w'.cell? ⟨g, off + i * 2 + 1, none⟩ = some (.int .u64 (x.2 : Int)) ∧ w'.cell? ⟨g, off + j * 2, none⟩ = some (.string z.1) ∧ w'.cell? ⟨g, off + j * 2 + 1, none⟩ = some (.int .u64 (z.2 : Int))) (by kernel_rfl) (by kernel_rfl) ⟨(Below.refl _ _).drew, pc1, bc0, bc1, lc0, lc1, cc0, cc1, dx0, dx1, dz0, dz1⟩ ?_
        refine qcall (o := ⟨some 62, _, _, _, _, _⟩) (v := .bool true) (by rfl) (fun wq hSw => ?_) (fun wq hSw => Calls.mono (awake_any _) ?_) ?_
        · (try dsimp only at hSw); go_simp; try with_reducible rfl
        · rintro e w9 ⟨rfl, hk⟩; exact ⟨rfl, ⟨hSw.1.trans (hk.mono hSw.1.size), kc hk hSw.1 ltp hSw.2.1, kc hk hSw.1 ltb hSw.2.2.1, kc hk hSw.1 ltb hSw.2.2.2.1, kc hk hSw.1 ltl hSw.2.2.2.2.1, kc hk hSw.1 ltl hSw.2.2.2.2.2.1, kc hk hSw.1 ltc hSw.2.2.2.2.2.2.1, kc hk hSw.1 ltc hSw.2.2.2.2.2.2.2.1, kc hk hSw.1 hg hSw.2.2.2.2.2.2.2.2.1, kc hk hSw.1 hg hSw.2.2.2.2.2.2.2.2.2.1, kc hk hSw.1 hg hSw.2.2.2.2.2.2.2.2.2.2.1, kc hk hSw.1 hg hSw.2.2.2.2.2.2.2.2.2.2.2⟩⟩
        try simp only [Act.put, List.setIfInBounds_toArray, List.set_cons_zero, List.set_cons_succ]
        refine qstep (o := ⟨some 63, _, _, _, _, _⟩) (v := ?_) (by rfl) (fun wq hSw => ?_) ?_
        rotate_left
        · (try dsimp only at hSw); go_simp; try with_reducible rfl
        try simp only [Act.put, List.setIfInBounds_toArray, List.set_cons_zero, List.set_cons_succ]
        refine qstep (o := ⟨some 64, _, _, _, _, _⟩) (v := ?_) (by rfl) (fun wq hSw => ?_) ?_
        rotate_left
        · (try dsimp only at hSw); go_simp; try with_reducible rfl
        try simp only [Act.put, List.setIfInBounds_toArray, List.set_cons_zero, List.set_cons_succ]
        refine qstep (o := ⟨some 65, _, _, _, _, _⟩) (v := ?_) (by rfl) (fun wq hSw => ?_) ?_
        rotate_left
        · (try dsimp only at hSw); go_simp; try with_reducible rfl
        try simp only [Act.put, List.setIfInBounds_toArray, List.set_cons_zero, List.set_cons_succ]
        refine qstep (o := ⟨some 66, _, _, _, _, _⟩) (v := .bool false) (by rfl) (fun wq hSw => ?_) ?_
        · (try dsimp only at hSw); go_simp; try first | (with_reducible rfl) | (simp; omega) | (intros; omega) | simp [*]
        try simp only [Act.put, List.setIfInBounds_toArray, List.set_cons_zero, List.set_cons_succ]
        refine qstep (o := ⟨some 67, _, _, _, _, _⟩) (v := ?_) (by rfl) (fun wq hSw => ?_) ?_
        rotate_left
        · (try dsimp only at hSw); go_simp; try with_reducible rfl
        try simp only [Act.put, List.setIfInBounds_toArray, List.set_cons_zero, List.set_cons_succ]
        refine qstep (o := ⟨some 68, _, _, _, _, _⟩) (v := ?_) (by rfl) (fun wq hSw => ?_) ?_
        rotate_left
        · (try dsimp only at hSw); go_simp; try with_reducible rfl
        try simp only [Act.put, List.setIfInBounds_toArray, List.set_cons_zero, List.set_cons_succ]
        refine qstep (o := ⟨some 69, _, _, _, _, _⟩) (v := ?_) (by rfl) (fun wq hSw => ?_) ?_
        rotate_left
        · (try dsimp only at hSw); go_simp; try with_reducible rfl
        try simp only [Act.put, List.setIfInBounds_toArray, List.set_cons_zero, List.set_cons_succ]
        refine qstep (o := ⟨some 70, _, _, _, _, _⟩) (v := ?_) (by rfl) (fun wq hSw => ?_) ?_
        rotate_left
        · (try dsimp only at hSw); go_simp; try with_reducible rfl
        try simp only [Act.put, List.setIfInBounds_toArray, List.set_cons_zero, List.set_cons_succ]
        refine qstep (o := ⟨some 71, _, _, _, _, _⟩) (v := ?_) (by rfl) (fun wq hSw => ?_) ?_
        rotate_left
        · (try dsimp only at hSw); go_simp; try with_reducible rfl
        try simp only [Act.put, List.setIfInBounds_toArray, List.set_cons_zero, List.set_cons_succ]
        refine qstep (o := ⟨some 72, _, _, _, _, _⟩) (v := ?_) (by rfl) (fun wq hSw => ?_) ?_
        rotate_left
        · (try dsimp only at hSw); go_simp; try with_reducible rfl
        try simp only [Act.put, List.setIfInBounds_toArray, List.set_cons_zero, List.set_cons_succ]
        refine qstep (o := ⟨some 73, _, _, _, _, _⟩) (v := .bool false) (by rfl) (fun wq hSw => ?_) ?_
        · (try dsimp only at hSw); go_simp; try first | (with_reducible rfl) | (simp; omega) | (intros; omega) | simp [*]
        try simp only [Act.put, List.setIfInBounds_toArray, List.set_cons_zero, List.set_cons_succ]
        refine qstep (o := ⟨some 74, _, _, _, _, _⟩) (v := ?_) (by rfl) (fun wq hSw => ?_) ?_
        rotate_left
        · (try dsimp only at hSw); go_simp; try with_reducible rfl
        try simp only [Act.put, List.setIfInBounds_toArray, List.set_cons_zero, List.set_cons_succ]
        refine qstep (o := ⟨some 75, _, _, _, _, _⟩) (v := ?_) (by rfl) (fun wq hSw => ?_) ?_
        rotate_left
        · (try dsimp only at hSw); go_simp; try with_reducible rfl
        try simp only [Act.put, List.setIfInBounds_toArray, List.set_cons_zero, List.set_cons_succ]
        refine qstep (o := ⟨some 76, _, _, _, _, _⟩) (v := ?_) (by rfl) (fun wq hSw => ?_) ?_
        rotate_left
        · (try dsimp only at hSw); go_simp; try with_reducible rfl
        try simp only [Act.put, List.setIfInBounds_toArray, List.set_cons_zero, List.set_cons_succ]
        refine qstep (o := ⟨some 77, _, _, _, _, _⟩) (v := ?_) (by rfl) (fun wq hSw => ?_) ?_
        rotate_left
        · (try dsimp only at hSw); go_simp; try with_reducible rfl
        try simp only [Act.put, List.setIfInBounds_toArray, List.set_cons_zero, List.set_cons_succ]
        refine qstep (o := ⟨some 78, _, _, _, _, _⟩) (v := .bool true) (by rfl) (fun wq hSw => ?_) ?_
        · (try dsimp only at hSw); go_simp; try first | (with_reducible rfl) | (simp; omega) | (intros; omega) | simp [*]
        try simp only [Act.put, List.setIfInBounds_toArray, List.set_cons_zero, List.set_cons_succ]
        refine qstep (o := ⟨some 79, _, _, _, _, _⟩) (v := .bool false) (by rfl) (fun wq hSw => ?_) ?_
        · (try dsimp only at hSw); go_simp; try first | (with_reducible rfl) | (simp; omega) | (intros; omega) | simp [*]
        try simp only [Act.put, List.setIfInBounds_toArray, List.set_cons_zero, List.set_cons_succ]
        refine qstep (o := ⟨some 80, _, _, _, _, _⟩) (v := ?_) (by rfl) (fun wq hSw => ?_) ?_
        rotate_left
        · (try dsimp only at hSw); go_simp; try with_reducible rfl
        try simp only [Act.put, List.setIfInBounds_toArray, List.set_cons_zero, List.set_cons_succ]
        refine qstep (o := ⟨some 81, _, _, _, _, _⟩) (v := ?_) (by rfl) (fun wq hSw => ?_) ?_
        rotate_left
        · (try dsimp only at hSw); go_simp; try with_reducible rfl
        try simp only [Act.put, List.setIfInBounds_toArray, List.set_cons_zero, List.set_cons_succ]
        refine qstep (o := ⟨some 82, _, _, _, _, _⟩) (v := ?_) (by rfl) (fun wq hSw => ?_) ?_
        rotate_left
        · (try dsimp only at hSw); go_simp; try with_reducible rfl
        try simp only [Act.put, List.setIfInBounds_toArray, List.set_cons_zero, List.set_cons_succ]
        refine qstep (o := ⟨some 83, _, _, _, _, _⟩) (v := ?_) (by rfl) (fun wq hSw => ?_) ?_
        rotate_left
        · (try dsimp only at hSw); go_simp; try with_reducible rfl
        try simp only [Act.put, List.setIfInBounds_toArray, List.set_cons_zero, List.set_cons_succ]
        refine qstep (o := ⟨some 84, _, _, _, _, _⟩) (v := ?_) (by rfl) (fun wq hSw => ?_) ?_
        rotate_left
        · (try dsimp only at hSw); go_simp; try with_reducible rfl
        try simp only [Act.put, List.setIfInBounds_toArray, List.set_cons_zero, List.set_cons_succ]
        refine qstep (o := ⟨some 85, _, _, _, _, _⟩) (v := ?_) (by rfl) (fun wq hSw => ?_) ?_
        rotate_left
        · (try dsimp only at hSw); go_simp; try with_reducible rfl
        try simp only [Act.put, List.setIfInBounds_toArray, List.set_cons_zero, List.set_cons_succ]
        refine qstep (o := ⟨some 86, _, _, _, _, _⟩) (v := ?_) (by rfl) (fun wq hSw => ?_) ?_
        rotate_left
        · (try dsimp only at hSw); go_simp; try with_reducible rfl
        try simp only [Act.put, List.setIfInBounds_toArray, List.set_cons_zero, List.set_cons_succ]
        refine qstep (o := ⟨some 87, _, _, _, _, _⟩) (v := ?_) (by rfl) (fun wq hSw => ?_) ?_
        rotate_left
        · (try dsimp only at hSw); go_simp; try with_reducible rfl
        try simp only [Act.put, List.setIfInBounds_toArray, List.set_cons_zero, List.set_cons_succ]
        refine qstep (o := ⟨some 88, _, _, _, _, _⟩) (v := .int .i64 (i : Int)) (by rfl) (fun wq hSw => ?_) ?_
        · (try dsimp only at hSw); go_simp; try first | (with_reducible rfl) | (simp; omega) | (intros; omega) | simp [*]
        try simp only [Act.put, List.setIfInBounds_toArray, List.set_cons_zero, List.set_cons_succ]
        refine qstep (o := ⟨some 89, _, _, _, _, _⟩) (v := .pointer (some ⟨g, off + i * 2, none⟩)) (by rfl) (fun wq hSw => ?_) ?_
        · (try dsimp only at hSw); go_simp; try first | (with_reducible rfl) | (simp; omega) | (intros; omega) | simp [*]
        try simp only [Act.put, List.setIfInBounds_toArray, List.set_cons_zero, List.set_cons_succ]
        refine qstep (o := ⟨some 90, _, _, _, _, _⟩) (v := ?_) (by rfl) (fun wq hSw => ?_) ?_
        rotate_left
        · (try dsimp only at hSw); go_simp; try with_reducible rfl
        try simp only [Act.put, List.setIfInBounds_toArray, List.set_cons_zero, List.set_cons_succ]
        refine qstep (o := ⟨some 91, _, _, _, _, _⟩) (v := .bool false) (by rfl) (fun wq hSw => ?_) ?_
        · (try dsimp only at hSw); go_simp; try first | (with_reducible rfl) | (simp; omega) | (intros; omega) | simp [*]
        try simp only [Act.put, List.setIfInBounds_toArray, List.set_cons_zero, List.set_cons_succ]
        refine qstep (o := ⟨some 92, _, _, _, _, _⟩) (v := ?_) (by rfl) (fun wq hSw => ?_) ?_
        rotate_left
        · (try dsimp only at hSw); go_simp; try with_reducible rfl
        try simp only [Act.put, List.setIfInBounds_toArray, List.set_cons_zero, List.set_cons_succ]
        refine qstep (o := ⟨some 93, _, _, _, _, _⟩) (v := ?_) (by rfl) (fun wq hSw => ?_) ?_
        rotate_left
        · (try dsimp only at hSw); go_simp; try with_reducible rfl
        try simp only [Act.put, List.setIfInBounds_toArray, List.set_cons_zero, List.set_cons_succ]
        refine qstep (o := ⟨some 94, _, _, _, _, _⟩) (v := ?_) (by rfl) (fun wq hSw => ?_) ?_
        rotate_left
        · (try dsimp only at hSw); go_simp; try with_reducible rfl
        try simp only [Act.put, List.setIfInBounds_toArray, List.set_cons_zero, List.set_cons_succ]
        refine qstep (o := ⟨some 95, _, _, _, _, _⟩) (v := ?_) (by rfl) (fun wq hSw => ?_) ?_
        rotate_left
        · (try dsimp only at hSw); go_simp; try with_reducible rfl
        try simp only [Act.put, List.setIfInBounds_toArray, List.set_cons_zero, List.set_cons_succ]
        refine qstep (o := ⟨some 96, _, _, _, _, _⟩) (v := ?_) (by rfl) (fun wq hSw => ?_) ?_
        rotate_left
        · (try dsimp only at hSw); go_simp; try with_reducible rfl
        try simp only [Act.put, List.setIfInBounds_toArray, List.set_cons_zero, List.set_cons_succ]
        refine qstep (o := ⟨some 97, _, _, _, _, _⟩) (v := ?_) (by rfl) (fun wq hSw => ?_) ?_
        rotate_left
        · (try dsimp only at hSw); go_simp; try with_reducible rfl
        try simp only [Act.put, List.setIfInBounds_toArray, List.set_cons_zero, List.set_cons_succ]
        refine qstep (o := ⟨some 98, _, _, _, _, _⟩) (v := ?_) (by rfl) (fun wq hSw => ?_) ?_
        rotate_left
        · (try dsimp only at hSw); go_simp; try with_reducible rfl
        try simp only [Act.put, List.setIfInBounds_toArray, List.set_cons_zero, List.set_cons_succ]
        refine qstep (o := ⟨some 99, _, _, _, _, _⟩) (v := .bool true) (by rfl) (fun wq hSw => ?_) ?_
        · (try dsimp only at hSw); go_simp; try first | (with_reducible rfl) | (simp; omega) | (intros; omega) | simp [*]
        try simp only [Act.put, List.setIfInBounds_toArray, List.set_cons_zero, List.set_cons_succ]
        refine qstep (o := ⟨some 100, _, _, _, _, _⟩) (v := .bool false) (by rfl) (fun wq hSw => ?_) ?_
        · (try dsimp only at hSw); go_simp; try first | (with_reducible rfl) | (simp; omega) | (intros; omega) | simp [*]
        try simp only [Act.put, List.setIfInBounds_toArray, List.set_cons_zero, List.set_cons_succ]
        refine qstep (o := ⟨some 101, _, _, _, _, _⟩) (v := ?_) (by rfl) (fun wq hSw => ?_) ?_
        rotate_left
        · (try dsimp only at hSw); go_simp; try with_reducible rfl
        try simp only [Act.put, List.setIfInBounds_toArray, List.set_cons_zero, List.set_cons_succ]
        refine qstep (o := ⟨some 102, _, _, _, _, _⟩) (v := ?_) (by rfl) (fun wq hSw => ?_) ?_
        rotate_left
        · (try dsimp only at hSw); go_simp; try with_reducible rfl
        try simp only [Act.put, List.setIfInBounds_toArray, List.set_cons_zero, List.set_cons_succ]
        refine qstep (o := ⟨some 103, _, _, _, _, _⟩) (v := ?_) (by rfl) (fun wq hSw => ?_) ?_
        rotate_left
        · (try dsimp only at hSw); go_simp; try with_reducible rfl
        try simp only [Act.put, List.setIfInBounds_toArray, List.set_cons_zero, List.set_cons_succ]
        refine qstep (o := ⟨some 104, _, _, _, _, _⟩) (v := ?_) (by rfl) (fun wq hSw => ?_) ?_
        rotate_left
        · (try dsimp only at hSw); go_simp; try with_reducible rfl
        try simp only [Act.put, List.setIfInBounds_toArray, List.set_cons_zero, List.set_cons_succ]
        refine qstep (o := ⟨some 105, _, _, _, _, _⟩) (v := ?_) (by rfl) (fun wq hSw => ?_) ?_
        rotate_left
        · (try dsimp only at hSw); go_simp; try with_reducible rfl
        try simp only [Act.put, List.setIfInBounds_toArray, List.set_cons_zero, List.set_cons_succ]
        refine qstep (o := ⟨some 106, _, _, _, _, _⟩) (v := ?_) (by rfl) (fun wq hSw => ?_) ?_
        rotate_left
        · (try dsimp only at hSw); go_simp; try with_reducible rfl
        try simp only [Act.put, List.setIfInBounds_toArray, List.set_cons_zero, List.set_cons_succ]
        refine qstep (o := ⟨some 107, _, _, _, _, _⟩) (v := ?_) (by rfl) (fun wq hSw => ?_) ?_
        rotate_left
        · (try dsimp only at hSw); go_simp; try with_reducible rfl
        try simp only [Act.put, List.setIfInBounds_toArray, List.set_cons_zero, List.set_cons_succ]
        refine qstep (o := ⟨some 108, _, _, _, _, _⟩) (v := ?_) (by rfl) (fun wq hSw => ?_) ?_
        rotate_left
        · (try dsimp only at hSw); go_simp; try with_reducible rfl
        try simp only [Act.put, List.setIfInBounds_toArray, List.set_cons_zero, List.set_cons_succ]
        refine qstep (o := ⟨some 109, _, _, _, _, _⟩) (v := ?_) (by rfl) (fun wq hSw => ?_) ?_
        rotate_left
        · (try dsimp only at hSw); go_simp; try with_reducible rfl
        try simp only [Act.put, List.setIfInBounds_toArray, List.set_cons_zero, List.set_cons_succ]
        refine qstep (o := ⟨some 110, _, _, _, _, _⟩) (v := ?_) (by rfl) (fun wq hSw => ?_) ?_
        rotate_left
        · (try dsimp only at hSw); go_simp; try with_reducible rfl
        try simp only [Act.put, List.setIfInBounds_toArray, List.set_cons_zero, List.set_cons_succ]
        refine qstep (o := ⟨some 111, _, _, _, _, _⟩) (v := .int .i64 (j : Int)) (by rfl) (fun wq hSw => ?_) ?_
        · (try dsimp only at hSw); go_simp; try first | (with_reducible rfl) | (simp; omega) | (intros; omega) | simp [*]
        try simp only [Act.put, List.setIfInBounds_toArray, List.set_cons_zero, List.set_cons_succ]
        refine qstep (o := ⟨some 112, _, _, _, _, _⟩) (v := .pointer (some ⟨g, off + j * 2, none⟩)) (by rfl) (fun wq hSw => ?_) ?_
        · (try dsimp only at hSw); go_simp; try first | (with_reducible rfl) | (simp; omega) | (intros; omega) | simp [*]
        try simp only [Act.put, List.setIfInBounds_toArray, List.set_cons_zero, List.set_cons_succ]
        refine qstep (o := ⟨some 113, _, _, _, _, _⟩) (v := ?_) (by rfl) (fun wq hSw => ?_) ?_
        rotate_left
        · (try dsimp only at hSw); go_simp; try with_reducible rfl
        try simp only [Act.put, List.setIfInBounds_toArray, List.set_cons_zero, List.set_cons_succ]
        refine qstep (o := ⟨some 114, _, _, _, _, _⟩) (v := .bool false) (by rfl) (fun wq hSw => ?_) ?_
        · (try dsimp only at hSw); go_simp; try first | (with_reducible rfl) | (simp; omega) | (intros; omega) | simp [*]
        try simp only [Act.put, List.setIfInBounds_toArray, List.set_cons_zero, List.set_cons_succ]
        refine qstep (o := ⟨some 115, _, _, _, _, _⟩) (v := ?_) (by rfl) (fun wq hSw => ?_) ?_
        rotate_left
        · (try dsimp only at hSw); go_simp; try with_reducible rfl
        try simp only [Act.put, List.setIfInBounds_toArray, List.set_cons_zero, List.set_cons_succ]
        refine qstep (o := ⟨some 116, _, _, _, _, _⟩) (v := ?_) (by rfl) (fun wq hSw => ?_) ?_
        rotate_left
        · (try dsimp only at hSw); go_simp; try with_reducible rfl
        try simp only [Act.put, List.setIfInBounds_toArray, List.set_cons_zero, List.set_cons_succ]
        refine wpQuiet_nil ?_
        intro wz hHeld
        obtain ⟨hB9, -⟩ := hHeld
        clear dx0 dx1 dz0 dz1
        clear pc0 pc1 pc2 pc3 pc4 bc0 bc1 lc0 lc1 cc0 cc1
        have hs9 := hB9.size
        replace HB := Lib.hid (HB.out.trans (hB9.mono hw))
        replace Hp := Lib.hid (Hp.out.below hB9 ltp)
        replace ltp := Nat.lt_of_lt_of_le ltp hs9
        replace Hc := Lib.hid (Hc.out.below hB9 ltc)
        replace ltc := Nat.lt_of_lt_of_le ltc hs9
        replace Hb := Lib.hid (Hb.out.below hB9 ltb)
        replace ltb := Nat.lt_of_lt_of_le ltb hs9
        replace Hl := Lib.hid (Hl.out.below hB9 ltl)
        replace ltl := Nat.lt_of_lt_of_le ltl hs9
        replace HR := Lib.hid (HR.out.below hB9 (Nat.le_refl _))
        replace hw := Nat.le_trans hw hs9
        clear hB9 hs9
        have pc0 := Hp.out.cell (i := 0) rfl
        have pc1 := Hp.out.cell (i := 1) rfl
        have pc2 := Hp.out.cell (i := 2) rfl
        have pc3 := Hp.out.cell (i := 3) rfl
        have pc4 := Hp.out.cell (i := 4) rfl
        have bc0 := Hb.out.cell (i := 0) rfl
        have bc1 := Hb.out.cell (i := 1) rfl
        have cc0 := Hc.out.cell (i := 0) rfl
        have cc1 := Hc.out.cell (i := 1) rfl
        go_wp2_with fail
        go_ret
        exact ⟨rfl, HB.out⟩
  · have HK := Lib.hid hk
    obtain ⟨y, hy, hyk, hyl⟩ := has_in HASC.out hk
    have YX := Lib.hid (show ys[q]? = some y by rw [← HQ.out]; exact hy)
    have hql : q < m := by have := HQ.out; omega
    have HYK := Lib.hid hyk
    clear hy hyl hyk
    clear hk
    obtain ⟨j, rfl⟩ : ∃ j, m = j + 1 := ⟨m - 1, by omega⟩
    obtain ⟨z, hz⟩ : ∃ z, ys[j]? = some z := ⟨_, List.getElem?_eq_getElem (by omega)⟩
    have ZX := Lib.hid hz
    clear hz
    rcases Nat.eq_zero_or_pos q with rfl | hq0
    · have hwj : IntKind.i64.wrap (j : Int) = (j : Int) := by rw [IntKind.wrap_i64]; omega
      have hjj : (j : Int) < (j : Int) + 1 := by omega
      have hqj : (0 : Int) < (j : Int) + 1 := by omega
      clear hqm
      have pc0 := Hp.out.cell (i := 0) rfl
      have pc1 := Hp.out.cell (i := 1) rfl
      have pc2 := Hp.out.cell (i := 2) rfl
      have pc3 := Hp.out.cell (i := 3) rfl
      have pc4 := Hp.out.cell (i := 4) rfl
      go_wp2_with fail
      refine (find_to lv _ c1 hi la rt ys kb _ (j + 1) hm (by omega) HR.out HASC.out 0 true HQ.out HK.out).mono ?_; rintro e w4 ⟨rfl, hB9⟩
      clear pc0 pc1 pc2 pc3 pc4
      have hs9 := hB9.size
      replace HB := Lib.hid (HB.out.trans (hB9.mono hw))
      replace Hp := Lib.hid (Hp.out.below hB9 ltp)
      replace ltp := Nat.lt_of_lt_of_le ltp hs9
      replace HR := Lib.hid (HR.out.below hB9 (Nat.le_refl _))
      replace hw := Nat.le_trans hw hs9
      clear hB9 hs9
      have pc0 := Hp.out.cell (i := 0) rfl
      have pc1 := Hp.out.cell (i := 1) rfl
      have pc2 := Hp.out.cell (i := 2) rfl
      have pc3 := Hp.out.cell (i := 3) rfl
      have pc4 := Hp.out.cell (i := 4) rfl
      go_wp2_with fail
      refine (child_any lv _ c1 hi la rt ys kb _ (j + 1) hm (by omega) HR.out HASC.out y.1 y.2 true (by rw [if_pos HK.out, HQ.out]; exact near_at YX.out)).mono ?_; rintro e w5 ⟨rfl, hB9⟩
      clear pc0 pc1 pc2 pc3 pc4
      have hs9 := hB9.size
      replace HB := Lib.hid (HB.out.trans (hB9.mono hw))
      replace Hp := Lib.hid (Hp.out.below hB9 ltp)
      replace ltp := Nat.lt_of_lt_of_le ltp hs9
      replace HR := Lib.hid (HR.out.below hB9 (Nat.le_refl _))
      replace hw := Nat.le_trans hw hs9
      clear hB9 hs9
      have pc0 := Hp.out.cell (i := 0) rfl
      have pc1 := Hp.out.cell (i := 1) rfl
      have pc2 := Hp.out.cell (i := 2) rfl
      have pc3 := Hp.out.cell (i := 3) rfl
      have pc4 := Hp.out.cell (i := 4) rfl
      go_wp2_with fail
      clear pc0 pc1 pc2 pc3 pc4
      have Hc := Lib.hid (Blk.new w5 [.string y.1, .int .u64 (y.2 : Int)] 32)
      replace Hp := Lib.hid (Hp.out.alloc (.cells #[.string y.1, .int .u64 (y.2 : Int)] 32))
      replace HR := Lib.hid (HR.out.below ((Below.refl _ _).alloc (Nat.le_refl _) (.cells #[.string y.1, .int .u64 (y.2 : Int)] 32)) (Nat.le_refl _))
      replace HB := Lib.hid (HB.out.alloc hw (.cells #[.string y.1, .int .u64 (y.2 : Int)] 32))
      have hz9 : (w5.alloc (.cells #[.string y.1, .int .u64 (y.2 : Int)] 32)).heap.size = w5.heap.size + 1 := nblk_alloc _ _
      generalize w5.alloc (.cells #[.string y.1, .int .u64 (y.2 : Int)] 32) = V6 at *
      generalize w5.heap.size = bc at *
      have ltc : bc < V6.heap.size := by omega
      replace ltp : bp < V6.heap.size := by omega
      replace hw : w.heap.size ≤ V6.heap.size := by omega
      clear hz9
      have pc0 := Hp.out.cell (i := 0) rfl
      have pc1 := Hp.out.cell (i := 1) rfl
      have pc2 := Hp.out.cell (i := 2) rfl
      have pc3 := Hp.out.cell (i := 3) rfl
      have pc4 := Hp.out.cell (i := 4) rfl
      go_wp2_with fail
      refine (below_any lv _ c1 hi la rt ys kb false _ (j + 1) hm (by omega) HR.out HASC.out ⟨#[]⟩ 0 false (by rw [if_neg (by decide), HQ.out]; exact near_zero2 ys)).mono ?_; rintro e w7 ⟨rfl, hB9⟩
      clear pc0 pc1 pc2 pc3 pc4
      have hs9 := hB9.size
      replace HB := Lib.hid (HB.out.trans (hB9.mono hw))
      replace Hp := Lib.hid (Hp.out.below hB9 ltp)
      replace ltp := Nat.lt_of_lt_of_le ltp hs9
      replace Hc := Lib.hid (Hc.out.below hB9 ltc)
      replace ltc := Nat.lt_of_lt_of_le ltc hs9
      replace HR := Lib.hid (HR.out.below hB9 (Nat.le_refl _))
      replace hw := Nat.le_trans hw hs9
      clear hB9 hs9
      have pc0 := Hp.out.cell (i := 0) rfl
      have pc1 := Hp.out.cell (i := 1) rfl
      have pc2 := Hp.out.cell (i := 2) rfl
      have pc3 := Hp.out.cell (i := 3) rfl
      have pc4 := Hp.out.cell (i := 4) rfl
      go_wp2_with fail
      clear pc0 pc1 pc2 pc3 pc4
      have Hb := Lib.hid (Blk.new w7 [.string ⟨#[]⟩, .int .u64 0] 32)
      replace Hp := Lib.hid (Hp.out.alloc (.cells #[.string ⟨#[]⟩, .int .u64 0] 32))
      replace Hc := Lib.hid (Hc.out.alloc (.cells #[.string ⟨#[]⟩, .int .u64 0] 32))
      replace HR := Lib.hid (HR.out.below ((Below.refl _ _).alloc (Nat.le_refl _) (.cells #[.string ⟨#[]⟩, .int .u64 0] 32)) (Nat.le_refl _))
      replace HB := Lib.hid (HB.out.alloc hw (.cells #[.string ⟨#[]⟩, .int .u64 0] 32))
      have hz9 : (w7.alloc (.cells #[.string ⟨#[]⟩, .int .u64 0] 32)).heap.size = w7.heap.size + 1 := nblk_alloc _ _
      generalize w7.alloc (.cells #[.string ⟨#[]⟩, .int .u64 0] 32) = V8 at *
      generalize w7.heap.size = bb at *
      have ltb : bb < V8.heap.size := by omega
      replace ltp : bp < V8.heap.size := by omega
      replace ltc : bc < V8.heap.size := by omega
      replace hw : w.heap.size ≤ V8.heap.size := by omega
      clear hz9
      have pc0 := Hp.out.cell (i := 0) rfl
      have pc1 := Hp.out.cell (i := 1) rfl
      have pc2 := Hp.out.cell (i := 2) rfl
      have pc3 := Hp.out.cell (i := 3) rfl
      have pc4 := Hp.out.cell (i := 4) rfl
      go_wp2_with fail
      refine (below_any lv _ c1 hi la rt ys kb true _ (j + 1) hm (by omega) HR.out HASC.out z.1 z.2 true (by rw [if_pos rfl]; exact near_at ZX.out)).mono ?_; rintro e w9 ⟨rfl, hB9⟩
      clear pc0 pc1 pc2 pc3 pc4
      have hs9 := hB9.size
      replace HB := Lib.hid (HB.out.trans (hB9.mono hw))
      replace Hp := Lib.hid (Hp.out.below hB9 ltp)
      replace ltp := Nat.lt_of_lt_of_le ltp hs9
      replace Hc := Lib.hid (Hc.out.below hB9 ltc)
      replace ltc := Nat.lt_of_lt_of_le ltc hs9
      replace Hb := Lib.hid (Hb.out.below hB9 ltb)
      replace ltb := Nat.lt_of_lt_of_le ltb hs9
      replace HR := Lib.hid (HR.out.below hB9 (Nat.le_refl _))
      replace hw := Nat.le_trans hw hs9
      clear hB9 hs9
      have pc0 := Hp.out.cell (i := 0) rfl
      have pc1 := Hp.out.cell (i := 1) rfl
      have pc2 := Hp.out.cell (i := 2) rfl
      have pc3 := Hp.out.cell (i := 3) rfl
      have pc4 := Hp.out.cell (i := 4) rfl
      go_wp2_with fail
      clear pc0 pc1 pc2 pc3 pc4
      have Hl := Lib.hid (Blk.new w9 [.string z.1, .int .u64 (z.2 : Int)] 32)
      replace Hp := Lib.hid (Hp.out.alloc (.cells #[.string z.1, .int .u64 (z.2 : Int)] 32))
      replace Hc := Lib.hid (Hc.out.alloc (.cells #[.string z.1, .int .u64 (z.2 : Int)] 32))
      replace Hb := Lib.hid (Hb.out.alloc (.cells #[.string z.1, .int .u64 (z.2 : Int)] 32))
      replace HR := Lib.hid (HR.out.below ((Below.refl _ _).alloc (Nat.le_refl _) (.cells #[.string z.1, .int .u64 (z.2 : Int)] 32)) (Nat.le_refl _))
      replace HB := Lib.hid (HB.out.alloc hw (.cells #[.string z.1, .int .u64 (z.2 : Int)] 32))
      have hz9 : (w9.alloc (.cells #[.string z.1, .int .u64 (z.2 : Int)] 32)).heap.size = w9.heap.size + 1 := nblk_alloc _ _
      generalize w9.alloc (.cells #[.string z.1, .int .u64 (z.2 : Int)] 32) = V11 at *
      generalize w9.heap.size = bl at *
      have ltl : bl < V11.heap.size := by omega
      replace ltp : bp < V11.heap.size := by omega
      replace ltc : bc < V11.heap.size := by omega
      replace ltb : bb < V11.heap.size := by omega
      replace hw : w.heap.size ≤ V11.heap.size := by omega
      clear hz9
      have pc0 := Hp.out.cell (i := 0) rfl
      have pc1 := Hp.out.cell (i := 1) rfl
      have pc2 := Hp.out.cell (i := 2) rfl
      have pc3 := Hp.out.cell (i := 3) rfl
      have pc4 := Hp.out.cell (i := 4) rfl
      have bc0 := Hb.out.cell (i := 0) rfl
      have bc1 := Hb.out.cell (i := 1) rfl
      have lc0 := Hl.out.cell (i := 0) rfl
      have lc1 := Hl.out.cell (i := 1) rfl
      have cc0 := Hc.out.cell (i := 0) rfl
      have cc1 := Hc.out.cell (i := 1) rfl
      obtain ⟨g, off, hA, hg, hcell⟩ := HR.out.at (by omega)
      subst hA
      obtain ⟨dz0, dz1⟩ := hcell j _ ZX.out
      obtain ⟨dy0, dy1⟩ := hcell 0 _ YX.out
      simp only [Nat.zero_mul, Nat.add_zero] at dy0 dy1
      clear hcell
      go_upto_region 8 with fail
      refine qregion (fun w' => Below V11.heap.size V11 w' ∧ w'.cell? ⟨bp, 1, none⟩ = some (.slice (some ⟨g, off, none⟩) (j + 1) c1) ∧ w'.cell? ⟨bb, 0, none⟩ = some (.string ⟨#[]⟩) ∧ w'.cell? ⟨bb, 1, none⟩ = some (.int .u64 0) ∧ w'.cell? ⟨bl, 0, none⟩ = some (.string z.1) ∧ w'.cell? ⟨bl, 1, none⟩ = some (.int .u64 (z.2 : Int)) ∧ w'.cell? ⟨bc, 0, none⟩ = some (.string y.1) ∧ w'.cell? ⟨bc, 1, none⟩ = some (.int .u64 (y.2 : Int)) ∧ w'.cell? ⟨g, off + j * 2, none⟩ = some (.string z.1) ∧ w'.cell? ⟨g, off + j * 2 + 1, none⟩ = some (.int .u64 (z.2 : Int)) ∧ w'.cell? ⟨g, off, none⟩ = some (.string y.1) ∧ w'.cell? ⟨g, off + 1, none⟩ = some (.int .u64 (y.2 : Int))) (by kernel_rfl) (by kernel_rfl) ⟨(Below.refl _ _).drew, pc1, bc0, bc1, lc0, lc1, cc0, cc1, dz0, dz1, dy0, dy1⟩ ?_
      refine qcall (o := ⟨some 62, _, _, _, _, _⟩) (v := .bool true) (by rfl) (fun wq hSw => ?_) (fun wq hSw => Calls.mono (awake_any _) ?_) ?_
      · (try dsimp only at hSw); go_simp; try with_reducible rfl
      · rintro e w9 ⟨rfl, hk⟩; exact ⟨rfl, ⟨hSw.1.trans (hk.mono hSw.1.size), kc hk hSw.1 ltp hSw.2.1, kc hk hSw.1 ltb hSw.2.2.1, kc hk hSw.1 ltb hSw.2.2.2.1, kc hk hSw.1 ltl hSw.2.2.2.2.1, kc hk hSw.1 ltl hSw.2.2.2.2.2.1, kc hk hSw.1 ltc hSw.2.2.2.2.2.2.1, kc hk hSw.1 ltc hSw.2.2.2.2.2.2.2.1, kc hk hSw.1 hg hSw.2.2.2.2.2.2.2.2.1, kc hk hSw.1 hg hSw.2.2.2.2.2.2.2.2.2.1, kc hk hSw.1 hg hSw.2.2.2.2.2.2.2.2.2.2.1, kc hk hSw.1 hg hSw.2.2.2.2.2.2.2.2.2.2.2⟩⟩
      try simp only [Act.put, List.setIfInBounds_toArray, List.set_cons_zero, List.set_cons_succ]
      refine qstep (o := ⟨some 63, _, _, _, _, _⟩) (v := ?_) (by rfl) (fun wq hSw => ?_) ?_
      rotate_left
      · (try dsimp only at hSw); go_simp; try with_reducible rfl
      try simp only [Act.put, List.setIfInBounds_toArray, List.set_cons_zero, List.set_cons_succ]
      refine qstep (o := ⟨some 64, _, _, _, _, _⟩) (v := ?_) (by rfl) (fun wq hSw => ?_) ?_
      rotate_left
      · (try dsimp only at hSw); go_simp; try with_reducible rfl
      try simp only [Act.put, List.setIfInBounds_toArray, List.set_cons_zero, List.set_cons_succ]
      refine qstep (o := ⟨some 65, _, _, _, _, _⟩) (v := ?_) (by rfl) (fun wq hSw => ?_) ?_
      rotate_left
      · (try dsimp only at hSw); go_simp; try with_reducible rfl
      try simp only [Act.put, List.setIfInBounds_toArray, List.set_cons_zero, List.set_cons_succ]
      refine qstep (o := ⟨some 66, _, _, _, _, _⟩) (v := .bool false) (by rfl) (fun wq hSw => ?_) ?_
      · (try dsimp only at hSw); go_simp; try first | (with_reducible rfl) | (simp; omega) | (intros; omega) | simp [*]
      try simp only [Act.put, List.setIfInBounds_toArray, List.set_cons_zero, List.set_cons_succ]
      refine qstep (o := ⟨some 67, _, _, _, _, _⟩) (v := ?_) (by rfl) (fun wq hSw => ?_) ?_
      rotate_left
      · (try dsimp only at hSw); go_simp; try with_reducible rfl
      try simp only [Act.put, List.setIfInBounds_toArray, List.set_cons_zero, List.set_cons_succ]
      refine qstep (o := ⟨some 68, _, _, _, _, _⟩) (v := ?_) (by rfl) (fun wq hSw => ?_) ?_
      rotate_left
      · (try dsimp only at hSw); go_simp; try with_reducible rfl
      try simp only [Act.put, List.setIfInBounds_toArray, List.set_cons_zero, List.set_cons_succ]
      refine qstep (o := ⟨some 69, _, _, _, _, _⟩) (v := ?_) (by rfl) (fun wq hSw => ?_) ?_
      rotate_left
      · (try dsimp only at hSw); go_simp; try with_reducible rfl
      try simp only [Act.put, List.setIfInBounds_toArray, List.set_cons_zero, List.set_cons_succ]
      refine qstep (o := ⟨some 70, _, _, _, _, _⟩) (v := ?_) (by rfl) (fun wq hSw => ?_) ?_
      rotate_left
      · (try dsimp only at hSw); go_simp; try with_reducible rfl
      try simp only [Act.put, List.setIfInBounds_toArray, List.set_cons_zero, List.set_cons_succ]
      refine qstep (o := ⟨some 71, _, _, _, _, _⟩) (v := ?_) (by rfl) (fun wq hSw => ?_) ?_
      rotate_left
      · (try dsimp only at hSw); go_simp; try with_reducible rfl
      try simp only [Act.put, List.setIfInBounds_toArray, List.set_cons_zero, List.set_cons_succ]
      refine qstep (o := ⟨some 72, _, _, _, _, _⟩) (v := ?_) (by rfl) (fun wq hSw => ?_) ?_
      rotate_left
      · (try dsimp only at hSw); go_simp; try with_reducible rfl
      try simp only [Act.put, List.setIfInBounds_toArray, List.set_cons_zero, List.set_cons_succ]
      refine qstep (o := ⟨some 73, _, _, _, _, _⟩) (v := .bool false) (by rfl) (fun wq hSw => ?_) ?_
      · (try dsimp only at hSw); go_simp; try first | (with_reducible rfl) | (simp; omega) | (intros; omega) | simp [*]
      try simp only [Act.put, List.setIfInBounds_toArray, List.set_cons_zero, List.set_cons_succ]
      refine qstep (o := ⟨some 74, _, _, _, _, _⟩) (v := ?_) (by rfl) (fun wq hSw => ?_) ?_
      rotate_left
      · (try dsimp only at hSw); go_simp; try with_reducible rfl
      try simp only [Act.put, List.setIfInBounds_toArray, List.set_cons_zero, List.set_cons_succ]
      refine qstep (o := ⟨some 75, _, _, _, _, _⟩) (v := ?_) (by rfl) (fun wq hSw => ?_) ?_
      rotate_left
      · (try dsimp only at hSw); go_simp; try with_reducible rfl
      try simp only [Act.put, List.setIfInBounds_toArray, List.set_cons_zero, List.set_cons_succ]
      refine qstep (o := ⟨some 76, _, _, _, _, _⟩) (v := ?_) (by rfl) (fun wq hSw => ?_) ?_
      rotate_left
      · (try dsimp only at hSw); go_simp; try with_reducible rfl
      try simp only [Act.put, List.setIfInBounds_toArray, List.set_cons_zero, List.set_cons_succ]
      refine qstep (o := ⟨some 77, _, _, _, _, _⟩) (v := ?_) (by rfl) (fun wq hSw => ?_) ?_
      rotate_left
      · (try dsimp only at hSw); go_simp; try with_reducible rfl
      try simp only [Act.put, List.setIfInBounds_toArray, List.set_cons_zero, List.set_cons_succ]
      refine qstep (o := ⟨some 78, _, _, _, _, _⟩) (v := .bool false) (by rfl) (fun wq hSw => ?_) ?_
      · (try dsimp only at hSw); go_simp; try first | (with_reducible rfl) | (simp; omega) | (intros; omega) | simp [*]
      try simp only [Act.put, List.setIfInBounds_toArray, List.set_cons_zero, List.set_cons_succ]
      refine qstep (o := ⟨some 79, _, _, _, _, _⟩) (v := .bool false) (by rfl) (fun wq hSw => ?_) ?_
      · (try dsimp only at hSw); go_simp; try first | (with_reducible rfl) | (simp; omega) | (intros; omega) | simp [*]
      try simp only [Act.put, List.setIfInBounds_toArray, List.set_cons_zero, List.set_cons_succ]
      refine qstep (o := ⟨some 80, _, _, _, _, _⟩) (v := ?_) (by rfl) (fun wq hSw => ?_) ?_
      rotate_left
      · (try dsimp only at hSw); go_simp; try with_reducible rfl
      try simp only [Act.put, List.setIfInBounds_toArray, List.set_cons_zero, List.set_cons_succ]
      refine qstep (o := ⟨some 81, _, _, _, _, _⟩) (v := ?_) (by rfl) (fun wq hSw => ?_) ?_
      rotate_left
      · (try dsimp only at hSw); go_simp; try with_reducible rfl
      try simp only [Act.put, List.setIfInBounds_toArray, List.set_cons_zero, List.set_cons_succ]
      refine qstep (o := ⟨some 82, _, _, _, _, _⟩) (v := ?_) (by rfl) (fun wq hSw => ?_) ?_
      rotate_left
      · (try dsimp only at hSw); go_simp; try with_reducible rfl
      try simp only [Act.put, List.setIfInBounds_toArray, List.set_cons_zero, List.set_cons_succ]
      refine qstep (o := ⟨some 83, _, _, _, _, _⟩) (v := ?_) (by rfl) (fun wq hSw => ?_) ?_
      rotate_left
      · (try dsimp only at hSw); go_simp; try with_reducible rfl
      try simp only [Act.put, List.setIfInBounds_toArray, List.set_cons_zero, List.set_cons_succ]
      go_big_quiet_skip
      try simp only [Act.put, List.setIfInBounds_toArray, List.set_cons_zero, List.set_cons_succ]
      go_big_quiet_skip
      try simp only [Act.put, List.setIfInBounds_toArray, List.set_cons_zero, List.set_cons_succ]
      go_big_quiet_skip
      try simp only [Act.put, List.setIfInBounds_toArray, List.set_cons_zero, List.set_cons_succ]
      go_big_quiet_skip
      try simp only [Act.put, List.setIfInBounds_toArray, List.set_cons_zero, List.set_cons_succ]
      go_big_quiet_skip
      try simp only [Act.put, List.setIfInBounds_toArray, List.set_cons_zero, List.set_cons_succ]
      go_big_quiet_skip
      try simp only [Act.put, List.setIfInBounds_toArray, List.set_cons_zero, List.set_cons_succ]
      go_big_quiet_skip
      try simp only [Act.put, List.setIfInBounds_toArray, List.set_cons_zero, List.set_cons_succ]
      go_big_quiet_skip
      try simp only [Act.put, List.setIfInBounds_toArray, List.set_cons_zero, List.set_cons_succ]
      refine qstep (o := ⟨some 92, _, _, _, _, _⟩) (v := ?_) (by rfl) (fun wq hSw => ?_) ?_
      rotate_left
      · (try dsimp only at hSw); go_simp; try with_reducible rfl
      try simp only [Act.put, List.setIfInBounds_toArray, List.set_cons_zero, List.set_cons_succ]
      refine qstep (o := ⟨some 93, _, _, _, _, _⟩) (v := ?_) (by rfl) (fun wq hSw => ?_) ?_
      rotate_left
      · (try dsimp only at hSw); go_simp; try with_reducible rfl
      try simp only [Act.put, List.setIfInBounds_toArray, List.set_cons_zero, List.set_cons_succ]
      refine qstep (o := ⟨some 94, _, _, _, _, _⟩) (v := ?_) (by rfl) (fun wq hSw => ?_) ?_
      rotate_left
      · (try dsimp only at hSw); go_simp; try with_reducible rfl
      try simp only [Act.put, List.setIfInBounds_toArray, List.set_cons_zero, List.set_cons_succ]
      refine qstep (o := ⟨some 95, _, _, _, _, _⟩) (v := ?_) (by rfl) (fun wq hSw => ?_) ?_
      rotate_left
      · (try dsimp only at hSw); go_simp; try with_reducible rfl
      try simp only [Act.put, List.setIfInBounds_toArray, List.set_cons_zero, List.set_cons_succ]
      refine qstep (o := ⟨some 96, _, _, _, _, _⟩) (v := ?_) (by rfl) (fun wq hSw => ?_) ?_
      rotate_left
      · (try dsimp only at hSw); go_simp; try with_reducible rfl
      try simp only [Act.put, List.setIfInBounds_toArray, List.set_cons_zero, List.set_cons_succ]
      refine qstep (o := ⟨some 97, _, _, _, _, _⟩) (v := ?_) (by rfl) (fun wq hSw => ?_) ?_
      rotate_left
      · (try dsimp only at hSw); go_simp; try with_reducible rfl
      try simp only [Act.put, List.setIfInBounds_toArray, List.set_cons_zero, List.set_cons_succ]
      refine qstep (o := ⟨some 98, _, _, _, _, _⟩) (v := ?_) (by rfl) (fun wq hSw => ?_) ?_
      rotate_left
      · (try dsimp only at hSw); go_simp; try with_reducible rfl
      try simp only [Act.put, List.setIfInBounds_toArray, List.set_cons_zero, List.set_cons_succ]
      refine qstep (o := ⟨some 99, _, _, _, _, _⟩) (v := .bool true) (by rfl) (fun wq hSw => ?_) ?_
      · (try dsimp only at hSw); go_simp; try first | (with_reducible rfl) | (simp; omega) | (intros; omega) | simp [*]
      try simp only [Act.put, List.setIfInBounds_toArray, List.set_cons_zero, List.set_cons_succ]
      refine qstep (o := ⟨some 100, _, _, _, _, _⟩) (v := .bool false) (by rfl) (fun wq hSw => ?_) ?_
      · (try dsimp only at hSw); go_simp; try first | (with_reducible rfl) | (simp; omega) | (intros; omega) | simp [*]
      try simp only [Act.put, List.setIfInBounds_toArray, List.set_cons_zero, List.set_cons_succ]
      refine qstep (o := ⟨some 101, _, _, _, _, _⟩) (v := ?_) (by rfl) (fun wq hSw => ?_) ?_
      rotate_left
      · (try dsimp only at hSw); go_simp; try with_reducible rfl
      try simp only [Act.put, List.setIfInBounds_toArray, List.set_cons_zero, List.set_cons_succ]
      refine qstep (o := ⟨some 102, _, _, _, _, _⟩) (v := ?_) (by rfl) (fun wq hSw => ?_) ?_
      rotate_left
      · (try dsimp only at hSw); go_simp; try with_reducible rfl
      try simp only [Act.put, List.setIfInBounds_toArray, List.set_cons_zero, List.set_cons_succ]
      refine qstep (o := ⟨some 103, _, _, _, _, _⟩) (v := ?_) (by rfl) (fun wq hSw => ?_) ?_
      rotate_left
      · (try dsimp only at hSw); go_simp; try with_reducible rfl
      try simp only [Act.put, List.setIfInBounds_toArray, List.set_cons_zero, List.set_cons_succ]
      refine qstep (o := ⟨some 104, _, _, _, _, _⟩) (v := ?_) (by rfl) (fun wq hSw => ?_) ?_
      rotate_left
      · (try dsimp only at hSw); go_simp; try with_reducible rfl
      try simp only [Act.put, List.setIfInBounds_toArray, List.set_cons_zero, List.set_cons_succ]
      refine qstep (o := ⟨some 105, _, _, _, _, _⟩) (v := ?_) (by rfl) (fun wq hSw => ?_) ?_
      rotate_left
      · (try dsimp only at hSw); go_simp; try with_reducible rfl
      try simp only [Act.put, List.setIfInBounds_toArray, List.set_cons_zero, List.set_cons_succ]
      refine qstep (o := ⟨some 106, _, _, _, _, _⟩) (v := ?_) (by rfl) (fun wq hSw => ?_) ?_
      rotate_left
      · (try dsimp only at hSw); go_simp; try with_reducible rfl
      try simp only [Act.put, List.setIfInBounds_toArray, List.set_cons_zero, List.set_cons_succ]
      refine qstep (o := ⟨some 107, _, _, _, _, _⟩) (v := ?_) (by rfl) (fun wq hSw => ?_) ?_
      rotate_left
      · (try dsimp only at hSw); go_simp; try with_reducible rfl
      try simp only [Act.put, List.setIfInBounds_toArray, List.set_cons_zero, List.set_cons_succ]
      refine qstep (o := ⟨some 108, _, _, _, _, _⟩) (v := ?_) (by rfl) (fun wq hSw => ?_) ?_
      rotate_left
      · (try dsimp only at hSw); go_simp; try with_reducible rfl
      try simp only [Act.put, List.setIfInBounds_toArray, List.set_cons_zero, List.set_cons_succ]
      refine qstep (o := ⟨some 109, _, _, _, _, _⟩) (v := ?_) (by rfl) (fun wq hSw => ?_) ?_
      rotate_left
      · (try dsimp only at hSw); go_simp; try with_reducible rfl
      try simp only [Act.put, List.setIfInBounds_toArray, List.set_cons_zero, List.set_cons_succ]
      refine qstep (o := ⟨some 110, _, _, _, _, _⟩) (v := ?_) (by rfl) (fun wq hSw => ?_) ?_
      rotate_left
      · (try dsimp only at hSw); go_simp; try with_reducible rfl
      try simp only [Act.put, List.setIfInBounds_toArray, List.set_cons_zero, List.set_cons_succ]
      refine qstep (o := ⟨some 111, _, _, _, _, _⟩) (v := .int .i64 (j : Int)) (by rfl) (fun wq hSw => ?_) ?_
      · (try dsimp only at hSw); go_simp; try first | (with_reducible rfl) | (simp; omega) | (intros; omega) | simp [*]
      try simp only [Act.put, List.setIfInBounds_toArray, List.set_cons_zero, List.set_cons_succ]
      refine qstep (o := ⟨some 112, _, _, _, _, _⟩) (v := .pointer (some ⟨g, off + j * 2, none⟩)) (by rfl) (fun wq hSw => ?_) ?_
      · (try dsimp only at hSw); go_simp; try first | (with_reducible rfl) | (simp; omega) | (intros; omega) | simp [*]
      try simp only [Act.put, List.setIfInBounds_toArray, List.set_cons_zero, List.set_cons_succ]
      refine qstep (o := ⟨some 113, _, _, _, _, _⟩) (v := ?_) (by rfl) (fun wq hSw => ?_) ?_
      rotate_left
      · (try dsimp only at hSw); go_simp; try with_reducible rfl
      try simp only [Act.put, List.setIfInBounds_toArray, List.set_cons_zero, List.set_cons_succ]
      refine qstep (o := ⟨some 114, _, _, _, _, _⟩) (v := .bool false) (by rfl) (fun wq hSw => ?_) ?_
      · (try dsimp only at hSw); go_simp; try first | (with_reducible rfl) | (simp; omega) | (intros; omega) | simp [*]
      try simp only [Act.put, List.setIfInBounds_toArray, List.set_cons_zero, List.set_cons_succ]
      refine qstep (o := ⟨some 115, _, _, _, _, _⟩) (v := ?_) (by rfl) (fun wq hSw => ?_) ?_
      rotate_left
      · (try dsimp only at hSw); go_simp; try with_reducible rfl
      try simp only [Act.put, List.setIfInBounds_toArray, List.set_cons_zero, List.set_cons_succ]
      refine qstep (o := ⟨some 116, _, _, _, _, _⟩) (v := ?_) (by rfl) (fun wq hSw => ?_) ?_
      rotate_left
      · (try dsimp only at hSw); go_simp; try with_reducible rfl
      try simp only [Act.put, List.setIfInBounds_toArray, List.set_cons_zero, List.set_cons_succ]
      refine wpQuiet_nil ?_
      intro wz hHeld
      obtain ⟨hB9, -⟩ := hHeld
      clear dz0 dz1 dy0 dy1
      clear pc0 pc1 pc2 pc3 pc4 bc0 bc1 lc0 lc1 cc0 cc1
      have hs9 := hB9.size
      replace HB := Lib.hid (HB.out.trans (hB9.mono hw))
      replace Hp := Lib.hid (Hp.out.below hB9 ltp)
      replace ltp := Nat.lt_of_lt_of_le ltp hs9
      replace Hc := Lib.hid (Hc.out.below hB9 ltc)
      replace ltc := Nat.lt_of_lt_of_le ltc hs9
      replace Hb := Lib.hid (Hb.out.below hB9 ltb)
      replace ltb := Nat.lt_of_lt_of_le ltb hs9
      replace Hl := Lib.hid (Hl.out.below hB9 ltl)
      replace ltl := Nat.lt_of_lt_of_le ltl hs9
      replace HR := Lib.hid (HR.out.below hB9 (Nat.le_refl _))
      replace hw := Nat.le_trans hw hs9
      clear hB9 hs9
      have pc0 := Hp.out.cell (i := 0) rfl
      have pc1 := Hp.out.cell (i := 1) rfl
      have pc2 := Hp.out.cell (i := 2) rfl
      have pc3 := Hp.out.cell (i := 3) rfl
      have pc4 := Hp.out.cell (i := 4) rfl
      have bc0 := Hb.out.cell (i := 0) rfl
      have bc1 := Hb.out.cell (i := 1) rfl
      have cc0 := Hc.out.cell (i := 0) rfl
      have cc1 := Hc.out.cell (i := 1) rfl
      replace hg := Nat.lt_of_lt_of_le hg (Nat.le_refl _)
      have hyk := HYK.out
      obtain ⟨g', off', hA, hg', hcell⟩ := HR.out.at (by omega)
      cases hA
      obtain ⟨dy0, dy1⟩ := hcell 0 _ YX.out
      simp only [Nat.zero_mul, Nat.add_zero] at dy0 dy1
      clear hcell HYK
      go_upto_region 11 with fail
      refine qregion (fun w' => Below wz.heap.size wz w' ∧ w'.cell? ⟨bp, 1, none⟩ = some (.slice (some ⟨g, off, none⟩) (j + 1) c1) ∧ w'.cell? ⟨bc, 0, none⟩ = some (.string y.1) ∧ w'.cell? ⟨bc, 1, none⟩ = some (.int .u64 (y.2 : Int)) ∧ w'.cell? ⟨g, off, none⟩ = some (.string y.1) ∧ w'.cell? ⟨g, off + 1, none⟩ = some (.int .u64 (y.2 : Int))) (by kernel_rfl) (by kernel_rfl) ⟨(Below.refl _ _).drew, pc1, cc0, cc1, dy0, dy1⟩ ?_
      refine qstep (o := ⟨some 118, _, _, _, _, _⟩) (v := ?_) (by rfl) (fun wq hSw => ?_) ?_
      rotate_left
      · (try dsimp only at hSw); go_simp; try with_reducible rfl
      try simp only [Act.put, List.setIfInBounds_toArray, List.set_cons_zero, List.set_cons_succ]
      refine qstep (o := ⟨some 119, _, _, _, _, _⟩) (v := ?_) (by rfl) (fun wq hSw => ?_) ?_
      rotate_left
      · (try dsimp only at hSw); go_simp; try with_reducible rfl
      try simp only [Act.put, List.setIfInBounds_toArray, List.set_cons_zero, List.set_cons_succ]
      refine qstep (o := ⟨some 120, _, _, _, _, _⟩) (v := ?_) (by rfl) (fun wq hSw => ?_) ?_
      rotate_left
      · (try dsimp only at hSw); go_simp; try with_reducible rfl
      try simp only [Act.put, List.setIfInBounds_toArray, List.set_cons_zero, List.set_cons_succ]
      refine qstep (o := ⟨some 121, _, _, _, _, _⟩) (v := ?_) (by rfl) (fun wq hSw => ?_) ?_
      rotate_left
      · (try dsimp only at hSw); go_simp; try with_reducible rfl
      try simp only [Act.put, List.setIfInBounds_toArray, List.set_cons_zero, List.set_cons_succ]
      refine qstep (o := ⟨some 122, _, _, _, _, _⟩) (v := ?_) (by rfl) (fun wq hSw => ?_) ?_
      rotate_left
      · (try dsimp only at hSw); go_simp; try with_reducible rfl
      try simp only [Act.put, List.setIfInBounds_toArray, List.set_cons_zero, List.set_cons_succ]
      refine qstep (o := ⟨some 123, _, _, _, _, _⟩) (v := ?_) (by rfl) (fun wq hSw => ?_) ?_
      rotate_left
      · (try dsimp only at hSw); go_simp; try with_reducible rfl
      try simp only [Act.put, List.setIfInBounds_toArray, List.set_cons_zero, List.set_cons_succ]
      refine qstep (o := ⟨some 124, _, _, _, _, _⟩) (v := .bool true) (by rfl) (fun wq hSw => ?_) ?_
      · (try dsimp only at hSw); go_simp; try first | (with_reducible rfl) | (simp; omega) | (intros; omega) | simp [*]
      try simp only [Act.put, List.setIfInBounds_toArray, List.set_cons_zero, List.set_cons_succ]
      refine qstep (o := ⟨some 125, _, _, _, _, _⟩) (v := ?_) (by rfl) (fun wq hSw => ?_) ?_
      rotate_left
      · (try dsimp only at hSw); go_simp; try with_reducible rfl
      try simp only [Act.put, List.setIfInBounds_toArray, List.set_cons_zero, List.set_cons_succ]
      refine qstep (o := ⟨some 126, _, _, _, _, _⟩) (v := ?_) (by rfl) (fun wq hSw => ?_) ?_
      rotate_left
      · (try dsimp only at hSw); go_simp; try with_reducible rfl
      try simp only [Act.put, List.setIfInBounds_toArray, List.set_cons_zero, List.set_cons_succ]
      refine qstep (o := ⟨some 127, _, _, _, _, _⟩) (v := ?_) (by rfl) (fun wq hSw => ?_) ?_
      rotate_left
      · (try dsimp only at hSw); go_simp; try with_reducible rfl
      try simp only [Act.put, List.setIfInBounds_toArray, List.set_cons_zero, List.set_cons_succ]
      refine qstep (o := ⟨some 128, _, _, _, _, _⟩) (v := ?_) (by rfl) (fun wq hSw => ?_) ?_
      rotate_left
      · (try dsimp only at hSw); go_simp; try with_reducible rfl
      try simp only [Act.put, List.setIfInBounds_toArray, List.set_cons_zero, List.set_cons_succ]
      refine qstep (o := ⟨some 129, _, _, _, _, _⟩) (v := ?_) (by rfl) (fun wq hSw => ?_) ?_
      rotate_left
      · (try dsimp only at hSw); go_simp; try with_reducible rfl
      try simp only [Act.put, List.setIfInBounds_toArray, List.set_cons_zero, List.set_cons_succ]
      refine qstep (o := ⟨some 130, _, _, _, _, _⟩) (v := ?_) (by rfl) (fun wq hSw => ?_) ?_
      rotate_left
      · (try dsimp only at hSw); go_simp; try with_reducible rfl
      try simp only [Act.put, List.setIfInBounds_toArray, List.set_cons_zero, List.set_cons_succ]
      refine qstep (o := ⟨some 131, _, _, _, _, _⟩) (v := .pointer (some ⟨g, off, none⟩)) (by rfl) (fun wq hSw => ?_) ?_
      · (try dsimp only at hSw); go_simp; try first | (with_reducible rfl) | (simp; omega) | (intros; omega) | simp [*]
      try simp only [Act.put, List.setIfInBounds_toArray, List.set_cons_zero, List.set_cons_succ]
      refine qstep (o := ⟨some 132, _, _, _, _, _⟩) (v := ?_) (by rfl) (fun wq hSw => ?_) ?_
      rotate_left
      · (try dsimp only at hSw); go_simp; try with_reducible rfl
      try simp only [Act.put, List.setIfInBounds_toArray, List.set_cons_zero, List.set_cons_succ]
      refine qstep (o := ⟨some 133, _, _, _, _, _⟩) (v := .bool true) (by rfl) (fun wq hSw => ?_) ?_
      · (try dsimp only at hSw); go_simp; try first | (with_reducible rfl) | (simp; omega) | (intros; omega) | simp [*]
      try simp only [Act.put, List.setIfInBounds_toArray, List.set_cons_zero, List.set_cons_succ]
      refine qstep (o := ⟨some 134, _, _, _, _, _⟩) (v := ?_) (by rfl) (fun wq hSw => ?_) ?_
      rotate_left
      · (try dsimp only at hSw); go_simp; try with_reducible rfl
      try simp only [Act.put, List.setIfInBounds_toArray, List.set_cons_zero, List.set_cons_succ]
      refine qstep (o := ⟨some 135, _, _, _, _, _⟩) (v := ?_) (by rfl) (fun wq hSw => ?_) ?_
      rotate_left
      · (try dsimp only at hSw); go_simp; try with_reducible rfl
      try simp only [Act.put, List.setIfInBounds_toArray, List.set_cons_zero, List.set_cons_succ]
      refine qstep (o := ⟨some 136, _, _, _, _, _⟩) (v := ?_) (by rfl) (fun wq hSw => ?_) ?_
      rotate_left
      · (try dsimp only at hSw); go_simp; try with_reducible rfl
      try simp only [Act.put, List.setIfInBounds_toArray, List.set_cons_zero, List.set_cons_succ]
      refine qstep (o := ⟨some 137, _, _, _, _, _⟩) (v := ?_) (by rfl) (fun wq hSw => ?_) ?_
      rotate_left
      · (try dsimp only at hSw); go_simp; try with_reducible rfl
      try simp only [Act.put, List.setIfInBounds_toArray, List.set_cons_zero, List.set_cons_succ]
      refine qstep (o := ⟨some 138, _, _, _, _, _⟩) (v := ?_) (by rfl) (fun wq hSw => ?_) ?_
      rotate_left
      · (try dsimp only at hSw); go_simp; try with_reducible rfl
      try simp only [Act.put, List.setIfInBounds_toArray, List.set_cons_zero, List.set_cons_succ]
      refine qstep (o := ⟨some 139, _, _, _, _, _⟩) (v := .bool true) (by rfl) (fun wq hSw => ?_) ?_
      · (try dsimp only at hSw); go_simp; try first | (with_reducible rfl) | (simp; omega) | (intros; omega) | simp [*]
      try simp only [Act.put, List.setIfInBounds_toArray, List.set_cons_zero, List.set_cons_succ]
      refine qstep (o := ⟨some 140, _, _, _, _, _⟩) (v := ?_) (by rfl) (fun wq hSw => ?_) ?_
      rotate_left
      · (try dsimp only at hSw); go_simp; try with_reducible rfl
      try simp only [Act.put, List.setIfInBounds_toArray, List.set_cons_zero, List.set_cons_succ]
      refine qstep (o := ⟨some 6, _, _, _, _, _⟩) (v := ?_) (by rfl) (fun wq hSw => ?_) ?_
      rotate_left
      · (try dsimp only at hSw); go_simp; try with_reducible rfl
      try simp only [Act.put, List.setIfInBounds_toArray, List.set_cons_zero, List.set_cons_succ]
      refine wpQuiet_nil ?_
      intro w9 hHeld
      obtain ⟨hB9, -⟩ := hHeld
      clear dy0 dy1
      clear pc0 pc1 pc2 pc3 pc4 bc0 bc1 cc0 cc1
      have hs9 := hB9.size
      replace HB := Lib.hid (HB.out.trans (hB9.mono hw))
      replace Hp := Lib.hid (Hp.out.below hB9 ltp)
      replace ltp := Nat.lt_of_lt_of_le ltp hs9
      replace Hc := Lib.hid (Hc.out.below hB9 ltc)
      replace ltc := Nat.lt_of_lt_of_le ltc hs9
      replace Hb := Lib.hid (Hb.out.below hB9 ltb)
      replace ltb := Nat.lt_of_lt_of_le ltb hs9
      replace Hl := Lib.hid (Hl.out.below hB9 ltl)
      replace ltl := Nat.lt_of_lt_of_le ltl hs9
      replace HR := Lib.hid (HR.out.below hB9 (Nat.le_refl _))
      replace hw := Nat.le_trans hw hs9
      clear hB9 hs9
      go_wp2_with fail
      go_ret
      exact ⟨rfl, HB.out⟩
    · obtain ⟨i, rfl⟩ : ∃ i, q = i + 1 := ⟨q - 1, by omega⟩
      obtain ⟨x, hx⟩ : ∃ x, ys[i]? = some x := ⟨_, List.getElem?_eq_getElem (by omega)⟩
      have XX := Lib.hid hx
      clear hx
      have hwi : IntKind.i64.wrap (i : Int) = (i : Int) := by rw [IntKind.wrap_i64]; omega
      have hij : (i : Int) < (j : Int) + 1 := by omega
      have hwj : IntKind.i64.wrap (j : Int) = (j : Int) := by rw [IntKind.wrap_i64]; omega
      have hjj : (j : Int) < (j : Int) + 1 := by omega
      have hqj : ((i : Int) + 1 : Int) < (j : Int) + 1 := by omega
      clear hqm
      have pc0 := Hp.out.cell (i := 0) rfl
      have pc1 := Hp.out.cell (i := 1) rfl
      have pc2 := Hp.out.cell (i := 2) rfl
      have pc3 := Hp.out.cell (i := 3) rfl
      have pc4 := Hp.out.cell (i := 4) rfl
      go_wp2_with fail
      refine (find_to lv _ c1 hi la rt ys kb _ (j + 1) hm (by omega) HR.out HASC.out (i + 1) true HQ.out HK.out).mono ?_; rintro e w4 ⟨rfl, hB9⟩
      clear pc0 pc1 pc2 pc3 pc4
      have hs9 := hB9.size
      replace HB := Lib.hid (HB.out.trans (hB9.mono hw))
      replace Hp := Lib.hid (Hp.out.below hB9 ltp)
      replace ltp := Nat.lt_of_lt_of_le ltp hs9
      replace HR := Lib.hid (HR.out.below hB9 (Nat.le_refl _))
      replace hw := Nat.le_trans hw hs9
      clear hB9 hs9
      have pc0 := Hp.out.cell (i := 0) rfl
      have pc1 := Hp.out.cell (i := 1) rfl
      have pc2 := Hp.out.cell (i := 2) rfl
      have pc3 := Hp.out.cell (i := 3) rfl
      have pc4 := Hp.out.cell (i := 4) rfl
      go_wp2_with fail
      refine (child_any lv _ c1 hi la rt ys kb _ (j + 1) hm (by omega) HR.out HASC.out y.1 y.2 true (by rw [if_pos HK.out, HQ.out]; exact near_at YX.out)).mono ?_; rintro e w5 ⟨rfl, hB9⟩
      clear pc0 pc1 pc2 pc3 pc4
      have hs9 := hB9.size
      replace HB := Lib.hid (HB.out.trans (hB9.mono hw))
      replace Hp := Lib.hid (Hp.out.below hB9 ltp)
      replace ltp := Nat.lt_of_lt_of_le ltp hs9
      replace HR := Lib.hid (HR.out.below hB9 (Nat.le_refl _))
      replace hw := Nat.le_trans hw hs9
      clear hB9 hs9
      have pc0 := Hp.out.cell (i := 0) rfl
      have pc1 := Hp.out.cell (i := 1) rfl
      have pc2 := Hp.out.cell (i := 2) rfl
      have pc3 := Hp.out.cell (i := 3) rfl
      have pc4 := Hp.out.cell (i := 4) rfl
      go_wp2_with fail
      clear pc0 pc1 pc2 pc3 pc4
      have Hc := Lib.hid (Blk.new w5 [.string y.1, .int .u64 (y.2 : Int)] 32)
      replace Hp := Lib.hid (Hp.out.alloc (.cells #[.string y.1, .int .u64 (y.2 : Int)] 32))
      replace HR := Lib.hid (HR.out.below ((Below.refl _ _).alloc (Nat.le_refl _) (.cells #[.string y.1, .int .u64 (y.2 : Int)] 32)) (Nat.le_refl _))
      replace HB := Lib.hid (HB.out.alloc hw (.cells #[.string y.1, .int .u64 (y.2 : Int)] 32))
      have hz9 : (w5.alloc (.cells #[.string y.1, .int .u64 (y.2 : Int)] 32)).heap.size = w5.heap.size + 1 := nblk_alloc _ _
      generalize w5.alloc (.cells #[.string y.1, .int .u64 (y.2 : Int)] 32) = V6 at *
      generalize w5.heap.size = bc at *
      have ltc : bc < V6.heap.size := by omega
      replace ltp : bp < V6.heap.size := by omega
      replace hw : w.heap.size ≤ V6.heap.size := by omega
      clear hz9
      have pc0 := Hp.out.cell (i := 0) rfl
      have pc1 := Hp.out.cell (i := 1) rfl
      have pc2 := Hp.out.cell (i := 2) rfl
      have pc3 := Hp.out.cell (i := 3) rfl
      have pc4 := Hp.out.cell (i := 4) rfl
      go_wp2_with fail
      refine (below_any lv _ c1 hi la rt ys kb false _ (j + 1) hm (by omega) HR.out HASC.out x.1 x.2 true (by rw [if_neg (by decide), HQ.out]; exact near_at XX.out)).mono ?_; rintro e w7 ⟨rfl, hB9⟩
      clear pc0 pc1 pc2 pc3 pc4
      have hs9 := hB9.size
      replace HB := Lib.hid (HB.out.trans (hB9.mono hw))
      replace Hp := Lib.hid (Hp.out.below hB9 ltp)
      replace ltp := Nat.lt_of_lt_of_le ltp hs9
      replace Hc := Lib.hid (Hc.out.below hB9 ltc)
      replace ltc := Nat.lt_of_lt_of_le ltc hs9
      replace HR := Lib.hid (HR.out.below hB9 (Nat.le_refl _))
      replace hw := Nat.le_trans hw hs9
      clear hB9 hs9
      have pc0 := Hp.out.cell (i := 0) rfl
      have pc1 := Hp.out.cell (i := 1) rfl
      have pc2 := Hp.out.cell (i := 2) rfl
      have pc3 := Hp.out.cell (i := 3) rfl
      have pc4 := Hp.out.cell (i := 4) rfl
      go_wp2_with fail
      clear pc0 pc1 pc2 pc3 pc4
      have Hb := Lib.hid (Blk.new w7 [.string x.1, .int .u64 (x.2 : Int)] 32)
      replace Hp := Lib.hid (Hp.out.alloc (.cells #[.string x.1, .int .u64 (x.2 : Int)] 32))
      replace Hc := Lib.hid (Hc.out.alloc (.cells #[.string x.1, .int .u64 (x.2 : Int)] 32))
      replace HR := Lib.hid (HR.out.below ((Below.refl _ _).alloc (Nat.le_refl _) (.cells #[.string x.1, .int .u64 (x.2 : Int)] 32)) (Nat.le_refl _))
      replace HB := Lib.hid (HB.out.alloc hw (.cells #[.string x.1, .int .u64 (x.2 : Int)] 32))
      have hz9 : (w7.alloc (.cells #[.string x.1, .int .u64 (x.2 : Int)] 32)).heap.size = w7.heap.size + 1 := nblk_alloc _ _
      generalize w7.alloc (.cells #[.string x.1, .int .u64 (x.2 : Int)] 32) = V8 at *
      generalize w7.heap.size = bb at *
      have ltb : bb < V8.heap.size := by omega
      replace ltp : bp < V8.heap.size := by omega
      replace ltc : bc < V8.heap.size := by omega
      replace hw : w.heap.size ≤ V8.heap.size := by omega
      clear hz9
      have pc0 := Hp.out.cell (i := 0) rfl
      have pc1 := Hp.out.cell (i := 1) rfl
      have pc2 := Hp.out.cell (i := 2) rfl
      have pc3 := Hp.out.cell (i := 3) rfl
      have pc4 := Hp.out.cell (i := 4) rfl
      go_wp2_with fail
      refine (below_any lv _ c1 hi la rt ys kb true _ (j + 1) hm (by omega) HR.out HASC.out z.1 z.2 true (by rw [if_pos rfl]; exact near_at ZX.out)).mono ?_; rintro e w9 ⟨rfl, hB9⟩
      clear pc0 pc1 pc2 pc3 pc4
      have hs9 := hB9.size
      replace HB := Lib.hid (HB.out.trans (hB9.mono hw))
      replace Hp := Lib.hid (Hp.out.below hB9 ltp)
      replace ltp := Nat.lt_of_lt_of_le ltp hs9
      replace Hc := Lib.hid (Hc.out.below hB9 ltc)
      replace ltc := Nat.lt_of_lt_of_le ltc hs9
      replace Hb := Lib.hid (Hb.out.below hB9 ltb)
      replace ltb := Nat.lt_of_lt_of_le ltb hs9
      replace HR := Lib.hid (HR.out.below hB9 (Nat.le_refl _))
      replace hw := Nat.le_trans hw hs9
      clear hB9 hs9
      have pc0 := Hp.out.cell (i := 0) rfl
      have pc1 := Hp.out.cell (i := 1) rfl
      have pc2 := Hp.out.cell (i := 2) rfl
      have pc3 := Hp.out.cell (i := 3) rfl
      have pc4 := Hp.out.cell (i := 4) rfl
      go_wp2_with fail
      clear pc0 pc1 pc2 pc3 pc4
      have Hl := Lib.hid (Blk.new w9 [.string z.1, .int .u64 (z.2 : Int)] 32)
      replace Hp := Lib.hid (Hp.out.alloc (.cells #[.string z.1, .int .u64 (z.2 : Int)] 32))
      replace Hc := Lib.hid (Hc.out.alloc (.cells #[.string z.1, .int .u64 (z.2 : Int)] 32))
      replace Hb := Lib.hid (Hb.out.alloc (.cells #[.string z.1, .int .u64 (z.2 : Int)] 32))
      replace HR := Lib.hid (HR.out.below ((Below.refl _ _).alloc (Nat.le_refl _) (.cells #[.string z.1, .int .u64 (z.2 : Int)] 32)) (Nat.le_refl _))
      replace HB := Lib.hid (HB.out.alloc hw (.cells #[.string z.1, .int .u64 (z.2 : Int)] 32))
      have hz9 : (w9.alloc (.cells #[.string z.1, .int .u64 (z.2 : Int)] 32)).heap.size = w9.heap.size + 1 := nblk_alloc _ _
      generalize w9.alloc (.cells #[.string z.1, .int .u64 (z.2 : Int)] 32) = V11 at *
      generalize w9.heap.size = bl at *
      have ltl : bl < V11.heap.size := by omega
      replace ltp : bp < V11.heap.size := by omega
      replace ltc : bc < V11.heap.size := by omega
      replace ltb : bb < V11.heap.size := by omega
      replace hw : w.heap.size ≤ V11.heap.size := by omega
      clear hz9
      have pc0 := Hp.out.cell (i := 0) rfl
      have pc1 := Hp.out.cell (i := 1) rfl
      have pc2 := Hp.out.cell (i := 2) rfl
      have pc3 := Hp.out.cell (i := 3) rfl
      have pc4 := Hp.out.cell (i := 4) rfl
      have bc0 := Hb.out.cell (i := 0) rfl
      have bc1 := Hb.out.cell (i := 1) rfl
      have lc0 := Hl.out.cell (i := 0) rfl
      have lc1 := Hl.out.cell (i := 1) rfl
      have cc0 := Hc.out.cell (i := 0) rfl
      have cc1 := Hc.out.cell (i := 1) rfl
      obtain ⟨g, off, hA, hg, hcell⟩ := HR.out.at (by omega)
      subst hA
      obtain ⟨dx0, dx1⟩ := hcell i _ XX.out
      obtain ⟨dz0, dz1⟩ := hcell j _ ZX.out
      obtain ⟨dy0, dy1⟩ := hcell (i + 1) _ YX.out
      clear hcell
      go_upto_region 8 with fail
      refine qregion (fun w' => Below V11.heap.size V11 w' ∧ w'.cell? ⟨bp, 1, none⟩ = some (.slice (some ⟨g, off, none⟩) (j + 1) c1) ∧ w'.cell? ⟨bb, 0, none⟩ = some (.string x.1) ∧ w'.cell? ⟨bb, 1, none⟩ = some (.int .u64 (x.2 : Int)) ∧ w'.cell? ⟨bl, 0, none⟩ = some (.string z.1) ∧ w'.cell? ⟨bl, 1, none⟩ = some (.int .u64 (z.2 : Int)) ∧ w'.cell? ⟨bc, 0, none⟩ = some (.string y.1) ∧ w'.cell? ⟨bc, 1, none⟩ = some (.int .u64 (y.2 : Int)) ∧ w'.cell? ⟨g, off + i * 2, none⟩ = some (.string x.1) ∧ w'.cell? ⟨g, off + i * 2 + 1, none⟩ = some (.int .u64 (x.2 : Int)) ∧ w'.cell? ⟨g, off + j * 2, none⟩ = some (.string z.1) ∧ w'.cell? ⟨g, off + j * 2 + 1, none⟩ = some (.int .u64 (z.2 : Int)) ∧ w'.cell? ⟨g, off + (i + 1) * 2, none⟩ = some (.string y.1) ∧ w'.cell? ⟨g, off + (i + 1) * 2 + 1, none⟩ = some (.int .u64 (y.2 : Int))) (by kernel_rfl) (by kernel_rfl) ⟨(Below.refl _ _).drew, pc1, bc0, bc1, lc0, lc1, cc0, cc1, dx0, dx1, dz0, dz1, dy0, dy1⟩ ?_
      refine qcall (o := ⟨some 62, _, _, _, _, _⟩) (v := .bool true) (by rfl) (fun wq hSw => ?_) (fun wq hSw => Calls.mono (awake_any _) ?_) ?_
      · (try dsimp only at hSw); go_simp; try with_reducible rfl
      · rintro e w9 ⟨rfl, hk⟩; exact ⟨rfl, ⟨hSw.1.trans (hk.mono hSw.1.size), kc hk hSw.1 ltp hSw.2.1, kc hk hSw.1 ltb hSw.2.2.1, kc hk hSw.1 ltb hSw.2.2.2.1, kc hk hSw.1 ltl hSw.2.2.2.2.1, kc hk hSw.1 ltl hSw.2.2.2.2.2.1, kc hk hSw.1 ltc hSw.2.2.2.2.2.2.1, kc hk hSw.1 ltc hSw.2.2.2.2.2.2.2.1, kc hk hSw.1 hg hSw.2.2.2.2.2.2.2.2.1, kc hk hSw.1 hg hSw.2.2.2.2.2.2.2.2.2.1, kc hk hSw.1 hg hSw.2.2.2.2.2.2.2.2.2.2.1, kc hk hSw.1 hg hSw.2.2.2.2.2.2.2.2.2.2.2.1, kc hk hSw.1 hg hSw.2.2.2.2.2.2.2.2.2.2.2.2.1, kc hk hSw.1 hg hSw.2.2.2.2.2.2.2.2.2.2.2.2.2⟩⟩
      try simp only [Act.put, List.setIfInBounds_toArray, List.set_cons_zero, List.set_cons_succ]
      refine qstep (o := ⟨some 63, _, _, _, _, _⟩) (v := ?_) (by rfl) (fun wq hSw => ?_) ?_
      rotate_left
      · (try dsimp only at hSw); go_simp; try with_reducible rfl
      try simp only [Act.put, List.setIfInBounds_toArray, List.set_cons_zero, List.set_cons_succ]
      refine qstep (o := ⟨some 64, _, _, _, _, _⟩) (v := ?_) (by rfl) (fun wq hSw => ?_) ?_
      rotate_left
      · (try dsimp only at hSw); go_simp; try with_reducible rfl
      try simp only [Act.put, List.setIfInBounds_toArray, List.set_cons_zero, List.set_cons_succ]
      refine qstep (o := ⟨some 65, _, _, _, _, _⟩) (v := ?_) (by rfl) (fun wq hSw => ?_) ?_
      rotate_left
      · (try dsimp only at hSw); go_simp; try with_reducible rfl
      try simp only [Act.put, List.setIfInBounds_toArray, List.set_cons_zero, List.set_cons_succ]
      refine qstep (o := ⟨some 66, _, _, _, _, _⟩) (v := .bool false) (by rfl) (fun wq hSw => ?_) ?_
      · (try dsimp only at hSw); go_simp; try first | (with_reducible rfl) | (simp; omega) | (intros; omega) | simp [*]
      try simp only [Act.put, List.setIfInBounds_toArray, List.set_cons_zero, List.set_cons_succ]
      refine qstep (o := ⟨some 67, _, _, _, _, _⟩) (v := ?_) (by rfl) (fun wq hSw => ?_) ?_
      rotate_left
      · (try dsimp only at hSw); go_simp; try with_reducible rfl
      try simp only [Act.put, List.setIfInBounds_toArray, List.set_cons_zero, List.set_cons_succ]
      refine qstep (o := ⟨some 68, _, _, _, _, _⟩) (v := ?_) (by rfl) (fun wq hSw => ?_) ?_
      rotate_left
      · (try dsimp only at hSw); go_simp; try with_reducible rfl
      try simp only [Act.put, List.setIfInBounds_toArray, List.set_cons_zero, List.set_cons_succ]
      refine qstep (o := ⟨some 69, _, _, _, _, _⟩) (v := ?_) (by rfl) (fun wq hSw => ?_) ?_
      rotate_left
      · (try dsimp only at hSw); go_simp; try with_reducible rfl
      try simp only [Act.put, List.setIfInBounds_toArray, List.set_cons_zero, List.set_cons_succ]
      refine qstep (o := ⟨some 70, _, _, _, _, _⟩) (v := ?_) (by rfl) (fun wq hSw => ?_) ?_
      rotate_left
      · (try dsimp only at hSw); go_simp; try with_reducible rfl
      try simp only [Act.put, List.setIfInBounds_toArray, List.set_cons_zero, List.set_cons_succ]
      refine qstep (o := ⟨some 71, _, _, _, _, _⟩) (v := ?_) (by rfl) (fun wq hSw => ?_) ?_
      rotate_left
      · (try dsimp only at hSw); go_simp; try with_reducible rfl
      try simp only [Act.put, List.setIfInBounds_toArray, List.set_cons_zero, List.set_cons_succ]
      refine qstep (o := ⟨some 72, _, _, _, _, _⟩) (v := ?_) (by rfl) (fun wq hSw => ?_) ?_
      rotate_left
      · (try dsimp only at hSw); go_simp; try with_reducible rfl
      try simp only [Act.put, List.setIfInBounds_toArray, List.set_cons_zero, List.set_cons_succ]
      refine qstep (o := ⟨some 73, _, _, _, _, _⟩) (v := .bool false) (by rfl) (fun wq hSw => ?_) ?_
      · (try dsimp only at hSw); go_simp; try first | (with_reducible rfl) | (simp; omega) | (intros; omega) | simp [*]
      try simp only [Act.put, List.setIfInBounds_toArray, List.set_cons_zero, List.set_cons_succ]
      refine qstep (o := ⟨some 74, _, _, _, _, _⟩) (v := ?_) (by rfl) (fun wq hSw => ?_) ?_
      rotate_left
      · (try dsimp only at hSw); go_simp; try with_reducible rfl
      try simp only [Act.put, List.setIfInBounds_toArray, List.set_cons_zero, List.set_cons_succ]
      refine qstep (o := ⟨some 75, _, _, _, _, _⟩) (v := ?_) (by rfl) (fun wq hSw => ?_) ?_
      rotate_left
      · (try dsimp only at hSw); go_simp; try with_reducible rfl
      try simp only [Act.put, List.setIfInBounds_toArray, List.set_cons_zero, List.set_cons_succ]
      refine qstep (o := ⟨some 76, _, _, _, _, _⟩) (v := ?_) (by rfl) (fun wq hSw => ?_) ?_
      rotate_left
      · (try dsimp only at hSw); go_simp; try with_reducible rfl
      try simp only [Act.put, List.setIfInBounds_toArray, List.set_cons_zero, List.set_cons_succ]
      refine qstep (o := ⟨some 77, _, _, _, _, _⟩) (v := ?_) (by rfl) (fun wq hSw => ?_) ?_
      rotate_left
      · (try dsimp only at hSw); go_simp; try with_reducible rfl
      try simp only [Act.put, List.setIfInBounds_toArray, List.set_cons_zero, List.set_cons_succ]
      refine qstep (o := ⟨some 78, _, _, _, _, _⟩) (v := .bool true) (by rfl) (fun wq hSw => ?_) ?_
      · (try dsimp only at hSw); go_simp; try first | (with_reducible rfl) | (simp; omega) | (intros; omega) | simp [*]
      try simp only [Act.put, List.setIfInBounds_toArray, List.set_cons_zero, List.set_cons_succ]
      refine qstep (o := ⟨some 79, _, _, _, _, _⟩) (v := .bool false) (by rfl) (fun wq hSw => ?_) ?_
      · (try dsimp only at hSw); go_simp; try first | (with_reducible rfl) | (simp; omega) | (intros; omega) | simp [*]
      try simp only [Act.put, List.setIfInBounds_toArray, List.set_cons_zero, List.set_cons_succ]
      refine qstep (o := ⟨some 80, _, _, _, _, _⟩) (v := ?_) (by rfl) (fun wq hSw => ?_) ?_
      rotate_left
      · (try dsimp only at hSw); go_simp; try with_reducible rfl
      try simp only [Act.put, List.setIfInBounds_toArray, List.set_cons_zero, List.set_cons_succ]
      refine qstep (o := ⟨some 81, _, _, _, _, _⟩) (v := ?_) (by rfl) (fun wq hSw => ?_) ?_
      rotate_left
      · (try dsimp only at hSw); go_simp; try with_reducible rfl
      try simp only [Act.put, List.setIfInBounds_toArray, List.set_cons_zero, List.set_cons_succ]
      refine qstep (o := ⟨some 82, _, _, _, _, _⟩) (v := ?_) (by rfl) (fun wq hSw => ?_) ?_
      rotate_left
      · (try dsimp only at hSw); go_simp; try with_reducible rfl
      try simp only [Act.put, List.setIfInBounds_toArray, List.set_cons_zero, List.set_cons_succ]
      refine qstep (o := ⟨some 83, _, _, _, _, _⟩) (v := ?_) (by rfl) (fun wq hSw => ?_) ?_
      rotate_left
      · (try dsimp only at hSw); go_simp; try with_reducible rfl
      try simp only [Act.put, List.setIfInBounds_toArray, List.set_cons_zero, List.set_cons_succ]
      refine qstep (o := ⟨some 84, _, _, _, _, _⟩) (v := ?_) (by rfl) (fun wq hSw => ?_) ?_
      rotate_left
      · (try dsimp only at hSw); go_simp; try with_reducible rfl
      try simp only [Act.put, List.setIfInBounds_toArray, List.set_cons_zero, List.set_cons_succ]
      refine qstep (o := ⟨some 85, _, _, _, _, _⟩) (v := ?_) (by rfl) (fun wq hSw => ?_) ?_
      rotate_left
      · (try dsimp only at hSw); go_simp; try with_reducible rfl
      try simp only [Act.put, List.setIfInBounds_toArray, List.set_cons_zero, List.set_cons_succ]
      refine qstep (o := ⟨some 86, _, _, _, _, _⟩) (v := ?_) (by rfl) (fun wq hSw => ?_) ?_
      rotate_left
      · (try dsimp only at hSw); go_simp; try with_reducible rfl
      try simp only [Act.put, List.setIfInBounds_toArray, List.set_cons_zero, List.set_cons_succ]
      refine qstep (o := ⟨some 87, _, _, _, _, _⟩) (v := ?_) (by rfl) (fun wq hSw => ?_) ?_
      rotate_left
      · (try dsimp only at hSw); go_simp; try with_reducible rfl
      try simp only [Act.put, List.setIfInBounds_toArray, List.set_cons_zero, List.set_cons_succ]
      refine qstep (o := ⟨some 88, _, _, _, _, _⟩) (v := .int .i64 (i : Int)) (by rfl) (fun wq hSw => ?_) ?_
      · (try dsimp only at hSw); go_simp; try first | (with_reducible rfl) | (simp; omega) | (intros; omega) | simp [*]
      try simp only [Act.put, List.setIfInBounds_toArray, List.set_cons_zero, List.set_cons_succ]
      refine qstep (o := ⟨some 89, _, _, _, _, _⟩) (v := .pointer (some ⟨g, off + i * 2, none⟩)) (by rfl) (fun wq hSw => ?_) ?_
      · (try dsimp only at hSw); go_simp; try first | (with_reducible rfl) | (simp; omega) | (intros; omega) | simp [*]
      try simp only [Act.put, List.setIfInBounds_toArray, List.set_cons_zero, List.set_cons_succ]
      refine qstep (o := ⟨some 90, _, _, _, _, _⟩) (v := ?_) (by rfl) (fun wq hSw => ?_) ?_
      rotate_left
      · (try dsimp only at hSw); go_simp; try with_reducible rfl
      try simp only [Act.put, List.setIfInBounds_toArray, List.set_cons_zero, List.set_cons_succ]
      refine qstep (o := ⟨some 91, _, _, _, _, _⟩) (v := .bool false) (by rfl) (fun wq hSw => ?_) ?_
      · (try dsimp only at hSw); go_simp; try first | (with_reducible rfl) | (simp; omega) | (intros; omega) | simp [*]
      try simp only [Act.put, List.setIfInBounds_toArray, List.set_cons_zero, List.set_cons_succ]
      refine qstep (o := ⟨some 92, _, _, _, _, _⟩) (v := ?_) (by rfl) (fun wq hSw => ?_) ?_
      rotate_left
      · (try dsimp only at hSw); go_simp; try with_reducible rfl
      try simp only [Act.put, List.setIfInBounds_toArray, List.set_cons_zero, List.set_cons_succ]
      refine qstep (o := ⟨some 93, _, _, _, _, _⟩) (v := ?_) (by rfl) (fun wq hSw => ?_) ?_
      rotate_left
      · (try dsimp only at hSw); go_simp; try with_reducible rfl
      try simp only [Act.put, List.setIfInBounds_toArray, List.set_cons_zero, List.set_cons_succ]
      refine qstep (o := ⟨some 94, _, _, _, _, _⟩) (v := ?_) (by rfl) (fun wq hSw => ?_) ?_
      rotate_left
      · (try dsimp only at hSw); go_simp; try with_reducible rfl
      try simp only [Act.put, List.setIfInBounds_toArray, List.set_cons_zero, List.set_cons_succ]
      refine qstep (o := ⟨some 95, _, _, _, _, _⟩) (v := ?_) (by rfl) (fun wq hSw => ?_) ?_
      rotate_left
      · (try dsimp only at hSw); go_simp; try with_reducible rfl
      try simp only [Act.put, List.setIfInBounds_toArray, List.set_cons_zero, List.set_cons_succ]
      refine qstep (o := ⟨some 96, _, _, _, _, _⟩) (v := ?_) (by rfl) (fun wq hSw => ?_) ?_
      rotate_left
      · (try dsimp only at hSw); go_simp; try with_reducible rfl
      try simp only [Act.put, List.setIfInBounds_toArray, List.set_cons_zero, List.set_cons_succ]
      refine qstep (o := ⟨some 97, _, _, _, _, _⟩) (v := ?_) (by rfl) (fun wq hSw => ?_) ?_
      rotate_left
      · (try dsimp only at hSw); go_simp; try with_reducible rfl
      try simp only [Act.put, List.setIfInBounds_toArray, List.set_cons_zero, List.set_cons_succ]
      refine qstep (o := ⟨some 98, _, _, _, _, _⟩) (v := ?_) (by rfl) (fun wq hSw => ?_) ?_
      rotate_left
      · (try dsimp only at hSw); go_simp; try with_reducible rfl
      try simp only [Act.put, List.setIfInBounds_toArray, List.set_cons_zero, List.set_cons_succ]
      refine qstep (o := ⟨some 99, _, _, _, _, _⟩) (v := .bool true) (by rfl) (fun wq hSw => ?_) ?_
      · (try dsimp only at hSw); go_simp; try first | (with_reducible rfl) | (simp; omega) | (intros; omega) | simp [*]
      try simp only [Act.put, List.setIfInBounds_toArray, List.set_cons_zero, List.set_cons_succ]
      refine qstep (o := ⟨some 100, _, _, _, _, _⟩) (v := .bool false) (by rfl) (fun wq hSw => ?_) ?_
      · (try dsimp only at hSw); go_simp; try first | (with_reducible rfl) | (simp; omega) | (intros; omega) | simp [*]
      try simp only [Act.put, List.setIfInBounds_toArray, List.set_cons_zero, List.set_cons_succ]
      refine qstep (o := ⟨some 101, _, _, _, _, _⟩) (v := ?_) (by rfl) (fun wq hSw => ?_) ?_
      rotate_left
      · (try dsimp only at hSw); go_simp; try with_reducible rfl
      try simp only [Act.put, List.setIfInBounds_toArray, List.set_cons_zero, List.set_cons_succ]
      refine qstep (o := ⟨some 102, _, _, _, _, _⟩) (v := ?_) (by rfl) (fun wq hSw => ?_) ?_
      rotate_left
      · (try dsimp only at hSw); go_simp; try with_reducible rfl
      try simp only [Act.put, List.setIfInBounds_toArray, List.set_cons_zero, List.set_cons_succ]
      refine qstep (o := ⟨some 103, _, _, _, _, _⟩) (v := ?_) (by rfl) (fun wq hSw => ?_) ?_
      rotate_left
      · (try dsimp only at hSw); go_simp; try with_reducible rfl
      try simp only [Act.put, List.setIfInBounds_toArray, List.set_cons_zero, List.set_cons_succ]
      refine qstep (o := ⟨some 104, _, _, _, _, _⟩) (v := ?_) (by rfl) (fun wq hSw => ?_) ?_
      rotate_left
      · (try dsimp only at hSw); go_simp; try with_reducible rfl
      try simp only [Act.put, List.setIfInBounds_toArray, List.set_cons_zero, List.set_cons_succ]
      refine qstep (o := ⟨some 105, _, _, _, _, _⟩) (v := ?_) (by rfl) (fun wq hSw => ?_) ?_
      rotate_left
      · (try dsimp only at hSw); go_simp; try with_reducible rfl
      try simp only [Act.put, List.setIfInBounds_toArray, List.set_cons_zero, List.set_cons_succ]
      refine qstep (o := ⟨some 106, _, _, _, _, _⟩) (v := ?_) (by rfl) (fun wq hSw => ?_) ?_
      rotate_left
      · (try dsimp only at hSw); go_simp; try with_reducible rfl
      try simp only [Act.put, List.setIfInBounds_toArray, List.set_cons_zero, List.set_cons_succ]
      refine qstep (o := ⟨some 107, _, _, _, _, _⟩) (v := ?_) (by rfl) (fun wq hSw => ?_) ?_
      rotate_left
      · (try dsimp only at hSw); go_simp; try with_reducible rfl
      try simp only [Act.put, List.setIfInBounds_toArray, List.set_cons_zero, List.set_cons_succ]
      refine qstep (o := ⟨some 108, _, _, _, _, _⟩) (v := ?_) (by rfl) (fun wq hSw => ?_) ?_
      rotate_left
      · (try dsimp only at hSw); go_simp; try with_reducible rfl
      try simp only [Act.put, List.setIfInBounds_toArray, List.set_cons_zero, List.set_cons_succ]
      refine qstep (o := ⟨some 109, _, _, _, _, _⟩) (v := ?_) (by rfl) (fun wq hSw => ?_) ?_
      rotate_left
      · (try dsimp only at hSw); go_simp; try with_reducible rfl
      try simp only [Act.put, List.setIfInBounds_toArray, List.set_cons_zero, List.set_cons_succ]
      refine qstep (o := ⟨some 110, _, _, _, _, _⟩) (v := ?_) (by rfl) (fun wq hSw => ?_) ?_
      rotate_left
      · (try dsimp only at hSw); go_simp; try with_reducible rfl
      try simp only [Act.put, List.setIfInBounds_toArray, List.set_cons_zero, List.set_cons_succ]
      refine qstep (o := ⟨some 111, _, _, _, _, _⟩) (v := .int .i64 (j : Int)) (by rfl) (fun wq hSw => ?_) ?_
      · (try dsimp only at hSw); go_simp; try first | (with_reducible rfl) | (simp; omega) | (intros; omega) | simp [*]
      try simp only [Act.put, List.setIfInBounds_toArray, List.set_cons_zero, List.set_cons_succ]
      refine qstep (o := ⟨some 112, _, _, _, _, _⟩) (v := .pointer (some ⟨g, off + j * 2, none⟩)) (by rfl) (fun wq hSw => ?_) ?_
      · (try dsimp only at hSw); go_simp; try first | (with_reducible rfl) | (simp; omega) | (intros; omega) | simp [*]
      try simp only [Act.put, List.setIfInBounds_toArray, List.set_cons_zero, List.set_cons_succ]
      refine qstep (o := ⟨some 113, _, _, _, _, _⟩) (v := ?_) (by rfl) (fun wq hSw => ?_) ?_
      rotate_left
      · (try dsimp only at hSw); go_simp; try with_reducible rfl
      try simp only [Act.put, List.setIfInBounds_toArray, List.set_cons_zero, List.set_cons_succ]
      refine qstep (o := ⟨some 114, _, _, _, _, _⟩) (v := .bool false) (by rfl) (fun wq hSw => ?_) ?_
      · (try dsimp only at hSw); go_simp; try first | (with_reducible rfl) | (simp; omega) | (intros; omega) | simp [*]
      try simp only [Act.put, List.setIfInBounds_toArray, List.set_cons_zero, List.set_cons_succ]
      refine qstep (o := ⟨some 115, _, _, _, _, _⟩) (v := ?_) (by rfl) (fun wq hSw => ?_) ?_
      rotate_left
      · (try dsimp only at hSw); go_simp; try with_reducible rfl
      try simp only [Act.put, List.setIfInBounds_toArray, List.set_cons_zero, List.set_cons_succ]
      refine qstep (o := ⟨some 116, _, _, _, _, _⟩) (v := ?_) (by rfl) (fun wq hSw => ?_) ?_
      rotate_left
      · (try dsimp only at hSw); go_simp; try with_reducible rfl
      try simp only [Act.put, List.setIfInBounds_toArray, List.set_cons_zero, List.set_cons_succ]
      refine wpQuiet_nil ?_
      intro wz hHeld
      obtain ⟨hB9, -⟩ := hHeld
      clear dx0 dx1 dz0 dz1 dy0 dy1
      clear pc0 pc1 pc2 pc3 pc4 bc0 bc1 lc0 lc1 cc0 cc1
      have hs9 := hB9.size
      replace HB := Lib.hid (HB.out.trans (hB9.mono hw))
      replace Hp := Lib.hid (Hp.out.below hB9 ltp)
      replace ltp := Nat.lt_of_lt_of_le ltp hs9
      replace Hc := Lib.hid (Hc.out.below hB9 ltc)
      replace ltc := Nat.lt_of_lt_of_le ltc hs9
      replace Hb := Lib.hid (Hb.out.below hB9 ltb)
      replace ltb := Nat.lt_of_lt_of_le ltb hs9
      replace Hl := Lib.hid (Hl.out.below hB9 ltl)
      replace ltl := Nat.lt_of_lt_of_le ltl hs9
      replace HR := Lib.hid (HR.out.below hB9 (Nat.le_refl _))
      replace hw := Nat.le_trans hw hs9
      clear hB9 hs9
      have pc0 := Hp.out.cell (i := 0) rfl
      have pc1 := Hp.out.cell (i := 1) rfl
      have pc2 := Hp.out.cell (i := 2) rfl
      have pc3 := Hp.out.cell (i := 3) rfl
      have pc4 := Hp.out.cell (i := 4) rfl
      have bc0 := Hb.out.cell (i := 0) rfl
      have bc1 := Hb.out.cell (i := 1) rfl
      have cc0 := Hc.out.cell (i := 0) rfl
      have cc1 := Hc.out.cell (i := 1) rfl
      replace hg := Nat.lt_of_lt_of_le hg (Nat.le_refl _)
      have hyk := HYK.out
      obtain ⟨g', off', hA, hg', hcell⟩ := HR.out.at (by omega)
      cases hA
      obtain ⟨dy0, dy1⟩ := hcell (i + 1) _ YX.out
      clear hcell HYK
      go_upto_region 11 with fail
      refine qregion (fun w' => Below wz.heap.size wz w' ∧ w'.cell? ⟨bp, 1, none⟩ = some (.slice (some ⟨g, off, none⟩) (j + 1) c1) ∧ w'.cell? ⟨bc, 0, none⟩ = some (.string y.1) ∧ w'.cell? ⟨bc, 1, none⟩ = some (.int .u64 (y.2 : Int)) ∧ w'.cell? ⟨g, off + (i + 1) * 2, none⟩ = some (.string y.1) ∧ w'.cell? ⟨g, off + (i + 1) * 2 + 1, none⟩ = some (.int .u64 (y.2 : Int))) (by kernel_rfl) (by kernel_rfl) ⟨(Below.refl _ _).drew, pc1, cc0, cc1, dy0, dy1⟩ ?_
      refine qstep (o := ⟨some 118, _, _, _, _, _⟩) (v := ?_) (by rfl) (fun wq hSw => ?_) ?_
      rotate_left
      · (try dsimp only at hSw); go_simp; try with_reducible rfl
      try simp only [Act.put, List.setIfInBounds_toArray, List.set_cons_zero, List.set_cons_succ]
      refine qstep (o := ⟨some 119, _, _, _, _, _⟩) (v := ?_) (by rfl) (fun wq hSw => ?_) ?_
      rotate_left
      · (try dsimp only at hSw); go_simp; try with_reducible rfl
      try simp only [Act.put, List.setIfInBounds_toArray, List.set_cons_zero, List.set_cons_succ]
      refine qstep (o := ⟨some 120, _, _, _, _, _⟩) (v := ?_) (by rfl) (fun wq hSw => ?_) ?_
      rotate_left
      · (try dsimp only at hSw); go_simp; try with_reducible rfl
      try simp only [Act.put, List.setIfInBounds_toArray, List.set_cons_zero, List.set_cons_succ]
      refine qstep (o := ⟨some 121, _, _, _, _, _⟩) (v := ?_) (by rfl) (fun wq hSw => ?_) ?_
      rotate_left
      · (try dsimp only at hSw); go_simp; try with_reducible rfl
      try simp only [Act.put, List.setIfInBounds_toArray, List.set_cons_zero, List.set_cons_succ]
      refine qstep (o := ⟨some 122, _, _, _, _, _⟩) (v := ?_) (by rfl) (fun wq hSw => ?_) ?_
      rotate_left
      · (try dsimp only at hSw); go_simp; try with_reducible rfl
      try simp only [Act.put, List.setIfInBounds_toArray, List.set_cons_zero, List.set_cons_succ]
      refine qstep (o := ⟨some 123, _, _, _, _, _⟩) (v := ?_) (by rfl) (fun wq hSw => ?_) ?_
      rotate_left
      · (try dsimp only at hSw); go_simp; try with_reducible rfl
      try simp only [Act.put, List.setIfInBounds_toArray, List.set_cons_zero, List.set_cons_succ]
      refine qstep (o := ⟨some 124, _, _, _, _, _⟩) (v := .bool true) (by rfl) (fun wq hSw => ?_) ?_
      · (try dsimp only at hSw); go_simp; try first | (with_reducible rfl) | (simp; omega) | (intros; omega) | simp [*]
      try simp only [Act.put, List.setIfInBounds_toArray, List.set_cons_zero, List.set_cons_succ]
      refine qstep (o := ⟨some 125, _, _, _, _, _⟩) (v := ?_) (by rfl) (fun wq hSw => ?_) ?_
      rotate_left
      · (try dsimp only at hSw); go_simp; try with_reducible rfl
      try simp only [Act.put, List.setIfInBounds_toArray, List.set_cons_zero, List.set_cons_succ]
      refine qstep (o := ⟨some 126, _, _, _, _, _⟩) (v := ?_) (by rfl) (fun wq hSw => ?_) ?_
      rotate_left
      · (try dsimp only at hSw); go_simp; try with_reducible rfl
      try simp only [Act.put, List.setIfInBounds_toArray, List.set_cons_zero, List.set_cons_succ]
      refine qstep (o := ⟨some 127, _, _, _, _, _⟩) (v := ?_) (by rfl) (fun wq hSw => ?_) ?_
      rotate_left
      · (try dsimp only at hSw); go_simp; try with_reducible rfl
      try simp only [Act.put, List.setIfInBounds_toArray, List.set_cons_zero, List.set_cons_succ]
      refine qstep (o := ⟨some 128, _, _, _, _, _⟩) (v := ?_) (by rfl) (fun wq hSw => ?_) ?_
      rotate_left
      · (try dsimp only at hSw); go_simp; try with_reducible rfl
      try simp only [Act.put, List.setIfInBounds_toArray, List.set_cons_zero, List.set_cons_succ]
      refine qstep (o := ⟨some 129, _, _, _, _, _⟩) (v := ?_) (by rfl) (fun wq hSw => ?_) ?_
      rotate_left
      · (try dsimp only at hSw); go_simp; try with_reducible rfl
      try simp only [Act.put, List.setIfInBounds_toArray, List.set_cons_zero, List.set_cons_succ]
      refine qstep (o := ⟨some 130, _, _, _, _, _⟩) (v := ?_) (by rfl) (fun wq hSw => ?_) ?_
      rotate_left
      · (try dsimp only at hSw); go_simp; try with_reducible rfl
      try simp only [Act.put, List.setIfInBounds_toArray, List.set_cons_zero, List.set_cons_succ]
      refine qstep (o := ⟨some 131, _, _, _, _, _⟩) (v := .pointer (some ⟨g, off + (i + 1) * 2, none⟩)) (by rfl) (fun wq hSw => ?_) ?_
      · (try dsimp only at hSw); go_simp; try first | (with_reducible rfl) | (simp; omega) | (intros; omega) | simp [*]
      try simp only [Act.put, List.setIfInBounds_toArray, List.set_cons_zero, List.set_cons_succ]
      refine qstep (o := ⟨some 132, _, _, _, _, _⟩) (v := ?_) (by rfl) (fun wq hSw => ?_) ?_
      rotate_left
      · (try dsimp only at hSw); go_simp; try with_reducible rfl
      try simp only [Act.put, List.setIfInBounds_toArray, List.set_cons_zero, List.set_cons_succ]
      refine qstep (o := ⟨some 133, _, _, _, _, _⟩) (v := .bool true) (by rfl) (fun wq hSw => ?_) ?_
      · (try dsimp only at hSw); go_simp; try first | (with_reducible rfl) | (simp; omega) | (intros; omega) | simp [*]
      try simp only [Act.put, List.setIfInBounds_toArray, List.set_cons_zero, List.set_cons_succ]
      refine qstep (o := ⟨some 134, _, _, _, _, _⟩) (v := ?_) (by rfl) (fun wq hSw => ?_) ?_
      rotate_left
      · (try dsimp only at hSw); go_simp; try with_reducible rfl
      try simp only [Act.put, List.setIfInBounds_toArray, List.set_cons_zero, List.set_cons_succ]
      refine qstep (o := ⟨some 135, _, _, _, _, _⟩) (v := ?_) (by rfl) (fun wq hSw => ?_) ?_
      rotate_left
      · (try dsimp only at hSw); go_simp; try with_reducible rfl
      try simp only [Act.put, List.setIfInBounds_toArray, List.set_cons_zero, List.set_cons_succ]
      refine qstep (o := ⟨some 136, _, _, _, _, _⟩) (v := ?_) (by rfl) (fun wq hSw => ?_) ?_
      rotate_left
      · (try dsimp only at hSw); go_simp; try with_reducible rfl
      try simp only [Act.put, List.setIfInBounds_toArray, List.set_cons_zero, List.set_cons_succ]
      refine qstep (o := ⟨some 137, _, _, _, _, _⟩) (v := ?_) (by rfl) (fun wq hSw => ?_) ?_
      rotate_left
      · (try dsimp only at hSw); go_simp; try with_reducible rfl
      try simp only [Act.put, List.setIfInBounds_toArray, List.set_cons_zero, List.set_cons_succ]
      refine qstep (o := ⟨some 138, _, _, _, _, _⟩) (v := ?_) (by rfl) (fun wq hSw => ?_) ?_
      rotate_left
      · (try dsimp only at hSw); go_simp; try with_reducible rfl
      try simp only [Act.put, List.setIfInBounds_toArray, List.set_cons_zero, List.set_cons_succ]
      refine qstep (o := ⟨some 139, _, _, _, _, _⟩) (v := .bool true) (by rfl) (fun wq hSw => ?_) ?_
      · (try dsimp only at hSw); go_simp; try first | (with_reducible rfl) | (simp; omega) | (intros; omega) | simp [*]
      try simp only [Act.put, List.setIfInBounds_toArray, List.set_cons_zero, List.set_cons_succ]
      refine qstep (o := ⟨some 140, _, _, _, _, _⟩) (v := ?_) (by rfl) (fun wq hSw => ?_) ?_
      rotate_left
      · (try dsimp only at hSw); go_simp; try with_reducible rfl
      try simp only [Act.put, List.setIfInBounds_toArray, List.set_cons_zero, List.set_cons_succ]
      refine qstep (o := ⟨some 6, _, _, _, _, _⟩) (v := ?_) (by rfl) (fun wq hSw => ?_) ?_
      rotate_left
      · (try dsimp only at hSw); go_simp; try with_reducible rfl
      try simp only [Act.put, List.setIfInBounds_toArray, List.set_cons_zero, List.set_cons_succ]
      refine wpQuiet_nil ?_
      intro w9 hHeld
      obtain ⟨hB9, -⟩ := hHeld
      clear dy0 dy1
      clear pc0 pc1 pc2 pc3 pc4 bc0 bc1 cc0 cc1
      have hs9 := hB9.size
      replace HB := Lib.hid (HB.out.trans (hB9.mono hw))
      replace Hp := Lib.hid (Hp.out.below hB9 ltp)
      replace ltp := Nat.lt_of_lt_of_le ltp hs9
      replace Hc := Lib.hid (Hc.out.below hB9 ltc)
      replace ltc := Nat.lt_of_lt_of_le ltc hs9
      replace Hb := Lib.hid (Hb.out.below hB9 ltb)
      replace ltb := Nat.lt_of_lt_of_le ltb hs9
      replace Hl := Lib.hid (Hl.out.below hB9 ltl)
      replace ltl := Nat.lt_of_lt_of_le ltl hs9
      replace HR := Lib.hid (HR.out.below hB9 (Nat.le_refl _))
      replace hw := Nat.le_trans hw hs9
      clear hB9 hs9
      go_wp2_with fail
      go_ret
      exact ⟨rfl, HB.out⟩
end Go.Proofs.Ytegbdpelnmaijaa
