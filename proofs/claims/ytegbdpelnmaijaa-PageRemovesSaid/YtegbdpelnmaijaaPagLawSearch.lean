/-
  The statement of layer 7 'Find, Child and Below return the reference's results': it returns true. Condition: strings and rows within the model's reach.
-/
import Derived.Test.YtegbdpelnmaijaaPagAw
import Derived.Test.YtegbdpelnmaijaaPagSame
import Derived.Test.YtegbdpelnmaijaaPagRefChk
import Derived.Deep.DeepCutAuto
import Derived.Deep.CutBlock
namespace Go.Proofs.Ytegbdpelnmaijaa
open Go.RowKit Go.Deep Plain
set_option linter.unusedVariables false

theorem mod_q (k n r : Int) (w : World) (hn : 0 < n) (hn2 : n ≤ 9223372036854775807) (hr : k % n = r) :
    Calls Try.prog 13 #[.int .i64 k, .int .i64 n] w fun e w' => e = .returned (.int .i64 r) ∧ ∃ q, w' = w.drewN q :=
  (mod_any k n r w hn hn2 hr).mono fun e w' ⟨h1, h2⟩ => ⟨h1, 0, h2.symm⟩

set_option maxRecDepth 100000 in
set_option maxHeartbeats 8000000 in
theorem lawSearches (lv : Int) (A : Option Addr) (c : Nat) (hi : ByteArray) (la : Bool) (rt : Nat) (xs : List Sl) (key : ByteArray) (at' : Int) (last : Bool) (w : World) (n : Nat) (hn : xs.length = n) (h47 : n ≤ maxLen) (hR : Rs w A c xs) :
    Calls Try.prog 4 #[.agg #[.int .i64 lv, .slice A n c, .string hi, .bool la, .int .u64 (rt : Int)], .string key, .int .i64 at', .bool last] w fun e w' => e = .returned (.bool true) ∧ Below w.heap.size w w' := by
  obtain ⟨P0, B0, Z0⟩ := box_one w [.int .i64 lv, .slice A n c, .string hi, .bool la, .int .u64 (rt : Int)] 25
  obtain ⟨ys, hys⟩ : ∃ ys, sorted (xs.take 40) = ys := ⟨_, rfl⟩
  obtain ⟨m, hm⟩ : ∃ m, ys.length = m := ⟨_, rfl⟩
  have hasc := sorted_asc (xs.take 40)
  have hlen := sorted_length (xs.take 40)
  rw [hys] at hasc hlen
  rw [List.length_take, hm] at hlen
  have hm40 : m ≤ 40 := by omega
  clear hlen
  go_enter Try.func4, Try.ntmps4
  go_wp2_with fail
  refine (sorted_any lv A c hi la rt xs _ n hn h47 (hR.below B0 (Nat.le_refl _)) ys hys m hm).mono ?_; rintro e w1 ⟨A1, c1, rfl, hO1, hB1⟩
  rw [Z0] at hO1 hB1
  have hs1 := hB1.size
  rw [Z0] at hs1
  have HB := Lib.hid (B0.trans (hB1.mono (by omega)))
  have hR1 : Rs w1 A1 c1 ys := by obtain ⟨_, _, e9, _, h9, _⟩ := Rs.own hO1; cases e9; exact h9
  have HR := Lib.hid hR1
  have HASC := Lib.hid hasc
  have HYS := Lib.hid hys
  have hw : w.heap.size ≤ w1.heap.size := by omega
  clear hO1 hB1 hs1 hR1 hasc P0 B0 Z0 hR hys
  go_upto_region 2 with fail
  have Hp := Lib.hid (Blk.new w1 [.int .i64 lv, .slice A1 m c1, .string hi, .bool la, .int .u64 (rt : Int)] 25)
  replace HR := Lib.hid (HR.out.below ((Below.refl _ _).alloc (Nat.le_refl _) (.cells #[.int .i64 lv, .slice A1 m c1, .string hi, .bool la, .int .u64 (rt : Int)] 25)) (Nat.le_refl _))
  replace HB := Lib.hid (HB.out.alloc hw (.cells #[.int .i64 lv, .slice A1 m c1, .string hi, .bool la, .int .u64 (rt : Int)] 25))
  have hz9 : (w1.alloc (.cells #[.int .i64 lv, .slice A1 m c1, .string hi, .bool la, .int .u64 (rt : Int)] 25)).heap.size = w1.heap.size + 1 := nblk_alloc _ _
  generalize w1.alloc (.cells #[.int .i64 lv, .slice A1 m c1, .string hi, .bool la, .int .u64 (rt : Int)] 25) = V2 at *
  generalize w1.heap.size = bp at *
  have ltp : bp < V2.heap.size := by omega
  replace hw : w.heap.size ≤ V2.heap.size := by omega
  clear hz9
  have pc0 := Hp.out.cell (i := 0) rfl
  have pc1 := Hp.out.cell (i := 1) rfl
  have pc2 := Hp.out.cell (i := 2) rfl
  have pc3 := Hp.out.cell (i := 3) rfl
  have pc4 := Hp.out.cell (i := 4) rfl
  go_cut [32] (fun t wx => ∃ b : Bool, t = .bool b ∧ (b = true → 0 < m) ∧ wx = V2)
  case first =>
    by_cases h0 : 0 < m
    · have h0' : decide ((0 : Int) < (m : Int)) = true := by simpa using h0
      go_wp2
      go_meet
      exact ⟨_, rfl, fun _ => h0, rfl⟩
    · have h0' : decide ((0 : Int) < (m : Int)) = false := by simpa using h0
      go_wp2
      go_meet
      exact ⟨_, rfl, fun h => (by cases h), rfl⟩
  case rest =>
  obtain ⟨b, rfl, hb, rfl⟩ := hcut
  rename World => V2
  go_upto_if 32 with fail
  go_cut [1] (fun k wx => ∃ kb, k = .string kb ∧ Drawn V2 wx)
  case first =>
    cases b
    · go_wp2
      go_meet
      exact ⟨_, rfl, 0, rfl⟩
    · have h0 := hb rfl
      obtain ⟨r, hr⟩ : ∃ r : Nat, (at') % (m : Int) = (r : Int) := ⟨((at') % (m : Int)).toNat, by have := Int.emod_nonneg (at') (show (m : Int) ≠ 0 by omega); omega⟩
      have hrm : r < m := by have := Int.emod_lt_of_pos (at') (show (0 : Int) < m by omega); omega
      obtain ⟨x, hx⟩ : ∃ x, ys[r]? = some x := ⟨_, List.getElem?_eq_getElem (by omega)⟩
      obtain ⟨g, off, rfl, hg, hcell⟩ := HR.out.at (by omega)
      obtain ⟨c0, c1'⟩ := hcell r x hx
      have HRR := Lib.hid hr
      clear hcell hx hr hb
      go_wp2_with fail
      go_quiet ((go_at_call 13; exact Calls.quiet_of (mod_q _ (m : Int) (r : Int) _ (by omega) (by omega) HRR.out)))
      go_wp2
      go_meet
      exact ⟨_, rfl, _, rfl⟩
  case rest =>
  obtain ⟨kb, rfl, hd⟩ := hcut
  rename World => V3
  have hB9 := hd.below V2.heap.size
  clear hd hb
  clear pc0 pc1 pc2 pc3 pc4
  have hs9 := hB9.size
  replace HB := Lib.hid (HB.out.trans (hB9.mono hw))
  replace Hp := Lib.hid (Hp.out.below hB9 ltp)
  replace ltp := Nat.lt_of_lt_of_le ltp hs9
  replace HR := Lib.hid (HR.out.below hB9 (Nat.le_refl _))
  replace hw := Nat.le_trans hw hs9
  clear hB9 hs9
  have pc0 := Hp.out.cell (i := 0) rfl
  have pc1 := Hp.out.cell (i := 1) rfl
  have pc2 := Hp.out.cell (i := 2) rfl
  have pc3 := Hp.out.cell (i := 3) rfl
  have pc4 := Hp.out.cell (i := 4) rfl
  go_wp2_with fail
  refine (find_any lv _ c1 hi la rt ys kb _ m hm (by omega) HR.out HASC.out).mono ?_; rintro e w4 ⟨rfl, hB9⟩
  clear pc0 pc1 pc2 pc3 pc4
  have hs9 := hB9.size
  replace HB := Lib.hid (HB.out.trans (hB9.mono hw))
  replace Hp := Lib.hid (Hp.out.below hB9 ltp)
  replace ltp := Nat.lt_of_lt_of_le ltp hs9
  replace HR := Lib.hid (HR.out.below hB9 (Nat.le_refl _))
  replace hw := Nat.le_trans hw hs9
  clear hB9 hs9
  have pc0 := Hp.out.cell (i := 0) rfl
  have pc1 := Hp.out.cell (i := 1) rfl
  have pc2 := Hp.out.cell (i := 2) rfl
  have pc3 := Hp.out.cell (i := 3) rfl
  have pc4 := Hp.out.cell (i := 4) rfl
  go_wp2_with fail
  refine (refFind_any lv _ c1 hi la rt ys kb _ m hm (by omega) HR.out).mono ?_; rintro e w5 ⟨rfl, hB9⟩
  clear pc0 pc1 pc2 pc3 pc4
  have hs9 := hB9.size
  replace HB := Lib.hid (HB.out.trans (hB9.mono hw))
  replace Hp := Lib.hid (Hp.out.below hB9 ltp)
  replace ltp := Nat.lt_of_lt_of_le ltp hs9
  replace HR := Lib.hid (HR.out.below hB9 (Nat.le_refl _))
  replace hw := Nat.le_trans hw hs9
  clear hB9 hs9
  obtain ⟨s1, r1, q1, hn1⟩ := near_ex (before ys (if has kb ys = true then cnt kb ys + 1 else cnt kb ys))
  obtain ⟨s2, r2, q2, hn2⟩ := near_ex (before ys (if last = true then m else cnt kb ys))
  have HN1 := Lib.hid hn1
  have HN2 := Lib.hid hn2
  clear hn1 hn2
  have pc0 := Hp.out.cell (i := 0) rfl
  have pc1 := Hp.out.cell (i := 1) rfl
  have pc2 := Hp.out.cell (i := 2) rfl
  have pc3 := Hp.out.cell (i := 3) rfl
  have pc4 := Hp.out.cell (i := 4) rfl
  go_wp2_with fail
  refine (child_any lv _ c1 hi la rt ys kb _ m hm (by omega) HR.out HASC.out s1 r1 q1 HN1.out).mono ?_; rintro e w6 ⟨rfl, hB9⟩
  clear pc0 pc1 pc2 pc3 pc4
  have hs9 := hB9.size
  replace HB := Lib.hid (HB.out.trans (hB9.mono hw))
  replace Hp := Lib.hid (Hp.out.below hB9 ltp)
  replace ltp := Nat.lt_of_lt_of_le ltp hs9
  replace HR := Lib.hid (HR.out.below hB9 (Nat.le_refl _))
  replace hw := Nat.le_trans hw hs9
  clear hB9 hs9
  have pc0 := Hp.out.cell (i := 0) rfl
  have pc1 := Hp.out.cell (i := 1) rfl
  have pc2 := Hp.out.cell (i := 2) rfl
  have pc3 := Hp.out.cell (i := 3) rfl
  have pc4 := Hp.out.cell (i := 4) rfl
  go_wp2_with fail
  clear pc0 pc1 pc2 pc3 pc4
  have Hc := Lib.hid (Blk.new w6 [.string s1, .int .u64 (r1 : Int)] 32)
  replace Hp := Lib.hid (Hp.out.alloc (.cells #[.string s1, .int .u64 (r1 : Int)] 32))
  replace HR := Lib.hid (HR.out.below ((Below.refl _ _).alloc (Nat.le_refl _) (.cells #[.string s1, .int .u64 (r1 : Int)] 32)) (Nat.le_refl _))
  replace HB := Lib.hid (HB.out.alloc hw (.cells #[.string s1, .int .u64 (r1 : Int)] 32))
  have hz9 : (w6.alloc (.cells #[.string s1, .int .u64 (r1 : Int)] 32)).heap.size = w6.heap.size + 1 := nblk_alloc _ _
  generalize w6.alloc (.cells #[.string s1, .int .u64 (r1 : Int)] 32) = V7 at *
  generalize w6.heap.size = bc at *
  have ltc : bc < V7.heap.size := by omega
  replace ltp : bp < V7.heap.size := by omega
  replace hw : w.heap.size ≤ V7.heap.size := by omega
  clear hz9
  have pc0 := Hp.out.cell (i := 0) rfl
  have pc1 := Hp.out.cell (i := 1) rfl
  have pc2 := Hp.out.cell (i := 2) rfl
  have pc3 := Hp.out.cell (i := 3) rfl
  have pc4 := Hp.out.cell (i := 4) rfl
  go_wp2_with fail
  refine (refChild_any lv _ c1 hi la rt ys kb _ m hm (by omega) HR.out HASC.out s1 r1 q1 HN1.out).mono ?_; rintro e w8 ⟨rfl, hB9⟩
  clear pc0 pc1 pc2 pc3 pc4
  have hs9 := hB9.size
  replace HB := Lib.hid (HB.out.trans (hB9.mono hw))
  replace Hp := Lib.hid (Hp.out.below hB9 ltp)
  replace ltp := Nat.lt_of_lt_of_le ltp hs9
  replace Hc := Lib.hid (Hc.out.below hB9 ltc)
  replace ltc := Nat.lt_of_lt_of_le ltc hs9
  replace HR := Lib.hid (HR.out.below hB9 (Nat.le_refl _))
  replace hw := Nat.le_trans hw hs9
  clear hB9 hs9
  have pc0 := Hp.out.cell (i := 0) rfl
  have pc1 := Hp.out.cell (i := 1) rfl
  have pc2 := Hp.out.cell (i := 2) rfl
  have pc3 := Hp.out.cell (i := 3) rfl
  have pc4 := Hp.out.cell (i := 4) rfl
  go_wp2_with fail
  clear pc0 pc1 pc2 pc3 pc4
  have Hd := Lib.hid (Blk.new w8 [.string s1, .int .u64 (r1 : Int)] 32)
  replace Hp := Lib.hid (Hp.out.alloc (.cells #[.string s1, .int .u64 (r1 : Int)] 32))
  replace Hc := Lib.hid (Hc.out.alloc (.cells #[.string s1, .int .u64 (r1 : Int)] 32))
  replace HR := Lib.hid (HR.out.below ((Below.refl _ _).alloc (Nat.le_refl _) (.cells #[.string s1, .int .u64 (r1 : Int)] 32)) (Nat.le_refl _))
  replace HB := Lib.hid (HB.out.alloc hw (.cells #[.string s1, .int .u64 (r1 : Int)] 32))
  have hz9 : (w8.alloc (.cells #[.string s1, .int .u64 (r1 : Int)] 32)).heap.size = w8.heap.size + 1 := nblk_alloc _ _
  generalize w8.alloc (.cells #[.string s1, .int .u64 (r1 : Int)] 32) = V9 at *
  generalize w8.heap.size = bd at *
  have ltd : bd < V9.heap.size := by omega
  replace ltp : bp < V9.heap.size := by omega
  replace ltc : bc < V9.heap.size := by omega
  replace hw : w.heap.size ≤ V9.heap.size := by omega
  clear hz9
  have pc0 := Hp.out.cell (i := 0) rfl
  have pc1 := Hp.out.cell (i := 1) rfl
  have pc2 := Hp.out.cell (i := 2) rfl
  have pc3 := Hp.out.cell (i := 3) rfl
  have pc4 := Hp.out.cell (i := 4) rfl
  go_wp2_with fail
  refine (below_any lv _ c1 hi la rt ys kb last _ m hm (by omega) HR.out HASC.out s2 r2 q2 HN2.out).mono ?_; rintro e w10 ⟨rfl, hB9⟩
  clear pc0 pc1 pc2 pc3 pc4
  have hs9 := hB9.size
  replace HB := Lib.hid (HB.out.trans (hB9.mono hw))
  replace Hp := Lib.hid (Hp.out.below hB9 ltp)
  replace ltp := Nat.lt_of_lt_of_le ltp hs9
  replace Hc := Lib.hid (Hc.out.below hB9 ltc)
  replace ltc := Nat.lt_of_lt_of_le ltc hs9
  replace Hd := Lib.hid (Hd.out.below hB9 ltd)
  replace ltd := Nat.lt_of_lt_of_le ltd hs9
  replace HR := Lib.hid (HR.out.below hB9 (Nat.le_refl _))
  replace hw := Nat.le_trans hw hs9
  clear hB9 hs9
  have pc0 := Hp.out.cell (i := 0) rfl
  have pc1 := Hp.out.cell (i := 1) rfl
  have pc2 := Hp.out.cell (i := 2) rfl
  have pc3 := Hp.out.cell (i := 3) rfl
  have pc4 := Hp.out.cell (i := 4) rfl
  go_wp2_with fail
  clear pc0 pc1 pc2 pc3 pc4
  have Hb := Lib.hid (Blk.new w10 [.string s2, .int .u64 (r2 : Int)] 32)
  replace Hp := Lib.hid (Hp.out.alloc (.cells #[.string s2, .int .u64 (r2 : Int)] 32))
  replace Hc := Lib.hid (Hc.out.alloc (.cells #[.string s2, .int .u64 (r2 : Int)] 32))
  replace Hd := Lib.hid (Hd.out.alloc (.cells #[.string s2, .int .u64 (r2 : Int)] 32))
  replace HR := Lib.hid (HR.out.below ((Below.refl _ _).alloc (Nat.le_refl _) (.cells #[.string s2, .int .u64 (r2 : Int)] 32)) (Nat.le_refl _))
  replace HB := Lib.hid (HB.out.alloc hw (.cells #[.string s2, .int .u64 (r2 : Int)] 32))
  have hz9 : (w10.alloc (.cells #[.string s2, .int .u64 (r2 : Int)] 32)).heap.size = w10.heap.size + 1 := nblk_alloc _ _
  generalize w10.alloc (.cells #[.string s2, .int .u64 (r2 : Int)] 32) = V11 at *
  generalize w10.heap.size = bb at *
  have ltb : bb < V11.heap.size := by omega
  replace ltp : bp < V11.heap.size := by omega
  replace ltc : bc < V11.heap.size := by omega
  replace ltd : bd < V11.heap.size := by omega
  replace hw : w.heap.size ≤ V11.heap.size := by omega
  clear hz9
  have pc0 := Hp.out.cell (i := 0) rfl
  have pc1 := Hp.out.cell (i := 1) rfl
  have pc2 := Hp.out.cell (i := 2) rfl
  have pc3 := Hp.out.cell (i := 3) rfl
  have pc4 := Hp.out.cell (i := 4) rfl
  go_wp2_with fail
  refine (refBelow_any lv _ c1 hi la rt ys kb last _ m hm (by omega) HR.out s2 r2 q2 HN2.out).mono ?_; rintro e w12 ⟨rfl, hB9⟩
  clear pc0 pc1 pc2 pc3 pc4
  have hs9 := hB9.size
  replace HB := Lib.hid (HB.out.trans (hB9.mono hw))
  replace Hp := Lib.hid (Hp.out.below hB9 ltp)
  replace ltp := Nat.lt_of_lt_of_le ltp hs9
  replace Hc := Lib.hid (Hc.out.below hB9 ltc)
  replace ltc := Nat.lt_of_lt_of_le ltc hs9
  replace Hd := Lib.hid (Hd.out.below hB9 ltd)
  replace ltd := Nat.lt_of_lt_of_le ltd hs9
  replace Hb := Lib.hid (Hb.out.below hB9 ltb)
  replace ltb := Nat.lt_of_lt_of_le ltb hs9
  replace HR := Lib.hid (HR.out.below hB9 (Nat.le_refl _))
  replace hw := Nat.le_trans hw hs9
  clear hB9 hs9
  go_wp2_with fail
  have He := Lib.hid (Blk.new w12 [.string s2, .int .u64 (r2 : Int)] 32)
  replace Hp := Lib.hid (Hp.out.alloc (.cells #[.string s2, .int .u64 (r2 : Int)] 32))
  replace Hc := Lib.hid (Hc.out.alloc (.cells #[.string s2, .int .u64 (r2 : Int)] 32))
  replace Hd := Lib.hid (Hd.out.alloc (.cells #[.string s2, .int .u64 (r2 : Int)] 32))
  replace Hb := Lib.hid (Hb.out.alloc (.cells #[.string s2, .int .u64 (r2 : Int)] 32))
  replace HR := Lib.hid (HR.out.below ((Below.refl _ _).alloc (Nat.le_refl _) (.cells #[.string s2, .int .u64 (r2 : Int)] 32)) (Nat.le_refl _))
  replace HB := Lib.hid (HB.out.alloc hw (.cells #[.string s2, .int .u64 (r2 : Int)] 32))
  have hz9 : (w12.alloc (.cells #[.string s2, .int .u64 (r2 : Int)] 32)).heap.size = w12.heap.size + 1 := nblk_alloc _ _
  generalize w12.alloc (.cells #[.string s2, .int .u64 (r2 : Int)] 32) = V13 at *
  generalize w12.heap.size = be at *
  have lte : be < V13.heap.size := by omega
  replace ltp : bp < V13.heap.size := by omega
  replace ltc : bc < V13.heap.size := by omega
  replace ltd : bd < V13.heap.size := by omega
  replace ltb : bb < V13.heap.size := by omega
  replace hw : w.heap.size ≤ V13.heap.size := by omega
  clear hz9
  go_wp2_with fail
  refine (awake_any _).mono ?_; rintro e w14 ⟨rfl, hB9⟩
  have hs9 := hB9.size
  replace HB := Lib.hid (HB.out.trans (hB9.mono hw))
  replace Hp := Lib.hid (Hp.out.below hB9 ltp)
  replace ltp := Nat.lt_of_lt_of_le ltp hs9
  replace Hc := Lib.hid (Hc.out.below hB9 ltc)
  replace ltc := Nat.lt_of_lt_of_le ltc hs9
  replace Hd := Lib.hid (Hd.out.below hB9 ltd)
  replace ltd := Nat.lt_of_lt_of_le ltd hs9
  replace Hb := Lib.hid (Hb.out.below hB9 ltb)
  replace ltb := Nat.lt_of_lt_of_le ltb hs9
  replace He := Lib.hid (He.out.below hB9 lte)
  replace lte := Nat.lt_of_lt_of_le lte hs9
  replace HR := Lib.hid (HR.out.below hB9 (Nat.le_refl _))
  replace hw := Nat.le_trans hw hs9
  clear hB9 hs9
  have cc0 := Hc.out.cell (i := 0) rfl
  have cc1 := Hc.out.cell (i := 1) rfl
  have dc0 := Hd.out.cell (i := 0) rfl
  have dc1 := Hd.out.cell (i := 1) rfl
  have bc0 := Hb.out.cell (i := 0) rfl
  have bc1 := Hb.out.cell (i := 1) rfl
  have ec0 := He.out.cell (i := 0) rfl
  have ec1 := He.out.cell (i := 1) rfl
  go_wp2
  go_ret
  exact ⟨rfl, HB.out⟩
end Go.Proofs.Ytegbdpelnmaijaa
