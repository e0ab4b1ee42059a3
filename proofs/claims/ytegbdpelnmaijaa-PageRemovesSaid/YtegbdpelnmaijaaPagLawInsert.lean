/-
  The statement of layer 7 'Insert returns the reference's result, the new slot is found, nothing else is lost, the argument is not changed': it returns true. Condition: strings and rows within the model's reach.
-/
import Derived.Test.YtegbdpelnmaijaaPagLawSearch
namespace Go.Proofs.Ytegbdpelnmaijaa
open Go.RowKit Go.Deep Plain
set_option linter.unusedVariables false

theorem find_to (lv : Int) (A : Option Addr) (c : Nat) (hi : ByteArray) (la : Bool) (rt : Nat) (xs : List Sl) (k : ByteArray) (w : World) (n : Nat) (hn : xs.length = n) (h40 : n ≤ 1099511627776) (hR : Rs w A c xs) (ha : Asc xs) (q : Nat) (b : Bool) (hq : cnt k xs = q) (hb : has k xs = b) :
    Calls Try.prog 15 #[.agg #[.int .i64 lv, .slice A n c, .string hi, .bool la, .int .u64 (rt : Int)], .string k] w fun e w' => e = .returned (.tuple #[.int .i64 (q : Int), .bool b]) ∧ Below w.heap.size w w' := by
  subst hq hb; exact find_any lv A c hi la rt xs k w n hn h40 hR ha
theorem rs_own {w : World} {base : Nat} {A : Option Addr} {n c : Nat} {xs : List Sl} (h : w.ownsRow base 32 2 (.slice A n c) n (flat xs)) : Rs w A c xs := by
  obtain ⟨_, _, e, _, h9, _⟩ := Rs.own h; cases e; exact h9

set_option maxRecDepth 100000 in
set_option maxHeartbeats 8000000 in
theorem lawInserts (lv : Int) (A : Option Addr) (c : Nat) (hi : ByteArray) (la : Bool) (rt : Nat) (xs : List Sl) (key : ByteArray) (ref : Nat) (at' : Int) (w : World) (n : Nat) (hn : xs.length = n) (h47 : n ≤ maxLen) (hR : Rs w A c xs) :
    Calls Try.prog 5 #[.agg #[.int .i64 lv, .slice A n c, .string hi, .bool la, .int .u64 (rt : Int)], .string key, .int .u64 (ref : Int), .int .i64 at'] w fun e w' => e = .returned (.bool true) ∧ Below w.heap.size w w' := by
  obtain ⟨P0, B0, Z0⟩ := box_one w [.int .i64 lv, .slice A n c, .string hi, .bool la, .int .u64 (rt : Int)] 25
  obtain ⟨ys, hys⟩ : ∃ ys, sorted (xs.take 40) = ys := ⟨_, rfl⟩
  obtain ⟨m, hm⟩ : ∃ m, ys.length = m := ⟨_, rfl⟩
  have hasc := sorted_asc (xs.take 40)
  have hlen := sorted_length (xs.take 40)
  rw [hys] at hasc hlen
  rw [List.length_take, hm] at hlen
  have hm40 : m ≤ 40 := by omega
  clear hlen
  go_enter Try.func5, Try.ntmps5
  go_wp2_with fail
  refine (sorted_any lv A c hi la rt xs _ n hn h47 (hR.below B0 (Nat.le_refl _)) ys hys m hm).mono ?_; rintro e w1 ⟨A1, c1, rfl, hO1, hB1⟩
  rw [Z0] at hO1 hB1
  have hs1 := hB1.size
  rw [Z0] at hs1
  have HB := Lib.hid (B0.trans (hB1.mono (by omega)))
  have hR1 : Rs w1 A1 c1 ys := by obtain ⟨_, _, e9, _, h9, _⟩ := Rs.own hO1; cases e9; exact h9
  have HR := Lib.hid hR1
  have HASC := Lib.hid hasc
  have HYS := Lib.hid hys
  have hw : w.heap.size ≤ w1.heap.size := by omega
  clear hO1 hB1 hs1 hR1 hasc P0 B0 Z0 hR hys
  go_upto_region 2 with fail
  have Hp := Lib.hid (Blk.new w1 [.int .i64 lv, .slice A1 m c1, .string hi, .bool la, .int .u64 (rt : Int)] 25)
  replace HR := Lib.hid (HR.out.below ((Below.refl _ _).alloc (Nat.le_refl _) (.cells #[.int .i64 lv, .slice A1 m c1, .string hi, .bool la, .int .u64 (rt : Int)] 25)) (Nat.le_refl _))
  replace HB := Lib.hid (HB.out.alloc hw (.cells #[.int .i64 lv, .slice A1 m c1, .string hi, .bool la, .int .u64 (rt : Int)] 25))
  have hz9 : (w1.alloc (.cells #[.int .i64 lv, .slice A1 m c1, .string hi, .bool la, .int .u64 (rt : Int)] 25)).heap.size = w1.heap.size + 1 := nblk_alloc _ _
  generalize w1.alloc (.cells #[.int .i64 lv, .slice A1 m c1, .string hi, .bool la, .int .u64 (rt : Int)] 25) = V2 at *
  generalize w1.heap.size = bp at *
  have ltp : bp < V2.heap.size := by omega
  replace hw : w.heap.size ≤ V2.heap.size := by omega
  clear hz9
  have pc0 := Hp.out.cell (i := 0) rfl
  have pc1 := Hp.out.cell (i := 1) rfl
  have pc2 := Hp.out.cell (i := 2) rfl
  have pc3 := Hp.out.cell (i := 3) rfl
  have pc4 := Hp.out.cell (i := 4) rfl
  go_cut [27] (fun t wx => ∃ b : Bool, t = .bool b ∧ (b = true → 0 < m) ∧ wx = V2)
  case first =>
    by_cases h0 : 0 < m
    · have h0' : decide ((0 : Int) < (m : Int)) = true := by simpa using h0
      go_wp2
      go_meet
      exact ⟨_, rfl, fun _ => h0, rfl⟩
    · have h0' : decide ((0 : Int) < (m : Int)) = false := by simpa using h0
      go_wp2
      go_meet
      exact ⟨_, rfl, fun h => (by cases h), rfl⟩
  case rest =>
  obtain ⟨b, rfl, hb, rfl⟩ := hcut
  rename World => V2
  go_upto_if 27 with fail
  go_cut [1] (fun k wx => ∃ kb, k = .string kb ∧ Drawn V2 wx)
  case first =>
    cases b
    · go_wp2
      go_meet
      exact ⟨_, rfl, 0, rfl⟩
    · have h0 := hb rfl
      obtain ⟨r, hr⟩ : ∃ r : Nat, (IntKind.i64.wrap (at'.tdiv 4)) % (m : Int) = (r : Int) := ⟨((IntKind.i64.wrap (at'.tdiv 4)) % (m : Int)).toNat, by have := Int.emod_nonneg (IntKind.i64.wrap (at'.tdiv 4)) (show (m : Int) ≠ 0 by omega); omega⟩
      have hrm : r < m := by have := Int.emod_lt_of_pos (IntKind.i64.wrap (at'.tdiv 4)) (show (0 : Int) < m by omega); omega
      obtain ⟨x, hx⟩ : ∃ x, ys[r]? = some x := ⟨_, List.getElem?_eq_getElem (by omega)⟩
      obtain ⟨g, off, rfl, hg, hcell⟩ := HR.out.at (by omega)
      obtain ⟨c0, c1'⟩ := hcell r x hx
      have HRR := Lib.hid hr
      clear hcell hx hr hb
      go_wp2_with fail
      go_quiet ((go_at_call 13; exact Calls.quiet_of (mod_q _ (m : Int) (r : Int) _ (by omega) (by omega) HRR.out)))
      go_wp2
      go_meet
      exact ⟨_, rfl, _, rfl⟩
  case rest =>
  obtain ⟨kb, rfl, hd⟩ := hcut
  rename World => V3
  have hB9 := hd.below V2.heap.size
  clear hd hb
  clear pc0 pc1 pc2 pc3 pc4
  have hs9 := hB9.size
  replace HB := Lib.hid (HB.out.trans (hB9.mono hw))
  replace Hp := Lib.hid (Hp.out.below hB9 ltp)
  replace ltp := Nat.lt_of_lt_of_le ltp hs9
  replace HR := Lib.hid (HR.out.below hB9 (Nat.le_refl _))
  replace hw := Nat.le_trans hw hs9
  clear hB9 hs9
  have pc0 := Hp.out.cell (i := 0) rfl
  have pc1 := Hp.out.cell (i := 1) rfl
  have pc2 := Hp.out.cell (i := 2) rfl
  have pc3 := Hp.out.cell (i := 3) rfl
  have pc4 := Hp.out.cell (i := 4) rfl
  go_wp2_with (at_builtin; go_must (refine wpList_app rfl (.const (.slice none 0 0)) (.tmp 40) rfl V3.heap.size _ 0 [] rfl (World.ownsRow_nil _ _ _ _) _ m c1 ys rfl hm HR.out (by omega) (Nat.le_refl _) ?_))
  intro v9 w4 hO9 hB9
  obtain ⟨Aw, cw, rfl, hlw, hRw, _⟩ := Rs.own hO9
  have HRWas := Lib.hid hRw
  clear hO9 hRw hlw
  clear pc0 pc1 pc2 pc3 pc4
  have hs9 := hB9.size
  replace HB := Lib.hid (HB.out.trans (hB9.mono hw))
  replace Hp := Lib.hid (Hp.out.below hB9 ltp)
  replace ltp := Nat.lt_of_lt_of_le ltp hs9
  replace HR := Lib.hid (HR.out.below hB9 (Nat.le_refl _))
  replace hw := Nat.le_trans hw hs9
  clear hB9 hs9
  cases hk : has kb ys
  · obtain ⟨zs, hzs⟩ : ∃ zs, ins (kb, ref) ys = zs := ⟨_, rfl⟩
    obtain ⟨i0, hi0⟩ : ∃ i0, cnt kb ys = i0 := ⟨_, rfl⟩
    have hi0m : i0 ≤ m := by rw [← hi0, ← hm]; exact cnt_le kb ys
    have hzl : zs.length = m + 1 := by rw [← hzs, ins_length, hm]
    have hza : Asc zs := by rw [← hzs]; exact ins_asc (kb, ref) ys HASC.out hk
    have hzc : cnt kb zs = i0 := by rw [← hzs, ← hi0]; exact ins_cnt (kb, ref) ys HASC.out
    have hzh : has kb zs = true := by rw [← hzs, ins_has, eqk_self]; rfl
    have hzx : zs[i0]? = some (kb, ref) := by rw [← hzs, ← hi0]; exact ins_at (kb, ref) ys HASC.out
    have HZS := Lib.hid hzs
    have HZA := Lib.hid hza
    have HZC := Lib.hid hzc
    have HZH := Lib.hid hzh
    have HZX := Lib.hid hzx
    have HK := Lib.hid hk
    clear hzs hza hzc hzh hzx hi0 hk
    have pc0 := Hp.out.cell (i := 0) rfl
    have pc1 := Hp.out.cell (i := 1) rfl
    have pc2 := Hp.out.cell (i := 2) rfl
    have pc3 := Hp.out.cell (i := 3) rfl
    have pc4 := Hp.out.cell (i := 4) rfl
    clear pc0 pc1 pc2 pc3 pc4
    have pc0 := Hp.out.cell (i := 0) rfl
    have pc1 := Hp.out.cell (i := 1) rfl
    have pc2 := Hp.out.cell (i := 2) rfl
    have pc3 := Hp.out.cell (i := 3) rfl
    have pc4 := Hp.out.cell (i := 4) rfl
    go_wp2_with fail
    refine (insert_yes lv _ c1 hi la rt ys kb ref _ m hm (by omega) HR.out HASC.out HK.out (by omega)).mono ?_; rintro e w6 ⟨A2, c2, rfl, hO9, hB9⟩
    rw [HZS.out] at hO9
    have HRQ := Lib.hid (rs_own hO9)
    clear hO9
    clear pc0 pc1 pc2 pc3 pc4
    have hs9 := hB9.size
    replace HB := Lib.hid (HB.out.trans (hB9.mono hw))
    replace Hp := Lib.hid (Hp.out.below hB9 ltp)
    replace ltp := Nat.lt_of_lt_of_le ltp hs9
    replace HR := Lib.hid (HR.out.below hB9 (Nat.le_refl _))
    replace HRWas := Lib.hid (HRWas.out.below hB9 (Nat.le_refl _))
    replace hw := Nat.le_trans hw hs9
    clear hB9 hs9
    have pc0 := Hp.out.cell (i := 0) rfl
    have pc1 := Hp.out.cell (i := 1) rfl
    have pc2 := Hp.out.cell (i := 2) rfl
    have pc3 := Hp.out.cell (i := 3) rfl
    have pc4 := Hp.out.cell (i := 4) rfl
    go_wp2_with fail
    clear pc0 pc1 pc2 pc3 pc4
    have Hq := Lib.hid (Blk.new w6 [.int .i64 lv, .slice A2 (m + 1) c2, .string hi, .bool la, .int .u64 (rt : Int)] 25)
    replace Hp := Lib.hid (Hp.out.alloc (.cells #[.int .i64 lv, .slice A2 (m + 1) c2, .string hi, .bool la, .int .u64 (rt : Int)] 25))
    replace HR := Lib.hid (HR.out.below ((Below.refl _ _).alloc (Nat.le_refl _) (.cells #[.int .i64 lv, .slice A2 (m + 1) c2, .string hi, .bool la, .int .u64 (rt : Int)] 25)) (Nat.le_refl _))
    replace HRWas := Lib.hid (HRWas.out.below ((Below.refl _ _).alloc (Nat.le_refl _) (.cells #[.int .i64 lv, .slice A2 (m + 1) c2, .string hi, .bool la, .int .u64 (rt : Int)] 25)) (Nat.le_refl _))
    replace HRQ := Lib.hid (HRQ.out.below ((Below.refl _ _).alloc (Nat.le_refl _) (.cells #[.int .i64 lv, .slice A2 (m + 1) c2, .string hi, .bool la, .int .u64 (rt : Int)] 25)) (Nat.le_refl _))
    replace HB := Lib.hid (HB.out.alloc hw (.cells #[.int .i64 lv, .slice A2 (m + 1) c2, .string hi, .bool la, .int .u64 (rt : Int)] 25))
    have hz9 : (w6.alloc (.cells #[.int .i64 lv, .slice A2 (m + 1) c2, .string hi, .bool la, .int .u64 (rt : Int)] 25)).heap.size = w6.heap.size + 1 := nblk_alloc _ _
    generalize w6.alloc (.cells #[.int .i64 lv, .slice A2 (m + 1) c2, .string hi, .bool la, .int .u64 (rt : Int)] 25) = V7 at *
    generalize w6.heap.size = bq at *
    have ltq : bq < V7.heap.size := by omega
    replace ltp : bp < V7.heap.size := by omega
    replace hw : w.heap.size ≤ V7.heap.size := by omega
    clear hz9
    have pc0 := Hp.out.cell (i := 0) rfl
    have pc1 := Hp.out.cell (i := 1) rfl
    have pc2 := Hp.out.cell (i := 2) rfl
    have pc3 := Hp.out.cell (i := 3) rfl
    have pc4 := Hp.out.cell (i := 4) rfl
    go_wp2_with fail
    refine (refInsert_yes lv _ c1 hi la rt ys kb ref _ m hm (by omega) HR.out HASC.out HK.out (by omega)).mono ?_; rintro e w8 ⟨A3, c3, rfl, hO9, hB9⟩
    rw [HZS.out] at hO9
    have HRR := Lib.hid (rs_own hO9)
    clear hO9
    clear pc0 pc1 pc2 pc3 pc4
    have hs9 := hB9.size
    replace HB := Lib.hid (HB.out.trans (hB9.mono hw))
    replace Hp := Lib.hid (Hp.out.below hB9 ltp)
    replace ltp := Nat.lt_of_lt_of_le ltp hs9
    replace Hq := Lib.hid (Hq.out.below hB9 ltq)
    replace ltq := Nat.lt_of_lt_of_le ltq hs9
    replace HR := Lib.hid (HR.out.below hB9 (Nat.le_refl _))
    replace HRWas := Lib.hid (HRWas.out.below hB9 (Nat.le_refl _))
    replace HRQ := Lib.hid (HRQ.out.below hB9 (Nat.le_refl _))
    replace hw := Nat.le_trans hw hs9
    clear hB9 hs9
    have pc0 := Hp.out.cell (i := 0) rfl
    have pc1 := Hp.out.cell (i := 1) rfl
    have pc2 := Hp.out.cell (i := 2) rfl
    have pc3 := Hp.out.cell (i := 3) rfl
    have pc4 := Hp.out.cell (i := 4) rfl
    go_wp2_with fail
    clear pc0 pc1 pc2 pc3 pc4
    have Hr := Lib.hid (Blk.new w8 [.int .i64 lv, .slice A3 (m + 1) c3, .string hi, .bool la, .int .u64 (rt : Int)] 25)
    replace Hp := Lib.hid (Hp.out.alloc (.cells #[.int .i64 lv, .slice A3 (m + 1) c3, .string hi, .bool la, .int .u64 (rt : Int)] 25))
    replace Hq := Lib.hid (Hq.out.alloc (.cells #[.int .i64 lv, .slice A3 (m + 1) c3, .string hi, .bool la, .int .u64 (rt : Int)] 25))
    replace HR := Lib.hid (HR.out.below ((Below.refl _ _).alloc (Nat.le_refl _) (.cells #[.int .i64 lv, .slice A3 (m + 1) c3, .string hi, .bool la, .int .u64 (rt : Int)] 25)) (Nat.le_refl _))
    replace HRWas := Lib.hid (HRWas.out.below ((Below.refl _ _).alloc (Nat.le_refl _) (.cells #[.int .i64 lv, .slice A3 (m + 1) c3, .string hi, .bool la, .int .u64 (rt : Int)] 25)) (Nat.le_refl _))
    replace HRQ := Lib.hid (HRQ.out.below ((Below.refl _ _).alloc (Nat.le_refl _) (.cells #[.int .i64 lv, .slice A3 (m + 1) c3, .string hi, .bool la, .int .u64 (rt : Int)] 25)) (Nat.le_refl _))
    replace HRR := Lib.hid (HRR.out.below ((Below.refl _ _).alloc (Nat.le_refl _) (.cells #[.int .i64 lv, .slice A3 (m + 1) c3, .string hi, .bool la, .int .u64 (rt : Int)] 25)) (Nat.le_refl _))
    replace HB := Lib.hid (HB.out.alloc hw (.cells #[.int .i64 lv, .slice A3 (m + 1) c3, .string hi, .bool la, .int .u64 (rt : Int)] 25))
    have hz9 : (w8.alloc (.cells #[.int .i64 lv, .slice A3 (m + 1) c3, .string hi, .bool la, .int .u64 (rt : Int)] 25)).heap.size = w8.heap.size + 1 := nblk_alloc _ _
    generalize w8.alloc (.cells #[.int .i64 lv, .slice A3 (m + 1) c3, .string hi, .bool la, .int .u64 (rt : Int)] 25) = V9 at *
    generalize w8.heap.size = br at *
    have ltr : br < V9.heap.size := by omega
    replace ltp : bp < V9.heap.size := by omega
    replace ltq : bq < V9.heap.size := by omega
    replace hw : w.heap.size ≤ V9.heap.size := by omega
    clear hz9
    go_wp2_with fail
    refine (awake_any _).mono ?_; rintro e w10 ⟨rfl, hB9⟩
    have hs9 := hB9.size
    replace HB := Lib.hid (HB.out.trans (hB9.mono hw))
    replace Hp := Lib.hid (Hp.out.below hB9 ltp)
    replace ltp := Nat.lt_of_lt_of_le ltp hs9
    replace Hq := Lib.hid (Hq.out.below hB9 ltq)
    replace ltq := Nat.lt_of_lt_of_le ltq hs9
    replace Hr := Lib.hid (Hr.out.below hB9 ltr)
    replace ltr := Nat.lt_of_lt_of_le ltr hs9
    replace HR := Lib.hid (HR.out.below hB9 (Nat.le_refl _))
    replace HRWas := Lib.hid (HRWas.out.below hB9 (Nat.le_refl _))
    replace HRQ := Lib.hid (HRQ.out.below hB9 (Nat.le_refl _))
    replace HRR := Lib.hid (HRR.out.below hB9 (Nat.le_refl _))
    replace hw := Nat.le_trans hw hs9
    clear hB9 hs9
    have qc0 := Hq.out.cell (i := 0) rfl
    have qc1 := Hq.out.cell (i := 1) rfl
    have qc2 := Hq.out.cell (i := 2) rfl
    have qc3 := Hq.out.cell (i := 3) rfl
    have qc4 := Hq.out.cell (i := 4) rfl
    have rc0 := Hr.out.cell (i := 0) rfl
    have rc1 := Hr.out.cell (i := 1) rfl
    have rc2 := Hr.out.cell (i := 2) rfl
    have rc3 := Hr.out.cell (i := 3) rfl
    have rc4 := Hr.out.cell (i := 4) rfl
    go_wp2_with fail
    refine (refSame_yes lv A2 A3 c2 c3 hi la rt zs _ (m + 1) hzl (by omega) HRQ.out HRR.out).mono ?_; rintro e w11 ⟨rfl, hB9⟩
    clear qc0 qc1 qc2 qc3 qc4 rc0 rc1 rc2 rc3 rc4
    have hs9 := hB9.size
    replace HB := Lib.hid (HB.out.trans (hB9.mono hw))
    replace Hp := Lib.hid (Hp.out.below hB9 ltp)
    replace ltp := Nat.lt_of_lt_of_le ltp hs9
    replace Hq := Lib.hid (Hq.out.below hB9 ltq)
    replace ltq := Nat.lt_of_lt_of_le ltq hs9
    replace Hr := Lib.hid (Hr.out.below hB9 ltr)
    replace ltr := Nat.lt_of_lt_of_le ltr hs9
    replace HR := Lib.hid (HR.out.below hB9 (Nat.le_refl _))
    replace HRWas := Lib.hid (HRWas.out.below hB9 (Nat.le_refl _))
    replace HRQ := Lib.hid (HRQ.out.below hB9 (Nat.le_refl _))
    replace HRR := Lib.hid (HRR.out.below hB9 (Nat.le_refl _))
    replace hw := Nat.le_trans hw hs9
    clear hB9 hs9
    have pc0 := Hp.out.cell (i := 0) rfl
    have pc1 := Hp.out.cell (i := 1) rfl
    have pc2 := Hp.out.cell (i := 2) rfl
    have pc3 := Hp.out.cell (i := 3) rfl
    have pc4 := Hp.out.cell (i := 4) rfl
    go_wp2_with fail
    refine (kitSame_yes _ Aw c1 cw ys _ m hm (by omega) HR.out HRWas.out).mono ?_; rintro e w12 ⟨rfl, hB9⟩
    clear pc0 pc1 pc2 pc3 pc4
    have hs9 := hB9.size
    replace HB := Lib.hid (HB.out.trans (hB9.mono hw))
    replace Hp := Lib.hid (Hp.out.below hB9 ltp)
    replace ltp := Nat.lt_of_lt_of_le ltp hs9
    replace Hq := Lib.hid (Hq.out.below hB9 ltq)
    replace ltq := Nat.lt_of_lt_of_le ltq hs9
    replace Hr := Lib.hid (Hr.out.below hB9 ltr)
    replace ltr := Nat.lt_of_lt_of_le ltr hs9
    replace HR := Lib.hid (HR.out.below hB9 (Nat.le_refl _))
    replace HRWas := Lib.hid (HRWas.out.below hB9 (Nat.le_refl _))
    replace HRQ := Lib.hid (HRQ.out.below hB9 (Nat.le_refl _))
    replace HRR := Lib.hid (HRR.out.below hB9 (Nat.le_refl _))
    replace hw := Nat.le_trans hw hs9
    clear hB9 hs9
    have qc0 := Hq.out.cell (i := 0) rfl
    have qc1 := Hq.out.cell (i := 1) rfl
    have qc2 := Hq.out.cell (i := 2) rfl
    have qc3 := Hq.out.cell (i := 3) rfl
    have qc4 := Hq.out.cell (i := 4) rfl
    go_wp2_with fail
    refine (find_to lv A2 c2 hi la rt zs kb _ (m + 1) hzl (by omega) HRQ.out HZA.out i0 true HZC.out HZH.out).mono ?_; rintro e w13 ⟨rfl, hB9⟩
    clear qc0 qc1 qc2 qc3 qc4
    have hs9 := hB9.size
    replace HB := Lib.hid (HB.out.trans (hB9.mono hw))
    replace Hp := Lib.hid (Hp.out.below hB9 ltp)
    replace ltp := Nat.lt_of_lt_of_le ltp hs9
    replace Hq := Lib.hid (Hq.out.below hB9 ltq)
    replace ltq := Nat.lt_of_lt_of_le ltq hs9
    replace Hr := Lib.hid (Hr.out.below hB9 ltr)
    replace ltr := Nat.lt_of_lt_of_le ltr hs9
    replace HR := Lib.hid (HR.out.below hB9 (Nat.le_refl _))
    replace HRWas := Lib.hid (HRWas.out.below hB9 (Nat.le_refl _))
    replace HRQ := Lib.hid (HRQ.out.below hB9 (Nat.le_refl _))
    replace HRR := Lib.hid (HRR.out.below hB9 (Nat.le_refl _))
    replace hw := Nat.le_trans hw hs9
    clear hB9 hs9
    obtain ⟨g, off, rfl, hg, hcell⟩ := HRQ.out.at (by omega)
    obtain ⟨d0, d1⟩ := hcell i0 _ HZX.out
    clear hcell
    have qc0 := Hq.out.cell (i := 0) rfl
    have qc1 := Hq.out.cell (i := 1) rfl
    have qc2 := Hq.out.cell (i := 2) rfl
    have qc3 := Hq.out.cell (i := 3) rfl
    have qc4 := Hq.out.cell (i := 4) rfl
    go_wp2
    go_ret
    exact ⟨by simp, HB.out⟩
  · have pc0 := Hp.out.cell (i := 0) rfl
    have pc1 := Hp.out.cell (i := 1) rfl
    have pc2 := Hp.out.cell (i := 2) rfl
    have pc3 := Hp.out.cell (i := 3) rfl
    have pc4 := Hp.out.cell (i := 4) rfl
    go_wp2_with fail
    refine (insert_no lv _ c1 hi la rt ys kb ref _ m hm (by omega) HR.out HASC.out hk).mono ?_; rintro e w5 ⟨rfl, hB9⟩
    clear pc0 pc1 pc2 pc3 pc4
    have hs9 := hB9.size
    replace HB := Lib.hid (HB.out.trans (hB9.mono hw))
    replace Hp := Lib.hid (Hp.out.below hB9 ltp)
    replace ltp := Nat.lt_of_lt_of_le ltp hs9
    replace HR := Lib.hid (HR.out.below hB9 (Nat.le_refl _))
    replace HRWas := Lib.hid (HRWas.out.below hB9 (Nat.le_refl _))
    replace hw := Nat.le_trans hw hs9
    clear hB9 hs9
    have pc0 := Hp.out.cell (i := 0) rfl
    have pc1 := Hp.out.cell (i := 1) rfl
    have pc2 := Hp.out.cell (i := 2) rfl
    have pc3 := Hp.out.cell (i := 3) rfl
    have pc4 := Hp.out.cell (i := 4) rfl
    go_wp2_with fail
    clear pc0 pc1 pc2 pc3 pc4
    have Hq := Lib.hid (Blk.new w5 [.int .i64 0, .slice none 0 0, .string ⟨#[]⟩, .bool false, .int .u64 0] 25)
    replace Hp := Lib.hid (Hp.out.alloc (.cells #[.int .i64 0, .slice none 0 0, .string ⟨#[]⟩, .bool false, .int .u64 0] 25))
    replace HR := Lib.hid (HR.out.below ((Below.refl _ _).alloc (Nat.le_refl _) (.cells #[.int .i64 0, .slice none 0 0, .string ⟨#[]⟩, .bool false, .int .u64 0] 25)) (Nat.le_refl _))
    replace HRWas := Lib.hid (HRWas.out.below ((Below.refl _ _).alloc (Nat.le_refl _) (.cells #[.int .i64 0, .slice none 0 0, .string ⟨#[]⟩, .bool false, .int .u64 0] 25)) (Nat.le_refl _))
    replace HB := Lib.hid (HB.out.alloc hw (.cells #[.int .i64 0, .slice none 0 0, .string ⟨#[]⟩, .bool false, .int .u64 0] 25))
    have hz9 : (w5.alloc (.cells #[.int .i64 0, .slice none 0 0, .string ⟨#[]⟩, .bool false, .int .u64 0] 25)).heap.size = w5.heap.size + 1 := nblk_alloc _ _
    generalize w5.alloc (.cells #[.int .i64 0, .slice none 0 0, .string ⟨#[]⟩, .bool false, .int .u64 0] 25) = V6 at *
    generalize w5.heap.size = bq at *
    have ltq : bq < V6.heap.size := by omega
    replace ltp : bp < V6.heap.size := by omega
    replace hw : w.heap.size ≤ V6.heap.size := by omega
    clear hz9
    have pc0 := Hp.out.cell (i := 0) rfl
    have pc1 := Hp.out.cell (i := 1) rfl
    have pc2 := Hp.out.cell (i := 2) rfl
    have pc3 := Hp.out.cell (i := 3) rfl
    have pc4 := Hp.out.cell (i := 4) rfl
    go_wp2_with fail
    refine (refInsert_no lv _ c1 hi la rt ys kb ref _ m hm (by omega) HR.out hk).mono ?_; rintro e w7 ⟨rfl, hB9⟩
    clear pc0 pc1 pc2 pc3 pc4
    have hs9 := hB9.size
    replace HB := Lib.hid (HB.out.trans (hB9.mono hw))
    replace Hp := Lib.hid (Hp.out.below hB9 ltp)
    replace ltp := Nat.lt_of_lt_of_le ltp hs9
    replace Hq := Lib.hid (Hq.out.below hB9 ltq)
    replace ltq := Nat.lt_of_lt_of_le ltq hs9
    replace HR := Lib.hid (HR.out.below hB9 (Nat.le_refl _))
    replace HRWas := Lib.hid (HRWas.out.below hB9 (Nat.le_refl _))
    replace hw := Nat.le_trans hw hs9
    clear hB9 hs9
    go_wp2_with fail
    have Hr := Lib.hid (Blk.new w7 [.int .i64 0, .slice none 0 0, .string ⟨#[]⟩, .bool false, .int .u64 0] 25)
    replace Hp := Lib.hid (Hp.out.alloc (.cells #[.int .i64 0, .slice none 0 0, .string ⟨#[]⟩, .bool false, .int .u64 0] 25))
    replace Hq := Lib.hid (Hq.out.alloc (.cells #[.int .i64 0, .slice none 0 0, .string ⟨#[]⟩, .bool false, .int .u64 0] 25))
    replace HR := Lib.hid (HR.out.below ((Below.refl _ _).alloc (Nat.le_refl _) (.cells #[.int .i64 0, .slice none 0 0, .string ⟨#[]⟩, .bool false, .int .u64 0] 25)) (Nat.le_refl _))
    replace HRWas := Lib.hid (HRWas.out.below ((Below.refl _ _).alloc (Nat.le_refl _) (.cells #[.int .i64 0, .slice none 0 0, .string ⟨#[]⟩, .bool false, .int .u64 0] 25)) (Nat.le_refl _))
    replace HB := Lib.hid (HB.out.alloc hw (.cells #[.int .i64 0, .slice none 0 0, .string ⟨#[]⟩, .bool false, .int .u64 0] 25))
    have hz9 : (w7.alloc (.cells #[.int .i64 0, .slice none 0 0, .string ⟨#[]⟩, .bool false, .int .u64 0] 25)).heap.size = w7.heap.size + 1 := nblk_alloc _ _
    generalize w7.alloc (.cells #[.int .i64 0, .slice none 0 0, .string ⟨#[]⟩, .bool false, .int .u64 0] 25) = V8 at *
    generalize w7.heap.size = br at *
    have ltr : br < V8.heap.size := by omega
    replace ltp : bp < V8.heap.size := by omega
    replace ltq : bq < V8.heap.size := by omega
    replace hw : w.heap.size ≤ V8.heap.size := by omega
    clear hz9
    go_wp2_with fail
    refine (awake_any _).mono ?_; rintro e w9 ⟨rfl, hB9⟩
    have hs9 := hB9.size
    replace HB := Lib.hid (HB.out.trans (hB9.mono hw))
    replace Hp := Lib.hid (Hp.out.below hB9 ltp)
    replace ltp := Nat.lt_of_lt_of_le ltp hs9
    replace Hq := Lib.hid (Hq.out.below hB9 ltq)
    replace ltq := Nat.lt_of_lt_of_le ltq hs9
    replace Hr := Lib.hid (Hr.out.below hB9 ltr)
    replace ltr := Nat.lt_of_lt_of_le ltr hs9
    replace HR := Lib.hid (HR.out.below hB9 (Nat.le_refl _))
    replace HRWas := Lib.hid (HRWas.out.below hB9 (Nat.le_refl _))
    replace hw := Nat.le_trans hw hs9
    clear hB9 hs9
    have qc0 := Hq.out.cell (i := 0) rfl
    have qc1 := Hq.out.cell (i := 1) rfl
    have qc2 := Hq.out.cell (i := 2) rfl
    have qc3 := Hq.out.cell (i := 3) rfl
    have qc4 := Hq.out.cell (i := 4) rfl
    have rc0 := Hr.out.cell (i := 0) rfl
    have rc1 := Hr.out.cell (i := 1) rfl
    have rc2 := Hr.out.cell (i := 2) rfl
    have rc3 := Hr.out.cell (i := 3) rfl
    have rc4 := Hr.out.cell (i := 4) rfl
    go_wp2_with fail
    refine (refSame_yes 0 none none 0 0 ⟨#[]⟩ false 0 [] _ 0 rfl (by omega) (Rs.nil _) (Rs.nil _)).mono ?_; rintro e w10 ⟨rfl, hB9⟩
    clear qc0 qc1 qc2 qc3 qc4 rc0 rc1 rc2 rc3 rc4
    have hs9 := hB9.size
    replace HB := Lib.hid (HB.out.trans (hB9.mono hw))
    replace Hp := Lib.hid (Hp.out.below hB9 ltp)
    replace ltp := Nat.lt_of_lt_of_le ltp hs9
    replace Hq := Lib.hid (Hq.out.below hB9 ltq)
    replace ltq := Nat.lt_of_lt_of_le ltq hs9
    replace Hr := Lib.hid (Hr.out.below hB9 ltr)
    replace ltr := Nat.lt_of_lt_of_le ltr hs9
    replace HR := Lib.hid (HR.out.below hB9 (Nat.le_refl _))
    replace HRWas := Lib.hid (HRWas.out.below hB9 (Nat.le_refl _))
    replace hw := Nat.le_trans hw hs9
    clear hB9 hs9
    have pc0 := Hp.out.cell (i := 0) rfl
    have pc1 := Hp.out.cell (i := 1) rfl
    have pc2 := Hp.out.cell (i := 2) rfl
    have pc3 := Hp.out.cell (i := 3) rfl
    have pc4 := Hp.out.cell (i := 4) rfl
    go_wp2_with fail
    refine (kitSame_yes _ Aw c1 cw ys _ m hm (by omega) HR.out HRWas.out).mono ?_; rintro e w11 ⟨rfl, hB9⟩
    clear pc0 pc1 pc2 pc3 pc4
    have hs9 := hB9.size
    replace HB := Lib.hid (HB.out.trans (hB9.mono hw))
    replace Hp := Lib.hid (Hp.out.below hB9 ltp)
    replace ltp := Nat.lt_of_lt_of_le ltp hs9
    replace Hq := Lib.hid (Hq.out.below hB9 ltq)
    replace ltq := Nat.lt_of_lt_of_le ltq hs9
    replace Hr := Lib.hid (Hr.out.below hB9 ltr)
    replace ltr := Nat.lt_of_lt_of_le ltr hs9
    replace HR := Lib.hid (HR.out.below hB9 (Nat.le_refl _))
    replace HRWas := Lib.hid (HRWas.out.below hB9 (Nat.le_refl _))
    replace hw := Nat.le_trans hw hs9
    clear hB9 hs9
    go_wp2
    go_ret
    exact ⟨rfl, HB.out⟩
end Go.Proofs.Ytegbdpelnmaijaa
