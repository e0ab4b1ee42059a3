/-
  The statement of layer 7 'Removing a slot that was inserted gives the original page, two slots can be inserted in either order': it returns true. Condition: strings and rows within the model's reach.
-/
import Derived.Test.YtegbdpelnmaijaaPagLawSearch
import Derived.Test.YtegbdpelnmaijaaPagLawInsert
import Derived.Test.YtegbdpelnmaijaaPagRem
import Derived.Deep.RegionHeld3
namespace Go.Proofs.Ytegbdpelnmaijaa
open Go.RowKit Go.Deep Plain
set_option linter.unusedVariables false

theorem rk_new (w : World) (ks : List ByteArray) (t : TypeId) : Rk (w.alloc (.cells ⟨ks.map .string⟩ t)) (some ⟨w.heap.size, 0, none⟩) ks :=
  ⟨fun hp => ⟨_, _, rfl, by rw [nblk_alloc]; omega, fun i k hk => (Blk.new w (ks.map .string) t).cell (i := 0 + i) (by rw [Nat.zero_add, List.getElem?_map, hk]; rfl)⟩⟩
theorem key_ne {a b : ByteArray} (h : a ≠ b) : (a.toList == b.toList) = false := by
  cases hx : a.toList == b.toList
  · rfl
  · rw [beq_iff_eq] at hx; exact absurd (toList_inj hx) h
theorem ins_keys {a : ByteArray} {x : Nat} {ys : List Sl} (ha : a.size ≤ maxLen) (h : ∀ y ∈ ys, y.1.size ≤ maxLen) : ∀ y ∈ ins (a, x) ys, y.1.size ≤ maxLen := fun y hy => by
  rcases ins_mem.1 hy with rfl | hy
  · exact ha
  · exact h y hy

set_option maxRecDepth 100000 in
set_option maxHeartbeats 8000000 in
theorem lawInsertsAndRemoves (lv : Int) (A : Option Addr) (c : Nat) (hi : ByteArray) (la : Bool) (rt : Nat) (xs : List Sl) (a b : ByteArray) (x y : Nat) (w : World) (n : Nat) (hn : xs.length = n) (h47 : n ≤ maxLen) (hR : Rs w A c xs) (hks : ∀ y ∈ xs, y.1.size ≤ maxLen) (ha : a.size ≤ maxLen) (hb : b.size ≤ maxLen) :
    Calls Try.prog 7 #[.agg #[.int .i64 lv, .slice A n c, .string hi, .bool la, .int .u64 (rt : Int)], .string a, .string b, .int .u64 (x : Int), .int .u64 (y : Int)] w fun e w' => e = .returned (.bool true) ∧ Below w.heap.size w w' := by
  obtain ⟨P0, B0, Z0⟩ := box_one w [.int .i64 lv, .slice A n c, .string hi, .bool la, .int .u64 (rt : Int)] 25
  obtain ⟨ys, hys⟩ : ∃ ys, sorted (xs.take 40) = ys := ⟨_, rfl⟩
  obtain ⟨m, hm⟩ : ∃ m, ys.length = m := ⟨_, rfl⟩
  have hasc := sorted_asc (xs.take 40)
  have hlen := sorted_length (xs.take 40)
  rw [hys] at hasc hlen
  rw [List.length_take, hm] at hlen
  have hm40 : m ≤ 40 := by omega
  clear hlen
  go_enter Try.func7, Try.ntmps7
  have HKS := Lib.hid (show ∀ y ∈ ys, y.1.size ≤ maxLen from fun y hy => hks y (List.mem_of_mem_take (sorted_mem (by rw [hys]; exact hy))))
  have HSA := Lib.hid ha
  have HSB := Lib.hid hb
  clear hks ha hb
  go_wp2_with fail
  refine (sorted_any lv A c hi la rt xs _ n hn h47 (hR.below B0 (Nat.le_refl _)) ys hys m hm).mono ?_; rintro e w1 ⟨A1, c1, rfl, hO1, hB1⟩
  rw [Z0] at hO1 hB1
  have hs1 := hB1.size
  rw [Z0] at hs1
  have HB := Lib.hid (B0.trans (hB1.mono (by omega)))
  have hR1 : Rs w1 A1 c1 ys := by obtain ⟨_, _, e9, _, h9, _⟩ := Rs.own hO1; cases e9; exact h9
  have HR := Lib.hid hR1
  have HASC := Lib.hid hasc
  have HYS := Lib.hid hys
  have hw : w.heap.size ≤ w1.heap.size := by omega
  clear hO1 hB1 hs1 hR1 hasc P0 B0 Z0 hR hys
  go_upto_region 2 with fail
  have Hp := Lib.hid (Blk.new w1 [.int .i64 lv, .slice A1 m c1, .string hi, .bool la, .int .u64 (rt : Int)] 25)
  replace HR := Lib.hid (HR.out.below ((Below.refl _ _).alloc (Nat.le_refl _) (.cells #[.int .i64 lv, .slice A1 m c1, .string hi, .bool la, .int .u64 (rt : Int)] 25)) (Nat.le_refl _))
  replace HB := Lib.hid (HB.out.alloc hw (.cells #[.int .i64 lv, .slice A1 m c1, .string hi, .bool la, .int .u64 (rt : Int)] 25))
  have hz9 : (w1.alloc (.cells #[.int .i64 lv, .slice A1 m c1, .string hi, .bool la, .int .u64 (rt : Int)] 25)).heap.size = w1.heap.size + 1 := nblk_alloc _ _
  generalize w1.alloc (.cells #[.int .i64 lv, .slice A1 m c1, .string hi, .bool la, .int .u64 (rt : Int)] 25) = V2 at *
  generalize w1.heap.size = bp at *
  have ltp : bp < V2.heap.size := by omega
  replace hw : w.heap.size ≤ V2.heap.size := by omega
  clear hz9
  cases hka : has a ys
  · obtain ⟨zs, hzs⟩ : ∃ zs, ins (a, x) ys = zs := ⟨_, rfl⟩
    have hzl : zs.length = m + 1 := by rw [← hzs, ins_length, hm]
    have HREM := Lib.hid (show rem [a] zs = ys by rw [← hzs]; exact rem_one hka)
    have HXS := Lib.hid (show ∀ y ∈ zs, y.1.size ≤ maxLen by rw [← hzs]; exact ins_keys HSA.out HKS.out)
    have HZA := Lib.hid (show Asc zs by rw [← hzs]; exact ins_asc (a, x) ys HASC.out hka)
    have HZS := Lib.hid hzs
    have HKA := Lib.hid hka
    clear hzs hka
    by_cases hab : a = b
    · subst hab
      have pc0 := Hp.out.cell (i := 0) rfl
      have pc1 := Hp.out.cell (i := 1) rfl
      have pc2 := Hp.out.cell (i := 2) rfl
      have pc3 := Hp.out.cell (i := 3) rfl
      have pc4 := Hp.out.cell (i := 4) rfl
      go_wp2_with fail
      refine (insert_yes lv _ c1 hi la rt ys a x _ m hm (by omega) HR.out HASC.out HKA.out (by omega)).mono ?_; rintro e w3 ⟨A2, c2, rfl, hO9, hB9⟩
      rw [HZS.out] at hO9
      have HRQ := Lib.hid (rs_own hO9)
      clear hO9
      clear pc0 pc1 pc2 pc3 pc4
      have hs9 := hB9.size
      replace HB := Lib.hid (HB.out.trans (hB9.mono hw))
      replace Hp := Lib.hid (Hp.out.below hB9 ltp)
      replace ltp := Nat.lt_of_lt_of_le ltp hs9
      replace HR := Lib.hid (HR.out.below hB9 (Nat.le_refl _))
      replace hw := Nat.le_trans hw hs9
      clear hB9 hs9
      have pc0 := Hp.out.cell (i := 0) rfl
      have pc1 := Hp.out.cell (i := 1) rfl
      have pc2 := Hp.out.cell (i := 2) rfl
      have pc3 := Hp.out.cell (i := 3) rfl
      have pc4 := Hp.out.cell (i := 4) rfl
      go_wp2_with fail
      clear pc0 pc1 pc2 pc3 pc4
      have Hq := Lib.hid (Blk.new w3 [.int .i64 lv, .slice A2 (m + 1) c2, .string hi, .bool la, .int .u64 (rt : Int)] 25)
      replace Hp := Lib.hid (Hp.out.alloc (.cells #[.int .i64 lv, .slice A2 (m + 1) c2, .string hi, .bool la, .int .u64 (rt : Int)] 25))
      replace HR := Lib.hid (HR.out.below ((Below.refl _ _).alloc (Nat.le_refl _) (.cells #[.int .i64 lv, .slice A2 (m + 1) c2, .string hi, .bool la, .int .u64 (rt : Int)] 25)) (Nat.le_refl _))
      replace HRQ := Lib.hid (HRQ.out.below ((Below.refl _ _).alloc (Nat.le_refl _) (.cells #[.int .i64 lv, .slice A2 (m + 1) c2, .string hi, .bool la, .int .u64 (rt : Int)] 25)) (Nat.le_refl _))
      replace HB := Lib.hid (HB.out.alloc hw (.cells #[.int .i64 lv, .slice A2 (m + 1) c2, .string hi, .bool la, .int .u64 (rt : Int)] 25))
      have hz9 : (w3.alloc (.cells #[.int .i64 lv, .slice A2 (m + 1) c2, .string hi, .bool la, .int .u64 (rt : Int)] 25)).heap.size = w3.heap.size + 1 := nblk_alloc _ _
      generalize w3.alloc (.cells #[.int .i64 lv, .slice A2 (m + 1) c2, .string hi, .bool la, .int .u64 (rt : Int)] 25) = V4 at *
      generalize w3.heap.size = bq at *
      have ltq : bq < V4.heap.size := by omega
      replace ltp : bp < V4.heap.size := by omega
      replace hw : w.heap.size ≤ V4.heap.size := by omega
      clear hz9
      have pc0 := Hp.out.cell (i := 0) rfl
      have pc1 := Hp.out.cell (i := 1) rfl
      have pc2 := Hp.out.cell (i := 2) rfl
      have pc3 := Hp.out.cell (i := 3) rfl
      have pc4 := Hp.out.cell (i := 4) rfl
      have qc0 := Hq.out.cell (i := 0) rfl
      have qc1 := Hq.out.cell (i := 1) rfl
      have qc2 := Hq.out.cell (i := 2) rfl
      have qc3 := Hq.out.cell (i := 3) rfl
      have qc4 := Hq.out.cell (i := 4) rfl
      go_wp2_with fail
      refine (awake_any _).mono ?_; rintro e w9 ⟨rfl, hB9⟩
      clear pc0 pc1 pc2 pc3 pc4 qc0 qc1 qc2 qc3 qc4
      have hs9 := hB9.size
      replace HB := Lib.hid (HB.out.trans (hB9.mono hw))
      replace Hp := Lib.hid (Hp.out.below hB9 ltp)
      replace ltp := Nat.lt_of_lt_of_le ltp hs9
      replace Hq := Lib.hid (Hq.out.below hB9 ltq)
      replace ltq := Nat.lt_of_lt_of_le ltq hs9
      replace HR := Lib.hid (HR.out.below hB9 (Nat.le_refl _))
      replace HRQ := Lib.hid (HRQ.out.below hB9 (Nat.le_refl _))
      replace hw := Nat.le_trans hw hs9
      clear hB9 hs9
      go_wp2
      go_ret
      exact ⟨rfl, HB.out⟩
    · have hab' := key_ne hab
      have HAB := Lib.hid hab
      clear hab
      have pc0 := Hp.out.cell (i := 0) rfl
      have pc1 := Hp.out.cell (i := 1) rfl
      have pc2 := Hp.out.cell (i := 2) rfl
      have pc3 := Hp.out.cell (i := 3) rfl
      have pc4 := Hp.out.cell (i := 4) rfl
      go_wp2_with fail
      refine (insert_yes lv _ c1 hi la rt ys a x _ m hm (by omega) HR.out HASC.out HKA.out (by omega)).mono ?_; rintro e w3 ⟨A2, c2, rfl, hO9, hB9⟩
      rw [HZS.out] at hO9
      have HRQ := Lib.hid (rs_own hO9)
      clear hO9
      clear pc0 pc1 pc2 pc3 pc4
      have hs9 := hB9.size
      replace HB := Lib.hid (HB.out.trans (hB9.mono hw))
      replace Hp := Lib.hid (Hp.out.below hB9 ltp)
      replace ltp := Nat.lt_of_lt_of_le ltp hs9
      replace HR := Lib.hid (HR.out.below hB9 (Nat.le_refl _))
      replace hw := Nat.le_trans hw hs9
      clear hB9 hs9
      have pc0 := Hp.out.cell (i := 0) rfl
      have pc1 := Hp.out.cell (i := 1) rfl
      have pc2 := Hp.out.cell (i := 2) rfl
      have pc3 := Hp.out.cell (i := 3) rfl
      have pc4 := Hp.out.cell (i := 4) rfl
      go_wp2_with fail
      clear pc0 pc1 pc2 pc3 pc4
      have Hq := Lib.hid (Blk.new w3 [.int .i64 lv, .slice A2 (m + 1) c2, .string hi, .bool la, .int .u64 (rt : Int)] 25)
      replace Hp := Lib.hid (Hp.out.alloc (.cells #[.int .i64 lv, .slice A2 (m + 1) c2, .string hi, .bool la, .int .u64 (rt : Int)] 25))
      replace HR := Lib.hid (HR.out.below ((Below.refl _ _).alloc (Nat.le_refl _) (.cells #[.int .i64 lv, .slice A2 (m + 1) c2, .string hi, .bool la, .int .u64 (rt : Int)] 25)) (Nat.le_refl _))
      replace HRQ := Lib.hid (HRQ.out.below ((Below.refl _ _).alloc (Nat.le_refl _) (.cells #[.int .i64 lv, .slice A2 (m + 1) c2, .string hi, .bool la, .int .u64 (rt : Int)] 25)) (Nat.le_refl _))
      replace HB := Lib.hid (HB.out.alloc hw (.cells #[.int .i64 lv, .slice A2 (m + 1) c2, .string hi, .bool la, .int .u64 (rt : Int)] 25))
      have hz9 : (w3.alloc (.cells #[.int .i64 lv, .slice A2 (m + 1) c2, .string hi, .bool la, .int .u64 (rt : Int)] 25)).heap.size = w3.heap.size + 1 := nblk_alloc _ _
      generalize w3.alloc (.cells #[.int .i64 lv, .slice A2 (m + 1) c2, .string hi, .bool la, .int .u64 (rt : Int)] 25) = V4 at *
      generalize w3.heap.size = bq at *
      have ltq : bq < V4.heap.size := by omega
      replace ltp : bp < V4.heap.size := by omega
      replace hw : w.heap.size ≤ V4.heap.size := by omega
      clear hz9
      cases hkb : has b ys
      · obtain ⟨us, hus⟩ : ∃ us, ins (b, y) zs = us := ⟨_, rfl⟩
        obtain ⟨vs, hvs⟩ : ∃ vs, ins (b, y) ys = vs := ⟨_, rfl⟩
        have hkq : has b zs = false := by rw [← HZS.out, ins_has, hkb, eqk_no HAB.out]; rfl
        have hkv : has a vs = false := by rw [← hvs, ins_has, HKA.out, eqk_no (fun h => HAB.out h.symm)]; rfl
        have hul : us.length = m + 1 + 1 := by rw [← hus, ins_length, hzl]
        have hvl : vs.length = m + 1 := by rw [← hvs, ins_length, hm]
        have HVA := Lib.hid (show Asc vs by rw [← hvs]; exact ins_asc (b, y) ys HASC.out hkb)
        have HUV := Lib.hid (show ins (a, x) vs = us by rw [← hvs, ← hus, ← HZS.out]; exact ins_comm (a, x) (b, y) ys HASC.out HAB.out)
        have HREM2 := Lib.hid (show rem [a, b] us = ys by rw [← hus, ← HZS.out]; exact rem_two HKA.out hkb)
        have HXU := Lib.hid (show ∀ y ∈ us, y.1.size ≤ maxLen by rw [← hus]; exact ins_keys HSB.out HXS.out)
        have HUS := Lib.hid hus
        have HVS := Lib.hid hvs
        have HKB := Lib.hid hkb
        have HKQ := Lib.hid hkq
        have HKV := Lib.hid hkv
        clear hus hvs hkb hkq hkv
        have pc0 := Hp.out.cell (i := 0) rfl
        have pc1 := Hp.out.cell (i := 1) rfl
        have pc2 := Hp.out.cell (i := 2) rfl
        have pc3 := Hp.out.cell (i := 3) rfl
        have pc4 := Hp.out.cell (i := 4) rfl
        have qc0 := Hq.out.cell (i := 0) rfl
        have qc1 := Hq.out.cell (i := 1) rfl
        have qc2 := Hq.out.cell (i := 2) rfl
        have qc3 := Hq.out.cell (i := 3) rfl
        have qc4 := Hq.out.cell (i := 4) rfl
        go_wp2_with fail
        refine (insert_yes lv _ c2 hi la rt zs b y _ (m + 1) hzl (by omega) HRQ.out HZA.out HKQ.out (by omega)).mono ?_; rintro e w5 ⟨A3, c3, rfl, hO9, hB9⟩
        rw [HUS.out] at hO9
        have HRR := Lib.hid (rs_own hO9)
        clear hO9
        clear pc0 pc1 pc2 pc3 pc4 qc0 qc1 qc2 qc3 qc4
        have hs9 := hB9.size
        replace HB := Lib.hid (HB.out.trans (hB9.mono hw))
        replace Hp := Lib.hid (Hp.out.below hB9 ltp)
        replace ltp := Nat.lt_of_lt_of_le ltp hs9
        replace Hq := Lib.hid (Hq.out.below hB9 ltq)
        replace ltq := Nat.lt_of_lt_of_le ltq hs9
        replace HR := Lib.hid (HR.out.below hB9 (Nat.le_refl _))
        replace HRQ := Lib.hid (HRQ.out.below hB9 (Nat.le_refl _))
        replace hw := Nat.le_trans hw hs9
        clear hB9 hs9
        have pc0 := Hp.out.cell (i := 0) rfl
        have pc1 := Hp.out.cell (i := 1) rfl
        have pc2 := Hp.out.cell (i := 2) rfl
        have pc3 := Hp.out.cell (i := 3) rfl
        have pc4 := Hp.out.cell (i := 4) rfl
        have qc0 := Hq.out.cell (i := 0) rfl
        have qc1 := Hq.out.cell (i := 1) rfl
        have qc2 := Hq.out.cell (i := 2) rfl
        have qc3 := Hq.out.cell (i := 3) rfl
        have qc4 := Hq.out.cell (i := 4) rfl
        go_wp2_with fail
        clear pc0 pc1 pc2 pc3 pc4 qc0 qc1 qc2 qc3 qc4
        have Hr := Lib.hid (Blk.new w5 [.int .i64 lv, .slice A3 (m + 1 + 1) c3, .string hi, .bool la, .int .u64 (rt : Int)] 25)
        replace Hp := Lib.hid (Hp.out.alloc (.cells #[.int .i64 lv, .slice A3 (m + 1 + 1) c3, .string hi, .bool la, .int .u64 (rt : Int)] 25))
        replace Hq := Lib.hid (Hq.out.alloc (.cells #[.int .i64 lv, .slice A3 (m + 1 + 1) c3, .string hi, .bool la, .int .u64 (rt : Int)] 25))
        replace HR := Lib.hid (HR.out.below ((Below.refl _ _).alloc (Nat.le_refl _) (.cells #[.int .i64 lv, .slice A3 (m + 1 + 1) c3, .string hi, .bool la, .int .u64 (rt : Int)] 25)) (Nat.le_refl _))
        replace HRQ := Lib.hid (HRQ.out.below ((Below.refl _ _).alloc (Nat.le_refl _) (.cells #[.int .i64 lv, .slice A3 (m + 1 + 1) c3, .string hi, .bool la, .int .u64 (rt : Int)] 25)) (Nat.le_refl _))
        replace HRR := Lib.hid (HRR.out.below ((Below.refl _ _).alloc (Nat.le_refl _) (.cells #[.int .i64 lv, .slice A3 (m + 1 + 1) c3, .string hi, .bool la, .int .u64 (rt : Int)] 25)) (Nat.le_refl _))
        replace HB := Lib.hid (HB.out.alloc hw (.cells #[.int .i64 lv, .slice A3 (m + 1 + 1) c3, .string hi, .bool la, .int .u64 (rt : Int)] 25))
        have hz9 : (w5.alloc (.cells #[.int .i64 lv, .slice A3 (m + 1 + 1) c3, .string hi, .bool la, .int .u64 (rt : Int)] 25)).heap.size = w5.heap.size + 1 := nblk_alloc _ _
        generalize w5.alloc (.cells #[.int .i64 lv, .slice A3 (m + 1 + 1) c3, .string hi, .bool la, .int .u64 (rt : Int)] 25) = V6 at *
        generalize w5.heap.size = br at *
        have ltr : br < V6.heap.size := by omega
        replace ltp : bp < V6.heap.size := by omega
        replace ltq : bq < V6.heap.size := by omega
        replace hw : w.heap.size ≤ V6.heap.size := by omega
        clear hz9
        have pc0 := Hp.out.cell (i := 0) rfl
        have pc1 := Hp.out.cell (i := 1) rfl
        have pc2 := Hp.out.cell (i := 2) rfl
        have pc3 := Hp.out.cell (i := 3) rfl
        have pc4 := Hp.out.cell (i := 4) rfl
        have qc0 := Hq.out.cell (i := 0) rfl
        have qc1 := Hq.out.cell (i := 1) rfl
        have qc2 := Hq.out.cell (i := 2) rfl
        have qc3 := Hq.out.cell (i := 3) rfl
        have qc4 := Hq.out.cell (i := 4) rfl
        have rc0 := Hr.out.cell (i := 0) rfl
        have rc1 := Hr.out.cell (i := 1) rfl
        have rc2 := Hr.out.cell (i := 2) rfl
        have rc3 := Hr.out.cell (i := 3) rfl
        have rc4 := Hr.out.cell (i := 4) rfl
        go_wp2_with fail
        refine (insert_yes lv _ c1 hi la rt ys b y _ m hm (by omega) HR.out HASC.out HKB.out (by omega)).mono ?_; rintro e w7 ⟨A4, c4, rfl, hO9, hB9⟩
        rw [HVS.out] at hO9
        have HRS := Lib.hid (rs_own hO9)
        clear hO9
        clear pc0 pc1 pc2 pc3 pc4 qc0 qc1 qc2 qc3 qc4 rc0 rc1 rc2 rc3 rc4
        have hs9 := hB9.size
        replace HB := Lib.hid (HB.out.trans (hB9.mono hw))
        replace Hp := Lib.hid (Hp.out.below hB9 ltp)
        replace ltp := Nat.lt_of_lt_of_le ltp hs9
        replace Hq := Lib.hid (Hq.out.below hB9 ltq)
        replace ltq := Nat.lt_of_lt_of_le ltq hs9
        replace Hr := Lib.hid (Hr.out.below hB9 ltr)
        replace ltr := Nat.lt_of_lt_of_le ltr hs9
        replace HR := Lib.hid (HR.out.below hB9 (Nat.le_refl _))
        replace HRQ := Lib.hid (HRQ.out.below hB9 (Nat.le_refl _))
        replace HRR := Lib.hid (HRR.out.below hB9 (Nat.le_refl _))
        replace hw := Nat.le_trans hw hs9
        clear hB9 hs9
        have pc0 := Hp.out.cell (i := 0) rfl
        have pc1 := Hp.out.cell (i := 1) rfl
        have pc2 := Hp.out.cell (i := 2) rfl
        have pc3 := Hp.out.cell (i := 3) rfl
        have pc4 := Hp.out.cell (i := 4) rfl
        have qc0 := Hq.out.cell (i := 0) rfl
        have qc1 := Hq.out.cell (i := 1) rfl
        have qc2 := Hq.out.cell (i := 2) rfl
        have qc3 := Hq.out.cell (i := 3) rfl
        have qc4 := Hq.out.cell (i := 4) rfl
        have rc0 := Hr.out.cell (i := 0) rfl
        have rc1 := Hr.out.cell (i := 1) rfl
        have rc2 := Hr.out.cell (i := 2) rfl
        have rc3 := Hr.out.cell (i := 3) rfl
        have rc4 := Hr.out.cell (i := 4) rfl
        go_wp2_with fail
        clear pc0 pc1 pc2 pc3 pc4 qc0 qc1 qc2 qc3 qc4 rc0 rc1 rc2 rc3 rc4
        have Hs := Lib.hid (Blk.new w7 [.int .i64 lv, .slice A4 (m + 1) c4, .string hi, .bool la, .int .u64 (rt : Int)] 25)
        replace Hp := Lib.hid (Hp.out.alloc (.cells #[.int .i64 lv, .slice A4 (m + 1) c4, .string hi, .bool la, .int .u64 (rt : Int)] 25))
        replace Hq := Lib.hid (Hq.out.alloc (.cells #[.int .i64 lv, .slice A4 (m + 1) c4, .string hi, .bool la, .int .u64 (rt : Int)] 25))
        replace Hr := Lib.hid (Hr.out.alloc (.cells #[.int .i64 lv, .slice A4 (m + 1) c4, .string hi, .bool la, .int .u64 (rt : Int)] 25))
        replace HR := Lib.hid (HR.out.below ((Below.refl _ _).alloc (Nat.le_refl _) (.cells #[.int .i64 lv, .slice A4 (m + 1) c4, .string hi, .bool la, .int .u64 (rt : Int)] 25)) (Nat.le_refl _))
        replace HRQ := Lib.hid (HRQ.out.below ((Below.refl _ _).alloc (Nat.le_refl _) (.cells #[.int .i64 lv, .slice A4 (m + 1) c4, .string hi, .bool la, .int .u64 (rt : Int)] 25)) (Nat.le_refl _))
        replace HRR := Lib.hid (HRR.out.below ((Below.refl _ _).alloc (Nat.le_refl _) (.cells #[.int .i64 lv, .slice A4 (m + 1) c4, .string hi, .bool la, .int .u64 (rt : Int)] 25)) (Nat.le_refl _))
        replace HRS := Lib.hid (HRS.out.below ((Below.refl _ _).alloc (Nat.le_refl _) (.cells #[.int .i64 lv, .slice A4 (m + 1) c4, .string hi, .bool la, .int .u64 (rt : Int)] 25)) (Nat.le_refl _))
        replace HB := Lib.hid (HB.out.alloc hw (.cells #[.int .i64 lv, .slice A4 (m + 1) c4, .string hi, .bool la, .int .u64 (rt : Int)] 25))
        have hz9 : (w7.alloc (.cells #[.int .i64 lv, .slice A4 (m + 1) c4, .string hi, .bool la, .int .u64 (rt : Int)] 25)).heap.size = w7.heap.size + 1 := nblk_alloc _ _
        generalize w7.alloc (.cells #[.int .i64 lv, .slice A4 (m + 1) c4, .string hi, .bool la, .int .u64 (rt : Int)] 25) = V8 at *
        generalize w7.heap.size = bs at *
        have lts : bs < V8.heap.size := by omega
        replace ltp : bp < V8.heap.size := by omega
        replace ltq : bq < V8.heap.size := by omega
        replace ltr : br < V8.heap.size := by omega
        replace hw : w.heap.size ≤ V8.heap.size := by omega
        clear hz9
        go_upto_region 7 with fail
        refine wp_region_held_drew (S := (fun w' => Blk w' bp 25 [.int .i64 lv, .slice A1 m c1, .string hi, .bool la, .int .u64 (rt : Int)] ∧ Blk w' bq 25 [.int .i64 lv, .slice A2 (m + 1) c2, .string hi, .bool la, .int .u64 (rt : Int)])) (by kernel_rfl) ?_ (fun hHeld => ?_)
        · exact ⟨Hp.out, Hq.out⟩
        have hB9 := (Below.refl V8.heap.size V8).drew
        generalize V8.drew = G9 at *
        have hs9 := hB9.size
        replace HB := Lib.hid (HB.out.trans (hB9.mono hw))
        replace Hp := Lib.hid (Hp.out.below hB9 ltp)
        replace ltp := Nat.lt_of_lt_of_le ltp hs9
        replace Hq := Lib.hid (Hq.out.below hB9 ltq)
        replace ltq := Nat.lt_of_lt_of_le ltq hs9
        replace Hr := Lib.hid (Hr.out.below hB9 ltr)
        replace ltr := Nat.lt_of_lt_of_le ltr hs9
        replace Hs := Lib.hid (Hs.out.below hB9 lts)
        replace lts := Nat.lt_of_lt_of_le lts hs9
        replace HR := Lib.hid (HR.out.below hB9 (Nat.le_refl _))
        replace HRQ := Lib.hid (HRQ.out.below hB9 (Nat.le_refl _))
        replace HRR := Lib.hid (HRR.out.below hB9 (Nat.le_refl _))
        replace HRS := Lib.hid (HRS.out.below hB9 (Nat.le_refl _))
        replace hw := Nat.le_trans hw hs9
        clear hB9 hs9
        refine wpAnyH_ready (rs := [0]) (by kernel_rfl) (by simp) ?_
        refine AllReadyH.cons (o := ⟨some 51, _, _, _, _, _⟩) rfl (fun KK hK => ?_) AllReadyH.nil
        go_simp
        go_at_call 9
        refine (awake_any _).mono ?_; rintro e w10 ⟨rfl, hB9⟩
        have hs9 := hB9.size
        replace HB := Lib.hid (HB.out.trans (hB9.mono hw))
        replace Hp := Lib.hid (Hp.out.below hB9 ltp)
        replace ltp := Nat.lt_of_lt_of_le ltp hs9
        replace Hq := Lib.hid (Hq.out.below hB9 ltq)
        replace ltq := Nat.lt_of_lt_of_le ltq hs9
        replace Hr := Lib.hid (Hr.out.below hB9 ltr)
        replace ltr := Nat.lt_of_lt_of_le ltr hs9
        replace Hs := Lib.hid (Hs.out.below hB9 lts)
        replace lts := Nat.lt_of_lt_of_le lts hs9
        replace HR := Lib.hid (HR.out.below hB9 (Nat.le_refl _))
        replace HRQ := Lib.hid (HRQ.out.below hB9 (Nat.le_refl _))
        replace HRR := Lib.hid (HRR.out.below hB9 (Nat.le_refl _))
        replace HRS := Lib.hid (HRS.out.below hB9 (Nat.le_refl _))
        replace hw := Nat.le_trans hw hs9
        clear hB9 hs9
        refine hK.out _ _ ?_ (fun hHeld2 => ?_)
        · exact ⟨Hp.out, Hq.out⟩
        clear hK KK hHeld
        have hHeld := hHeld2
        clear hHeld2
        try simp only [Act.put, List.setIfInBounds_toArray, List.set_cons_zero, List.set_cons_succ]
        refine wpAnyH_take (i := 1) (oi := ⟨some 52, _, _, _, _, _⟩) (v := ?_) rfl (by kernel_rfl) (by kernel_rfl) (by kernel_rfl) (fun _ _ _ h => h) (Or.inl ⟨by rfl, ?_⟩) hHeld ?_
        rotate_left
        · (intro wq hSw; go_simp; try with_reducible rfl)
        try simp only [Act.put, List.setIfInBounds_toArray, List.set_cons_zero, List.set_cons_succ]
        refine wpAnyH_take (i := 2) (oi := ⟨some 53, _, _, _, _, _⟩) (v := ?_) rfl (by kernel_rfl) (by kernel_rfl) (by kernel_rfl) (fun _ _ _ h => h) (Or.inl ⟨by rfl, ?_⟩) hHeld ?_
        rotate_left
        · (intro wq hSw; go_simp; try with_reducible rfl)
        try simp only [Act.put, List.setIfInBounds_toArray, List.set_cons_zero, List.set_cons_succ]
        refine wpAnyH_take (i := 3) (oi := ⟨some 54, _, _, _, _, _⟩) (v := ?_) rfl (by kernel_rfl) (by kernel_rfl) (by kernel_rfl) (fun _ _ _ h => h) (Or.inl ⟨by rfl, ?_⟩) hHeld ?_
        rotate_left
        · (intro wq hSw; go_simp; try with_reducible rfl)
        try simp only [Act.put, List.setIfInBounds_toArray, List.set_cons_zero, List.set_cons_succ]
        refine wpAnyH_take (i := 4) (oi := ⟨some 55, _, _, _, _, _⟩) (v := ?_) rfl (by kernel_rfl) (by kernel_rfl) (by kernel_rfl) (fun _ _ _ h => h) (Or.inl ⟨by rfl, ?_⟩) hHeld ?_
        rotate_left
        · (intro wq hSw; go_simp; try with_reducible rfl)
        try simp only [Act.put, List.setIfInBounds_toArray, List.set_cons_zero, List.set_cons_succ]
        refine wpAnyH_take (i := 5) (oi := ⟨some 56, _, _, _, _, _⟩) (v := ?_) rfl (by kernel_rfl) (by kernel_rfl) (by kernel_rfl) (fun _ _ _ h => h) (Or.inl ⟨by rfl, ?_⟩) hHeld ?_
        rotate_left
        · (intro wq hSw; go_simp; try with_reducible rfl)
        try simp only [Act.put, List.setIfInBounds_toArray, List.set_cons_zero, List.set_cons_succ]
        refine wpAnyH_take (i := 6) (oi := ⟨some 57, _, _, _, _, _⟩) (v := ?_) rfl (by kernel_rfl) (by kernel_rfl) (by kernel_rfl) (fun _ _ _ h => h) (Or.inl ⟨by rfl, ?_⟩) hHeld ?_
        rotate_left
        · (intro wq hSw; go_simp; try with_reducible rfl)
        try simp only [Act.put, List.setIfInBounds_toArray, List.set_cons_zero, List.set_cons_succ]
        refine wpAnyH_take (i := 7) (oi := ⟨some 58, _, _, _, _, _⟩) (v := ?_) rfl (by kernel_rfl) (by kernel_rfl) (by kernel_rfl) (fun _ _ _ h => h) (Or.inl ⟨by rfl, ?_⟩) hHeld ?_
        rotate_left
        · (intro wq hSw; go_simp; try with_reducible rfl)
        try simp only [Act.put, List.setIfInBounds_toArray, List.set_cons_zero, List.set_cons_succ]
        refine wpAnyH_take (i := 8) (oi := ⟨some 59, _, _, _, _, _⟩) (v := ?_) rfl (by kernel_rfl) (by kernel_rfl) (by kernel_rfl) (fun _ _ _ h => h) (Or.inl ⟨by rfl, ?_⟩) hHeld ?_
        rotate_left
        · (intro wq hSw; have qq0 := hSw.2.cell (i := 0) rfl; have qq1 := hSw.2.cell (i := 1) rfl; have qq2 := hSw.2.cell (i := 2) rfl; have qq3 := hSw.2.cell (i := 3) rfl; have qq4 := hSw.2.cell (i := 4) rfl; go_simp; try with_reducible rfl)
        try simp only [Act.put, List.setIfInBounds_toArray, List.set_cons_zero, List.set_cons_succ]
        refine wpAnyH_take (i := 9) (oi := ⟨some 60, _, _, _, _, _⟩) (v := ?_) rfl (by kernel_rfl) (by kernel_rfl) (by kernel_rfl) (fun _ _ _ h => h) (Or.inl ⟨by rfl, ?_⟩) hHeld ?_
        rotate_left
        · (intro wq hSw; go_simp; try with_reducible rfl)
        try simp only [Act.put, List.setIfInBounds_toArray, List.set_cons_zero, List.set_cons_succ]
        refine wpAnyH_take (i := 12) (oi := ⟨some 63, _, _, _, _, _⟩) (v := ?_) rfl (by kernel_rfl) (by kernel_rfl) (by kernel_rfl) (fun _ _ _ h => h) (Or.inl ⟨by rfl, ?_⟩) hHeld ?_
        rotate_left
        · (intro wq hSw; have qp0 := hSw.1.cell (i := 0) rfl; have qp1 := hSw.1.cell (i := 1) rfl; have qp2 := hSw.1.cell (i := 2) rfl; have qp3 := hSw.1.cell (i := 3) rfl; have qp4 := hSw.1.cell (i := 4) rfl; go_simp; try with_reducible rfl)
        try simp only [Act.put, List.setIfInBounds_toArray, List.set_cons_zero, List.set_cons_succ]
        refine wpAnyH_ready (rs := [10]) (by kernel_rfl) (by simp) ?_
        refine AllReadyH.cons (o := ⟨some 61, _, _, _, _, _⟩) rfl (fun KK hK => ?_) AllReadyH.nil
        go_simp
        have hB9 := (Below.refl w10.heap.size w10).alloc (Nat.le_refl _) (.cells #[.string a] 9)
        have HKK := Lib.hid (rk_new w10 [a] 9)
        simp only [List.map_cons, List.map_nil] at HKK
        generalize w10.alloc (.cells #[.string a] 9) = V11 at *
        have hs9 := hB9.size
        replace HB := Lib.hid (HB.out.trans (hB9.mono hw))
        replace Hp := Lib.hid (Hp.out.below hB9 ltp)
        replace ltp := Nat.lt_of_lt_of_le ltp hs9
        replace Hq := Lib.hid (Hq.out.below hB9 ltq)
        replace ltq := Nat.lt_of_lt_of_le ltq hs9
        replace Hr := Lib.hid (Hr.out.below hB9 ltr)
        replace ltr := Nat.lt_of_lt_of_le ltr hs9
        replace Hs := Lib.hid (Hs.out.below hB9 lts)
        replace lts := Nat.lt_of_lt_of_le lts hs9
        replace HR := Lib.hid (HR.out.below hB9 (Nat.le_refl _))
        replace HRQ := Lib.hid (HRQ.out.below hB9 (Nat.le_refl _))
        replace HRR := Lib.hid (HRR.out.below hB9 (Nat.le_refl _))
        replace HRS := Lib.hid (HRS.out.below hB9 (Nat.le_refl _))
        replace hw := Nat.le_trans hw hs9
        clear hB9 hs9
        refine hK.out _ _ ?_ (fun hHeld2 => ?_)
        · exact ⟨Hp.out, Hq.out⟩
        clear hK KK hHeld
        have hHeld := hHeld2
        clear hHeld2
        try simp only [Act.put, List.setIfInBounds_toArray, List.set_cons_zero, List.set_cons_succ]
        refine wpAnyH_ready (rs := [11]) (by kernel_rfl) (by simp) ?_
        refine AllReadyH.cons (o := ⟨some 62, _, _, _, _, _⟩) rfl (fun KK hK => ?_) AllReadyH.nil
        go_simp
        go_at_call 25
        refine (remove_any lv A2 c2 hi la rt zs _ 1 1 [a] _ (m + 1) hzl (by omega) HRQ.out rfl (by omega) (HKK.out.below (Below.refl _ _) (Nat.le_refl _)) (by intro k hk; simp at hk; subst hk; exact HSA.out) HXS.out ys HREM.out m hm).mono ?_; rintro e w12 ⟨A9, c9, rfl, hO9, hB9⟩
        have HRX := Lib.hid (rs_own hO9)
        clear hO9 HKK
        have hs9 := hB9.size
        replace HB := Lib.hid (HB.out.trans (hB9.mono hw))
        replace Hp := Lib.hid (Hp.out.below hB9 ltp)
        replace ltp := Nat.lt_of_lt_of_le ltp hs9
        replace Hq := Lib.hid (Hq.out.below hB9 ltq)
        replace ltq := Nat.lt_of_lt_of_le ltq hs9
        replace Hr := Lib.hid (Hr.out.below hB9 ltr)
        replace ltr := Nat.lt_of_lt_of_le ltr hs9
        replace Hs := Lib.hid (Hs.out.below hB9 lts)
        replace lts := Nat.lt_of_lt_of_le lts hs9
        replace HR := Lib.hid (HR.out.below hB9 (Nat.le_refl _))
        replace HRQ := Lib.hid (HRQ.out.below hB9 (Nat.le_refl _))
        replace HRR := Lib.hid (HRR.out.below hB9 (Nat.le_refl _))
        replace HRS := Lib.hid (HRS.out.below hB9 (Nat.le_refl _))
        replace hw := Nat.le_trans hw hs9
        clear hB9 hs9
        refine hK.out _ _ ?_ (fun hHeld2 => ?_)
        · exact ⟨Hp.out, Hq.out⟩
        clear hK KK hHeld
        have hHeld := hHeld2
        clear hHeld2
        try simp only [Act.put, List.setIfInBounds_toArray, List.set_cons_zero, List.set_cons_succ]
        refine wpAnyH_ready (rs := [13]) (by kernel_rfl) (by simp) ?_
        refine AllReadyH.cons (o := ⟨some 64, _, _, _, _, _⟩) rfl (fun KK hK => ?_) AllReadyH.nil
        go_simp
        go_at_call 23
        refine (refSame_yes lv A9 A1 c9 c1 hi la rt ys _ m hm (by omega) HRX.out HR.out).mono ?_; rintro e w13 ⟨rfl, hB9⟩
        have hs9 := hB9.size
        replace HB := Lib.hid (HB.out.trans (hB9.mono hw))
        replace Hp := Lib.hid (Hp.out.below hB9 ltp)
        replace ltp := Nat.lt_of_lt_of_le ltp hs9
        replace Hq := Lib.hid (Hq.out.below hB9 ltq)
        replace ltq := Nat.lt_of_lt_of_le ltq hs9
        replace Hr := Lib.hid (Hr.out.below hB9 ltr)
        replace ltr := Nat.lt_of_lt_of_le ltr hs9
        replace Hs := Lib.hid (Hs.out.below hB9 lts)
        replace lts := Nat.lt_of_lt_of_le lts hs9
        replace HR := Lib.hid (HR.out.below hB9 (Nat.le_refl _))
        replace HRQ := Lib.hid (HRQ.out.below hB9 (Nat.le_refl _))
        replace HRR := Lib.hid (HRR.out.below hB9 (Nat.le_refl _))
        replace HRS := Lib.hid (HRS.out.below hB9 (Nat.le_refl _))
        replace HRX := Lib.hid (HRX.out.below hB9 (Nat.le_refl _))
        replace hw := Nat.le_trans hw hs9
        clear hB9 hs9
        refine hK.out _ _ ?_ (fun hHeld2 => ?_)
        · exact ⟨Hp.out, Hq.out⟩
        clear hK KK hHeld
        have hHeld := hHeld2
        clear hHeld2
        try simp only [Act.put, List.setIfInBounds_toArray, List.set_cons_zero, List.set_cons_succ]
        refine wpAnyH_take (i := 14) (oi := ⟨some 65, _, _, _, _, _⟩) (v := ?_) rfl (by kernel_rfl) (by kernel_rfl) (by kernel_rfl) (fun _ _ _ h => h) (Or.inl ⟨by rfl, ?_⟩) hHeld ?_
        rotate_left
        · (intro wq hSw; go_simp; try with_reducible rfl)
        try simp only [Act.put, List.setIfInBounds_toArray, List.set_cons_zero, List.set_cons_succ]
        refine wpAnyH_take (i := 15) (oi := ⟨some 66, _, _, _, _, _⟩) (v := ?_) rfl (by kernel_rfl) (by kernel_rfl) (by kernel_rfl) (fun _ _ _ h => h) (Or.inl ⟨by rfl, ?_⟩) hHeld ?_
        rotate_left
        · (intro wq hSw; go_simp; try with_reducible rfl)
        try simp only [Act.put, List.setIfInBounds_toArray, List.set_cons_zero, List.set_cons_succ]
        refine wpAnyH_done (by kernel_rfl) ?_ _
        clear hHeld
        clear HRX
        have pc0 := Hp.out.cell (i := 0) rfl
        have pc1 := Hp.out.cell (i := 1) rfl
        have pc2 := Hp.out.cell (i := 2) rfl
        have pc3 := Hp.out.cell (i := 3) rfl
        have pc4 := Hp.out.cell (i := 4) rfl
        have qc0 := Hq.out.cell (i := 0) rfl
        have qc1 := Hq.out.cell (i := 1) rfl
        have qc2 := Hq.out.cell (i := 2) rfl
        have qc3 := Hq.out.cell (i := 3) rfl
        have qc4 := Hq.out.cell (i := 4) rfl
        have rc0 := Hr.out.cell (i := 0) rfl
        have rc1 := Hr.out.cell (i := 1) rfl
        have rc2 := Hr.out.cell (i := 2) rfl
        have rc3 := Hr.out.cell (i := 3) rfl
        have rc4 := Hr.out.cell (i := 4) rfl
        have sc0 := Hs.out.cell (i := 0) rfl
        have sc1 := Hs.out.cell (i := 1) rfl
        have sc2 := Hs.out.cell (i := 2) rfl
        have sc3 := Hs.out.cell (i := 3) rfl
        have sc4 := Hs.out.cell (i := 4) rfl
        go_wp2_with fail
        refine (insert_yes lv _ c4 hi la rt vs a x _ (m + 1) hvl (by omega) HRS.out HVA.out HKV.out (by omega)).mono ?_; rintro e w14 ⟨A5, c5, rfl, hO9, hB9⟩
        rw [HUV.out] at hO9
        have HRT := Lib.hid (rs_own hO9)
        clear hO9
        clear pc0 pc1 pc2 pc3 pc4 qc0 qc1 qc2 qc3 qc4 rc0 rc1 rc2 rc3 rc4 sc0 sc1 sc2 sc3 sc4
        have hs9 := hB9.size
        replace HB := Lib.hid (HB.out.trans (hB9.mono hw))
        replace Hp := Lib.hid (Hp.out.below hB9 ltp)
        replace ltp := Nat.lt_of_lt_of_le ltp hs9
        replace Hq := Lib.hid (Hq.out.below hB9 ltq)
        replace ltq := Nat.lt_of_lt_of_le ltq hs9
        replace Hr := Lib.hid (Hr.out.below hB9 ltr)
        replace ltr := Nat.lt_of_lt_of_le ltr hs9
        replace Hs := Lib.hid (Hs.out.below hB9 lts)
        replace lts := Nat.lt_of_lt_of_le lts hs9
        replace HR := Lib.hid (HR.out.below hB9 (Nat.le_refl _))
        replace HRQ := Lib.hid (HRQ.out.below hB9 (Nat.le_refl _))
        replace HRR := Lib.hid (HRR.out.below hB9 (Nat.le_refl _))
        replace HRS := Lib.hid (HRS.out.below hB9 (Nat.le_refl _))
        replace hw := Nat.le_trans hw hs9
        clear hB9 hs9
        have pc0 := Hp.out.cell (i := 0) rfl
        have pc1 := Hp.out.cell (i := 1) rfl
        have pc2 := Hp.out.cell (i := 2) rfl
        have pc3 := Hp.out.cell (i := 3) rfl
        have pc4 := Hp.out.cell (i := 4) rfl
        have qc0 := Hq.out.cell (i := 0) rfl
        have qc1 := Hq.out.cell (i := 1) rfl
        have qc2 := Hq.out.cell (i := 2) rfl
        have qc3 := Hq.out.cell (i := 3) rfl
        have qc4 := Hq.out.cell (i := 4) rfl
        have rc0 := Hr.out.cell (i := 0) rfl
        have rc1 := Hr.out.cell (i := 1) rfl
        have rc2 := Hr.out.cell (i := 2) rfl
        have rc3 := Hr.out.cell (i := 3) rfl
        have rc4 := Hr.out.cell (i := 4) rfl
        have sc0 := Hs.out.cell (i := 0) rfl
        have sc1 := Hs.out.cell (i := 1) rfl
        have sc2 := Hs.out.cell (i := 2) rfl
        have sc3 := Hs.out.cell (i := 3) rfl
        have sc4 := Hs.out.cell (i := 4) rfl
        go_wp2_with fail
        clear pc0 pc1 pc2 pc3 pc4 qc0 qc1 qc2 qc3 qc4 rc0 rc1 rc2 rc3 rc4 sc0 sc1 sc2 sc3 sc4
        have Ht := Lib.hid (Blk.new w14 [.int .i64 lv, .slice A5 (m + 1 + 1) c5, .string hi, .bool la, .int .u64 (rt : Int)] 25)
        replace Hp := Lib.hid (Hp.out.alloc (.cells #[.int .i64 lv, .slice A5 (m + 1 + 1) c5, .string hi, .bool la, .int .u64 (rt : Int)] 25))
        replace Hq := Lib.hid (Hq.out.alloc (.cells #[.int .i64 lv, .slice A5 (m + 1 + 1) c5, .string hi, .bool la, .int .u64 (rt : Int)] 25))
        replace Hr := Lib.hid (Hr.out.alloc (.cells #[.int .i64 lv, .slice A5 (m + 1 + 1) c5, .string hi, .bool la, .int .u64 (rt : Int)] 25))
        replace Hs := Lib.hid (Hs.out.alloc (.cells #[.int .i64 lv, .slice A5 (m + 1 + 1) c5, .string hi, .bool la, .int .u64 (rt : Int)] 25))
        replace HR := Lib.hid (HR.out.below ((Below.refl _ _).alloc (Nat.le_refl _) (.cells #[.int .i64 lv, .slice A5 (m + 1 + 1) c5, .string hi, .bool la, .int .u64 (rt : Int)] 25)) (Nat.le_refl _))
        replace HRQ := Lib.hid (HRQ.out.below ((Below.refl _ _).alloc (Nat.le_refl _) (.cells #[.int .i64 lv, .slice A5 (m + 1 + 1) c5, .string hi, .bool la, .int .u64 (rt : Int)] 25)) (Nat.le_refl _))
        replace HRR := Lib.hid (HRR.out.below ((Below.refl _ _).alloc (Nat.le_refl _) (.cells #[.int .i64 lv, .slice A5 (m + 1 + 1) c5, .string hi, .bool la, .int .u64 (rt : Int)] 25)) (Nat.le_refl _))
        replace HRS := Lib.hid (HRS.out.below ((Below.refl _ _).alloc (Nat.le_refl _) (.cells #[.int .i64 lv, .slice A5 (m + 1 + 1) c5, .string hi, .bool la, .int .u64 (rt : Int)] 25)) (Nat.le_refl _))
        replace HRT := Lib.hid (HRT.out.below ((Below.refl _ _).alloc (Nat.le_refl _) (.cells #[.int .i64 lv, .slice A5 (m + 1 + 1) c5, .string hi, .bool la, .int .u64 (rt : Int)] 25)) (Nat.le_refl _))
        replace HB := Lib.hid (HB.out.alloc hw (.cells #[.int .i64 lv, .slice A5 (m + 1 + 1) c5, .string hi, .bool la, .int .u64 (rt : Int)] 25))
        have hz9 : (w14.alloc (.cells #[.int .i64 lv, .slice A5 (m + 1 + 1) c5, .string hi, .bool la, .int .u64 (rt : Int)] 25)).heap.size = w14.heap.size + 1 := nblk_alloc _ _
        generalize w14.alloc (.cells #[.int .i64 lv, .slice A5 (m + 1 + 1) c5, .string hi, .bool la, .int .u64 (rt : Int)] 25) = V15 at *
        generalize w14.heap.size = bt at *
        have ltt : bt < V15.heap.size := by omega
        replace ltp : bp < V15.heap.size := by omega
        replace ltq : bq < V15.heap.size := by omega
        replace ltr : br < V15.heap.size := by omega
        replace lts : bs < V15.heap.size := by omega
        replace hw : w.heap.size ≤ V15.heap.size := by omega
        clear hz9
        have pc0 := Hp.out.cell (i := 0) rfl
        have pc1 := Hp.out.cell (i := 1) rfl
        have pc2 := Hp.out.cell (i := 2) rfl
        have pc3 := Hp.out.cell (i := 3) rfl
        have pc4 := Hp.out.cell (i := 4) rfl
        have qc0 := Hq.out.cell (i := 0) rfl
        have qc1 := Hq.out.cell (i := 1) rfl
        have qc2 := Hq.out.cell (i := 2) rfl
        have qc3 := Hq.out.cell (i := 3) rfl
        have qc4 := Hq.out.cell (i := 4) rfl
        have rc0 := Hr.out.cell (i := 0) rfl
        have rc1 := Hr.out.cell (i := 1) rfl
        have rc2 := Hr.out.cell (i := 2) rfl
        have rc3 := Hr.out.cell (i := 3) rfl
        have rc4 := Hr.out.cell (i := 4) rfl
        have sc0 := Hs.out.cell (i := 0) rfl
        have sc1 := Hs.out.cell (i := 1) rfl
        have sc2 := Hs.out.cell (i := 2) rfl
        have sc3 := Hs.out.cell (i := 3) rfl
        have sc4 := Hs.out.cell (i := 4) rfl
        have tc0 := Ht.out.cell (i := 0) rfl
        have tc1 := Ht.out.cell (i := 1) rfl
        have tc2 := Ht.out.cell (i := 2) rfl
        have tc3 := Ht.out.cell (i := 3) rfl
        have tc4 := Ht.out.cell (i := 4) rfl
        go_upto_region 12 with fail
        clear pc0 pc1 pc2 pc3 pc4 qc0 qc1 qc2 qc3 qc4 rc0 rc1 rc2 rc3 rc4 sc0 sc1 sc2 sc3 sc4 tc0 tc1 tc2 tc3 tc4
        refine wp_region_held_drew (S := (fun w' => Blk w' bp 25 [.int .i64 lv, .slice A1 m c1, .string hi, .bool la, .int .u64 (rt : Int)] ∧ Blk w' br 25 [.int .i64 lv, .slice A3 (m + 1 + 1) c3, .string hi, .bool la, .int .u64 (rt : Int)] ∧ Blk w' bt 25 [.int .i64 lv, .slice A5 (m + 1 + 1) c5, .string hi, .bool la, .int .u64 (rt : Int)])) (by kernel_rfl) ?_ (fun hHeld => ?_)
        · exact ⟨Hp.out, Hr.out, Ht.out⟩
        have hB9 := (Below.refl V15.heap.size V15).drew
        generalize V15.drew = G16 at *
        have hs9 := hB9.size
        replace HB := Lib.hid (HB.out.trans (hB9.mono hw))
        replace Hp := Lib.hid (Hp.out.below hB9 ltp)
        replace ltp := Nat.lt_of_lt_of_le ltp hs9
        replace Hq := Lib.hid (Hq.out.below hB9 ltq)
        replace ltq := Nat.lt_of_lt_of_le ltq hs9
        replace Hr := Lib.hid (Hr.out.below hB9 ltr)
        replace ltr := Nat.lt_of_lt_of_le ltr hs9
        replace Hs := Lib.hid (Hs.out.below hB9 lts)
        replace lts := Nat.lt_of_lt_of_le lts hs9
        replace Ht := Lib.hid (Ht.out.below hB9 ltt)
        replace ltt := Nat.lt_of_lt_of_le ltt hs9
        replace HR := Lib.hid (HR.out.below hB9 (Nat.le_refl _))
        replace HRQ := Lib.hid (HRQ.out.below hB9 (Nat.le_refl _))
        replace HRR := Lib.hid (HRR.out.below hB9 (Nat.le_refl _))
        replace HRS := Lib.hid (HRS.out.below hB9 (Nat.le_refl _))
        replace HRT := Lib.hid (HRT.out.below hB9 (Nat.le_refl _))
        replace hw := Nat.le_trans hw hs9
        clear hB9 hs9
        refine wpAnyH_take (i := 0) (oi := ⟨some 76, _, _, _, _, _⟩) (v := ?_) rfl (by kernel_rfl) (by kernel_rfl) (by kernel_rfl) (fun _ _ _ h => h) (Or.inl ⟨by rfl, ?_⟩) hHeld ?_
        rotate_left
        · (intro wq hSw; go_simp; try with_reducible rfl)
        try simp only [Act.put, List.setIfInBounds_toArray, List.set_cons_zero, List.set_cons_succ]
        refine wpAnyH_take (i := 1) (oi := ⟨some 77, _, _, _, _, _⟩) (v := ?_) rfl (by kernel_rfl) (by kernel_rfl) (by kernel_rfl) (fun _ _ _ h => h) (Or.inl ⟨by rfl, ?_⟩) hHeld ?_
        rotate_left
        · (intro wq hSw; go_simp; try with_reducible rfl)
        try simp only [Act.put, List.setIfInBounds_toArray, List.set_cons_zero, List.set_cons_succ]
        refine wpAnyH_take (i := 2) (oi := ⟨some 78, _, _, _, _, _⟩) (v := ?_) rfl (by kernel_rfl) (by kernel_rfl) (by kernel_rfl) (fun _ _ _ h => h) (Or.inl ⟨by rfl, ?_⟩) hHeld ?_
        rotate_left
        · (intro wq hSw; have qr0 := hSw.2.1.cell (i := 0) rfl; have qr1 := hSw.2.1.cell (i := 1) rfl; have qr2 := hSw.2.1.cell (i := 2) rfl; have qr3 := hSw.2.1.cell (i := 3) rfl; have qr4 := hSw.2.1.cell (i := 4) rfl; go_simp; try with_reducible rfl)
        try simp only [Act.put, List.setIfInBounds_toArray, List.set_cons_zero, List.set_cons_succ]
        refine wpAnyH_take (i := 3) (oi := ⟨some 79, _, _, _, _, _⟩) (v := ?_) rfl (by kernel_rfl) (by kernel_rfl) (by kernel_rfl) (fun _ _ _ h => h) (Or.inl ⟨by rfl, ?_⟩) hHeld ?_
        rotate_left
        · (intro wq hSw; have qt0 := hSw.2.2.cell (i := 0) rfl; have qt1 := hSw.2.2.cell (i := 1) rfl; have qt2 := hSw.2.2.cell (i := 2) rfl; have qt3 := hSw.2.2.cell (i := 3) rfl; have qt4 := hSw.2.2.cell (i := 4) rfl; go_simp; try with_reducible rfl)
        try simp only [Act.put, List.setIfInBounds_toArray, List.set_cons_zero, List.set_cons_succ]
        refine wpAnyH_ready (rs := [4]) (by kernel_rfl) (by simp) ?_
        refine AllReadyH.cons (o := ⟨some 80, _, _, _, _, _⟩) rfl (fun KK hK => ?_) AllReadyH.nil
        go_simp
        go_at_call 23
        refine (refSame_yes lv A3 A5 c3 c5 hi la rt us _ (m + 1 + 1) hul (by omega) HRR.out HRT.out).mono ?_; rintro e w17 ⟨rfl, hB9⟩
        have hs9 := hB9.size
        replace HB := Lib.hid (HB.out.trans (hB9.mono hw))
        replace Hp := Lib.hid (Hp.out.below hB9 ltp)
        replace ltp := Nat.lt_of_lt_of_le ltp hs9
        replace Hq := Lib.hid (Hq.out.below hB9 ltq)
        replace ltq := Nat.lt_of_lt_of_le ltq hs9
        replace Hr := Lib.hid (Hr.out.below hB9 ltr)
        replace ltr := Nat.lt_of_lt_of_le ltr hs9
        replace Hs := Lib.hid (Hs.out.below hB9 lts)
        replace lts := Nat.lt_of_lt_of_le lts hs9
        replace Ht := Lib.hid (Ht.out.below hB9 ltt)
        replace ltt := Nat.lt_of_lt_of_le ltt hs9
        replace HR := Lib.hid (HR.out.below hB9 (Nat.le_refl _))
        replace HRQ := Lib.hid (HRQ.out.below hB9 (Nat.le_refl _))
        replace HRR := Lib.hid (HRR.out.below hB9 (Nat.le_refl _))
        replace HRS := Lib.hid (HRS.out.below hB9 (Nat.le_refl _))
        replace HRT := Lib.hid (HRT.out.below hB9 (Nat.le_refl _))
        replace hw := Nat.le_trans hw hs9
        clear hB9 hs9
        refine hK.out _ _ ?_ (fun hHeld2 => ?_)
        · exact ⟨Hp.out, Hr.out, Ht.out⟩
        clear hK KK hHeld
        have hHeld := hHeld2
        clear hHeld2
        try simp only [Act.put, List.setIfInBounds_toArray, List.set_cons_zero, List.set_cons_succ]
        refine wpAnyH_take (i := 5) (oi := ⟨some 81, _, _, _, _, _⟩) (v := ?_) rfl (by kernel_rfl) (by kernel_rfl) (by kernel_rfl) (fun _ _ _ h => h) (Or.inl ⟨by rfl, ?_⟩) hHeld ?_
        rotate_left
        · (intro wq hSw; go_simp; try with_reducible rfl)
        try simp only [Act.put, List.setIfInBounds_toArray, List.set_cons_zero, List.set_cons_succ]
        refine wpAnyH_take (i := 6) (oi := ⟨some 82, _, _, _, _, _⟩) (v := ?_) rfl (by kernel_rfl) (by kernel_rfl) (by kernel_rfl) (fun _ _ _ h => h) (Or.inl ⟨by rfl, ?_⟩) hHeld ?_
        rotate_left
        · (intro wq hSw; go_simp; try with_reducible rfl)
        try simp only [Act.put, List.setIfInBounds_toArray, List.set_cons_zero, List.set_cons_succ]
        refine wpAnyH_take (i := 7) (oi := ⟨some 83, _, _, _, _, _⟩) (v := ?_) rfl (by kernel_rfl) (by kernel_rfl) (by kernel_rfl) (fun _ _ _ h => h) (Or.inl ⟨by rfl, ?_⟩) hHeld ?_
        rotate_left
        · (intro wq hSw; have qr0 := hSw.2.1.cell (i := 0) rfl; have qr1 := hSw.2.1.cell (i := 1) rfl; have qr2 := hSw.2.1.cell (i := 2) rfl; have qr3 := hSw.2.1.cell (i := 3) rfl; have qr4 := hSw.2.1.cell (i := 4) rfl; go_simp; try with_reducible rfl)
        try simp only [Act.put, List.setIfInBounds_toArray, List.set_cons_zero, List.set_cons_succ]
        refine wpAnyH_take (i := 8) (oi := ⟨some 84, _, _, _, _, _⟩) (v := ?_) rfl (by kernel_rfl) (by kernel_rfl) (by kernel_rfl) (fun _ _ _ h => h) (Or.inl ⟨by rfl, ?_⟩) hHeld ?_
        rotate_left
        · (intro wq hSw; go_simp; try with_reducible rfl)
        try simp only [Act.put, List.setIfInBounds_toArray, List.set_cons_zero, List.set_cons_succ]
        refine wpAnyH_take (i := 9) (oi := ⟨some 85, _, _, _, _, _⟩) (v := ?_) rfl (by kernel_rfl) (by kernel_rfl) (by kernel_rfl) (fun _ _ _ h => h) (Or.inl ⟨by rfl, ?_⟩) hHeld ?_
        rotate_left
        · (intro wq hSw; go_simp; try with_reducible rfl)
        try simp only [Act.put, List.setIfInBounds_toArray, List.set_cons_zero, List.set_cons_succ]
        refine wpAnyH_take (i := 12) (oi := ⟨some 88, _, _, _, _, _⟩) (v := ?_) rfl (by kernel_rfl) (by kernel_rfl) (by kernel_rfl) (fun _ _ _ h => h) (Or.inl ⟨by rfl, ?_⟩) hHeld ?_
        rotate_left
        · (intro wq hSw; have qp0 := hSw.1.cell (i := 0) rfl; have qp1 := hSw.1.cell (i := 1) rfl; have qp2 := hSw.1.cell (i := 2) rfl; have qp3 := hSw.1.cell (i := 3) rfl; have qp4 := hSw.1.cell (i := 4) rfl; go_simp; try with_reducible rfl)
        try simp only [Act.put, List.setIfInBounds_toArray, List.set_cons_zero, List.set_cons_succ]
        refine wpAnyH_ready (rs := [10]) (by kernel_rfl) (by simp) ?_
        refine AllReadyH.cons (o := ⟨some 86, _, _, _, _, _⟩) rfl (fun KK hK => ?_) AllReadyH.nil
        go_simp
        have hB9 := (Below.refl w17.heap.size w17).alloc (Nat.le_refl _) (.cells #[.string a, .string b] 9)
        have HKK := Lib.hid (rk_new w17 [a, b] 9)
        simp only [List.map_cons, List.map_nil] at HKK
        generalize w17.alloc (.cells #[.string a, .string b] 9) = V18 at *
        have hs9 := hB9.size
        replace HB := Lib.hid (HB.out.trans (hB9.mono hw))
        replace Hp := Lib.hid (Hp.out.below hB9 ltp)
        replace ltp := Nat.lt_of_lt_of_le ltp hs9
        replace Hq := Lib.hid (Hq.out.below hB9 ltq)
        replace ltq := Nat.lt_of_lt_of_le ltq hs9
        replace Hr := Lib.hid (Hr.out.below hB9 ltr)
        replace ltr := Nat.lt_of_lt_of_le ltr hs9
        replace Hs := Lib.hid (Hs.out.below hB9 lts)
        replace lts := Nat.lt_of_lt_of_le lts hs9
        replace Ht := Lib.hid (Ht.out.below hB9 ltt)
        replace ltt := Nat.lt_of_lt_of_le ltt hs9
        replace HR := Lib.hid (HR.out.below hB9 (Nat.le_refl _))
        replace HRQ := Lib.hid (HRQ.out.below hB9 (Nat.le_refl _))
        replace HRR := Lib.hid (HRR.out.below hB9 (Nat.le_refl _))
        replace HRS := Lib.hid (HRS.out.below hB9 (Nat.le_refl _))
        replace HRT := Lib.hid (HRT.out.below hB9 (Nat.le_refl _))
        replace hw := Nat.le_trans hw hs9
        clear hB9 hs9
        refine hK.out _ _ ?_ (fun hHeld2 => ?_)
        · exact ⟨Hp.out, Hr.out, Ht.out⟩
        clear hK KK hHeld
        have hHeld := hHeld2
        clear hHeld2
        try simp only [Act.put, List.setIfInBounds_toArray, List.set_cons_zero, List.set_cons_succ]
        refine wpAnyH_ready (rs := [11]) (by kernel_rfl) (by simp) ?_
        refine AllReadyH.cons (o := ⟨some 87, _, _, _, _, _⟩) rfl (fun KK hK => ?_) AllReadyH.nil
        go_simp
        go_at_call 25
        refine (remove_any lv A3 c3 hi la rt us _ 2 2 [a, b] _ (m + 1 + 1) hul (by omega) HRR.out rfl (by omega) (HKK.out.below (Below.refl _ _) (Nat.le_refl _)) (by intro k hk; simp at hk; rcases hk with rfl | rfl; exact HSA.out; exact HSB.out) HXU.out ys HREM2.out m hm).mono ?_; rintro e w19 ⟨A9, c9, rfl, hO9, hB9⟩
        have HRX := Lib.hid (rs_own hO9)
        clear hO9 HKK
        have hs9 := hB9.size
        replace HB := Lib.hid (HB.out.trans (hB9.mono hw))
        replace Hp := Lib.hid (Hp.out.below hB9 ltp)
        replace ltp := Nat.lt_of_lt_of_le ltp hs9
        replace Hq := Lib.hid (Hq.out.below hB9 ltq)
        replace ltq := Nat.lt_of_lt_of_le ltq hs9
        replace Hr := Lib.hid (Hr.out.below hB9 ltr)
        replace ltr := Nat.lt_of_lt_of_le ltr hs9
        replace Hs := Lib.hid (Hs.out.below hB9 lts)
        replace lts := Nat.lt_of_lt_of_le lts hs9
        replace Ht := Lib.hid (Ht.out.below hB9 ltt)
        replace ltt := Nat.lt_of_lt_of_le ltt hs9
        replace HR := Lib.hid (HR.out.below hB9 (Nat.le_refl _))
        replace HRQ := Lib.hid (HRQ.out.below hB9 (Nat.le_refl _))
        replace HRR := Lib.hid (HRR.out.below hB9 (Nat.le_refl _))
        replace HRS := Lib.hid (HRS.out.below hB9 (Nat.le_refl _))
        replace HRT := Lib.hid (HRT.out.below hB9 (Nat.le_refl _))
        replace hw := Nat.le_trans hw hs9
        clear hB9 hs9
        refine hK.out _ _ ?_ (fun hHeld2 => ?_)
        · exact ⟨Hp.out, Hr.out, Ht.out⟩
        clear hK KK hHeld
        have hHeld := hHeld2
        clear hHeld2
        try simp only [Act.put, List.setIfInBounds_toArray, List.set_cons_zero, List.set_cons_succ]
        refine wpAnyH_ready (rs := [13]) (by kernel_rfl) (by simp) ?_
        refine AllReadyH.cons (o := ⟨some 89, _, _, _, _, _⟩) rfl (fun KK hK => ?_) AllReadyH.nil
        go_simp
        go_at_call 23
        refine (refSame_yes lv A9 A1 c9 c1 hi la rt ys _ m hm (by omega) HRX.out HR.out).mono ?_; rintro e w20 ⟨rfl, hB9⟩
        have hs9 := hB9.size
        replace HB := Lib.hid (HB.out.trans (hB9.mono hw))
        replace Hp := Lib.hid (Hp.out.below hB9 ltp)
        replace ltp := Nat.lt_of_lt_of_le ltp hs9
        replace Hq := Lib.hid (Hq.out.below hB9 ltq)
        replace ltq := Nat.lt_of_lt_of_le ltq hs9
        replace Hr := Lib.hid (Hr.out.below hB9 ltr)
        replace ltr := Nat.lt_of_lt_of_le ltr hs9
        replace Hs := Lib.hid (Hs.out.below hB9 lts)
        replace lts := Nat.lt_of_lt_of_le lts hs9
        replace Ht := Lib.hid (Ht.out.below hB9 ltt)
        replace ltt := Nat.lt_of_lt_of_le ltt hs9
        replace HR := Lib.hid (HR.out.below hB9 (Nat.le_refl _))
        replace HRQ := Lib.hid (HRQ.out.below hB9 (Nat.le_refl _))
        replace HRR := Lib.hid (HRR.out.below hB9 (Nat.le_refl _))
        replace HRS := Lib.hid (HRS.out.below hB9 (Nat.le_refl _))
        replace HRT := Lib.hid (HRT.out.below hB9 (Nat.le_refl _))
        replace HRX := Lib.hid (HRX.out.below hB9 (Nat.le_refl _))
        replace hw := Nat.le_trans hw hs9
        clear hB9 hs9
        refine hK.out _ _ ?_ (fun hHeld2 => ?_)
        · exact ⟨Hp.out, Hr.out, Ht.out⟩
        clear hK KK hHeld
        have hHeld := hHeld2
        clear hHeld2
        try simp only [Act.put, List.setIfInBounds_toArray, List.set_cons_zero, List.set_cons_succ]
        refine wpAnyH_take (i := 14) (oi := ⟨some 90, _, _, _, _, _⟩) (v := ?_) rfl (by kernel_rfl) (by kernel_rfl) (by kernel_rfl) (fun _ _ _ h => h) (Or.inl ⟨by rfl, ?_⟩) hHeld ?_
        rotate_left
        · (intro wq hSw; go_simp; try with_reducible rfl)
        try simp only [Act.put, List.setIfInBounds_toArray, List.set_cons_zero, List.set_cons_succ]
        refine wpAnyH_take (i := 15) (oi := ⟨some 10, _, _, _, _, _⟩) (v := ?_) rfl (by kernel_rfl) (by kernel_rfl) (by kernel_rfl) (fun _ _ _ h => h) (Or.inl ⟨by rfl, ?_⟩) hHeld ?_
        rotate_left
        · (intro wq hSw; go_simp; try with_reducible rfl)
        try simp only [Act.put, List.setIfInBounds_toArray, List.set_cons_zero, List.set_cons_succ]
        refine wpAnyH_done (by kernel_rfl) ?_ _
        clear hHeld
        go_wp2
        go_ret
        exact ⟨by simp, HB.out⟩
      · have hkq : has b zs = true := by rw [← HZS.out, ins_has, hkb, Bool.or_true]
        have pc0 := Hp.out.cell (i := 0) rfl
        have pc1 := Hp.out.cell (i := 1) rfl
        have pc2 := Hp.out.cell (i := 2) rfl
        have pc3 := Hp.out.cell (i := 3) rfl
        have pc4 := Hp.out.cell (i := 4) rfl
        have qc0 := Hq.out.cell (i := 0) rfl
        have qc1 := Hq.out.cell (i := 1) rfl
        have qc2 := Hq.out.cell (i := 2) rfl
        have qc3 := Hq.out.cell (i := 3) rfl
        have qc4 := Hq.out.cell (i := 4) rfl
        go_wp2_with fail
        refine (insert_no lv _ c2 hi la rt zs b y _ (m + 1) hzl (by omega) HRQ.out HZA.out hkq).mono ?_; rintro e w5 ⟨rfl, hB9⟩
        clear pc0 pc1 pc2 pc3 pc4 qc0 qc1 qc2 qc3 qc4
        have hs9 := hB9.size
        replace HB := Lib.hid (HB.out.trans (hB9.mono hw))
        replace Hp := Lib.hid (Hp.out.below hB9 ltp)
        replace ltp := Nat.lt_of_lt_of_le ltp hs9
        replace Hq := Lib.hid (Hq.out.below hB9 ltq)
        replace ltq := Nat.lt_of_lt_of_le ltq hs9
        replace HR := Lib.hid (HR.out.below hB9 (Nat.le_refl _))
        replace HRQ := Lib.hid (HRQ.out.below hB9 (Nat.le_refl _))
        replace hw := Nat.le_trans hw hs9
        clear hB9 hs9
        have pc0 := Hp.out.cell (i := 0) rfl
        have pc1 := Hp.out.cell (i := 1) rfl
        have pc2 := Hp.out.cell (i := 2) rfl
        have pc3 := Hp.out.cell (i := 3) rfl
        have pc4 := Hp.out.cell (i := 4) rfl
        have qc0 := Hq.out.cell (i := 0) rfl
        have qc1 := Hq.out.cell (i := 1) rfl
        have qc2 := Hq.out.cell (i := 2) rfl
        have qc3 := Hq.out.cell (i := 3) rfl
        have qc4 := Hq.out.cell (i := 4) rfl
        go_wp2_with fail
        clear pc0 pc1 pc2 pc3 pc4 qc0 qc1 qc2 qc3 qc4
        have Hr := Lib.hid (Blk.new w5 [.int .i64 0, .slice none 0 0, .string ⟨#[]⟩, .bool false, .int .u64 0] 25)
        replace Hp := Lib.hid (Hp.out.alloc (.cells #[.int .i64 0, .slice none 0 0, .string ⟨#[]⟩, .bool false, .int .u64 0] 25))
        replace Hq := Lib.hid (Hq.out.alloc (.cells #[.int .i64 0, .slice none 0 0, .string ⟨#[]⟩, .bool false, .int .u64 0] 25))
        replace HR := Lib.hid (HR.out.below ((Below.refl _ _).alloc (Nat.le_refl _) (.cells #[.int .i64 0, .slice none 0 0, .string ⟨#[]⟩, .bool false, .int .u64 0] 25)) (Nat.le_refl _))
        replace HRQ := Lib.hid (HRQ.out.below ((Below.refl _ _).alloc (Nat.le_refl _) (.cells #[.int .i64 0, .slice none 0 0, .string ⟨#[]⟩, .bool false, .int .u64 0] 25)) (Nat.le_refl _))
        replace HB := Lib.hid (HB.out.alloc hw (.cells #[.int .i64 0, .slice none 0 0, .string ⟨#[]⟩, .bool false, .int .u64 0] 25))
        have hz9 : (w5.alloc (.cells #[.int .i64 0, .slice none 0 0, .string ⟨#[]⟩, .bool false, .int .u64 0] 25)).heap.size = w5.heap.size + 1 := nblk_alloc _ _
        generalize w5.alloc (.cells #[.int .i64 0, .slice none 0 0, .string ⟨#[]⟩, .bool false, .int .u64 0] 25) = V6 at *
        generalize w5.heap.size = br at *
        have ltr : br < V6.heap.size := by omega
        replace ltp : bp < V6.heap.size := by omega
        replace ltq : bq < V6.heap.size := by omega
        replace hw : w.heap.size ≤ V6.heap.size := by omega
        clear hz9
        have pc0 := Hp.out.cell (i := 0) rfl
        have pc1 := Hp.out.cell (i := 1) rfl
        have pc2 := Hp.out.cell (i := 2) rfl
        have pc3 := Hp.out.cell (i := 3) rfl
        have pc4 := Hp.out.cell (i := 4) rfl
        have qc0 := Hq.out.cell (i := 0) rfl
        have qc1 := Hq.out.cell (i := 1) rfl
        have qc2 := Hq.out.cell (i := 2) rfl
        have qc3 := Hq.out.cell (i := 3) rfl
        have qc4 := Hq.out.cell (i := 4) rfl
        have rc0 := Hr.out.cell (i := 0) rfl
        have rc1 := Hr.out.cell (i := 1) rfl
        have rc2 := Hr.out.cell (i := 2) rfl
        have rc3 := Hr.out.cell (i := 3) rfl
        have rc4 := Hr.out.cell (i := 4) rfl
        go_wp2_with fail
        refine (insert_no lv _ c1 hi la rt ys b y _ m hm (by omega) HR.out HASC.out hkb).mono ?_; rintro e w7 ⟨rfl, hB9⟩
        clear pc0 pc1 pc2 pc3 pc4 qc0 qc1 qc2 qc3 qc4 rc0 rc1 rc2 rc3 rc4
        have hs9 := hB9.size
        replace HB := Lib.hid (HB.out.trans (hB9.mono hw))
        replace Hp := Lib.hid (Hp.out.below hB9 ltp)
        replace ltp := Nat.lt_of_lt_of_le ltp hs9
        replace Hq := Lib.hid (Hq.out.below hB9 ltq)
        replace ltq := Nat.lt_of_lt_of_le ltq hs9
        replace Hr := Lib.hid (Hr.out.below hB9 ltr)
        replace ltr := Nat.lt_of_lt_of_le ltr hs9
        replace HR := Lib.hid (HR.out.below hB9 (Nat.le_refl _))
        replace HRQ := Lib.hid (HRQ.out.below hB9 (Nat.le_refl _))
        replace hw := Nat.le_trans hw hs9
        clear hB9 hs9
        have pc0 := Hp.out.cell (i := 0) rfl
        have pc1 := Hp.out.cell (i := 1) rfl
        have pc2 := Hp.out.cell (i := 2) rfl
        have pc3 := Hp.out.cell (i := 3) rfl
        have pc4 := Hp.out.cell (i := 4) rfl
        have qc0 := Hq.out.cell (i := 0) rfl
        have qc1 := Hq.out.cell (i := 1) rfl
        have qc2 := Hq.out.cell (i := 2) rfl
        have qc3 := Hq.out.cell (i := 3) rfl
        have qc4 := Hq.out.cell (i := 4) rfl
        have rc0 := Hr.out.cell (i := 0) rfl
        have rc1 := Hr.out.cell (i := 1) rfl
        have rc2 := Hr.out.cell (i := 2) rfl
        have rc3 := Hr.out.cell (i := 3) rfl
        have rc4 := Hr.out.cell (i := 4) rfl
        go_wp2_with fail
        clear pc0 pc1 pc2 pc3 pc4 qc0 qc1 qc2 qc3 qc4 rc0 rc1 rc2 rc3 rc4
        have Hs := Lib.hid (Blk.new w7 [.int .i64 0, .slice none 0 0, .string ⟨#[]⟩, .bool false, .int .u64 0] 25)
        replace Hp := Lib.hid (Hp.out.alloc (.cells #[.int .i64 0, .slice none 0 0, .string ⟨#[]⟩, .bool false, .int .u64 0] 25))
        replace Hq := Lib.hid (Hq.out.alloc (.cells #[.int .i64 0, .slice none 0 0, .string ⟨#[]⟩, .bool false, .int .u64 0] 25))
        replace Hr := Lib.hid (Hr.out.alloc (.cells #[.int .i64 0, .slice none 0 0, .string ⟨#[]⟩, .bool false, .int .u64 0] 25))
        replace HR := Lib.hid (HR.out.below ((Below.refl _ _).alloc (Nat.le_refl _) (.cells #[.int .i64 0, .slice none 0 0, .string ⟨#[]⟩, .bool false, .int .u64 0] 25)) (Nat.le_refl _))
        replace HRQ := Lib.hid (HRQ.out.below ((Below.refl _ _).alloc (Nat.le_refl _) (.cells #[.int .i64 0, .slice none 0 0, .string ⟨#[]⟩, .bool false, .int .u64 0] 25)) (Nat.le_refl _))
        replace HB := Lib.hid (HB.out.alloc hw (.cells #[.int .i64 0, .slice none 0 0, .string ⟨#[]⟩, .bool false, .int .u64 0] 25))
        have hz9 : (w7.alloc (.cells #[.int .i64 0, .slice none 0 0, .string ⟨#[]⟩, .bool false, .int .u64 0] 25)).heap.size = w7.heap.size + 1 := nblk_alloc _ _
        generalize w7.alloc (.cells #[.int .i64 0, .slice none 0 0, .string ⟨#[]⟩, .bool false, .int .u64 0] 25) = V8 at *
        generalize w7.heap.size = bs at *
        have lts : bs < V8.heap.size := by omega
        replace ltp : bp < V8.heap.size := by omega
        replace ltq : bq < V8.heap.size := by omega
        replace ltr : br < V8.heap.size := by omega
        replace hw : w.heap.size ≤ V8.heap.size := by omega
        clear hz9
        go_upto_region 7 with fail
        refine wp_region_held_drew (S := (fun w' => Blk w' bp 25 [.int .i64 lv, .slice A1 m c1, .string hi, .bool la, .int .u64 (rt : Int)] ∧ Blk w' bq 25 [.int .i64 lv, .slice A2 (m + 1) c2, .string hi, .bool la, .int .u64 (rt : Int)])) (by kernel_rfl) ?_ (fun hHeld => ?_)
        · exact ⟨Hp.out, Hq.out⟩
        have hB9 := (Below.refl V8.heap.size V8).drew
        generalize V8.drew = G9 at *
        have hs9 := hB9.size
        replace HB := Lib.hid (HB.out.trans (hB9.mono hw))
        replace Hp := Lib.hid (Hp.out.below hB9 ltp)
        replace ltp := Nat.lt_of_lt_of_le ltp hs9
        replace Hq := Lib.hid (Hq.out.below hB9 ltq)
        replace ltq := Nat.lt_of_lt_of_le ltq hs9
        replace Hr := Lib.hid (Hr.out.below hB9 ltr)
        replace ltr := Nat.lt_of_lt_of_le ltr hs9
        replace Hs := Lib.hid (Hs.out.below hB9 lts)
        replace lts := Nat.lt_of_lt_of_le lts hs9
        replace HR := Lib.hid (HR.out.below hB9 (Nat.le_refl _))
        replace HRQ := Lib.hid (HRQ.out.below hB9 (Nat.le_refl _))
        replace hw := Nat.le_trans hw hs9
        clear hB9 hs9
        refine wpAnyH_ready (rs := [0]) (by kernel_rfl) (by simp) ?_
        refine AllReadyH.cons (o := ⟨some 51, _, _, _, _, _⟩) rfl (fun KK hK => ?_) AllReadyH.nil
        go_simp
        go_at_call 9
        refine (awake_any _).mono ?_; rintro e w10 ⟨rfl, hB9⟩
        have hs9 := hB9.size
        replace HB := Lib.hid (HB.out.trans (hB9.mono hw))
        replace Hp := Lib.hid (Hp.out.below hB9 ltp)
        replace ltp := Nat.lt_of_lt_of_le ltp hs9
        replace Hq := Lib.hid (Hq.out.below hB9 ltq)
        replace ltq := Nat.lt_of_lt_of_le ltq hs9
        replace Hr := Lib.hid (Hr.out.below hB9 ltr)
        replace ltr := Nat.lt_of_lt_of_le ltr hs9
        replace Hs := Lib.hid (Hs.out.below hB9 lts)
        replace lts := Nat.lt_of_lt_of_le lts hs9
        replace HR := Lib.hid (HR.out.below hB9 (Nat.le_refl _))
        replace HRQ := Lib.hid (HRQ.out.below hB9 (Nat.le_refl _))
        replace hw := Nat.le_trans hw hs9
        clear hB9 hs9
        refine hK.out _ _ ?_ (fun hHeld2 => ?_)
        · exact ⟨Hp.out, Hq.out⟩
        clear hK KK hHeld
        have hHeld := hHeld2
        clear hHeld2
        try simp only [Act.put, List.setIfInBounds_toArray, List.set_cons_zero, List.set_cons_succ]
        refine wpAnyH_take (i := 1) (oi := ⟨some 52, _, _, _, _, _⟩) (v := ?_) rfl (by kernel_rfl) (by kernel_rfl) (by kernel_rfl) (fun _ _ _ h => h) (Or.inl ⟨by rfl, ?_⟩) hHeld ?_
        rotate_left
        · (intro wq hSw; go_simp; try with_reducible rfl)
        try simp only [Act.put, List.setIfInBounds_toArray, List.set_cons_zero, List.set_cons_succ]
        refine wpAnyH_take (i := 2) (oi := ⟨some 53, _, _, _, _, _⟩) (v := ?_) rfl (by kernel_rfl) (by kernel_rfl) (by kernel_rfl) (fun _ _ _ h => h) (Or.inl ⟨by rfl, ?_⟩) hHeld ?_
        rotate_left
        · (intro wq hSw; go_simp; try with_reducible rfl)
        try simp only [Act.put, List.setIfInBounds_toArray, List.set_cons_zero, List.set_cons_succ]
        refine wpAnyH_take (i := 3) (oi := ⟨some 54, _, _, _, _, _⟩) (v := ?_) rfl (by kernel_rfl) (by kernel_rfl) (by kernel_rfl) (fun _ _ _ h => h) (Or.inl ⟨by rfl, ?_⟩) hHeld ?_
        rotate_left
        · (intro wq hSw; go_simp; try with_reducible rfl)
        try simp only [Act.put, List.setIfInBounds_toArray, List.set_cons_zero, List.set_cons_succ]
        refine wpAnyH_take (i := 4) (oi := ⟨some 55, _, _, _, _, _⟩) (v := ?_) rfl (by kernel_rfl) (by kernel_rfl) (by kernel_rfl) (fun _ _ _ h => h) (Or.inl ⟨by rfl, ?_⟩) hHeld ?_
        rotate_left
        · (intro wq hSw; go_simp; try with_reducible rfl)
        try simp only [Act.put, List.setIfInBounds_toArray, List.set_cons_zero, List.set_cons_succ]
        refine wpAnyH_take (i := 5) (oi := ⟨some 56, _, _, _, _, _⟩) (v := ?_) rfl (by kernel_rfl) (by kernel_rfl) (by kernel_rfl) (fun _ _ _ h => h) (Or.inl ⟨by rfl, ?_⟩) hHeld ?_
        rotate_left
        · (intro wq hSw; go_simp; try with_reducible rfl)
        try simp only [Act.put, List.setIfInBounds_toArray, List.set_cons_zero, List.set_cons_succ]
        refine wpAnyH_take (i := 6) (oi := ⟨some 57, _, _, _, _, _⟩) (v := ?_) rfl (by kernel_rfl) (by kernel_rfl) (by kernel_rfl) (fun _ _ _ h => h) (Or.inl ⟨by rfl, ?_⟩) hHeld ?_
        rotate_left
        · (intro wq hSw; go_simp; try with_reducible rfl)
        try simp only [Act.put, List.setIfInBounds_toArray, List.set_cons_zero, List.set_cons_succ]
        refine wpAnyH_take (i := 7) (oi := ⟨some 58, _, _, _, _, _⟩) (v := ?_) rfl (by kernel_rfl) (by kernel_rfl) (by kernel_rfl) (fun _ _ _ h => h) (Or.inl ⟨by rfl, ?_⟩) hHeld ?_
        rotate_left
        · (intro wq hSw; go_simp; try with_reducible rfl)
        try simp only [Act.put, List.setIfInBounds_toArray, List.set_cons_zero, List.set_cons_succ]
        refine wpAnyH_take (i := 8) (oi := ⟨some 59, _, _, _, _, _⟩) (v := ?_) rfl (by kernel_rfl) (by kernel_rfl) (by kernel_rfl) (fun _ _ _ h => h) (Or.inl ⟨by rfl, ?_⟩) hHeld ?_
        rotate_left
        · (intro wq hSw; have qq0 := hSw.2.cell (i := 0) rfl; have qq1 := hSw.2.cell (i := 1) rfl; have qq2 := hSw.2.cell (i := 2) rfl; have qq3 := hSw.2.cell (i := 3) rfl; have qq4 := hSw.2.cell (i := 4) rfl; go_simp; try with_reducible rfl)
        try simp only [Act.put, List.setIfInBounds_toArray, List.set_cons_zero, List.set_cons_succ]
        refine wpAnyH_take (i := 9) (oi := ⟨some 60, _, _, _, _, _⟩) (v := ?_) rfl (by kernel_rfl) (by kernel_rfl) (by kernel_rfl) (fun _ _ _ h => h) (Or.inl ⟨by rfl, ?_⟩) hHeld ?_
        rotate_left
        · (intro wq hSw; go_simp; try with_reducible rfl)
        try simp only [Act.put, List.setIfInBounds_toArray, List.set_cons_zero, List.set_cons_succ]
        refine wpAnyH_take (i := 12) (oi := ⟨some 63, _, _, _, _, _⟩) (v := ?_) rfl (by kernel_rfl) (by kernel_rfl) (by kernel_rfl) (fun _ _ _ h => h) (Or.inl ⟨by rfl, ?_⟩) hHeld ?_
        rotate_left
        · (intro wq hSw; have qp0 := hSw.1.cell (i := 0) rfl; have qp1 := hSw.1.cell (i := 1) rfl; have qp2 := hSw.1.cell (i := 2) rfl; have qp3 := hSw.1.cell (i := 3) rfl; have qp4 := hSw.1.cell (i := 4) rfl; go_simp; try with_reducible rfl)
        try simp only [Act.put, List.setIfInBounds_toArray, List.set_cons_zero, List.set_cons_succ]
        refine wpAnyH_ready (rs := [10]) (by kernel_rfl) (by simp) ?_
        refine AllReadyH.cons (o := ⟨some 61, _, _, _, _, _⟩) rfl (fun KK hK => ?_) AllReadyH.nil
        go_simp
        have hB9 := (Below.refl w10.heap.size w10).alloc (Nat.le_refl _) (.cells #[.string a] 9)
        have HKK := Lib.hid (rk_new w10 [a] 9)
        simp only [List.map_cons, List.map_nil] at HKK
        generalize w10.alloc (.cells #[.string a] 9) = V11 at *
        have hs9 := hB9.size
        replace HB := Lib.hid (HB.out.trans (hB9.mono hw))
        replace Hp := Lib.hid (Hp.out.below hB9 ltp)
        replace ltp := Nat.lt_of_lt_of_le ltp hs9
        replace Hq := Lib.hid (Hq.out.below hB9 ltq)
        replace ltq := Nat.lt_of_lt_of_le ltq hs9
        replace Hr := Lib.hid (Hr.out.below hB9 ltr)
        replace ltr := Nat.lt_of_lt_of_le ltr hs9
        replace Hs := Lib.hid (Hs.out.below hB9 lts)
        replace lts := Nat.lt_of_lt_of_le lts hs9
        replace HR := Lib.hid (HR.out.below hB9 (Nat.le_refl _))
        replace HRQ := Lib.hid (HRQ.out.below hB9 (Nat.le_refl _))
        replace hw := Nat.le_trans hw hs9
        clear hB9 hs9
        refine hK.out _ _ ?_ (fun hHeld2 => ?_)
        · exact ⟨Hp.out, Hq.out⟩
        clear hK KK hHeld
        have hHeld := hHeld2
        clear hHeld2
        try simp only [Act.put, List.setIfInBounds_toArray, List.set_cons_zero, List.set_cons_succ]
        refine wpAnyH_ready (rs := [11]) (by kernel_rfl) (by simp) ?_
        refine AllReadyH.cons (o := ⟨some 62, _, _, _, _, _⟩) rfl (fun KK hK => ?_) AllReadyH.nil
        go_simp
        go_at_call 25
        refine (remove_any lv A2 c2 hi la rt zs _ 1 1 [a] _ (m + 1) hzl (by omega) HRQ.out rfl (by omega) (HKK.out.below (Below.refl _ _) (Nat.le_refl _)) (by intro k hk; simp at hk; subst hk; exact HSA.out) HXS.out ys HREM.out m hm).mono ?_; rintro e w12 ⟨A9, c9, rfl, hO9, hB9⟩
        have HRX := Lib.hid (rs_own hO9)
        clear hO9 HKK
        have hs9 := hB9.size
        replace HB := Lib.hid (HB.out.trans (hB9.mono hw))
        replace Hp := Lib.hid (Hp.out.below hB9 ltp)
        replace ltp := Nat.lt_of_lt_of_le ltp hs9
        replace Hq := Lib.hid (Hq.out.below hB9 ltq)
        replace ltq := Nat.lt_of_lt_of_le ltq hs9
        replace Hr := Lib.hid (Hr.out.below hB9 ltr)
        replace ltr := Nat.lt_of_lt_of_le ltr hs9
        replace Hs := Lib.hid (Hs.out.below hB9 lts)
        replace lts := Nat.lt_of_lt_of_le lts hs9
        replace HR := Lib.hid (HR.out.below hB9 (Nat.le_refl _))
        replace HRQ := Lib.hid (HRQ.out.below hB9 (Nat.le_refl _))
        replace hw := Nat.le_trans hw hs9
        clear hB9 hs9
        refine hK.out _ _ ?_ (fun hHeld2 => ?_)
        · exact ⟨Hp.out, Hq.out⟩
        clear hK KK hHeld
        have hHeld := hHeld2
        clear hHeld2
        try simp only [Act.put, List.setIfInBounds_toArray, List.set_cons_zero, List.set_cons_succ]
        refine wpAnyH_ready (rs := [13]) (by kernel_rfl) (by simp) ?_
        refine AllReadyH.cons (o := ⟨some 64, _, _, _, _, _⟩) rfl (fun KK hK => ?_) AllReadyH.nil
        go_simp
        go_at_call 23
        refine (refSame_yes lv A9 A1 c9 c1 hi la rt ys _ m hm (by omega) HRX.out HR.out).mono ?_; rintro e w13 ⟨rfl, hB9⟩
        have hs9 := hB9.size
        replace HB := Lib.hid (HB.out.trans (hB9.mono hw))
        replace Hp := Lib.hid (Hp.out.below hB9 ltp)
        replace ltp := Nat.lt_of_lt_of_le ltp hs9
        replace Hq := Lib.hid (Hq.out.below hB9 ltq)
        replace ltq := Nat.lt_of_lt_of_le ltq hs9
        replace Hr := Lib.hid (Hr.out.below hB9 ltr)
        replace ltr := Nat.lt_of_lt_of_le ltr hs9
        replace Hs := Lib.hid (Hs.out.below hB9 lts)
        replace lts := Nat.lt_of_lt_of_le lts hs9
        replace HR := Lib.hid (HR.out.below hB9 (Nat.le_refl _))
        replace HRQ := Lib.hid (HRQ.out.below hB9 (Nat.le_refl _))
        replace HRX := Lib.hid (HRX.out.below hB9 (Nat.le_refl _))
        replace hw := Nat.le_trans hw hs9
        clear hB9 hs9
        refine hK.out _ _ ?_ (fun hHeld2 => ?_)
        · exact ⟨Hp.out, Hq.out⟩
        clear hK KK hHeld
        have hHeld := hHeld2
        clear hHeld2
        try simp only [Act.put, List.setIfInBounds_toArray, List.set_cons_zero, List.set_cons_succ]
        refine wpAnyH_take (i := 14) (oi := ⟨some 65, _, _, _, _, _⟩) (v := ?_) rfl (by kernel_rfl) (by kernel_rfl) (by kernel_rfl) (fun _ _ _ h => h) (Or.inl ⟨by rfl, ?_⟩) hHeld ?_
        rotate_left
        · (intro wq hSw; go_simp; try with_reducible rfl)
        try simp only [Act.put, List.setIfInBounds_toArray, List.set_cons_zero, List.set_cons_succ]
        refine wpAnyH_take (i := 15) (oi := ⟨some 66, _, _, _, _, _⟩) (v := ?_) rfl (by kernel_rfl) (by kernel_rfl) (by kernel_rfl) (fun _ _ _ h => h) (Or.inl ⟨by rfl, ?_⟩) hHeld ?_
        rotate_left
        · (intro wq hSw; go_simp; try with_reducible rfl)
        try simp only [Act.put, List.setIfInBounds_toArray, List.set_cons_zero, List.set_cons_succ]
        refine wpAnyH_done (by kernel_rfl) ?_ _
        clear hHeld
        clear HRX
        have pc0 := Hp.out.cell (i := 0) rfl
        have pc1 := Hp.out.cell (i := 1) rfl
        have pc2 := Hp.out.cell (i := 2) rfl
        have pc3 := Hp.out.cell (i := 3) rfl
        have pc4 := Hp.out.cell (i := 4) rfl
        have qc0 := Hq.out.cell (i := 0) rfl
        have qc1 := Hq.out.cell (i := 1) rfl
        have qc2 := Hq.out.cell (i := 2) rfl
        have qc3 := Hq.out.cell (i := 3) rfl
        have qc4 := Hq.out.cell (i := 4) rfl
        have rc0 := Hr.out.cell (i := 0) rfl
        have rc1 := Hr.out.cell (i := 1) rfl
        have rc2 := Hr.out.cell (i := 2) rfl
        have rc3 := Hr.out.cell (i := 3) rfl
        have rc4 := Hr.out.cell (i := 4) rfl
        have sc0 := Hs.out.cell (i := 0) rfl
        have sc1 := Hs.out.cell (i := 1) rfl
        have sc2 := Hs.out.cell (i := 2) rfl
        have sc3 := Hs.out.cell (i := 3) rfl
        have sc4 := Hs.out.cell (i := 4) rfl
        go_wp2
        go_ret
        exact ⟨rfl, HB.out⟩
  · have pc0 := Hp.out.cell (i := 0) rfl
    have pc1 := Hp.out.cell (i := 1) rfl
    have pc2 := Hp.out.cell (i := 2) rfl
    have pc3 := Hp.out.cell (i := 3) rfl
    have pc4 := Hp.out.cell (i := 4) rfl
    go_wp2_with fail
    refine (insert_no lv _ c1 hi la rt ys a x _ m hm (by omega) HR.out HASC.out hka).mono ?_; rintro e w3 ⟨rfl, hB9⟩
    clear pc0 pc1 pc2 pc3 pc4
    have hs9 := hB9.size
    replace HB := Lib.hid (HB.out.trans (hB9.mono hw))
    replace Hp := Lib.hid (Hp.out.below hB9 ltp)
    replace ltp := Nat.lt_of_lt_of_le ltp hs9
    replace HR := Lib.hid (HR.out.below hB9 (Nat.le_refl _))
    replace hw := Nat.le_trans hw hs9
    clear hB9 hs9
    have pc0 := Hp.out.cell (i := 0) rfl
    have pc1 := Hp.out.cell (i := 1) rfl
    have pc2 := Hp.out.cell (i := 2) rfl
    have pc3 := Hp.out.cell (i := 3) rfl
    have pc4 := Hp.out.cell (i := 4) rfl
    go_wp2_with fail
    clear pc0 pc1 pc2 pc3 pc4
    have Hq := Lib.hid (Blk.new w3 [.int .i64 0, .slice none 0 0, .string ⟨#[]⟩, .bool false, .int .u64 0] 25)
    replace Hp := Lib.hid (Hp.out.alloc (.cells #[.int .i64 0, .slice none 0 0, .string ⟨#[]⟩, .bool false, .int .u64 0] 25))
    replace HR := Lib.hid (HR.out.below ((Below.refl _ _).alloc (Nat.le_refl _) (.cells #[.int .i64 0, .slice none 0 0, .string ⟨#[]⟩, .bool false, .int .u64 0] 25)) (Nat.le_refl _))
    replace HB := Lib.hid (HB.out.alloc hw (.cells #[.int .i64 0, .slice none 0 0, .string ⟨#[]⟩, .bool false, .int .u64 0] 25))
    have hz9 : (w3.alloc (.cells #[.int .i64 0, .slice none 0 0, .string ⟨#[]⟩, .bool false, .int .u64 0] 25)).heap.size = w3.heap.size + 1 := nblk_alloc _ _
    generalize w3.alloc (.cells #[.int .i64 0, .slice none 0 0, .string ⟨#[]⟩, .bool false, .int .u64 0] 25) = V4 at *
    generalize w3.heap.size = bq at *
    have ltq : bq < V4.heap.size := by omega
    replace ltp : bp < V4.heap.size := by omega
    replace hw : w.heap.size ≤ V4.heap.size := by omega
    clear hz9
    go_wp2_with fail
    refine (awake_any _).mono ?_; rintro e w9 ⟨rfl, hB9⟩
    have hs9 := hB9.size
    replace HB := Lib.hid (HB.out.trans (hB9.mono hw))
    replace Hp := Lib.hid (Hp.out.below hB9 ltp)
    replace ltp := Nat.lt_of_lt_of_le ltp hs9
    replace Hq := Lib.hid (Hq.out.below hB9 ltq)
    replace ltq := Nat.lt_of_lt_of_le ltq hs9
    replace HR := Lib.hid (HR.out.below hB9 (Nat.le_refl _))
    replace hw := Nat.le_trans hw hs9
    clear hB9 hs9
    go_wp2
    go_ret
    exact ⟨rfl, HB.out⟩
end Go.Proofs.Ytegbdpelnmaijaa
