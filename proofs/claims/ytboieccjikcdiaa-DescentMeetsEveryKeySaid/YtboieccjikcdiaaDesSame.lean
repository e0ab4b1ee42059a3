/-
  The reference's Same of pages: it answers something, and true where the pages are equal. Condition: at most 2^40 slots.
-/
import Derived.Test.YtboieccjikcdiaaDesAds
namespace Go.Proofs.Ytboieccjikcdiaa
open Go.RowKit Go.Deep Plain
set_option linter.unusedVariables false

theorem _root_.Go.RowKit.Below.kept0 {w w' : World} (h : Below w.heap.size w w') : Kept (fun _ => False) w w' := ⟨h.os, h.tape, h.output, h.size, fun i hi _ => h.block i hi⟩

theorem neq_slot (x y : Sl) (w : World) :
    (binOp .neq 65 (.agg #[.string x.1, .int .u64 (x.2 : Int)]) (.agg #[.string y.1, .int .u64 (y.2 : Int)])).run Try.prog w = .ok (.bool (!(decide (x = y)))) w := by
  obtain ⟨k, r⟩ := x
  obtain ⟨k', r'⟩ := y
  by_cases h2 : k = k'
  · subst h2
    by_cases h3 : r = r'
    · subst h3
      simp [go_sem]
    · have h4 : ¬ (r : Int) = (r' : Int) := by omega
      simp [go_sem, h3, h4]
  · have h4 : ¬ k.toList = k'.toList := fun e => h2 (toList_inj e)
    simp [go_sem, h2, h4]

set_option maxHeartbeats 2000000 in
theorem same_no1 (lv : Nat) (hi : ByteArray) (la : Bool) (rt n : Nat) (xs xs2 : List Sl) (A A2 : Option Addr) (c c2 : Nat) (lv2 : Nat) (hi2 : ByteArray) (la2 : Bool) (rt2 : Nat) (n2 : Nat) (w : World) (hn : xs.length = n) (hn2 : xs2.length = n2) (hR : Rs w A c xs) (hR2 : Rs w A2 c2 xs2) (hd : ¬ lv = lv2) :
    Calls Try.prog 22 #[.agg #[.int .i64 (lv : Int), .slice A n c, .string hi, .bool la, .int .u64 (rt : Int)], .agg #[.int .i64 (lv2 : Int), .slice A2 n2 c2, .string hi2, .bool la2, .int .u64 (rt2 : Int)]] w fun e w' => e = .returned (.bool false) ∧ Kept (fun _ => False) w w' := by
  have e1 : ((lv : Int) == (lv2 : Int)) = false := by simp; omega
  obtain ⟨P0, S0, B0, Z0⟩ := box_two w [.int .i64 (lv : Int), .slice A n c, .string hi, .bool la, .int .u64 (rt : Int)] [.int .i64 (lv2 : Int), .slice A2 n2 c2, .string hi2, .bool la2, .int .u64 (rt2 : Int)] 43 43
  have HR := Lib.hid (hR.below B0 (Nat.le_refl _))
  have HR2 := Lib.hid (hR2.below B0 (Nat.le_refl _))
  have HP := Lib.hid P0
  have HS := Lib.hid S0
  have HB := Lib.hid B0.kept0
  clear hR hR2 P0 S0 B0 Z0
  have hd' : ¬ (lv : Int) = (lv2 : Int) := by omega
  go_enter Try.func22, Try.ntmps22
  go_wp2
  go_ret
  exact ⟨rfl, HB.out⟩

set_option maxHeartbeats 2000000 in
theorem same_no2 (lv : Nat) (hi : ByteArray) (la : Bool) (rt n : Nat) (xs xs2 : List Sl) (A A2 : Option Addr) (c c2 : Nat) (hi2 : ByteArray) (la2 : Bool) (rt2 : Nat) (n2 : Nat) (w : World) (hn : xs.length = n) (hn2 : xs2.length = n2) (hR : Rs w A c xs) (hR2 : Rs w A2 c2 xs2) (hd : ¬ hi = hi2) :
    Calls Try.prog 22 #[.agg #[.int .i64 (lv : Int), .slice A n c, .string hi, .bool la, .int .u64 (rt : Int)], .agg #[.int .i64 (lv : Int), .slice A2 n2 c2, .string hi2, .bool la2, .int .u64 (rt2 : Int)]] w fun e w' => e = .returned (.bool false) ∧ Kept (fun _ => False) w w' := by
  have e2 : (hi.toList == hi2.toList) = false := by simpa using fun e => hd (toList_inj e)
  obtain ⟨P0, S0, B0, Z0⟩ := box_two w [.int .i64 (lv : Int), .slice A n c, .string hi, .bool la, .int .u64 (rt : Int)] [.int .i64 (lv : Int), .slice A2 n2 c2, .string hi2, .bool la2, .int .u64 (rt2 : Int)] 43 43
  have HR := Lib.hid (hR.below B0 (Nat.le_refl _))
  have HR2 := Lib.hid (hR2.below B0 (Nat.le_refl _))
  have HP := Lib.hid P0
  have HS := Lib.hid S0
  have HB := Lib.hid B0.kept0
  clear hd hR hR2 P0 S0 B0 Z0
  go_enter Try.func22, Try.ntmps22
  go_wp2
  go_ret
  exact ⟨rfl, HB.out⟩

set_option maxHeartbeats 2000000 in
theorem same_no3 (lv : Nat) (hi : ByteArray) (la : Bool) (rt n : Nat) (xs xs2 : List Sl) (A A2 : Option Addr) (c c2 : Nat) (la2 : Bool) (rt2 : Nat) (n2 : Nat) (w : World) (hn : xs.length = n) (hn2 : xs2.length = n2) (hR : Rs w A c xs) (hR2 : Rs w A2 c2 xs2) (hd : ¬ la = la2) :
    Calls Try.prog 22 #[.agg #[.int .i64 (lv : Int), .slice A n c, .string hi, .bool la, .int .u64 (rt : Int)], .agg #[.int .i64 (lv : Int), .slice A2 n2 c2, .string hi, .bool la2, .int .u64 (rt2 : Int)]] w fun e w' => e = .returned (.bool false) ∧ Kept (fun _ => False) w w' := by
  have e3 : (la == la2) = false := by simpa using hd
  obtain ⟨P0, S0, B0, Z0⟩ := box_two w [.int .i64 (lv : Int), .slice A n c, .string hi, .bool la, .int .u64 (rt : Int)] [.int .i64 (lv : Int), .slice A2 n2 c2, .string hi, .bool la2, .int .u64 (rt2 : Int)] 43 43
  have HR := Lib.hid (hR.below B0 (Nat.le_refl _))
  have HR2 := Lib.hid (hR2.below B0 (Nat.le_refl _))
  have HP := Lib.hid P0
  have HS := Lib.hid S0
  have HB := Lib.hid B0.kept0
  clear hd hR hR2 P0 S0 B0 Z0
  go_enter Try.func22, Try.ntmps22
  go_wp2
  go_ret
  exact ⟨rfl, HB.out⟩

set_option maxHeartbeats 2000000 in
theorem same_no4 (lv : Nat) (hi : ByteArray) (la : Bool) (rt n : Nat) (xs xs2 : List Sl) (A A2 : Option Addr) (c c2 : Nat) (rt2 : Nat) (n2 : Nat) (w : World) (hn : xs.length = n) (hn2 : xs2.length = n2) (hR : Rs w A c xs) (hR2 : Rs w A2 c2 xs2) (hd : ¬ rt = rt2) :
    Calls Try.prog 22 #[.agg #[.int .i64 (lv : Int), .slice A n c, .string hi, .bool la, .int .u64 (rt : Int)], .agg #[.int .i64 (lv : Int), .slice A2 n2 c2, .string hi, .bool la, .int .u64 (rt2 : Int)]] w fun e w' => e = .returned (.bool false) ∧ Kept (fun _ => False) w w' := by
  have e4 : ((rt : Int) == (rt2 : Int)) = false := by simp; omega
  obtain ⟨P0, S0, B0, Z0⟩ := box_two w [.int .i64 (lv : Int), .slice A n c, .string hi, .bool la, .int .u64 (rt : Int)] [.int .i64 (lv : Int), .slice A2 n2 c2, .string hi, .bool la, .int .u64 (rt2 : Int)] 43 43
  have HR := Lib.hid (hR.below B0 (Nat.le_refl _))
  have HR2 := Lib.hid (hR2.below B0 (Nat.le_refl _))
  have HP := Lib.hid P0
  have HS := Lib.hid S0
  have HB := Lib.hid B0.kept0
  clear hd hR hR2 P0 S0 B0 Z0
  go_enter Try.func22, Try.ntmps22
  go_wp2
  go_ret
  exact ⟨rfl, HB.out⟩

set_option maxHeartbeats 2000000 in
theorem same_no5 (lv : Nat) (hi : ByteArray) (la : Bool) (rt n : Nat) (xs xs2 : List Sl) (A A2 : Option Addr) (c c2 : Nat) (n2 : Nat) (w : World) (hn : xs.length = n) (hn2 : xs2.length = n2) (hR : Rs w A c xs) (hR2 : Rs w A2 c2 xs2) (hd : ¬ n = n2) :
    Calls Try.prog 22 #[.agg #[.int .i64 (lv : Int), .slice A n c, .string hi, .bool la, .int .u64 (rt : Int)], .agg #[.int .i64 (lv : Int), .slice A2 n2 c2, .string hi, .bool la, .int .u64 (rt : Int)]] w fun e w' => e = .returned (.bool false) ∧ Kept (fun _ => False) w w' := by
  have e5 : ((n : Int) == (n2 : Int)) = false := by simp; omega
  obtain ⟨P0, S0, B0, Z0⟩ := box_two w [.int .i64 (lv : Int), .slice A n c, .string hi, .bool la, .int .u64 (rt : Int)] [.int .i64 (lv : Int), .slice A2 n2 c2, .string hi, .bool la, .int .u64 (rt : Int)] 43 43
  have HR := Lib.hid (hR.below B0 (Nat.le_refl _))
  have HR2 := Lib.hid (hR2.below B0 (Nat.le_refl _))
  have HP := Lib.hid P0
  have HS := Lib.hid S0
  have HB := Lib.hid B0.kept0
  clear hd hR hR2 P0 S0 B0 Z0
  go_enter Try.func22, Try.ntmps22
  go_wp2
  go_ret
  exact ⟨rfl, HB.out⟩

set_option maxHeartbeats 2000000 in
theorem same_go (lv : Nat) (hi : ByteArray) (la : Bool) (rt n : Nat) (xs xs2 : List Sl) (A A2 : Option Addr) (c c2 : Nat) (w : World) (hn : xs.length = n) (hn2 : xs2.length = n) (h40 : n ≤ 1099511627776) (hR : Rs w A c xs) (hR2 : Rs w A2 c2 xs2) :
    Calls Try.prog 22 #[.agg #[.int .i64 (lv : Int), .slice A n c, .string hi, .bool la, .int .u64 (rt : Int)], .agg #[.int .i64 (lv : Int), .slice A2 n c2, .string hi, .bool la, .int .u64 (rt : Int)]] w fun e w' => ∃ bb, e = .returned (.bool bb) ∧ Kept (fun _ => False) w w' ∧ (xs = xs2 → bb = true) := by
  obtain ⟨P0, S0, B0, Z0⟩ := box_two w [.int .i64 (lv : Int), .slice A n c, .string hi, .bool la, .int .u64 (rt : Int)] [.int .i64 (lv : Int), .slice A2 n c2, .string hi, .bool la, .int .u64 (rt : Int)] 43 43
  have HR := Lib.hid (hR.below B0 (Nat.le_refl _))
  have HR2 := Lib.hid (hR2.below B0 (Nat.le_refl _))
  have HP := Lib.hid P0
  have HS := Lib.hid S0
  have HB := Lib.hid B0.kept0
  clear hR hR2 P0 S0 B0 Z0
  go_enter Try.func22, Try.ntmps22
  go_wp2_with fail
  generalize (w.alloc (.cells #[.int .i64 (lv : Int), .slice A n c, .string hi, .bool la, .int .u64 (rt : Int)] 43)).alloc (.cells #[.int .i64 (lv : Int), .slice A2 n c2, .string hi, .bool la, .int .u64 (rt : Int)] 43) = W at *
  generalize hb1 : w.heap.size + 1 = b1 at *
  have HB1 := Lib.hid hb1
  clear hb1
  go_loopw [5] (fun i wr => ∃ j : Nat, j ≤ n ∧ i = .int .i64 j ∧ xs.take j = xs2.take j ∧ Below W.heap.size W wr) (fun i _ => n - (intOf i).toNat)
  case atStart => exact ⟨0, by omega, rfl, by simp, Below.refl _ _⟩
  case round =>
    obtain ⟨j, hj, rfl, htk, hB⟩ := hrel
    rename World => wr
    have HB2 := Lib.hid hB
    have hP := HP.out.below hB HP.out.lt
    have hS := HS.out.below hB HS.out.lt
    have HTK := Lib.hid htk
    have x1 := hP.cell (i := 1) rfl
    have y1 := hS.cell (i := 1) rfl
    clear hP hS htk
    by_cases hlt : j < n
    · obtain ⟨x, hx⟩ : ∃ x, xs[j]? = some x := ⟨_, List.getElem?_eq_getElem (by omega)⟩
      obtain ⟨y, hy⟩ : ∃ y, xs2[j]? = some y := ⟨_, List.getElem?_eq_getElem (by omega)⟩
      obtain ⟨g, off, hAP, hg, hcell⟩ := (HR.out.below hB (Nat.le_refl _)).at (by omega)
      obtain ⟨c0, c1⟩ := hcell j x hx
      obtain ⟨g2, off2, hAQ, hg2, hcell2⟩ := (HR2.out.below hB (Nat.le_refl _)).at (by omega)
      obtain ⟨d0, d1⟩ := hcell2 j y hy
      subst hAP hAQ
      have HX := Lib.hid hx
      have HY := Lib.hid hy
      have hjn : (j : Int) < (n : Int) := by omega
      obtain ⟨bb, hbb⟩ : ∃ bb, (!(decide (x = y))) = bb := ⟨_, rfl⟩
      have hnq : ∀ w : World, (binOp .neq 65 (.agg #[.string x.1, .int .u64 (x.2 : Int)]) (.agg #[.string y.1, .int .u64 (y.2 : Int)])).run Try.prog w = .ok (.bool bb) w := fun w => by rw [← hbb]; exact neq_slot x y w
      have HBB := Lib.hid hbb
      clear hcell hcell2 hx hy hbb hB
      cases bb
      · go_wp2_with fail
        go_quiet (fail)
        go_wp2
        go_roundw
        case rel =>
          have hxy : x = y := by have h := HBB.out; simpa using h
          exact ⟨j + 1, by omega, by go_num, by rw [List.take_add_one, List.take_add_one, HTK.out, HX.out, HY.out, hxy], below_drewN HB2.out _⟩
        case measure => simp [intOf]; omega
      · go_wp2_with fail
        go_quiet (fail)
        go_wp2
        go_ret
        refine ⟨false, rfl, HB.out.trans (below_drewN HB2.out _).kept0 (fun _ _ h => h), fun e => ?_⟩
        have h1 := HX.out
        rw [e, HY.out] at h1
        have hxy : y = x := by simpa using h1
        have h := HBB.out
        simp [hxy] at h
    · obtain rfl : j = n := by omega
      go_wp2
      go_ret
      exact ⟨true, rfl, HB.out.trans HB2.out.kept0 (fun _ _ h => h), fun _ => rfl⟩

theorem refSame_ex (P Q : Pg) (AP AQ : Option Addr) (cP cQ : Nat) (w : World) (h40 : P.xs.length ≤ 1099511627776) (hR : Rs w AP cP P.xs) (hR2 : Rs w AQ cQ Q.xs) :
    Calls Try.prog 22 #[.agg #[.int .i64 (P.lv : Int), .slice AP P.xs.length cP, .string P.hi, .bool P.la, .int .u64 (P.rt : Int)], .agg #[.int .i64 (Q.lv : Int), .slice AQ Q.xs.length cQ, .string Q.hi, .bool Q.la, .int .u64 (Q.rt : Int)]] w fun e w' => ∃ bb, e = .returned (.bool bb) ∧ Kept (fun _ => False) w w' ∧ (P = Q → bb = true) := by
  obtain ⟨lv, hi, la, rt, xs⟩ := P
  obtain ⟨lv2, hi2, la2, rt2, xs2⟩ := Q
  simp only at h40 hR hR2 ⊢
  by_cases h : lv = lv2
  · subst h
    by_cases h : hi = hi2
    · subst h
      by_cases h : la = la2
      · subst h
        by_cases h : rt = rt2
        · subst h
          by_cases h : xs.length = xs2.length
          · obtain ⟨n, hn⟩ : ∃ n, xs.length = n := ⟨_, rfl⟩
            rw [← h, hn]
            refine (same_go lv hi la rt n xs xs2 AP AQ cP cQ w hn (by rw [← h]; exact hn) (by omega) hR hR2).mono ?_
            rintro e w' ⟨bb, he, hk, hb⟩
            exact ⟨bb, he, hk, fun e => hb (by cases e; rfl)⟩
          · exact (same_no5 lv hi la rt xs.length xs xs2 AP AQ cP cQ xs2.length w rfl rfl hR hR2 h).mono fun e w' ⟨he, hk⟩ => ⟨false, he, hk, fun e => absurd (by cases e; rfl) h⟩
        · exact (same_no4 lv hi la rt xs.length xs xs2 AP AQ cP cQ rt2 xs2.length w rfl rfl hR hR2 h).mono fun e w' ⟨he, hk⟩ => ⟨false, he, hk, fun e => absurd (by cases e; rfl) h⟩
      · exact (same_no3 lv hi la rt xs.length xs xs2 AP AQ cP cQ la2 rt2 xs2.length w rfl rfl hR hR2 h).mono fun e w' ⟨he, hk⟩ => ⟨false, he, hk, fun e => absurd (by cases e; rfl) h⟩
    · exact (same_no2 lv hi la rt xs.length xs xs2 AP AQ cP cQ hi2 la2 rt2 xs2.length w rfl rfl hR hR2 h).mono fun e w' ⟨he, hk⟩ => ⟨false, he, hk, fun e => absurd (by cases e; rfl) h⟩
  · exact (same_no1 lv hi la rt xs.length xs xs2 AP AQ cP cQ lv2 hi2 la2 rt2 xs2.length w rfl rfl hR hR2 h).mono fun e w' ⟨he, hk⟩ => ⟨false, he, hk, fun e => absurd (by cases e; rfl) h⟩
theorem refSame_yes (P : Pg) (AP AQ : Option Addr) (cP cQ : Nat) (w : World) (h40 : P.xs.length ≤ 1099511627776) (hR : Rs w AP cP P.xs) (hR2 : Rs w AQ cQ P.xs) :
    Calls Try.prog 22 #[.agg #[.int .i64 (P.lv : Int), .slice AP P.xs.length cP, .string P.hi, .bool P.la, .int .u64 (P.rt : Int)], .agg #[.int .i64 (P.lv : Int), .slice AQ P.xs.length cQ, .string P.hi, .bool P.la, .int .u64 (P.rt : Int)]] w fun e w' => e = .returned (.bool true) ∧ Kept (fun _ => False) w w' :=
  (refSame_ex P P AP AQ cP cQ w h40 hR hR2).mono fun e w' ⟨bb, he, hk, hb⟩ => ⟨by rw [he, hb rfl], hk⟩

end Go.Proofs.Ytboieccjikcdiaa
