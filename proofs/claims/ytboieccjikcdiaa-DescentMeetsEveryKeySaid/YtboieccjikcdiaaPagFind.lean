/-
  What Find of package page and of its reference answer for ascending slots: how many keys lie below, and whether the key is there. Condition: rows of at most 2^40 slots.
-/
import Derived.Test.YtboieccjikcdiaaPagMem
namespace Go.Proofs.Ytboieccjikcdiaa
open Go.RowKit Plain
set_option linter.unusedVariables false

set_option maxHeartbeats 400000 in
theorem cmp_any (a b : ByteArray) (w : World) :
    Calls Try.prog 77 #[.string a, .string b] w fun e w' => e = .returned (.int .i64 (cmp a.toList b.toList)) ∧ w = w' := by
  have e1 := bytesLess_ltB a.toList b.toList
  unfold cmp
  cases h : ltB a.toList b.toList
  · rw [h] at e1
    cases k : ltB b.toList a.toList
    · have he : (a.toList == b.toList) = true := by rw [ltB_tri _ _ h k]; simp
      clear h k
      go_enter Try.func77, Try.ntmps77
      go_wp2
      go_ret
      exact ⟨by simp, rfl⟩
    · have he : (a.toList == b.toList) = false := by
        cases hx : a.toList == b.toList
        · rfl
        · rw [beq_iff_eq] at hx; rw [hx, ltB_self] at k; exact absurd k (by decide)
      clear h k
      go_enter Try.func77, Try.ntmps77
      go_wp2
      go_ret
      exact ⟨by simp, rfl⟩
  · rw [h] at e1
    clear h
    go_enter Try.func77, Try.ntmps77
    go_wp2
    go_ret
    exact ⟨by simp, rfl⟩

theorem cmp_lt {x : Sl} {k : ByteArray} : decide (cmp x.1.toList k.toList < 0) = lt x k := by
  unfold cmp lt
  cases h : ltB x.1.toList k.toList
  · cases k : ltB k.toList x.1.toList <;> simp
  · simp
theorem cmp_eq {x : Sl} {k : ByteArray} : (cmp x.1.toList k.toList == 0) = eqk x k := by
  unfold cmp eqk
  cases h : ltB x.1.toList k.toList
  · cases h2 : ltB k.toList x.1.toList
    · rw [ltB_tri _ _ h h2]; simp
    · cases hx : x.1.toList == k.toList
      · simp
      · rw [beq_iff_eq] at hx; rw [hx, ltB_self] at h2; exact absurd h2 (by decide)
  · cases hx : x.1.toList == k.toList
    · simp
    · rw [beq_iff_eq] at hx; rw [hx, ltB_self] at h; exact absurd h (by decide)

set_option maxHeartbeats 400000 in
theorem compareKey_any (x : Sl) (k : ByteArray) (c : Int) (w : World) (hc : cmp x.1.toList k.toList = c) :
    Calls Try.prog 90 #[.agg #[.string x.1, .int .u64 (x.2 : Int)], .string k] w fun e w' => e = .returned (.int .i64 c) ∧ Below w.heap.size w w' := by
  go_enter Try.func90, Try.ntmps90
  go_wp2_with fail
  refine (cmp_any _ _ _).mono ?_; rintro e w1 ⟨rfl, rfl⟩
  rw [hc]
  go_wp2
  go_ret
  exact ⟨rfl, (Below.refl _ _).alloc (Nat.le_refl _) _⟩

set_option maxHeartbeats 2000000 in
theorem search_any (A : Option Addr) (c : Nat) (xs : List Sl) (k : ByteArray) (w : World) (n : Nat) (hn : xs.length = n) (h40 : n ≤ 1099511627776) (hR : Rs w A c xs) (ha : Asc xs) :
    Calls Try.prog 89 #[.slice A n c, .string k, .func (.func 90) #[] #[]] w fun e w' =>
      e = .returned (.tuple #[.int .i64 (cnt k xs : Nat), .bool (has k xs)]) ∧ Below w.heap.size w w' := by
  obtain ⟨q, hq⟩ : ∃ q, cnt k xs = q := ⟨_, rfl⟩
  obtain ⟨b, hb⟩ : ∃ b, has k xs = b := ⟨_, rfl⟩
  have hqn : q ≤ n := by rw [← hq, ← hn]; exact cnt_le k xs
  have hlt : ∀ i x, xs[i]? = some x → lt x k = decide (i < q) := fun i x hx => by rw [← hq]; exact lt_at xs ha k i x hx
  have hh : b = (match xs[q]? with | some x => eqk x k | none => false) := by rw [← hb, ← hq]; exact has_at xs ha k
  rw [hq, hb]
  have HLT := Lib.hid hlt
  have HH := Lib.hid hh
  have HN := Lib.hid hn
  have HR := Lib.hid hR
  clear hlt hh hq hb hn hR ha
  go_enter Try.func89, Try.ntmps89
  go_wp2_with fail
  go_loopw [9, 10] (fun i j wr => ∃ lo hi : Nat, lo ≤ q ∧ q ≤ hi ∧ hi ≤ n ∧ i = .int .i64 lo ∧ j = .int .i64 hi ∧ Below w.heap.size w wr) (fun i j _ => (intOf j).toNat - (intOf i).toNat)
  case atStart => exact ⟨0, n, by omega, hqn, Nat.le_refl _, rfl, rfl, Below.refl _ _⟩
  case round =>
    obtain ⟨lo, hi, h1, h2, h3, rfl, rfl, hB⟩ := hrel
    by_cases hcase : lo < hi
    · obtain ⟨m, hm⟩ : ∃ m : Nat, ((lo : Int) + (hi : Int)) / 2 = (m : Int) := ⟨(lo + hi) / 2, by omega⟩
      have hm1 : lo ≤ m := by omega
      have hm2 : m < hi := by omega
      obtain ⟨x, hx⟩ : ∃ x, xs[m]? = some x := ⟨_, List.getElem?_eq_getElem (by have := HN.out; omega)⟩
      have hL := HLT.out m x hx
      obtain ⟨g, off, rfl, hg, hcell⟩ := (HR.out.below hB (Nat.le_refl _)).at (by have := HN.out; omega)
      obtain ⟨c0, c1⟩ := hcell m x hx
      have HB := Lib.hid hB
      clear hcell hB hx
      by_cases hmq : m < q
      · have hcm : decide (cmp x.1.toList k.toList < 0) = true := by rw [cmp_lt, hL]; simpa using hmq
        obtain ⟨y, hy⟩ : ∃ y, cmp x.1.toList k.toList = y := ⟨_, rfl⟩
        rw [hy] at hcm
        have HY := Lib.hid hy
        clear hy hL
        go_wp2_with fail
        refine (compareKey_any x k y _ HY.out).mono ?_; rintro e w1 ⟨rfl, hB1⟩
        have HB1 := Lib.hid (HB.out.trans (hB1.mono HB.out.size))
        clear hB1
        go_wp2
        go_roundw
        case rel => exact ⟨m + 1, hi, by omega, h2, h3, by go_num, rfl, HB1.out⟩
        case measure => simp [intOf]; omega
      · have hcm : decide (cmp x.1.toList k.toList < 0) = false := by rw [cmp_lt, hL]; simpa using hmq
        obtain ⟨y, hy⟩ : ∃ y, cmp x.1.toList k.toList = y := ⟨_, rfl⟩
        rw [hy] at hcm
        have HY := Lib.hid hy
        clear hy hL
        go_wp2_with fail
        refine (compareKey_any x k y _ HY.out).mono ?_; rintro e w1 ⟨rfl, hB1⟩
        have HB1 := Lib.hid (HB.out.trans (hB1.mono HB.out.size))
        clear hB1
        go_wp2
        go_roundw
        case rel => exact ⟨lo, m, h1, by omega, by omega, rfl, rfl, HB1.out⟩
        case measure => simp [intOf]; omega
    · obtain rfl : lo = q := by omega
      by_cases hin : lo < n
      · obtain ⟨x, hx⟩ : ∃ x, xs[lo]? = some x := ⟨_, List.getElem?_eq_getElem (by have := HN.out; omega)⟩
        obtain ⟨g, off, rfl, hg, hcell⟩ := (HR.out.below hB (Nat.le_refl _)).at (by have := HN.out; omega)
        obtain ⟨c0, c1⟩ := hcell lo x hx
        have hbx : (cmp x.1.toList k.toList == 0) = b := by rw [HH.out, hx, cmp_eq]
        obtain ⟨y, hy⟩ : ∃ y, cmp x.1.toList k.toList = y := ⟨_, rfl⟩
        rw [hy] at hbx
        have HY := Lib.hid hy
        have HB := Lib.hid hB
        clear hcell hB hx hy
        go_wp2_with fail
        refine (compareKey_any x k y _ HY.out).mono ?_; rintro e w1 ⟨rfl, hB1⟩
        have HB1 := Lib.hid (HB.out.trans (hB1.mono HB.out.size))
        clear hB1
        go_wp2
        go_ret2
        exact ⟨rfl, HB1.out⟩
      · have hbx : false = b := by rw [HH.out, List.getElem?_eq_none (by have := HN.out; omega)]
        have hd : decide (lo < n) = false := by simpa using hin
        subst hbx
        go_wp2
        go_ret2
        exact ⟨rfl, hB⟩

set_option maxHeartbeats 2000000 in
theorem find_any (lv : Int) (A : Option Addr) (c : Nat) (hi : ByteArray) (la : Bool) (rt : Nat) (xs : List Sl) (k : ByteArray) (w : World) (n : Nat) (hn : xs.length = n) (h40 : n ≤ 1099511627776) (hR : Rs w A c xs) (ha : Asc xs) :
    Calls Try.prog 74 #[.agg #[.int .i64 lv, .slice A n c, .string hi, .bool la, .int .u64 (rt : Int)], .string k] w fun e w' =>
      e = .returned (.tuple #[.int .i64 (cnt k xs : Nat), .bool (has k xs)]) ∧ Below w.heap.size w w' := by
  go_enter Try.func74, Try.ntmps74
  go_wp2_with fail
  refine (search_any A c xs k _ n hn h40 (hR.below ((Below.refl _ _).alloc (Nat.le_refl _) _) (Nat.le_refl _)) ha).mono ?_; rintro e w1 ⟨rfl, hB1⟩
  have hB2 := ((Below.refl w.heap.size w).alloc (Nat.le_refl _) _).trans (hB1.mono (by simp))
  go_wp2
  go_ret2
  exact ⟨rfl, hB2⟩

set_option maxHeartbeats 2000000 in
theorem refFind_any (lv : Int) (A : Option Addr) (c : Nat) (hi : ByteArray) (la : Bool) (rt : Nat) (xs : List Sl) (k : ByteArray) (w : World) (n : Nat) (hn : xs.length = n) (h40 : n ≤ 1099511627776) (hR : Rs w A c xs) :
    Calls Try.prog 26 #[.agg #[.int .i64 lv, .slice A n c, .string hi, .bool la, .int .u64 (rt : Int)], .string k] w fun e w' =>
      e = .returned (.tuple #[.int .i64 (cnt k xs : Nat), .bool (has k xs)]) ∧ Below w.heap.size w w' := by
  have hR1 : Rs (w.alloc (.cells #[.int .i64 lv, .slice A n c, .string hi, .bool la, .int .u64 (rt : Int)] 43)) A c xs := hR.below ((Below.refl _ _).alloc (Nat.le_refl _) _) (Nat.le_refl _)
  have HR1 := Lib.hid hR1
  clear hR1 hR
  go_enter Try.func26, Try.ntmps26
  go_wp2_with fail
  go_loopw [6, 7, 8] (fun s b i wr => ∃ j : Nat, j ≤ n ∧ i = .int .i64 j ∧ s = .int .i64 (cnt k (xs.take j) : Nat) ∧ b = .bool (has k (xs.take j)) ∧ wr = w.alloc (.cells #[.int .i64 lv, .slice A n c, .string hi, .bool la, .int .u64 (rt : Int)] 43)) (fun _ _ i _ => n - (intOf i).toNat)
  case atStart => exact ⟨0, by omega, rfl, rfl, rfl, rfl⟩
  case round =>
    obtain ⟨j, hj, rfl, rfl, rfl, rfl⟩ := hrel
    by_cases hlt : j < n
    · obtain ⟨x, hx⟩ : ∃ x, xs[j]? = some x := ⟨_, List.getElem?_eq_getElem (by omega)⟩
      obtain ⟨g, off, rfl, hg, hcell⟩ := HR1.out.at (by omega)
      obtain ⟨c0, c1⟩ := hcell j x hx
      have e1 := cnt_take (k := k) hx
      have e2 := has_take (k := k) hx
      generalize hcc : cnt k (xs.take j) = cc at e1 ⊢
      generalize has k (xs.take j) = bb at e2 ⊢
      have hcl : cc ≤ j := by rw [← hcc]; have := cnt_le k (xs.take j); rw [List.length_take] at this; omega
      have hlx : Op.bytesLess x.1.toList k.toList = lt x k := bytesLess_ltB _ _
      have hex : (x.1.toList == k.toList) = eqk x k := rfl
      generalize lt x k = l1 at e1 hlx
      generalize eqk x k = l2 at e2 hex
      have E1 := Lib.hid e1
      have E2 := Lib.hid e2
      clear e1 e2 hcell hx hcc
      cases l1 <;> cases l2 <;> cases bb
      all_goals
        go_wp2
        go_roundw
        case rel => exact ⟨j + 1, by omega, by go_num, by first | (rw [E1.out]; rfl) | (rw [E1.out]; simp) , by rw [E2.out]; rfl, by first | rfl | trivial⟩
        case measure => simp [intOf]; omega
    · obtain rfl : j = n := by omega
      rw [List.take_of_length_le (by omega)]
      go_wp2
      go_ret2
      exact ⟨rfl, (Below.refl _ _).alloc (Nat.le_refl _) _⟩
end Go.Proofs.Ytboieccjikcdiaa
