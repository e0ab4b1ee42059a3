/-
  What Check of package page answers for any page. Condition: rows of at most 2^40 slots.
-/
import Derived.Test.YtegbdpelnmaijaaPagNear
namespace Go.Proofs.Ytegbdpelnmaijaa
open Go.RowKit Go.Deep Plain
set_option linter.unusedVariables false

def AscI (xs : List Sl) : Prop := ∀ (i : Nat) (x y : Sl), xs[i]? = some x → xs[i + 1]? = some y → lt x y.1 = true
def RefI (xs : List Sl) : Prop := ∀ (i : Nat) (x : Sl), xs[i]? = some x → x.2 ≠ 0
def SizI (lv : Int) (n : Nat) (f : Int) : Prop := 0 ≤ lv ∧ (n : Int) ≤ f ∧ (lv = 0 ∨ 0 < n)
def EndI (xs : List Sl) (hi : ByteArray) (la : Bool) (rt : Nat) : Prop := (la = true → hi = ⟨#[]⟩ ∧ rt = 0) ∧ (la = false → rt ≠ 0 ∧ ∀ x ∈ xs, lt x hi = true)
/-- The page is valid. -/
def Good (lv : Int) (n : Nat) (xs : List Sl) (hi : ByteArray) (la : Bool) (rt : Nat) (f : Int) : Prop := SizI lv n f ∧ AscI xs ∧ RefI xs ∧ EndI xs hi la rt

theorem asc_of : ∀ {xs : List Sl}, AscI xs → Asc xs
  | [], _ => trivial
  | [_], _ => trivial
  | x :: y :: r, h => ⟨h 0 x y rfl rfl, asc_of (xs := y :: r) fun i a b ha hb => h (i + 1) a b (by simpa using ha) (by simpa using hb)⟩
theorem ascI_of : ∀ {xs : List Sl}, Asc xs → AscI xs
  | [], _, i, x, y, hx, _ => by simp at hx
  | [a], _, i, x, y, _, hy => by simp at hy
  | a :: b :: r, h, 0, x, y, hx, hy => by simp at hx hy; subst hx; subst hy; exact h.1
  | a :: b :: r, h, i + 1, x, y, hx, hy => ascI_of (xs := b :: r) h.2 i x y (by simpa using hx) (by simpa using hy)
theorem bool_false {b : Bool} {p : Prop} (h : b = true ↔ p) (n : ¬ p) : b = false := by cases b; rfl; exact absurd (h.1 rfl) n
theorem bool_true {b : Bool} {p : Prop} (h : b = true ↔ p) (n : p) : b = true := h.2 n
theorem bool_ex (p : Prop) : ∃ b : Bool, b = true ↔ p := by
  by_cases h : p
  · exact ⟨true, by simp [h]⟩
  · exact ⟨false, by simp [h]⟩

set_option maxHeartbeats 1000000 in
theorem sized_any (lv : Int) (A : Option Addr) (c : Nat) (hi : ByteArray) (la : Bool) (rt : Nat) (xs : List Sl) (f : Int) (w : World) (n : Nat) (hn : xs.length = n) (h40 : n ≤ 1099511627776) (hR : Rs w A c xs) (b : Bool) (hb : b = true ↔ SizI lv n f) :
    Calls Try.prog 28 #[.agg #[.int .i64 lv, .slice A n c, .string hi, .bool la, .int .u64 (rt : Int)], .int .i64 f] w fun e w' => e = .returned (.bool b) ∧ Below w.heap.size w w' := by
  obtain ⟨P0, B0, Z0⟩ := box_one w [.int .i64 lv, .slice A n c, .string hi, .bool la, .int .u64 (rt : Int)] 25
  have HB := Lib.hid B0
  clear P0 B0 Z0 hR
  by_cases h1 : lv < 0
  · obtain rfl := bool_false hb (fun h => by have := h.1; omega)
    clear hb
    go_enter Try.func28, Try.ntmps28
    go_wp2
    go_ret
    exact ⟨rfl, HB.out⟩
  · have h1' : decide (lv < 0) = false := by simpa using h1
    by_cases h2 : f < (n : Int)
    · obtain rfl := bool_false hb (fun h => by have := h.2.1; omega)
      clear hb
      go_enter Try.func28, Try.ntmps28
      go_wp2
      go_ret
      exact ⟨rfl, HB.out⟩
    · have h2' : decide (f < (n : Int)) = false := by simpa using h2
      by_cases h3 : lv = 0
      · obtain rfl := bool_true hb ⟨by omega, by omega, .inl h3⟩
        have h3' : (lv == 0) = true := by simpa using h3
        clear hb h3
        go_enter Try.func28, Try.ntmps28
        go_wp2
        go_ret
        exact ⟨rfl, HB.out⟩
      · have h3' : (lv == 0) = false := by simpa using h3
        by_cases h4 : 0 < n
        · obtain rfl := bool_true hb ⟨by omega, by omega, .inr h4⟩
          clear hb h3
          go_enter Try.func28, Try.ntmps28
          go_wp2
          go_ret
          exact ⟨rfl, HB.out⟩
        · obtain rfl := bool_false hb (fun h => by have := h.2.2; omega)
          have h4' : decide ((0 : Int) < (n : Int)) = false := by simp; omega
          clear hb h3
          go_enter Try.func28, Try.ntmps28
          go_wp2
          go_ret
          exact ⟨rfl, HB.out⟩

set_option maxHeartbeats 2000000 in
theorem ascending_any (A : Option Addr) (c : Nat) (xs : List Sl) (w : World) (n : Nat) (hn : xs.length = n) (h40 : n ≤ 1099511627776) (hR : Rs w A c xs) (b : Bool) (hb : b = true ↔ AscI xs) :
    Calls Try.prog 29 #[.slice A n c] w fun e w' => e = .returned (.bool b) ∧ Below w.heap.size w w' := by
  have HB := Lib.hid hb
  have HR := Lib.hid hR
  clear hb hR
  go_enter Try.func29, Try.ntmps29
  go_wp2_with fail
  go_loopw [3] (fun i wr => ∃ j : Nat, 1 ≤ j ∧ (j ≤ n ∨ j = 1) ∧ i = .int .i64 j ∧ (∀ (i : Nat) (x y : Sl), i + 1 < j → xs[i]? = some x → xs[i + 1]? = some y → lt x y.1 = true) ∧ Below w.heap.size w wr) (fun i _ => n - (intOf i).toNat)
  case atStart => exact ⟨1, Nat.le_refl _, .inr rfl, rfl, fun i _ _ h => by omega, Below.refl _ _⟩
  case round =>
    obtain ⟨j, hj, hjn, rfl, hup, hbel⟩ := hrel
    have HU := Lib.hid hup
    have HL := Lib.hid hbel
    clear hup
    by_cases hlt : j < n
    · obtain ⟨m, rfl⟩ : ∃ m, j = m + 1 := ⟨j - 1, by omega⟩
      obtain ⟨x, hx⟩ : ∃ x, xs[m]? = some x := ⟨_, List.getElem?_eq_getElem (by omega)⟩
      obtain ⟨y, hy⟩ : ∃ y, xs[m + 1]? = some y := ⟨_, List.getElem?_eq_getElem (by omega)⟩
      obtain ⟨g, off, rfl, hg, hcell⟩ := (HR.out.below hbel (Nat.le_refl _)).at (by omega)
      obtain ⟨c0, c1⟩ := hcell m x hx
      obtain ⟨d0, d1⟩ := hcell (m + 1) y hy
      have hl : Op.bytesLess x.1.toList y.1.toList = lt x y.1 := bytesLess_ltB _ _
      have HX := Lib.hid hx
      have HY := Lib.hid hy
      clear hcell hx hy hbel hjn
      cases hlv : lt x y.1
      · obtain rfl := bool_false HB.out (fun h => by have := h m x y HX.out HY.out; rw [hlv] at this; cases this)
        rw [hlv] at hl
        go_wp2_with fail
        go_quiet (fail)
        go_wp2
        go_ret
        exact ⟨rfl, below_drewN HL.out _⟩
      · rw [hlv] at hl
        have hU2 : ∀ (i : Nat) (x y : Sl), i + 1 < m + 1 + 1 → xs[i]? = some x → xs[i + 1]? = some y → lt x y.1 = true := fun i a b hi ha hb => by
          by_cases him : i = m
          · subst him; rw [HX.out] at ha; rw [HY.out] at hb; cases ha; cases hb; exact hlv
          · exact HU.out i a b (by omega) ha hb
        have HU2 := Lib.hid hU2
        clear hU2 hlv
        go_wp2_with fail
        go_quiet (fail)
        go_wp2
        go_roundw
        case rel => exact ⟨m + 1 + 1, by omega, .inl (by omega), by go_num, HU2.out, below_drewN HL.out _⟩
        case measure => simp [intOf]; omega
    · obtain rfl := bool_true HB.out (fun i x y hx hy => HU.out i x y (by have := (List.getElem?_eq_some_iff.1 hy).1; omega) hx hy)
      have hd : decide ((j : Int) < (n : Int)) = false := by simp; omega
      clear hjn
      go_wp2
      go_ret
      exact ⟨rfl, hbel⟩

set_option maxHeartbeats 2000000 in
theorem referring_any (A : Option Addr) (c : Nat) (xs : List Sl) (w : World) (n : Nat) (hn : xs.length = n) (h40 : n ≤ 1099511627776) (hR : Rs w A c xs) (b : Bool) (hb : b = true ↔ RefI xs) :
    Calls Try.prog 30 #[.slice A n c] w fun e w' => e = .returned (.bool b) ∧ Below w.heap.size w w' := by
  have HB := Lib.hid hb
  have HR := Lib.hid hR
  clear hb hR
  go_enter Try.func30, Try.ntmps30
  go_wp2_with fail
  go_loopw [7] (fun i wr => ∃ j : Nat, j ≤ n ∧ i = .int .i64 j ∧ (∀ (i : Nat) (x : Sl), i < j → xs[i]? = some x → x.2 ≠ 0) ∧ Below w.heap.size w wr) (fun i _ => n - (intOf i).toNat)
  case atStart => exact ⟨0, Nat.zero_le _, rfl, fun i _ h => by omega, Below.refl _ _⟩
  case round =>
    obtain ⟨j, hjn, rfl, hup, hbel⟩ := hrel
    have HU := Lib.hid hup
    have HL := Lib.hid hbel
    have hsz := hbel.size
    clear hup
    by_cases hlt : j < n
    · obtain ⟨x, hx⟩ : ∃ x, xs[j]? = some x := ⟨_, List.getElem?_eq_getElem (by omega)⟩
      obtain ⟨g, off, rfl, hg, hcell⟩ := (HR.out.below hbel (Nat.le_refl _)).at (by omega)
      obtain ⟨c0, c1⟩ := hcell j x hx
      have HX := Lib.hid hx
      clear hcell hx hbel
      by_cases hx0 : x.2 = 0
      · obtain rfl := bool_false HB.out (fun h => h j x HX.out hx0)
        have h0 : ((x.2 : Int) == 0) = true := by simp; omega
        go_wp2
        go_ret
        exact ⟨rfl, HL.out.alloc hsz _⟩
      · have h0 : ((x.2 : Int) == 0) = false := by simp; omega
        have hU2 : ∀ (i : Nat) (x : Sl), i < j + 1 → xs[i]? = some x → x.2 ≠ 0 := fun i a hi ha => by
          by_cases him : i = j
          · subst him; rw [HX.out] at ha; cases ha; exact hx0
          · exact HU.out i a (by omega) ha
        have HU2 := Lib.hid hU2
        clear hU2 hx0
        go_wp2
        go_roundw
        case rel => exact ⟨j + 1, by omega, by go_num, HU2.out, HL.out.alloc hsz _⟩
        case measure => simp [intOf]; omega
    · obtain rfl := bool_true HB.out (fun i x hx => HU.out i x (by have := (List.getElem?_eq_some_iff.1 hx).1; omega) hx)
      go_wp2
      go_ret
      exact ⟨rfl, hbel⟩

theorem end_last {xs : List Sl} {hi : ByteArray} (ha : AscI xs) {n : Nat} (hn : xs.length = n) {s : ByteArray} {r : Nat} (hx : xs[n - 1]? = some (s, r)) : (∀ x ∈ xs, lt x hi = true) ↔ lt (s, r) hi = true := by
  constructor
  · intro h; exact h _ (List.mem_of_getElem? hx)
  · intro h x hxm
    obtain ⟨i, hi', rfl⟩ := List.getElem_of_mem hxm
    by_cases he : i = n - 1
    · have hx2 : xs[i]? = some (s, r) := by rw [he]; exact hx
      rw [List.getElem?_eq_getElem hi'] at hx2
      rw [Option.some.inj hx2]; exact h
    · have : ∀ (d i : Nat) (x y : Sl), xs[i]? = some x → xs[i + d + 1]? = some y → lt x y.1 = true := fun d => by
        induction d with
        | zero => intro i x y h1 h2; exact ha i x y h1 h2
        | succ d ih =>
          intro i x y h1 h2
          have hlen := (List.getElem?_eq_some_iff.1 h2).1
          have h3 : xs[i + d + 1]? = some xs[i + d + 1] := List.getElem?_eq_getElem (by omega)
          exact ltB_trans _ _ _ (ih i x _ h1 h3) (ha (i + d + 1) _ y h3 h2)
      have h2 := this (n - 1 - i - 1) i xs[i] (s, r) (List.getElem?_eq_getElem hi') (by rw [← hx]; congr 1; omega)
      exact ltB_trans _ _ _ h2 h

theorem empty_list {s : ByteArray} (h : s ≠ ⟨#[]⟩) : s.toList.isEmpty = false := by
  cases hx : s.toList.isEmpty
  · rfl
  · rw [List.isEmpty_iff] at hx
    have e : (⟨#[]⟩ : ByteArray).toList = [] := by rw [Lib.toList_data]
    exact absurd (toList_inj (hx.trans e.symm)) h

set_option maxHeartbeats 2000000 in
theorem bounded_any (lv : Int) (A : Option Addr) (c : Nat) (hi : ByteArray) (la : Bool) (rt : Nat) (xs : List Sl) (w : World) (n : Nat) (hn : xs.length = n) (h40 : n ≤ 1099511627776) (hR : Rs w A c xs) (ha : AscI xs) (b : Bool) (hb : b = true ↔ EndI xs hi la rt) :
    Calls Try.prog 31 #[.agg #[.int .i64 lv, .slice A n c, .string hi, .bool la, .int .u64 (rt : Int)]] w fun e w' => e = .returned (.bool b) ∧ Below w.heap.size w w' := by
  obtain ⟨P0, B0, Z0⟩ := box_one w [.int .i64 lv, .slice A n c, .string hi, .bool la, .int .u64 (rt : Int)] 25
  obtain ⟨s, r, q, hnear⟩ := near_ex (before xs n)
  have hlast := fun h1 h2 => end_last ha (hi := hi) hn (s := s) (r := r) (near_pos (xs := xs) (i := n) h1 h2 hnear).1
  have hqv : q = decide (0 < n) := by
    by_cases h0 : 0 < n
    · rw [(near_pos h0 (by omega) hnear).2]; simp [h0]
    · obtain rfl : n = 0 := by omega
      rw [(near_zero hnear).2.2]; simp
  have HQ := Lib.hid hqv
  have HL := Lib.hid hlast
  have HN := Lib.hid hnear
  have HB := Lib.hid hb
  have HP := Lib.hid P0
  have HB0 := Lib.hid B0
  have HZ := Lib.hid Z0
  have HR := Lib.hid (hR.below B0 (Nat.le_refl _))
  clear hqv hlast hnear hb P0 B0 Z0 hR ha
  cases la
  · go_enter Try.func31, Try.ntmps31
    go_wp2_with fail
    refine (lastOf_any _ _ xs _ n hn h40 HR.out s r q HN.out).mono ?_; rintro e w1 ⟨rfl, hB1⟩
    rw [HZ.out] at hB1
    have P1 := HP.out.below hB1 (by omega)
    have B1 := Lib.hid (HB0.out.trans (hB1.mono (by omega)))
    have hs1 := hB1.size
    rw [HZ.out] at hs1
    have hs2 : w.heap.size < w1.heap.size := by omega
    have b2 := P1.cell (i := 2) rfl
    have b4 := P1.cell (i := 4) rfl
    clear P1 hB1
    by_cases h0 : rt = 0
    · obtain rfl := bool_false HB.out (fun h => (h.2 rfl).1 h0)
      have h0' : ((rt : Int) != 0) = false := by simp; omega
      clear h0
      go_wp2
      go_ret
      exact ⟨rfl, B1.out.alloc (by omega) _⟩
    · have h0' : ((rt : Int) != 0) = true := by simp; omega
      by_cases hn0 : 0 < n
      · obtain rfl : q = true := by rw [HQ.out]; simpa using hn0
        have hl : Op.bytesLess s.toList hi.toList = lt (s, r) hi := bytesLess_ltB _ _
        have hbb : lt (s, r) hi = b := by
          have h1 := HL.out hn0 (by omega)
          have h2 := HB.out
          cases hx : lt (s, r) hi
          · cases hbv : b
            · rfl
            · have := h1.1 ((h2.1 hbv).2 rfl).2; rw [hx] at this; cases this
          · exact (h2.2 ⟨fun h => (by cases h), fun _ => ⟨h0, h1.2 hx⟩⟩).symm
        rw [hbb] at hl
        clear hbb
        go_wp2
        go_ret
        exact ⟨rfl, B1.out.alloc (by omega) _⟩
      · obtain rfl : q = false := by rw [HQ.out]; simpa using hn0
        obtain rfl := bool_true HB.out ⟨fun h => (by cases h), fun _ => ⟨h0, fun x hx => by
          rw [List.eq_nil_of_length_eq_zero (show xs.length = 0 by omega)] at hx; simp at hx⟩⟩
        clear h0
        go_wp2
        go_ret
        exact ⟨rfl, B1.out.alloc (by omega) _⟩
  · by_cases hh : hi = ⟨#[]⟩
    · subst hh
      by_cases h0 : rt = 0
      · obtain rfl := bool_true HB.out ⟨fun _ => ⟨rfl, h0⟩, fun h => (by cases h)⟩
        have h0' : ((rt : Int) == 0) = true := by simp; omega
        clear h0
        go_enter Try.func31, Try.ntmps31
        go_wp2
        go_ret
        exact ⟨rfl, HB0.out⟩
      · obtain rfl := bool_false HB.out (fun h => h0 (h.1 rfl).2)
        have h0' : ((rt : Int) == 0) = false := by simp; omega
        clear h0
        go_enter Try.func31, Try.ntmps31
        go_wp2
        go_ret
        exact ⟨rfl, HB0.out⟩
    · obtain rfl := bool_false HB.out (fun h => hh (h.1 rfl).1)
      have hh' := empty_list hh
      go_enter Try.func31, Try.ntmps31
      go_wp2
      go_ret
      exact ⟨rfl, HB0.out⟩

set_option maxHeartbeats 2000000 in
theorem check_any (lv : Int) (A : Option Addr) (c : Nat) (hi : ByteArray) (la : Bool) (rt : Nat) (xs : List Sl) (f : Int) (w : World) (n : Nat) (hn : xs.length = n) (h40 : n ≤ 1099511627776) (hR : Rs w A c xs) (b : Bool) (hb : b = true ↔ Good lv n xs hi la rt f) :
    Calls Try.prog 10 #[.agg #[.int .i64 lv, .slice A n c, .string hi, .bool la, .int .u64 (rt : Int)], .int .i64 f] w fun e w' => e = .returned (.bool b) ∧ Below w.heap.size w w' := by
  obtain ⟨P0, B0, Z0⟩ := box_one w [.int .i64 lv, .slice A n c, .string hi, .bool la, .int .u64 (rt : Int)] 25
  have HB := Lib.hid hb
  have HP := Lib.hid P0
  have HB0 := Lib.hid B0
  have HZ := Lib.hid Z0
  have HR := Lib.hid hR
  obtain ⟨b1, hb1⟩ := bool_ex (SizI lv n f)
  obtain ⟨b2, hb2⟩ := bool_ex (AscI xs)
  obtain ⟨b3, hb3⟩ := bool_ex (RefI xs)
  obtain ⟨b4, hb4⟩ := bool_ex (EndI xs hi la rt)
  have H1 := Lib.hid hb1
  have H2 := Lib.hid hb2
  have H3 := Lib.hid hb3
  have H4 := Lib.hid hb4
  clear hb P0 B0 Z0 hR hb1 hb2 hb3 hb4
  go_enter Try.func10, Try.ntmps10
  go_wp2_with fail
  refine (sized_any lv A c hi la rt xs f _ n hn h40 (HR.out.below HB0.out (Nat.le_refl _)) b1 H1.out).mono ?_; rintro e w1 ⟨rfl, hB1⟩
  rw [HZ.out] at hB1
  have hs1 := hB1.size
  rw [HZ.out] at hs1
  have HP1 := Lib.hid (HP.out.below hB1 (by omega))
  have HB1 := Lib.hid (HB0.out.trans (hB1.mono (by omega)))
  have x1 := HP1.out.cell (i := 1) rfl
  clear hB1
  cases b1
  · obtain rfl := bool_false HB.out (fun h => by have := H1.out.2 h.1; cases this)
    go_wp2
    go_ret
    exact ⟨rfl, HB1.out⟩
  · go_wp2_with fail
    refine (ascending_any _ _ xs _ n hn h40 (HR.out.below HB1.out (Nat.le_refl _)) b2 H2.out).mono ?_; rintro e w2 ⟨rfl, hB2⟩
    have hs2 := hB2.size
    have HP2 := Lib.hid (HP1.out.below hB2 (by omega))
    have HB2 := Lib.hid (HB1.out.trans (hB2.mono (by omega)))
    have x1 := HP2.out.cell (i := 1) rfl
    clear hB2
    cases b2
    · obtain rfl := bool_false HB.out (fun h => by have := H2.out.2 h.2.1; cases this)
      go_wp2
      go_ret
      exact ⟨rfl, HB2.out⟩
    · go_wp2_with fail
      refine (referring_any _ _ xs _ n hn h40 (HR.out.below HB2.out (Nat.le_refl _)) b3 H3.out).mono ?_; rintro e w3 ⟨rfl, hB3⟩
      have hs3 := hB3.size
      have HP3 := Lib.hid (HP2.out.below hB3 (by omega))
      have HB3 := Lib.hid (HB2.out.trans (hB3.mono (by omega)))
      have x0 := HP3.out.cell (i := 0) rfl
      have x1 := HP3.out.cell (i := 1) rfl
      have x2 := HP3.out.cell (i := 2) rfl
      have x3 := HP3.out.cell (i := 3) rfl
      have x4 := HP3.out.cell (i := 4) rfl
      clear hB3
      cases b3
      · obtain rfl := bool_false HB.out (fun h => by have := H3.out.2 h.2.2.1; cases this)
        go_wp2
        go_ret
        exact ⟨rfl, HB3.out⟩
      · obtain rfl : b = b4 := by
          have h1 := H1.out.1 (by first | rfl | trivial)
          have h2 := H2.out.1 (by first | rfl | trivial)
          have h3 := H3.out.1 (by first | rfl | trivial)
          cases hv : b4
          · exact bool_false HB.out (fun h => by have := H4.out.2 h.2.2.2; rw [hv] at this; cases this)
          · exact bool_true HB.out ⟨h1, h2, h3, H4.out.1 hv⟩
        go_wp2_with fail
        refine (bounded_any lv A c hi la rt xs _ n hn h40 (HR.out.below HB3.out (Nat.le_refl _)) (H2.out.1 (by first | rfl | trivial)) b H4.out).mono ?_; rintro e w4 ⟨rfl, hB4⟩
        have HB4 := Lib.hid (HB3.out.trans (hB4.mono (by omega)))
        clear hB4
        go_wp2
        go_ret
        exact ⟨rfl, HB4.out⟩
end Go.Proofs.Ytegbdpelnmaijaa
