/-
  What package keys, tooLarge, contradictory, Check and the reference's Check, Drop, Get and Apply answer. Condition: rows of at most 2^40 elements, strings within the model's reach.
-/
import Derived.Test.YtdhobiiejokglaaBatPut
namespace Go.Proofs.Ytdhobiiejokglaa
open Go.RowKit Go.Deep Plain PlainE
set_option linter.unusedVariables false
set_option maxHeartbeats 400000 in
theorem validKey_any (s : ByteArray) (w : World) (hs : s.size ≤ maxLen) :
    Calls Try.prog 36 #[.string s] w fun e w' => e = .returned (.bool (decide (s.size ≤ 32))) ∧ w = w' := by
  unfold maxLen at hs
  go_enter Try.func36, Try.ntmps36
  go_wp2
  go_ret
  exact ⟨by simp; omega, rfl⟩

set_option maxHeartbeats 400000 in
theorem cmp_any (a b : ByteArray) (w : World) :
    Calls Try.prog 38 #[.string a, .string b] w fun e w' => e = .returned (.int .i64 (cmp a.toList b.toList)) ∧ w = w' := by
  have e1 := bytesLess_ltB a.toList b.toList
  unfold cmp
  cases h : ltB a.toList b.toList
  · rw [h] at e1
    cases k : ltB b.toList a.toList
    · have he : (a.toList == b.toList) = true := by rw [ltB_tri _ _ h k]; simp
      clear h k
      go_enter Try.func38, Try.ntmps38
      go_wp2
      go_ret
      exact ⟨by simp, rfl⟩
    · have he : (a.toList == b.toList) = false := by
        cases hx : a.toList == b.toList
        · rfl
        · rw [beq_iff_eq] at hx; rw [hx, ltB_self] at k; exact absurd k (by decide)
      clear h k
      go_enter Try.func38, Try.ntmps38
      go_wp2
      go_ret
      exact ⟨by simp, rfl⟩
  · rw [h] at e1
    clear h
    go_enter Try.func38, Try.ntmps38
    go_wp2
    go_ret
    exact ⟨by simp, rfl⟩

set_option maxHeartbeats 400000 in
theorem refValidKey_any (s : ByteArray) (w : World) (hs : s.size ≤ maxLen) :
    Calls Try.prog 24 #[.string s] w fun e w' => e = .returned (.bool (decide (s.size ≤ 32))) ∧ w = w' := by
  unfold maxLen at hs
  go_enter Try.func24, Try.ntmps24
  go_wp2
  go_ret
  exact ⟨by simp; omega, rfl⟩

set_option maxHeartbeats 400000 in
theorem validValue_any (s : ByteArray) (w : World) (hs : s.size ≤ maxLen) :
    Calls Try.prog 37 #[.string s] w fun e w' => e = .returned (.bool (decide (s.size ≤ 64))) ∧ w = w' := by
  unfold maxLen at hs
  go_enter Try.func37, Try.ntmps37
  go_wp2
  go_ret
  exact ⟨by simp; omega, rfl⟩

set_option maxHeartbeats 400000 in
theorem refValidValue_any (s : ByteArray) (w : World) (hs : s.size ≤ maxLen) :
    Calls Try.prog 25 #[.string s] w fun e w' => e = .returned (.bool (decide (s.size ≤ 64))) ∧ w = w' := by
  unfold maxLen at hs
  go_enter Try.func25, Try.ntmps25
  go_wp2
  go_ret
  exact ⟨by simp; omega, rfl⟩


/-- Is a part of a write too large? -/
def bigW (x : Wri) : Bool := !(decide (x.1.size ≤ 32)) || !(decide (x.2.1.size ≤ 64))
def badW (x : Wri) : Bool := x.2.2 && !x.2.1.toList.isEmpty
/-- The strings of a write lie within the model's reach. -/
def Sz (x : Wri) : Prop := x.1.size ≤ maxLen ∧ x.2.1.size ≤ maxLen
def chk (b : List Wri) : Int := if (decide (16 < b.length) || b.any bigW) = true then 8 else if b.any badW = true then 1 else 0

set_option maxHeartbeats 400000 in
theorem tooLarge_any (x : Wri) (hs : Sz x) (w : World) :
    Calls Try.prog 27 #[.agg #[.string x.1, .string x.2.1, .bool x.2.2]] w fun e w' => e = .returned (.bool (bigW x)) ∧ Below w.heap.size w w' := by
  obtain ⟨p, hp⟩ : ∃ p, decide (x.1.size ≤ 32) = p := ⟨_, rfl⟩
  obtain ⟨q, hq⟩ : ∃ q, decide (x.2.1.size ≤ 64) = q := ⟨_, rfl⟩
  have hb : bigW x = (!p || !q) := by unfold bigW; rw [hp, hq]
  rw [hb]
  have c1 := fun W => validKey_any x.1 W hs.1
  have c2 := fun W => validValue_any x.2.1 W hs.2
  rw [hp] at c1
  rw [hq] at c2
  clear hb hp hq
  go_enter Try.func27, Try.ntmps27
  go_wp2_with fail
  refine (c1 _).mono ?_; rintro e w1 ⟨rfl, rfl⟩
  cases p
  · go_wp2
    go_ret
    exact ⟨rfl, (Below.refl _ _).alloc (Nat.le_refl _) _⟩
  · go_wp2_with fail
    refine (c2 _).mono ?_; rintro e w1 ⟨rfl, rfl⟩
    go_wp2
    go_ret
    exact ⟨by simp, (Below.refl _ _).alloc (Nat.le_refl _) _⟩

set_option maxHeartbeats 400000 in
theorem contradictory_any (x : Wri) (w : World) :
    Calls Try.prog 28 #[.agg #[.string x.1, .string x.2.1, .bool x.2.2]] w fun e w' => e = .returned (.bool (badW x)) ∧ Below w.heap.size w w' := by
  obtain ⟨a, v, d⟩ := x
  unfold badW
  cases d
  · go_enter Try.func28, Try.ntmps28
    go_wp2
    go_ret
    exact ⟨rfl, (Below.refl _ _).alloc (Nat.le_refl _) _⟩
  · go_enter Try.func28, Try.ntmps28
    go_wp2
    go_ret
    exact ⟨by simp, (Below.refl _ _).alloc (Nat.le_refl _) _⟩

/-- Where the first write is that tooLarge holds of. -/
def ixB : List Wri → Nat
  | [] => 0
  | x :: r => if bigW x = true then 0 else ixB r + 1
theorem ixB_le : ∀ xs : List Wri, ixB xs ≤ xs.length
  | [] => Nat.le_refl _
  | x :: r => by rw [ixB]; have := ixB_le r; split <;> simp <;> omega
theorem ixB_any : ∀ xs : List Wri, decide (ixB xs < xs.length) = xs.any bigW
  | [] => rfl
  | x :: r => by
    rw [ixB, List.any_cons, ← ixB_any r]
    cases bigW x <;> simp
theorem ixB_at : ∀ {xs : List Wri} {j : Nat} {x : Wri}, j ≤ ixB xs → xs[j]? = some x → bigW x = decide (j = ixB xs)
  | [], j, x, _, h => by simp at h
  | y :: r, 0, x, hj, h => by
    simp at h; subst h
    rw [ixB]
    cases bigW y <;> simp
  | y :: r, j + 1, x, hj, h => by
    rw [ixB] at hj ⊢
    split at hj
    · omega
    · rename_i hy
      rw [if_neg hy, ixB_at (xs := r) (j := j) (by omega) (by simpa using h)]
      simp

set_option maxHeartbeats 1000000 in
theorem indexB_any (A : Option Addr) (c : Nat) (xs : List Wri) (w : World) (n : Nat) (hn : xs.length = n) (h40 : n ≤ 140737488351232) (hR : RW w A c xs) (hs : ∀ x ∈ xs, Sz x) (i0 : Int) (hi0 : (if ixB xs < n then (ixB xs : Int) else -1) = i0) :
    Calls Try.prog 35 #[.slice A n c, .func (.func 27) #[] #[]] w fun e w' => e = .returned (.int .i64 i0) ∧ Below w.heap.size w w' := by
  have HR := Lib.hid hR
  obtain ⟨q, hq⟩ : ∃ q, ixB xs = q := ⟨_, rfl⟩
  have hqn : q ≤ n := by rw [← hq, ← hn]; exact ixB_le xs
  rw [hq] at hi0
  have HQ := Lib.hid hq
  have HI := Lib.hid hi0
  clear hR hq hi0
  go_enter Try.func35, Try.ntmps35
  go_wp2_with fail
  go_loopw [8] (fun i wr => ∃ j : Nat, j ≤ q ∧ i = .int .i64 j ∧ Below w.heap.size w wr) (fun i _ => n - (intOf i).toNat)
  case atStart => exact ⟨0, Nat.zero_le _, rfl, Below.refl _ _⟩
  case round =>
    obtain ⟨j, hj, rfl, hbel⟩ := hrel
    have HL := Lib.hid hbel
    have hsz := hbel.size
    by_cases hlt : j < n
    · obtain ⟨x, hx⟩ : ∃ x, xs[j]? = some x := ⟨_, List.getElem?_eq_getElem (by omega)⟩
      obtain ⟨g, off, rfl, hg, hcell⟩ := (HR.out.below hbel (Nat.le_refl _)).at (by omega)
      obtain ⟨c0, c1, c2⟩ := hcell j x hx
      have HX := Lib.hid hx
      have hb := ixB_at (by rw [HQ.out]; exact hj) hx
      rw [HQ.out] at hb
      clear hcell hx hbel
      go_wp2_with fail
      go_at_call 27
      refine (tooLarge_any x (hs x (List.mem_of_getElem? HX.out)) _).mono ?_; rintro e w1 ⟨rfl, hB1⟩
      have HB1 := Lib.hid (HL.out.trans (hB1.mono hsz))
      rw [hb]
      clear hB1 hb c0 c1 c2
      by_cases hjq : j = q
      · have hd : decide (j = q) = true := by simpa using hjq
        rw [hd]
        have hlt2 : q < n := by omega
        obtain rfl : i0 = (j : Int) := by rw [← HI.out, if_pos hlt2, hjq]
        clear hd hjq hlt2
        go_wp2
        go_ret
        exact ⟨rfl, HB1.out⟩
      · have hd : decide (j = q) = false := by simpa using hjq
        rw [hd]
        have hj2 : j + 1 ≤ q := by omega
        clear hd hjq
        go_wp2
        go_roundw
        case rel => exact ⟨j + 1, hj2, by go_num, HB1.out⟩
        case measure => simp [intOf]; omega
    · obtain rfl : i0 = -1 := by rw [← HI.out, if_neg (by omega)]
      go_wp2
      go_ret
      exact ⟨rfl, hbel⟩

set_option maxHeartbeats 1000000 in
theorem containsB_any (A : Option Addr) (c : Nat) (xs : List Wri) (w : World) (n : Nat) (hn : xs.length = n) (h40 : n ≤ 140737488351232) (hR : RW w A c xs) (hs : ∀ x ∈ xs, Sz x) (b : Bool) (hb : xs.any bigW = b) :
    Calls Try.prog 26 #[.slice A n c, .func (.func 27) #[] #[]] w fun e w' => e = .returned (.bool b) ∧ Below w.heap.size w w' := by
  obtain ⟨i, hi⟩ : ∃ i : Int, (if ixB xs < n then (ixB xs : Int) else -1) = i := ⟨_, rfl⟩
  have hd : decide (0 ≤ i) = b := by
    rw [← hb, ← ixB_any xs, hn, ← hi]
    by_cases h : ixB xs < n
    · rw [if_pos h]; simp [h]
    · rw [if_neg h]; simp [h]
  have con := fun W hR => indexB_any A c xs W n hn h40 hR hs i hi
  clear hi hb
  go_enter Try.func26, Try.ntmps26
  go_wp2_with fail
  refine (con _ hR).mono ?_; rintro e w1 ⟨rfl, hB1⟩
  go_wp2
  go_ret
  exact ⟨by first | rfl | (simp; exact hd) | simpa using hd, hB1⟩

/-- Where the first write is that contradictory holds of. -/
def ixC : List Wri → Nat
  | [] => 0
  | x :: r => if badW x = true then 0 else ixC r + 1
theorem ixC_le : ∀ xs : List Wri, ixC xs ≤ xs.length
  | [] => Nat.le_refl _
  | x :: r => by rw [ixC]; have := ixC_le r; split <;> simp <;> omega
theorem ixC_any : ∀ xs : List Wri, decide (ixC xs < xs.length) = xs.any badW
  | [] => rfl
  | x :: r => by
    rw [ixC, List.any_cons, ← ixC_any r]
    cases badW x <;> simp
theorem ixC_at : ∀ {xs : List Wri} {j : Nat} {x : Wri}, j ≤ ixC xs → xs[j]? = some x → badW x = decide (j = ixC xs)
  | [], j, x, _, h => by simp at h
  | y :: r, 0, x, hj, h => by
    simp at h; subst h
    rw [ixC]
    cases badW y <;> simp
  | y :: r, j + 1, x, hj, h => by
    rw [ixC] at hj ⊢
    split at hj
    · omega
    · rename_i hy
      rw [if_neg hy, ixC_at (xs := r) (j := j) (by omega) (by simpa using h)]
      simp

set_option maxHeartbeats 1000000 in
theorem indexC_any (A : Option Addr) (c : Nat) (xs : List Wri) (w : World) (n : Nat) (hn : xs.length = n) (h40 : n ≤ 140737488351232) (hR : RW w A c xs) (hs : ∀ x ∈ xs, Sz x) (i0 : Int) (hi0 : (if ixC xs < n then (ixC xs : Int) else -1) = i0) :
    Calls Try.prog 35 #[.slice A n c, .func (.func 28) #[] #[]] w fun e w' => e = .returned (.int .i64 i0) ∧ Below w.heap.size w w' := by
  have HR := Lib.hid hR
  obtain ⟨q, hq⟩ : ∃ q, ixC xs = q := ⟨_, rfl⟩
  have hqn : q ≤ n := by rw [← hq, ← hn]; exact ixC_le xs
  rw [hq] at hi0
  have HQ := Lib.hid hq
  have HI := Lib.hid hi0
  clear hR hq hi0
  go_enter Try.func35, Try.ntmps35
  go_wp2_with fail
  go_loopw [8] (fun i wr => ∃ j : Nat, j ≤ q ∧ i = .int .i64 j ∧ Below w.heap.size w wr) (fun i _ => n - (intOf i).toNat)
  case atStart => exact ⟨0, Nat.zero_le _, rfl, Below.refl _ _⟩
  case round =>
    obtain ⟨j, hj, rfl, hbel⟩ := hrel
    have HL := Lib.hid hbel
    have hsz := hbel.size
    by_cases hlt : j < n
    · obtain ⟨x, hx⟩ : ∃ x, xs[j]? = some x := ⟨_, List.getElem?_eq_getElem (by omega)⟩
      obtain ⟨g, off, rfl, hg, hcell⟩ := (HR.out.below hbel (Nat.le_refl _)).at (by omega)
      obtain ⟨c0, c1, c2⟩ := hcell j x hx
      have HX := Lib.hid hx
      have hb := ixC_at (by rw [HQ.out]; exact hj) hx
      rw [HQ.out] at hb
      clear hcell hx hbel
      go_wp2_with fail
      go_at_call 28
      refine (contradictory_any x _).mono ?_; rintro e w1 ⟨rfl, hB1⟩
      have HB1 := Lib.hid (HL.out.trans (hB1.mono hsz))
      rw [hb]
      clear hB1 hb c0 c1 c2
      by_cases hjq : j = q
      · have hd : decide (j = q) = true := by simpa using hjq
        rw [hd]
        have hlt2 : q < n := by omega
        obtain rfl : i0 = (j : Int) := by rw [← HI.out, if_pos hlt2, hjq]
        clear hd hjq hlt2
        go_wp2
        go_ret
        exact ⟨rfl, HB1.out⟩
      · have hd : decide (j = q) = false := by simpa using hjq
        rw [hd]
        have hj2 : j + 1 ≤ q := by omega
        clear hd hjq
        go_wp2
        go_roundw
        case rel => exact ⟨j + 1, hj2, by go_num, HB1.out⟩
        case measure => simp [intOf]; omega
    · obtain rfl : i0 = -1 := by rw [← HI.out, if_neg (by omega)]
      go_wp2
      go_ret
      exact ⟨rfl, hbel⟩

set_option maxHeartbeats 1000000 in
theorem containsC_any (A : Option Addr) (c : Nat) (xs : List Wri) (w : World) (n : Nat) (hn : xs.length = n) (h40 : n ≤ 140737488351232) (hR : RW w A c xs) (hs : ∀ x ∈ xs, Sz x) (b : Bool) (hb : xs.any badW = b) :
    Calls Try.prog 26 #[.slice A n c, .func (.func 28) #[] #[]] w fun e w' => e = .returned (.bool b) ∧ Below w.heap.size w w' := by
  obtain ⟨i, hi⟩ : ∃ i : Int, (if ixC xs < n then (ixC xs : Int) else -1) = i := ⟨_, rfl⟩
  have hd : decide (0 ≤ i) = b := by
    rw [← hb, ← ixC_any xs, hn, ← hi]
    by_cases h : ixC xs < n
    · rw [if_pos h]; simp [h]
    · rw [if_neg h]; simp [h]
  have con := fun W hR => indexC_any A c xs W n hn h40 hR hs i hi
  clear hi hb
  go_enter Try.func26, Try.ntmps26
  go_wp2_with fail
  refine (con _ hR).mono ?_; rintro e w1 ⟨rfl, hB1⟩
  go_wp2
  go_ret
  exact ⟨by first | rfl | (simp; exact hd) | simpa using hd, hB1⟩

set_option maxHeartbeats 1000000 in
theorem check_any (A : Option Addr) (c : Nat) (xs : List Wri) (w : World) (n : Nat) (hn : xs.length = n) (h40 : n ≤ 140737488351232) (hR : RW w A c xs) (hs : ∀ x ∈ xs, Sz x) (e0 : Int) (he : chk xs = e0) :
    Calls Try.prog 14 #[.slice A n c] w fun e w' => e = .returned (.int .i64 e0) ∧ Below w.heap.size w w' := by
  obtain ⟨p, hp⟩ : ∃ p, xs.any bigW = p := ⟨_, rfl⟩
  obtain ⟨q, hq⟩ : ∃ q, xs.any badW = q := ⟨_, rfl⟩
  have hc : e0 = if (decide (16 < n) || p) = true then 8 else if q = true then 1 else 0 := by rw [← he]; unfold chk; rw [hn, hp, hq]
  have HP := Lib.hid hp
  have HQ := Lib.hid hq
  clear hp hq he
  by_cases h16 : 16 < n
  · obtain rfl : e0 = 8 := by rw [hc]; simp [h16]
    clear hc
    go_enter Try.func14, Try.ntmps14
    go_wp2
    go_ret
    exact ⟨rfl, Below.refl _ _⟩
  · cases p
    · cases q
      · obtain rfl : e0 = 0 := by rw [hc]; simp [h16]
        clear hc
        go_enter Try.func14, Try.ntmps14
        go_wp2_with fail
        refine (containsB_any A c xs _ n hn h40 hR hs false HP.out).mono ?_; rintro e w1 ⟨rfl, hB1⟩
        go_wp2_with fail
        refine (containsC_any A c xs _ n hn h40 (hR.below hB1 (Nat.le_refl _)) hs false HQ.out).mono ?_; rintro e w2 ⟨rfl, hB2⟩
        go_wp2
        go_ret
        exact ⟨rfl, hB1.trans (hB2.mono hB1.size)⟩
      · obtain rfl : e0 = 1 := by rw [hc]; simp [h16]
        clear hc
        go_enter Try.func14, Try.ntmps14
        go_wp2_with fail
        refine (containsB_any A c xs _ n hn h40 hR hs false HP.out).mono ?_; rintro e w1 ⟨rfl, hB1⟩
        go_wp2_with fail
        refine (containsC_any A c xs _ n hn h40 (hR.below hB1 (Nat.le_refl _)) hs true HQ.out).mono ?_; rintro e w2 ⟨rfl, hB2⟩
        go_wp2
        go_ret
        exact ⟨rfl, hB1.trans (hB2.mono hB1.size)⟩
    · obtain rfl : e0 = 8 := by rw [hc]; simp
      clear hc
      go_enter Try.func14, Try.ntmps14
      go_wp2_with fail
      refine (containsB_any A c xs _ n hn h40 hR hs true HP.out).mono ?_; rintro e w1 ⟨rfl, hB1⟩
      go_wp2
      go_ret
      exact ⟨rfl, hB1⟩

set_option maxHeartbeats 2000000 in
theorem refCheck_any (A : Option Addr) (c : Nat) (xs : List Wri) (w : World) (n : Nat) (hn : xs.length = n) (h40 : n ≤ 140737488351232) (hR : RW w A c xs) (hs : ∀ x ∈ xs, Sz x) (e0 : Int) (he : chk xs = e0) :
    Calls Try.prog 13 #[.slice A n c] w fun e w' => e = .returned (.int .i64 e0) ∧ Below w.heap.size w w' := by
  have hc : e0 = if (decide (16 < n) || xs.any bigW) = true then 8 else if xs.any badW = true then 1 else 0 := by rw [← he]; unfold chk; rw [hn]
  have HR := Lib.hid hR
  clear hR he
  by_cases h16 : 16 < n
  · obtain rfl : e0 = 8 := by rw [hc]; simp [h16]
    clear hc
    go_enter Try.func13, Try.ntmps13
    go_wp2
    go_ret
    exact ⟨rfl, Below.refl _ _⟩
  · obtain ⟨q1, hq1⟩ : ∃ q, ixB xs = q := ⟨_, rfl⟩
    obtain ⟨q2, hq2⟩ : ∃ q, ixC xs = q := ⟨_, rfl⟩
    have hqn1 : q1 ≤ n := by rw [← hq1, ← hn]; exact ixB_le xs
    have hqn2 : q2 ≤ n := by rw [← hq2, ← hn]; exact ixC_le xs
    have hc2 : e0 = if q1 < n then 8 else if q2 < n then 1 else 0 := by
      rw [hc, ← ixB_any, ← ixC_any, hn, hq1, hq2]
      simp [h16]
    have HQ1 := Lib.hid hq1
    have HQ2 := Lib.hid hq2
    have HC := Lib.hid hc2
    clear hq1 hq2 hc hc2
    go_enter Try.func13, Try.ntmps13
    go_wp2_with fail
    go_loopw [3] (fun i wr => ∃ j : Nat, j ≤ q1 ∧ i = .int .i64 j ∧ Below w.heap.size w wr) (fun i _ => n - (intOf i).toNat)
    case atStart => exact ⟨0, Nat.zero_le _, rfl, Below.refl _ _⟩
    case round =>
      obtain ⟨j, hj, rfl, hbel⟩ := hrel
      by_cases hlt : j < n
      · obtain ⟨x, hx⟩ : ∃ x, xs[j]? = some x := ⟨_, List.getElem?_eq_getElem (by omega)⟩
        obtain ⟨g, off, rfl, hg, hcell⟩ := (HR.out.below hbel (Nat.le_refl _)).at (by omega)
        obtain ⟨c0, c1, c2⟩ := hcell j x hx
        have hb := ixB_at (by rw [HQ1.out]; exact hj) hx
        rw [HQ1.out] at hb
        have hsx := hs x (List.mem_of_getElem? hx)
        obtain ⟨p, hp⟩ : ∃ p, decide (x.1.size ≤ 32) = p := ⟨_, rfl⟩
        obtain ⟨r, hr⟩ : ∃ r, decide (x.2.1.size ≤ 64) = r := ⟨_, rfl⟩
        have hbb : (!p || !r) = decide (j = q1) := by rw [← hb]; unfold bigW; rw [hp, hr]
        have f1 := fun W => refValidKey_any x.1 W hsx.1
        have f2 := fun W => refValidValue_any x.2.1 W hsx.2
        rw [hp] at f1
        rw [hr] at f2
        clear hcell hx hb hp hr hsx
        by_cases hjq : j = q1
        · have hd : decide (j = q1) = true := by simpa using hjq
          rw [hd] at hbb
          obtain rfl : e0 = 8 := by rw [HC.out, if_pos (by omega)]
          clear hd hjq
          go_wp2_with fail
          refine (f1 _).mono ?_; rintro e w1 ⟨rfl, rfl⟩
          cases p
          · go_wp2
            go_ret
            exact ⟨rfl, hbel⟩
          · obtain rfl : r = false := by simpa using hbb
            go_wp2_with fail
            refine (f2 _).mono ?_; rintro e w1 ⟨rfl, rfl⟩
            go_wp2
            go_ret
            exact ⟨rfl, hbel⟩
        · have hd : decide (j = q1) = false := by simpa using hjq
          rw [hd] at hbb
          have hj2 : j + 1 ≤ q1 := by omega
          obtain ⟨rfl, rfl⟩ : p = true ∧ r = true := by simpa using hbb
          clear hd hjq hbb
          go_wp2_with fail
          refine (f1 _).mono ?_; rintro e w1 ⟨rfl, rfl⟩
          go_wp2_with fail
          refine (f2 _).mono ?_; rintro e w1 ⟨rfl, rfl⟩
          go_wp2
          go_roundw
          case rel => exact ⟨j + 1, hj2, by go_num, hbel⟩
          case measure => simp [intOf]; omega
      · have hq1n : q1 = n := by omega
        have hc3 : e0 = if q2 < n then 1 else 0 := by rw [HC.out, if_neg (by omega)]
        have HC3 := Lib.hid hc3
        clear hc3 hq1n
        go_wp2_with fail
        go_loopw [4] (fun i wr => ∃ j : Nat, j ≤ q2 ∧ i = .int .i64 j ∧ Below w.heap.size w wr) (fun i _ => n - (intOf i).toNat)
        case atStart => exact ⟨0, Nat.zero_le _, rfl, hbel⟩
        case round =>
          clear hbel
          obtain ⟨k, hk, rfl, hbel⟩ := hrel
          by_cases hlt2 : k < n
          · obtain ⟨x, hx⟩ : ∃ x, xs[k]? = some x := ⟨_, List.getElem?_eq_getElem (by omega)⟩
            obtain ⟨g, off, rfl, hg, hcell⟩ := (HR.out.below hbel (Nat.le_refl _)).at (by omega)
            obtain ⟨c0, c1, c2⟩ := hcell k x hx
            have hb := ixC_at (by rw [HQ2.out]; exact hk) hx
            rw [HQ2.out] at hb
            obtain ⟨xa, xv, xd⟩ := x
            unfold badW at hb
            simp only at c0 c1 c2 hb
            obtain ⟨r, hr⟩ : ∃ r, xv.toList.isEmpty = r := ⟨_, rfl⟩
            rw [hr] at hb
            clear hcell hx
            by_cases hkq : k = q2
            · have hd : decide (k = q2) = true := by simpa using hkq
              rw [hd] at hb
              obtain ⟨rfl, rfl⟩ : xd = true ∧ r = false := by simpa using hb
              obtain rfl : e0 = 1 := by rw [HC3.out, if_pos (by omega)]
              clear hd hkq hb
              go_wp2
              go_ret
              exact ⟨rfl, hbel⟩
            · have hd : decide (k = q2) = false := by simpa using hkq
              rw [hd] at hb
              have hk2 : k + 1 ≤ q2 := by omega
              clear hd hkq
              cases xd
              · clear hb
                go_wp2
                go_roundw
                case rel => exact ⟨k + 1, hk2, by go_num, hbel⟩
                case measure => simp [intOf]; omega
              · obtain rfl : r = true := by simpa using hb
                clear hb
                go_wp2
                go_roundw
                case rel => exact ⟨k + 1, hk2, by go_num, hbel⟩
                case measure => simp [intOf]; omega
          · obtain rfl : e0 = 0 := by rw [HC3.out, if_neg (by omega)]
            go_wp2
            go_ret
            exact ⟨rfl, hbel⟩
end Go.Proofs.Ytdhobiiejokglaa
