/-
  What package keys, tooLarge, contradictory, Check and the reference's Check, Drop, Get and Apply answer. Condition: rows of at most 2^40 elements, strings within the model's reach.
-/
import Derived.Test.YtodenkamlbihnaaBatPut
namespace Go.Proofs.Ytodenkamlbihnaa
open Go.RowKit Go.Deep Plain PlainE
set_option linter.unusedVariables false
set_option maxHeartbeats 400000 in
theorem validKey_any (s : ByteArray) (w : World) (hs : s.size ≤ maxLen) :
    Calls Try.prog 73 #[.string s] w fun e w' => e = .returned (.bool (decide (s.size ≤ 32))) ∧ w = w' := by
  unfold maxLen at hs
  go_enter Try.func73, Try.ntmps73
  go_wp2
  go_ret
  exact ⟨by simp; omega, rfl⟩

set_option maxHeartbeats 400000 in
theorem cmp_any (a b : ByteArray) (w : World) :
    Calls Try.prog 76 #[.string a, .string b] w fun e w' => e = .returned (.int .i64 (cmp a.toList b.toList)) ∧ w = w' := by
  have e1 := bytesLess_ltB a.toList b.toList
  unfold cmp
  cases h : ltB a.toList b.toList
  · rw [h] at e1
    cases k : ltB b.toList a.toList
    · have he : (a.toList == b.toList) = true := by rw [ltB_tri _ _ h k]; simp
      clear h k
      go_enter Try.func76, Try.ntmps76
      go_wp2
      go_ret
      exact ⟨by simp, rfl⟩
    · have he : (a.toList == b.toList) = false := by
        cases hx : a.toList == b.toList
        · rfl
        · rw [beq_iff_eq] at hx; rw [hx, ltB_self] at k; exact absurd k (by decide)
      clear h k
      go_enter Try.func76, Try.ntmps76
      go_wp2
      go_ret
      exact ⟨by simp, rfl⟩
  · rw [h] at e1
    clear h
    go_enter Try.func76, Try.ntmps76
    go_wp2
    go_ret
    exact ⟨by simp, rfl⟩

set_option maxHeartbeats 400000 in
theorem validValue_any (s : ByteArray) (w : World) (hs : s.size ≤ maxLen) :
    Calls Try.prog 74 #[.string s] w fun e w' => e = .returned (.bool (decide (s.size ≤ 64))) ∧ w = w' := by
  unfold maxLen at hs
  go_enter Try.func74, Try.ntmps74
  go_wp2
  go_ret
  exact ⟨by simp; omega, rfl⟩

/-- Is a part of a write too large? -/
def bigW (x : Wri) : Bool := !(decide (x.1.size ≤ 32)) || !(decide (x.2.1.size ≤ 64))
def badW (x : Wri) : Bool := x.2.2 && !x.2.1.toList.isEmpty
/-- The strings of a write lie within the model's reach. -/
def Sz (x : Wri) : Prop := x.1.size ≤ maxLen ∧ x.2.1.size ≤ maxLen
def chk (b : List Wri) : Int := if (decide (16 < b.length) || b.any bigW) = true then 8 else if b.any badW = true then 1 else 0

set_option maxHeartbeats 400000 in
theorem tooLarge_any (x : Wri) (hs : Sz x) (w : World) :
    Calls Try.prog 52 #[.agg #[.string x.1, .string x.2.1, .bool x.2.2]] w fun e w' => e = .returned (.bool (bigW x)) ∧ Below w.heap.size w w' := by
  obtain ⟨p, hp⟩ : ∃ p, decide (x.1.size ≤ 32) = p := ⟨_, rfl⟩
  obtain ⟨q, hq⟩ : ∃ q, decide (x.2.1.size ≤ 64) = q := ⟨_, rfl⟩
  have hb : bigW x = (!p || !q) := by unfold bigW; rw [hp, hq]
  rw [hb]
  have c1 := fun W => validKey_any x.1 W hs.1
  have c2 := fun W => validValue_any x.2.1 W hs.2
  rw [hp] at c1
  rw [hq] at c2
  clear hb hp hq
  go_enter Try.func52, Try.ntmps52
  go_wp2_with fail
  refine (c1 _).mono ?_; rintro e w1 ⟨rfl, rfl⟩
  cases p
  · go_wp2
    go_ret
    exact ⟨rfl, (Below.refl _ _).alloc (Nat.le_refl _) _⟩
  · go_wp2_with fail
    refine (c2 _).mono ?_; rintro e w1 ⟨rfl, rfl⟩
    go_wp2
    go_ret
    exact ⟨by simp, (Below.refl _ _).alloc (Nat.le_refl _) _⟩

set_option maxHeartbeats 400000 in
theorem contradictory_any (x : Wri) (w : World) :
    Calls Try.prog 53 #[.agg #[.string x.1, .string x.2.1, .bool x.2.2]] w fun e w' => e = .returned (.bool (badW x)) ∧ Below w.heap.size w w' := by
  obtain ⟨a, v, d⟩ := x
  unfold badW
  cases d
  · go_enter Try.func53, Try.ntmps53
    go_wp2
    go_ret
    exact ⟨rfl, (Below.refl _ _).alloc (Nat.le_refl _) _⟩
  · go_enter Try.func53, Try.ntmps53
    go_wp2
    go_ret
    exact ⟨by simp, (Below.refl _ _).alloc (Nat.le_refl _) _⟩

/-- Where the first write is that tooLarge holds of. -/
def ixB : List Wri → Nat
  | [] => 0
  | x :: r => if bigW x = true then 0 else ixB r + 1
theorem ixB_le : ∀ xs : List Wri, ixB xs ≤ xs.length
  | [] => Nat.le_refl _
  | x :: r => by rw [ixB]; have := ixB_le r; split <;> simp <;> omega
theorem ixB_any : ∀ xs : List Wri, decide (ixB xs < xs.length) = xs.any bigW
  | [] => rfl
  | x :: r => by
    rw [ixB, List.any_cons, ← ixB_any r]
    cases bigW x <;> simp
theorem ixB_at : ∀ {xs : List Wri} {j : Nat} {x : Wri}, j ≤ ixB xs → xs[j]? = some x → bigW x = decide (j = ixB xs)
  | [], j, x, _, h => by simp at h
  | y :: r, 0, x, hj, h => by
    simp at h; subst h
    rw [ixB]
    cases bigW y <;> simp
  | y :: r, j + 1, x, hj, h => by
    rw [ixB] at hj ⊢
    split at hj
    · omega
    · rename_i hy
      rw [if_neg hy, ixB_at (xs := r) (j := j) (by omega) (by simpa using h)]
      simp

set_option maxHeartbeats 1000000 in
theorem indexB_any (A : Option Addr) (c : Nat) (xs : List Wri) (w : World) (n : Nat) (hn : xs.length = n) (h40 : n ≤ 140737488351232) (hR : RW w A c xs) (hs : ∀ x ∈ xs, Sz x) (i0 : Int) (hi0 : (if ixB xs < n then (ixB xs : Int) else -1) = i0) :
    Calls Try.prog 72 #[.slice A n c, .func (.func 52) #[] #[]] w fun e w' => e = .returned (.int .i64 i0) ∧ Below w.heap.size w w' := by
  have HR := Lib.hid hR
  obtain ⟨q, hq⟩ : ∃ q, ixB xs = q := ⟨_, rfl⟩
  have hqn : q ≤ n := by rw [← hq, ← hn]; exact ixB_le xs
  rw [hq] at hi0
  have HQ := Lib.hid hq
  have HI := Lib.hid hi0
  clear hR hq hi0
  go_enter Try.func72, Try.ntmps72
  go_wp2_with fail
  go_loopw [8] (fun i wr => ∃ j : Nat, j ≤ q ∧ i = .int .i64 j ∧ Below w.heap.size w wr) (fun i _ => n - (intOf i).toNat)
  case atStart => exact ⟨0, Nat.zero_le _, rfl, Below.refl _ _⟩
  case round =>
    obtain ⟨j, hj, rfl, hbel⟩ := hrel
    have HL := Lib.hid hbel
    have hsz := hbel.size
    by_cases hlt : j < n
    · obtain ⟨x, hx⟩ : ∃ x, xs[j]? = some x := ⟨_, List.getElem?_eq_getElem (by omega)⟩
      obtain ⟨g, off, rfl, hg, hcell⟩ := (HR.out.below hbel (Nat.le_refl _)).at (by omega)
      obtain ⟨c0, c1, c2⟩ := hcell j x hx
      have HX := Lib.hid hx
      have hb := ixB_at (by rw [HQ.out]; exact hj) hx
      rw [HQ.out] at hb
      clear hcell hx hbel
      go_wp2_with fail
      go_at_call 52
      refine (tooLarge_any x (hs x (List.mem_of_getElem? HX.out)) _).mono ?_; rintro e w1 ⟨rfl, hB1⟩
      have HB1 := Lib.hid (HL.out.trans (hB1.mono hsz))
      rw [hb]
      clear hB1 hb c0 c1 c2
      by_cases hjq : j = q
      · have hd : decide (j = q) = true := by simpa using hjq
        rw [hd]
        have hlt2 : q < n := by omega
        obtain rfl : i0 = (j : Int) := by rw [← HI.out, if_pos hlt2, hjq]
        clear hd hjq hlt2
        go_wp2
        go_ret
        exact ⟨rfl, HB1.out⟩
      · have hd : decide (j = q) = false := by simpa using hjq
        rw [hd]
        have hj2 : j + 1 ≤ q := by omega
        clear hd hjq
        go_wp2
        go_roundw
        case rel => exact ⟨j + 1, hj2, by go_num, HB1.out⟩
        case measure => simp [intOf]; omega
    · obtain rfl : i0 = -1 := by rw [← HI.out, if_neg (by omega)]
      go_wp2
      go_ret
      exact ⟨rfl, hbel⟩

set_option maxHeartbeats 1000000 in
theorem containsB_any (A : Option Addr) (c : Nat) (xs : List Wri) (w : World) (n : Nat) (hn : xs.length = n) (h40 : n ≤ 140737488351232) (hR : RW w A c xs) (hs : ∀ x ∈ xs, Sz x) (b : Bool) (hb : xs.any bigW = b) :
    Calls Try.prog 51 #[.slice A n c, .func (.func 52) #[] #[]] w fun e w' => e = .returned (.bool b) ∧ Below w.heap.size w w' := by
  obtain ⟨i, hi⟩ : ∃ i : Int, (if ixB xs < n then (ixB xs : Int) else -1) = i := ⟨_, rfl⟩
  have hd : decide (0 ≤ i) = b := by
    rw [← hb, ← ixB_any xs, hn, ← hi]
    by_cases h : ixB xs < n
    · rw [if_pos h]; simp [h]
    · rw [if_neg h]; simp [h]
  have con := fun W hR => indexB_any A c xs W n hn h40 hR hs i hi
  clear hi hb
  go_enter Try.func51, Try.ntmps51
  go_wp2_with fail
  refine (con _ hR).mono ?_; rintro e w1 ⟨rfl, hB1⟩
  go_wp2
  go_ret
  exact ⟨by first | rfl | (simp; exact hd) | simpa using hd, hB1⟩

/-- Where the first write is that contradictory holds of. -/
def ixC : List Wri → Nat
  | [] => 0
  | x :: r => if badW x = true then 0 else ixC r + 1
theorem ixC_le : ∀ xs : List Wri, ixC xs ≤ xs.length
  | [] => Nat.le_refl _
  | x :: r => by rw [ixC]; have := ixC_le r; split <;> simp <;> omega
theorem ixC_any : ∀ xs : List Wri, decide (ixC xs < xs.length) = xs.any badW
  | [] => rfl
  | x :: r => by
    rw [ixC, List.any_cons, ← ixC_any r]
    cases badW x <;> simp
theorem ixC_at : ∀ {xs : List Wri} {j : Nat} {x : Wri}, j ≤ ixC xs → xs[j]? = some x → badW x = decide (j = ixC xs)
  | [], j, x, _, h => by simp at h
  | y :: r, 0, x, hj, h => by
    simp at h; subst h
    rw [ixC]
    cases badW y <;> simp
  | y :: r, j + 1, x, hj, h => by
    rw [ixC] at hj ⊢
    split at hj
    · omega
    · rename_i hy
      rw [if_neg hy, ixC_at (xs := r) (j := j) (by omega) (by simpa using h)]
      simp

set_option maxHeartbeats 1000000 in
theorem indexC_any (A : Option Addr) (c : Nat) (xs : List Wri) (w : World) (n : Nat) (hn : xs.length = n) (h40 : n ≤ 140737488351232) (hR : RW w A c xs) (hs : ∀ x ∈ xs, Sz x) (i0 : Int) (hi0 : (if ixC xs < n then (ixC xs : Int) else -1) = i0) :
    Calls Try.prog 72 #[.slice A n c, .func (.func 53) #[] #[]] w fun e w' => e = .returned (.int .i64 i0) ∧ Below w.heap.size w w' := by
  have HR := Lib.hid hR
  obtain ⟨q, hq⟩ : ∃ q, ixC xs = q := ⟨_, rfl⟩
  have hqn : q ≤ n := by rw [← hq, ← hn]; exact ixC_le xs
  rw [hq] at hi0
  have HQ := Lib.hid hq
  have HI := Lib.hid hi0
  clear hR hq hi0
  go_enter Try.func72, Try.ntmps72
  go_wp2_with fail
  go_loopw [8] (fun i wr => ∃ j : Nat, j ≤ q ∧ i = .int .i64 j ∧ Below w.heap.size w wr) (fun i _ => n - (intOf i).toNat)
  case atStart => exact ⟨0, Nat.zero_le _, rfl, Below.refl _ _⟩
  case round =>
    obtain ⟨j, hj, rfl, hbel⟩ := hrel
    have HL := Lib.hid hbel
    have hsz := hbel.size
    by_cases hlt : j < n
    · obtain ⟨x, hx⟩ : ∃ x, xs[j]? = some x := ⟨_, List.getElem?_eq_getElem (by omega)⟩
      obtain ⟨g, off, rfl, hg, hcell⟩ := (HR.out.below hbel (Nat.le_refl _)).at (by omega)
      obtain ⟨c0, c1, c2⟩ := hcell j x hx
      have HX := Lib.hid hx
      have hb := ixC_at (by rw [HQ.out]; exact hj) hx
      rw [HQ.out] at hb
      clear hcell hx hbel
      go_wp2_with fail
      go_at_call 53
      refine (contradictory_any x _).mono ?_; rintro e w1 ⟨rfl, hB1⟩
      have HB1 := Lib.hid (HL.out.trans (hB1.mono hsz))
      rw [hb]
      clear hB1 hb c0 c1 c2
      by_cases hjq : j = q
      · have hd : decide (j = q) = true := by simpa using hjq
        rw [hd]
        have hlt2 : q < n := by omega
        obtain rfl : i0 = (j : Int) := by rw [← HI.out, if_pos hlt2, hjq]
        clear hd hjq hlt2
        go_wp2
        go_ret
        exact ⟨rfl, HB1.out⟩
      · have hd : decide (j = q) = false := by simpa using hjq
        rw [hd]
        have hj2 : j + 1 ≤ q := by omega
        clear hd hjq
        go_wp2
        go_roundw
        case rel => exact ⟨j + 1, hj2, by go_num, HB1.out⟩
        case measure => simp [intOf]; omega
    · obtain rfl : i0 = -1 := by rw [← HI.out, if_neg (by omega)]
      go_wp2
      go_ret
      exact ⟨rfl, hbel⟩

set_option maxHeartbeats 1000000 in
theorem containsC_any (A : Option Addr) (c : Nat) (xs : List Wri) (w : World) (n : Nat) (hn : xs.length = n) (h40 : n ≤ 140737488351232) (hR : RW w A c xs) (hs : ∀ x ∈ xs, Sz x) (b : Bool) (hb : xs.any badW = b) :
    Calls Try.prog 51 #[.slice A n c, .func (.func 53) #[] #[]] w fun e w' => e = .returned (.bool b) ∧ Below w.heap.size w w' := by
  obtain ⟨i, hi⟩ : ∃ i : Int, (if ixC xs < n then (ixC xs : Int) else -1) = i := ⟨_, rfl⟩
  have hd : decide (0 ≤ i) = b := by
    rw [← hb, ← ixC_any xs, hn, ← hi]
    by_cases h : ixC xs < n
    · rw [if_pos h]; simp [h]
    · rw [if_neg h]; simp [h]
  have con := fun W hR => indexC_any A c xs W n hn h40 hR hs i hi
  clear hi hb
  go_enter Try.func51, Try.ntmps51
  go_wp2_with fail
  refine (con _ hR).mono ?_; rintro e w1 ⟨rfl, hB1⟩
  go_wp2
  go_ret
  exact ⟨by first | rfl | (simp; exact hd) | simpa using hd, hB1⟩

set_option maxHeartbeats 1000000 in
theorem check_any (A : Option Addr) (c : Nat) (xs : List Wri) (w : World) (n : Nat) (hn : xs.length = n) (h40 : n ≤ 140737488351232) (hR : RW w A c xs) (hs : ∀ x ∈ xs, Sz x) (e0 : Int) (he : chk xs = e0) :
    Calls Try.prog 40 #[.slice A n c] w fun e w' => e = .returned (.int .i64 e0) ∧ Below w.heap.size w w' := by
  obtain ⟨p, hp⟩ : ∃ p, xs.any bigW = p := ⟨_, rfl⟩
  obtain ⟨q, hq⟩ : ∃ q, xs.any badW = q := ⟨_, rfl⟩
  have hc : e0 = if (decide (16 < n) || p) = true then 8 else if q = true then 1 else 0 := by rw [← he]; unfold chk; rw [hn, hp, hq]
  have HP := Lib.hid hp
  have HQ := Lib.hid hq
  clear hp hq he
  by_cases h16 : 16 < n
  · obtain rfl : e0 = 8 := by rw [hc]; simp [h16]
    clear hc
    go_enter Try.func40, Try.ntmps40
    go_wp2
    go_ret
    exact ⟨rfl, Below.refl _ _⟩
  · cases p
    · cases q
      · obtain rfl : e0 = 0 := by rw [hc]; simp [h16]
        clear hc
        go_enter Try.func40, Try.ntmps40
        go_wp2_with fail
        refine (containsB_any A c xs _ n hn h40 hR hs false HP.out).mono ?_; rintro e w1 ⟨rfl, hB1⟩
        go_wp2_with fail
        refine (containsC_any A c xs _ n hn h40 (hR.below hB1 (Nat.le_refl _)) hs false HQ.out).mono ?_; rintro e w2 ⟨rfl, hB2⟩
        go_wp2
        go_ret
        exact ⟨rfl, hB1.trans (hB2.mono hB1.size)⟩
      · obtain rfl : e0 = 1 := by rw [hc]; simp [h16]
        clear hc
        go_enter Try.func40, Try.ntmps40
        go_wp2_with fail
        refine (containsB_any A c xs _ n hn h40 hR hs false HP.out).mono ?_; rintro e w1 ⟨rfl, hB1⟩
        go_wp2_with fail
        refine (containsC_any A c xs _ n hn h40 (hR.below hB1 (Nat.le_refl _)) hs true HQ.out).mono ?_; rintro e w2 ⟨rfl, hB2⟩
        go_wp2
        go_ret
        exact ⟨rfl, hB1.trans (hB2.mono hB1.size)⟩
    · obtain rfl : e0 = 8 := by rw [hc]; simp
      clear hc
      go_enter Try.func40, Try.ntmps40
      go_wp2_with fail
      refine (containsB_any A c xs _ n hn h40 hR hs true HP.out).mono ?_; rintro e w1 ⟨rfl, hB1⟩
      go_wp2
      go_ret
      exact ⟨rfl, hB1⟩

end Go.Proofs.Ytodenkamlbihnaa
