/-
  Plain facts about the order of lists of bytes, shared beginnings and shortest separators: no program is spoken of here. Condition: none.
-/
import GoSem.Op.String
namespace Go.Proofs.Ytboieccjikcdiaa.Plain
open Go

/-- The order of strings, as a Bool on lists of bytes. -/
def ltB : List UInt8 → List UInt8 → Bool
  | _, [] => false
  | [], _ :: _ => true
  | a :: x, b :: y => a < b || (a == b && ltB x y)

theorem bytesLess_ltB : ∀ x y : List UInt8, Op.bytesLess x y = ltB x y
  | [], [] => rfl
  | [], _ :: _ => rfl
  | _ :: _, [] => rfl
  | a :: x, b :: y => by rw [Op.bytesLess, ltB, bytesLess_ltB x y]

theorem ltB_nil (x : List UInt8) : ltB x [] = false := by cases x <;> rfl
theorem ltB_cons (a b : UInt8) (x y : List UInt8) : ltB (a :: x) (b :: y) = (decide (a < b) || (a == b && ltB x y)) := rfl

theorem ltB_cons_iff (a b : UInt8) (x y : List UInt8) : ltB (a :: x) (b :: y) = true ↔ (a.toNat < b.toNat ∨ (a = b ∧ ltB x y = true)) := by
  rw [ltB_cons]; simp [UInt8.lt_iff_toNat_lt]
theorem ltB_cons_false (a b : UInt8) (x y : List UInt8) : ltB (a :: x) (b :: y) = false ↔ (b.toNat ≤ a.toNat ∧ (a = b → ltB x y = false)) := by
  rw [ltB_cons]; simp [UInt8.lt_iff_toNat_lt]

theorem ltB_self : ∀ x : List UInt8, ltB x x = false
  | [] => rfl
  | a :: x => by rw [ltB_cons_false]; exact ⟨Nat.le_refl _, fun _ => ltB_self x⟩

theorem u8_eq {a b : UInt8} (h : a.toNat = b.toNat) : a = b := UInt8.toNat_inj.mp h

theorem ltB_tri : ∀ x y : List UInt8, ltB x y = false → ltB y x = false → x = y
  | [], [], _, _ => rfl
  | [], _ :: _, h, _ => by simp [ltB] at h
  | _ :: _, [], _, h => by simp [ltB] at h
  | a :: x, b :: y, h, k => by
    rw [ltB_cons_false] at h k
    have e : a = b := u8_eq (by omega)
    rw [ltB_tri x y (h.2 e) (k.2 e.symm), e]

theorem ltB_trans : ∀ x y z : List UInt8, ltB x y = true → ltB y z = true → ltB x z = true
  | _, _, [], _, h => by rw [ltB_nil] at h; exact absurd h (by decide)
  | _, [], _ :: _, h, _ => by rw [ltB_nil] at h; exact absurd h (by decide)
  | [], _ :: _, _ :: _, _, _ => rfl
  | a :: x, b :: y, c :: z, h, k => by
    rw [ltB_cons_iff] at h k ⊢
    rcases h with h | ⟨rfl, h⟩
    · rcases k with k | ⟨rfl, k⟩
      · exact .inl (by omega)
      · exact .inl h
    · rcases k with k | ⟨rfl, k⟩
      · exact .inl k
      · exact .inr ⟨rfl, ltB_trans x y z h k⟩

theorem ltB_asymm (x y : List UInt8) (h : ltB x y = true) : ltB y x = false := by
  cases k : ltB y x
  · rfl
  · have := ltB_trans x y x h k; rw [ltB_self] at this; exact this.symm
/-- not below, below: below. -/
theorem le_lt (x y z : List UInt8) (h : ltB y x = false) (k : ltB y z = true) : ltB x z = true := by
  cases hx : ltB x y
  · rw [ltB_tri x y hx h]; exact k
  · exact ltB_trans x y z hx k
theorem lt_le (x y z : List UInt8) (h : ltB x y = true) (k : ltB z y = false) : ltB x z = true := by
  cases hx : ltB y z
  · rw [← ltB_tri y z hx k]; exact h
  · exact ltB_trans x y z h hx
theorem le_le (x y z : List UInt8) (h : ltB y x = false) (k : ltB z y = false) : ltB z x = false := by
  cases hx : ltB z x
  · rfl
  · have := lt_le z x y hx h; rw [k] at this; exact this.symm

/-! ### The next string -/
theorem lt_succ : ∀ x : List UInt8, ltB x (x ++ [0]) = true
  | [] => rfl
  | a :: x => by rw [List.cons_append, ltB_cons_iff]; exact .inr ⟨rfl, lt_succ x⟩
theorem succ_le : ∀ x y : List UInt8, ltB x y = true → ltB y (x ++ [0]) = false
  | _, [], h => by rw [ltB_nil] at h; exact absurd h (by decide)
  | [], b :: y, _ => by rw [List.nil_append, ltB_cons_false]; exact ⟨by simp, fun _ => ltB_nil y⟩
  | a :: x, b :: y, h => by
    rw [ltB_cons_iff] at h
    rw [List.cons_append, ltB_cons_false]
    rcases h with h | ⟨rfl, h⟩
    · exact ⟨by omega, fun e => by subst e; omega⟩
    · exact ⟨Nat.le_refl _, fun _ => succ_le x y h⟩

/-! ### The shared beginning -/
def com : List UInt8 → List UInt8 → Nat
  | a :: x, b :: y => if a = b then com x y + 1 else 0
  | _, _ => 0

theorem com_le : ∀ x y : List UInt8, com x y ≤ x.length ∧ com x y ≤ y.length
  | [], _ => by simp [com]
  | _ :: _, [] => by simp [com]
  | a :: x, b :: y => by
    have := com_le x y
    unfold com; split
    · simp; omega
    · simp

theorem com_lt : ∀ x y : List UInt8, ltB x y = true → com x y < y.length
  | _, [], h => by rw [ltB_nil] at h; exact absurd h (by decide)
  | [], b :: y, _ => by simp [com]
  | a :: x, b :: y, h => by
    rw [ltB_cons_iff] at h
    unfold com; split
    · rename_i e
      have := com_lt x y (by rcases h with h | h; · subst e; omega
                             · exact h.2)
      simp; omega
    · simp

/-- What the first k bytes have in common. -/
theorem com_step : ∀ (x y : List UInt8) (k : Nat), k ≤ com x y → (k = com x y ↔ ¬ (k < x.length ∧ k < y.length ∧ x.getD k 0 = y.getD k 0))
  | [], y, k, h => by simp [com] at h; subst h; simp [com]
  | a :: x, [], k, h => by simp [com] at h; subst h; simp [com]
  | a :: x, b :: y, 0, _ => by
    unfold com; split
    · rename_i e; subst e; simp
    · rename_i e; simp; exact e
  | a :: x, b :: y, k + 1, h => by
    unfold com at h ⊢; split
    · rename_i e
      rw [if_pos e] at h
      have := com_step x y k (by omega)
      simp only [List.length_cons, List.getD_cons_succ, Nat.add_right_cancel_iff, Nat.add_lt_add_iff_right]
      exact this
    · rename_i e; rw [if_neg e] at h; omega

/-! ### The shortest separator -/
theorem sep_lt : ∀ x y : List UInt8, ltB x y = true → ltB x (y.take (com x y + 1)) = true
  | _, [], h => by rw [ltB_nil] at h; exact absurd h (by decide)
  | [], b :: y, _ => by simp [com, ltB]
  | a :: x, b :: y, h => by
    rw [ltB_cons_iff] at h
    unfold com; split
    · rename_i e
      have k : ltB x y = true := by rcases h with h | h
                                    · subst e; omega
                                    · exact h.2
      rw [List.take_succ_cons, ltB_cons_iff]
      exact .inr ⟨e, sep_lt x y k⟩
    · rename_i e
      rw [List.take_succ_cons, ltB_cons_iff]
      rcases h with h | h
      · exact .inl h
      · exact absurd h.1 e

theorem sep_short : ∀ (x y : List UInt8) (k : Nat), k ≤ com x y → ltB x (y.take k) = false
  | x, y, 0, _ => by simp [ltB_nil]
  | [], y, k + 1, h => by simp [com] at h
  | a :: x, [], k + 1, h => by simp [com] at h
  | a :: x, b :: y, k + 1, h => by
    unfold com at h
    by_cases e : a = b
    · rw [if_pos e] at h
      rw [List.take_succ_cons, ltB_cons_false]
      exact ⟨by rw [e]; exact Nat.le_refl _, fun _ => sep_short x y k (by omega)⟩
    · rw [if_neg e] at h; omega

/-- A beginning is not greater. -/
theorem take_le : ∀ (y : List UInt8) (k : Nat), ltB y (y.take k) = false
  | _, 0 => by simp [ltB_nil]
  | [], k + 1 => by simp [ltB_nil]
  | b :: y, k + 1 => by rw [List.take_succ_cons, ltB_cons_false]; exact ⟨Nat.le_refl _, fun _ => take_le y k⟩

/-- What is not below y is not below a beginning of y. -/
theorem ge_take (x y : List UInt8) (k : Nat) (h : ltB x y = false) : ltB x (y.take k) = false := le_le (y.take k) y x (take_le y k) h

/-- The separator of two strings. -/
def sep (x y : List UInt8) : List UInt8 := if ltB x y then y.take (com x y + 1) else []

/-- -1, 0 or 1. -/
def cmp (x y : List UInt8) : Int := if ltB x y then -1 else if ltB y x then 1 else 0

end Go.Proofs.Ytboieccjikcdiaa.Plain
