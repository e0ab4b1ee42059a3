/-
  Trees of nodes: which way a Find goes through a tree, where it ends, and how a tree is built. No program runs here. Condition: none.
-/
import Derived.Test.YtjnodgebpklaoaaGreatLkFind
import Derived.Test.YtjnodgebpklaoaaGreatLkKeys
namespace Go.Proofs.YtjnodgebpklaoaaGreat
section
open Go.RowKit Go.Deep Plain
set_option linter.unusedVariables false

abbrev kl (a b : ByteArray) : Bool := ltB a.toList b.toList
theorem kl_trans {a b c : ByteArray} (h : kl a b = true) (k : kl b c = true) : kl a c = true := ltB_trans _ _ _ h k
theorem kl_self (a : ByteArray) : kl a a = false := ltB_self _
theorem kl_asymm {a b : ByteArray} (h : kl a b = true) : kl b a = false := ltB_asymm _ _ h
theorem kl_le_lt {a b c : ByteArray} (h : kl b a = false) (k : kl b c = true) : kl a c = true := le_lt _ _ _ h k
theorem kl_lt_le {a b c : ByteArray} (h : kl a b = true) (k : kl c b = false) : kl a c = true := lt_le _ _ _ h k
theorem kl_nil (a : ByteArray) : kl a ⟨#[]⟩ = false := by
  show ltB a.toList (⟨#[]⟩ : ByteArray).toList = false
  rw [Lib.toList_data ⟨#[]⟩]; exact ltB_nil _
theorem asc_get : ∀ {xs : List Sl}, Asc xs → ∀ {i j : Nat} {x y : Sl}, i < j → xs[i]? = some x → xs[j]? = some y → lt x y.1 = true
  | [], _, i, j, x, y, _, hx, _ => by simp at hx
  | z :: r, ha, 0, j, x, y, hij, hx, hy => by
    obtain ⟨j', rfl⟩ : ∃ j', j = j' + 1 := ⟨j - 1, by omega⟩
    simp at hx hy; subst hx
    exact asc_head ha y (List.mem_of_getElem? hy)
  | z :: r, ha, i + 1, j, x, y, hij, hx, hy => by
    obtain ⟨j', rfl⟩ : ∃ j', j = j' + 1 := ⟨j - 1, by omega⟩
    exact asc_get (asc_tail ha) (i := i) (j := j') (by omega) (by simpa using hx) (by simpa using hy)
theorem asc_of_get : ∀ {xs : List Sl}, (∀ (i : Nat) (x y : Sl), xs[i]? = some x → xs[i + 1]? = some y → lt x y.1 = true) → Asc xs
  | [], _ => trivial
  | [_], _ => trivial
  | x :: y :: r, h => ⟨h 0 x y rfl rfl, asc_of_get fun i a b ha hb => h (i + 1) a b (by simpa using ha) (by simpa using hb)⟩
theorem child_le {xs : List Sl} (ha : Asc xs) {key k0 : ByteArray} {r0 : Nat} (h0 : xs[0]? = some (k0, r0)) (hk : kl key k0 = false) :
    ∃ q x, xs[q]? = some x ∧ near (before xs (if has key xs = true then cnt key xs + 1 else cnt key xs)) = (x.1, x.2, true) ∧ kl key x.1 = false ∧ ∀ y, xs[q + 1]? = some y → kl key y.1 = true := by
  have hcl := cnt_le key xs
  cases hh : has key xs
  · rw [if_neg (by simp)]
    have hpos : 0 < cnt key xs := by
      rcases Nat.eq_zero_or_pos (cnt key xs) with h | h
      · have h1 := lt_at xs ha key 0 _ h0
        rw [h] at h1
        have h2 := has_at xs ha key
        rw [h, h0, hh] at h2
        have h3 : kl k0 key = false := by simpa [lt] using h1
        have := ltB_tri _ _ h3 hk
        have h4 : eqk (k0, r0) key = true := by unfold eqk; rw [beq_iff_eq]; exact this
        replace h2 : false = eqk (k0, r0) key := h2
        rw [h4] at h2; cases h2
      · exact h
    obtain ⟨x, hx⟩ : ∃ x, xs[cnt key xs - 1]? = some x := ⟨_, List.getElem?_eq_getElem (by omega)⟩
    refine ⟨cnt key xs - 1, x, hx, ?_, ?_, fun y hy => ?_⟩
    · unfold before; rw [if_neg (by omega), hx]; rfl
    · have := lt_at xs ha key _ x hx
      have h1 : lt x key = true := by rw [this]; simp; omega
      exact kl_asymm h1
    · rw [show cnt key xs - 1 + 1 = cnt key xs by omega] at hy
      have h1 := lt_at xs ha key _ y hy
      have h1' : kl y.1 key = false := by have : lt y key = false := by rw [h1]; simp
                                          exact this
      have h2 := has_at xs ha key
      rw [hy, hh] at h2
      cases hky : kl key y.1
      · have := ltB_tri _ _ h1' hky
        have h4 : eqk y key = true := by unfold eqk; rw [beq_iff_eq]; exact this
        simp only [h4] at h2; cases h2
      · rfl
  · rw [if_pos rfl]
    obtain ⟨y, i, hy, hlt⟩ := has_in ha hh
    have hc : xs[cnt key xs]? = some xs[cnt key xs] := List.getElem?_eq_getElem hlt
    have h2 := has_at xs ha key
    rw [hc, hh] at h2
    have he := eqk_eq h2.symm
    refine ⟨cnt key xs, xs[cnt key xs], hc, ?_, ?_, fun z hz => ?_⟩
    · unfold before; rw [if_neg (by omega), Nat.add_sub_cancel, hc]; rfl
    · rw [he]; exact kl_self key
    · have := asc_get ha (Nat.lt_succ_self _) hc hz
      have h3 : kl (xs[cnt key xs]).1 z.1 = true := this
      rw [he] at h3; exact h3
abbrev cov (P : Pg) (key : ByteArray) : Bool := P.la || kl key P.hi
section
variable {F H : Nat} {l : List Cel} {st mm : Nat → Nat} {lo : Nat → Nat → ByteArray} {pg : Nat → Nat → Pg}
end

end

section
open Go.RowKit Go.Deep Plain
set_option linter.unusedVariables false

theorem sep_gt {a b : ByteArray} (h : kl a b = true) : kl a (sepB a b) = true := by
  show ltB a.toList (sepB a b).toList = true
  rw [sepB_toList]; unfold sep; rw [if_pos (show ltB a.toList b.toList = true from h)]
  exact sep_lt _ _ h
theorem sep_le {a b : ByteArray} (h : kl a b = true) : kl b (sepB a b) = false := by
  show ltB b.toList (sepB a b).toList = false
  rw [sepB_toList]; unfold sep; rw [if_pos (show ltB a.toList b.toList = true from h)]
  exact take_le _ _

section
variable {F L nx : Nat} {S : List Sl} {ps : List Nat}
end

theorem nla_lin {F n : Nat} (h4 : 4 ≤ F) (h6 : F ≤ 6) (h1 : 1 ≤ n) (h2 : n ≤ 100) : (F = 4 ∧ nla F n = 10 + ((n : Int) - 1) * 8) ∨ (F = 5 ∧ nla F n = 10 + ((n : Int) - 1) * 9) ∨ (F = 6 ∧ nla F n = 10 + ((n : Int) - 1) * 10) := by
  have h := nla_eq (F := F) h1 h2
  rcases (by omega : F = 4 ∨ F = 5 ∨ F = 6) with rfl | rfl | rfl
  · exact .inl ⟨rfl, by omega⟩
  · exact .inr (.inl ⟨rfl, by omega⟩)
  · exact .inr (.inr ⟨rfl, by omega⟩)
theorem nla_far {F n m : Nat} (h4 : 4 ≤ F) (h6 : F ≤ 6) (h1 : 1 ≤ n) (hnm : n < m) (h2 : m ≤ 100) : nla F n + (F : Int) + 4 ≤ nla F m := by
  rcases nla_lin h4 h6 h1 (by omega : n ≤ 100) with ⟨e1, a⟩ | ⟨e1, a⟩ | ⟨e1, a⟩ <;> rcases nla_lin h4 h6 (by omega : 1 ≤ m) h2 with ⟨e2, b⟩ | ⟨e2, b⟩ | ⟨e2, b⟩ <;> omega
def Rest (F k : Nat) (l : List Cel) : Prop := (∀ i : Int, ((1 ≤ i ∧ i ≤ 3) ∨ (6 ≤ i ∧ i < 10) ∨ 10 + 100 * (F : Int) + 400 ≤ i) → cellAt l i = cel0) ∧ cellAt l 5 = ((k : Int), ⟨#[]⟩, 0)
end

section
open Go.RowKit Go.Deep Plain
set_option linter.unusedVariables false

section
variable {F L nx : Nat} {l l' : List Cel} {S ab : List Sl} {ks : List ByteArray} {hide : Bool} {st mm : Nat → Nat} {lo : Nat → Nat → ByteArray} {pg : Nat → Nat → Pg} {off : Nat → Nat} {ps : List Nat}
end
end
end Go.Proofs.YtjnodgebpklaoaaGreat
