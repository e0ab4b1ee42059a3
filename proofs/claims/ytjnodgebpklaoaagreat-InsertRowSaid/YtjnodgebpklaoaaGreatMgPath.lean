/-
 Locks on a tree of which only the lock bits of latches change: how many steps they are from their end. No program runs here. Condition: none.
-/
import Derived.Test.YtjnodgebpklaoaaGreatLkRun
import Derived.Test.YtjnodgebpklaoaaGreatLkTree
import Derived.Test.YtjnodgebpklaoaaGreatLkNew
namespace Go.Proofs.YtjnodgebpklaoaaGreat
open Go.RowKit Go.Deep Plain
set_option linter.unusedVariables false

theorem nla_lo {F n : Nat} (h4 : 4 ≤ F) (h6 : F ≤ 6) (h1 : 1 ≤ n) (h2 : n ≤ 100) : 10 ≤ nla F n ∧ nla F n + (F : Int) + 4 ≤ 10 + 100 * (F : Int) + 400 := by
 rcases nla_lin h4 h6 h1 h2 with ⟨e, a⟩ | ⟨e, a⟩ | ⟨e, a⟩ <;> omega
theorem nad_ne {F n m r : Nat} (h4 : 4 ≤ F) (h6 : F ≤ 6) (h3 : 1 ≤ m) (h5 : m ≤ 100) (hr : r < F + 3) : nad F n r ≠ nla F m := by
 by_cases h1 : 1 ≤ n ∧ n ≤ 100
 ·intro e
  rw [nad_eq h1.1 h1.2 hr] at e
  rcases Nat.lt_trichotomy m n with h | h | h
  ·have := nla_far h4 h6 h3 h h1.2; omega
  ·subst h; omega
  ·have := nla_far h4 h6 h1.1 h h5; omega
 ·have hm := (nla_lo h4 h6 h3 h5).1
  have hz : ∀ p : Int, nodeAt 100 (F : Int) 10 (n : Int) p = -1 := fun p => by unfold nodeAt; rw [if_neg (by omega)]
  have : nad F n r = -1 := by
   unfold nad adr; split
   ·exact hz _
   ·split
    ·exact hz _
    ·split
     ·exact hz _
     ·unfold slotAt; split
      ·exact hz _
      ·rfl
  omega
section
variable {F : Nat} {l0 l : List Cel} {h : Nat → Bool} {n : Nat} {P : Pg}
end

section
variable {F : Nat} {key : ByteArray} {lvl : Nat} {l0 l : List Cel} {h : Nat → Bool} {t : Nat} {P : Pg}
end

section
variable {F : Nat} {key : ByteArray} {lvl : Nat} {l0 l : List Cel} {t : Nat} {P : Pg}
theorem got_all (P : Pg) : (got P (P.xs.length + 3)).lv = P.lv ∧ (got P (P.xs.length + 3)).hi = P.hi ∧ (got P (P.xs.length + 3)).la = P.la ∧ (got P (P.xs.length + 3)).rt = P.rt ∧ (got P (P.xs.length + 3)).xs = P.xs := by
 have h := got_end P
 generalize got P (P.xs.length + 3) = s at h
 subst h
 exact ⟨rfl, rfl, rfl, rfl, rfl⟩
end
def hpg (A : Option Addr) (c n wd : Nat) (P : Pg) : Value := .agg #[.int .u64 (n : Int), .int .u64 (wd : Int), .int .i64 (P.lv : Int), .slice A P.xs.length c, .string P.hi, .bool P.la, .int .u64 (P.rt : Int)]
theorem hval_got (A : Option Addr) (c n wd : Nat) (P : Pg) : hval A c n wd (got P (P.xs.length + 3)) = hpg A c n wd P := by
 obtain ⟨h1, h2, h3, h4, h5⟩ := got_all P
 unfold hval hpg
 rw [h1, h2, h3, h4, h5]

end Go.Proofs.YtjnodgebpklaoaaGreat
namespace Go.Proofs.YtjnodgebpklaoaaGreat
section
open Go.RowKit Go.Deep Plain
set_option linter.unusedVariables false

theorem wsto_app {la : Int} {wb we : Nat} {cs : List Sto} {l : List Cel} : app l (wsto la wb we cs) = putAt (app (putAt l la ((wb : Int), (⟨#[]⟩ : ByteArray), (0 : Int))) cs) la ((we : Int), (⟨#[]⟩ : ByteArray), (0 : Int)) := by
 unfold wsto; rw [app_snoc]; rfl
theorem wsto_holds {F : Nat} {la : Int} {ad : Nat → Int} {n : Nat} (ha : Ads F la ad n) {wb we : Nat} {l : List Cel} (hn : l.length = n) {P Q : Pg} (hP : Holds ad l P) (hF : P.xs.length ≤ F) (hQ : Q.xs.length ≤ F) : Holds ad (app l (wsto la wb we (chg (pst ad P) (pst ad Q)))) Q := by
 have h1 : Holds ad (putAt l la ((wb : Int), (⟨#[]⟩ : ByteArray), (0 : Int))) P := fun r hr => by
  rw [cellAt_other (Ne.symm (ha.ne r (by omega)))]; exact hP r hr
 have h2 := chg_holds ha (by rw [putAt_length]; exact hn) h1 hF hQ
 intro r hr
 rw [wsto_app, cellAt_other (Ne.symm (ha.ne r (by omega)))]
 exact h2 r hr
theorem wsto_nats {la : Int} {wb we : Nat} {cs : List Sto} (hb : wb < 18446744073709551616) (he : we < 18446744073709551616) (hc : ∀ s ∈ cs, NatCell s.2) : ∀ s ∈ wsto la wb we cs, NatCell s.2 := by
 intro s hs
 unfold wsto at hs
 rcases List.mem_append.1 hs with h | h
 ·rcases List.mem_cons.1 h with rfl | h
  ·exact ⟨wb, 0, _, rfl, hb, by omega⟩
  ·exact hc s h
 ·rw [List.mem_singleton.1 h]; exact ⟨we, 0, _, rfl, he, by omega⟩
end

section
open Go.RowKit Go.Deep Plain
set_option linter.unusedVariables false

section
variable {F n0 : Nat} {l : List Cel} {P Q : Pg} {C j : Nat} {ss : List Sto}
end
end
end Go.Proofs.YtjnodgebpklaoaaGreat
