/-
  What a row of versions looks like in memory, and what append does with it: laws for the walks over chains. Condition: rows of at most 2^40 versions.
-/
import Derived.Test.YtpamjbjgckaedaaRows
import Derived.Test.YtpamjbjgckaedaaRecPlain
import Derived.Test.YtpamjbjgckaedaaMemPlain
import Derived.WalkKit
import Derived.WalkSpells
import Derived.WalkLawsBesides
import Derived.Below
import Derived.Lib.Hide
import Derived.Lib.Strings
import Derived.Laws.AppendOwn
import Derived.Laws.AppendOwnNone
import Derived.Deep.QuietTactic
import Derived.BigQuiet
namespace Go.Proofs.Ytpamjbjgckaedaa
open Go.RowKit Go.Deep Plain
set_option linter.unusedVariables false

/-- A slice that reads as these versions. -/
structure Rv (w : World) (A : Option Addr) (c : Nat) (xs : List Ve) : Prop where
  le : xs.length ≤ c
  max : c ≤ maxLen
  none' : A = none → c = 0
  some' : 0 < xs.length → ∃ g off, A = some ⟨g, off, none⟩ ∧ g < w.heap.size ∧ ∀ j u, (flatv xs)[j]? = some u → w.cell? ⟨g, off + j, none⟩ = some u

theorem Rv.below {w w' : World} {A : Option Addr} {c : Nat} {xs : List Ve} {B : Nat} (h : Rv w A c xs) (hb : Below B w w') (hB : w.heap.size ≤ B) : Rv w' A c xs :=
  ⟨h.le, h.max, h.none', fun hp => by
    obtain ⟨g, off, e, hg, hc⟩ := h.some' hp
    exact ⟨g, off, e, Nat.lt_of_lt_of_le hg hb.size, fun j u hu => (hb.cell (p := ⟨g, off + j, none⟩) (Nat.lt_of_lt_of_le hg hB)).trans (hc j u hu)⟩⟩
/-- A version's cells, as the walk asks for them. -/
theorem Rv.at {w : World} {A : Option Addr} {c : Nat} {xs : List Ve} (h : Rv w A c xs) (hp : 0 < xs.length) : ∃ g off, A = some ⟨g, off, none⟩ ∧ g < w.heap.size ∧ ∀ (i : Nat) (x : Ve), xs[i]? = some x →
    w.cell? ⟨g, off + i * 3, none⟩ = some (.int .u64 (x.1 : Int)) ∧ w.cell? ⟨g, off + i * 3 + 1, none⟩ = some (.string x.2.1) ∧ w.cell? ⟨g, off + i * 3 + 2, none⟩ = some (.bool x.2.2) := by
  obtain ⟨g, off, e, hg, hc⟩ := h.some' hp
  exact ⟨g, off, e, hg, fun i x hx => by
    obtain ⟨f1, f2, f3⟩ := flatv_at xs i x hx
    exact ⟨hc _ _ f1, by rw [Nat.add_assoc]; exact hc _ _ f2, by rw [Nat.add_assoc]; exact hc _ _ f3⟩⟩
theorem Rv.nil (w : World) : Rv w none 0 [] := ⟨Nat.le_refl _, Nat.zero_le _, fun _ => rfl, fun h => absurd h (by simp)⟩
theorem Rv.take {w : World} {A : Option Addr} {c : Nat} {xs : List Ve} (h : Rv w A c xs) (i : Nat) : Rv w A c (xs.take i) :=
  ⟨by rw [List.length_take]; have := h.le; omega, h.max, h.none', fun hp => by
    obtain ⟨g, off, e, hg, hc⟩ := h.some' (by rw [List.length_take] at hp; omega)
    refine ⟨g, off, e, hg, fun j u hu => hc j u ?_⟩
    have e2 : flatv xs = flatv (xs.take i) ++ flatv (xs.drop i) := by rw [← flatv_append, List.take_append_drop]
    rw [e2, List.getElem?_append_left (List.getElem?_eq_some_iff.1 hu).1]; exact hu⟩
theorem Rv.own {w : World} {base : Nat} {v : Value} {n : Nat} {xs : List Ve} (h : w.ownsRow base 51 3 v n (flatv xs)) : ∃ A c, v = .slice A n c ∧ xs.length = n ∧ Rv w A c xs ∧ (∀ a, A = some a → base ≤ a.block) := by
  have hl : xs.length = n := by have := h.1; rw [flatv_length] at this; omega
  rcases h.2 with ⟨rfl, rfl⟩ | ⟨g, cap, cur, rfl, hb, hg, hc, hm, rest⟩
  · exact ⟨none, 0, rfl, hl, ⟨by omega, Nat.zero_le _, fun _ => rfl, fun h => absurd h (by omega)⟩, fun _ h => by cases h⟩
  · refine ⟨_, cap, rfl, hl, ⟨by omega, hm, fun h => (by cases h), fun _ => ⟨g, 0, rfl, (Array.getElem?_eq_some_iff.1 hg).1, fun j u hu => ?_⟩⟩, fun a ha => by cases ha; exact hb⟩
    have := h.cells (g := g) rfl j u hu
    rw [Addr.add_lit] at this
    exact this

theorem Blk.below {w w1 : World} {b B : Nat} {t : TypeId} {xs : List Value} (h : Blk w b t xs) (hb : Below B w w1) (hB : b < B) : Blk w1 b t xs := h.of (hb.block _ hB)
theorem Try.info51 : (Try.prog.info? 51).map (fun i => (i.zero, i.size, i.bytes)) = some (some (.agg #[.int .u64 0, .string ByteArray.empty, .bool false]), 3, 32) := by kernel_rfl
theorem Try.info23 : (Try.prog.info? 23).map (fun i => (i.zero, i.size, i.bytes)) = some (some (.int .u64 0), 1, 8) := by kernel_rfl

theorem own_less {w : World} {base base' e size n : Nat} {v : Value} {xs : List Value} (h : w.ownsRow base e size v n xs) (hb : base' ≤ base) : w.ownsRow base' e size v n xs := by
  refine ⟨h.1, ?_⟩
  rcases h.2 with hn | ⟨g, cap, cur, rfl, hg, rest⟩
  · exact .inl hn
  · exact .inr ⟨g, cap, cur, rfl, Nat.le_trans hb hg, rest⟩
theorem own_below {w w' : World} {base e size n B : Nat} {v : Value} {xs : List Value} (h : w.ownsRow base e size v n xs) (hb : Below B w w') (hB : w.heap.size ≤ B) : w'.ownsRow base e size v n xs := by
  refine ⟨h.1, ?_⟩
  rcases h.2 with hn | ⟨g, cap, cur, rfl, hg, hh, rest⟩
  · exact .inl hn
  · exact .inr ⟨g, cap, cur, rfl, hg, (hb.block g (Nat.lt_of_lt_of_le (Array.getElem?_eq_some_iff.1 hh).1 hB)).trans hh, rest⟩

/-- One version, as it is laid out for an append. -/
theorem Rv.one (w : World) (x : Ve) : Rv (w.alloc (.cells #[.int .u64 (x.1 : Int), .string x.2.1, .bool x.2.2] 51)) (some ⟨w.heap.size, 0, none⟩) 1 [x] :=
  ⟨Nat.le_refl _, by unfold maxLen; omega, fun h => (by cases h), fun _ => ⟨_, _, rfl, by simp, fun j u hu => by
    match j, hu with
    | 0, hu => simp [flatv] at hu; subst hu; simp
    | 1, hu => simp [flatv] at hu; subst hu; simp
    | 2, hu => simp [flatv] at hu; subst hu; simp
    | j + 3, hu => simp [flatv] at hu⟩⟩

section
variable {w : World} {ops : Array Oper} {rest : List Oper} {o : Oper} {a : Act} {Q : Exit → Act → World → Prop}
/-- append(s, x...) of versions: s a row of the call's own, x any versions. -/
theorem wpList_app (hgd : o.guard = none) (s x : Operand) (ho : o.op = .call { callee := .builtin .append, args := #[s, x], argTypes := #[33, 33] })
    (base : Nat) (v : Value) (n : Nat) (xs : List Ve) (hs : a.eval s = v) (hown : w.ownsRow base 51 3 v n (flatv xs)) (A : Option Addr) (m c : Nat) (ys : List Ve) (hx : a.eval x = .slice A m c)
    (hm : ys.length = m) (hR : Rv w A c ys) (h40 : n + m ≤ 1099511627776) (hbase : base ≤ w.heap.size)
    (h : ∀ v' w', w'.ownsRow base 51 3 v' (n + m) (flatv (xs ++ ys)) → Below base w w' → wpList Try.prog ops Q rest (a.put o.dst v') w') : wpList Try.prog ops Q (o :: rest) a w := by
  obtain ⟨i, hi, hz0, hz1, hz2⟩ := info_parts Try.info51
  cases A with
  | none =>
    obtain rfl := hR.none' rfl
    have hl := hR.le
    have h0 : ys = [] := List.eq_nil_of_length_eq_zero (by omega)
    subst h0
    obtain rfl : m = 0 := by simpa using hm.symm
    refine wpList_append_own_none hgd s x 33 ho base 51 i 3 Try.underlying33 hi v n (flatv xs) hs hown hx ?_
    refine h _ _ ?_ (Below.refl _ _)
    rw [List.append_nil]; exact hown
  | some ad =>
    refine wpList_append_own w hgd s x 33 ho base 51 i _ 3 32 Try.underlying33 hi hz0 hz1 hz2 rfl (by decide) v n (flatv xs) hs hown ad m c (flatv ys) hx (by rw [flatv_length, hm]) ?_ (flatv_one ys) (by unfold maxLen; omega) (by omega) hbase ?_
    · intro j u hu
      have hp : 0 < ys.length := by
        have := (List.getElem?_eq_some_iff.1 hu).1
        rw [flatv_length] at this; omega
      obtain ⟨g, off, e, _, hc⟩ := hR.some' hp
      cases e
      rw [Addr.add_lit]; exact hc j u hu
    · intro v' w' hown' hgr _
      refine h v' w' (by rw [flatv_append]; exact hown') ?_
      exact (Below.refl base w).grown hgr hbase fun k hk => (hown.lt k hk).1
end
end Go.Proofs.Ytpamjbjgckaedaa
