/-
  What a row of slots looks like in memory, and what append does with it: laws for the walks over pages. Condition: rows of at most 2^40 slots.
-/
import Derived.Test.YtboieccjikcdiaaRows
import Derived.Test.YtboieccjikcdiaaPagPlain
import Derived.Test.YtboieccjikcdiaaMemPlain
import Derived.WalkKit
import Derived.WalkSpells
import Derived.WalkLawsBesides
import Derived.Below
import Derived.Lib.Hide
import Derived.Lib.Strings
import Derived.Laws.AppendOwn
import Derived.Laws.AppendOwnNone
import Derived.Deep.QuietTactic
import Derived.BigQuiet
namespace Go.Proofs.Ytboieccjikcdiaa
open Go.RowKit Go.Deep Plain
set_option linter.unusedVariables false

/-- A slice that reads as these slots. -/
structure Rs (w : World) (A : Option Addr) (c : Nat) (xs : List Sl) : Prop where
  le : xs.length ≤ c
  max : c ≤ maxLen
  none' : A = none → c = 0
  some' : 0 < xs.length → ∃ g off, A = some ⟨g, off, none⟩ ∧ g < w.heap.size ∧ ∀ j u, (flat xs)[j]? = some u → w.cell? ⟨g, off + j, none⟩ = some u

theorem Rs.below {w w' : World} {A : Option Addr} {c : Nat} {xs : List Sl} {B : Nat} (h : Rs w A c xs) (hb : Below B w w') (hB : w.heap.size ≤ B) : Rs w' A c xs :=
  ⟨h.le, h.max, h.none', fun hp => by
    obtain ⟨g, off, e, hg, hc⟩ := h.some' hp
    exact ⟨g, off, e, Nat.lt_of_lt_of_le hg hb.size, fun j u hu => (hb.cell (p := ⟨g, off + j, none⟩) (Nat.lt_of_lt_of_le hg hB)).trans (hc j u hu)⟩⟩
/-- A slot's cells, as the walk asks for them. -/
theorem Rs.at {w : World} {A : Option Addr} {c : Nat} {xs : List Sl} (h : Rs w A c xs) (hp : 0 < xs.length) : ∃ g off, A = some ⟨g, off, none⟩ ∧ g < w.heap.size ∧ ∀ (i : Nat) (x : Sl), xs[i]? = some x →
    w.cell? ⟨g, off + i * 2, none⟩ = some (.string x.1) ∧ w.cell? ⟨g, off + i * 2 + 1, none⟩ = some (.int .u64 (x.2 : Int)) := by
  obtain ⟨g, off, e, hg, hc⟩ := h.some' hp
  exact ⟨g, off, e, hg, fun i x hx => by
    obtain ⟨f1, f2⟩ := flat_at xs i x hx
    exact ⟨hc _ _ f1, by rw [Nat.add_assoc]; exact hc _ _ f2⟩⟩
theorem Rs.nil (w : World) : Rs w none 0 [] := ⟨Nat.le_refl _, Nat.zero_le _, fun _ => rfl, fun h => absurd h (by simp)⟩
theorem Rs.take {w : World} {A : Option Addr} {c : Nat} {xs : List Sl} (h : Rs w A c xs) (i : Nat) : Rs w A c (xs.take i) :=
  ⟨by rw [List.length_take]; have := h.le; omega, h.max, h.none', fun hp => by
    obtain ⟨g, off, e, hg, hc⟩ := h.some' (by rw [List.length_take] at hp; omega)
    refine ⟨g, off, e, hg, fun j u hu => hc j u ?_⟩
    have e2 : flat xs = flat (xs.take i) ++ flat (xs.drop i) := by rw [← flat_append, List.take_append_drop]
    rw [e2, List.getElem?_append_left (List.getElem?_eq_some_iff.1 hu).1]; exact hu⟩
theorem Rs.drop {w : World} {A : Option Addr} {c : Nat} {xs : List Sl} (h : Rs w A c xs) (i : Nat) (hi : i ≤ xs.length) : Rs w (if c = i then A else A.map (·.add (i * 2))) (c - i) (xs.drop i) :=
  ⟨by rw [List.length_drop]; have := h.le; omega, by have := h.max; omega, fun hn => by
    by_cases hc : c = i
    · omega
    · rw [if_neg hc] at hn
      cases A with
      | none => have := h.none' rfl; omega
      | some a => simp at hn, fun hp => by
    rw [List.length_drop] at hp
    obtain ⟨g, off, e, hg, hc⟩ := h.some' (by omega)
    have hl := h.le
    refine ⟨g, off + i * 2, ?_, hg, fun j u hu => ?_⟩
    · rw [if_neg (by omega), e]; simp [Addr.add]
    · have e2 : flat xs = flat (xs.take i) ++ flat (xs.drop i) := by rw [← flat_append, List.take_append_drop]
      have := hc (i * 2 + j) u (by
        rw [e2, List.getElem?_append_right (by rw [flat_length, List.length_take, Nat.min_eq_left hi]; omega), flat_length, List.length_take, Nat.min_eq_left hi, Nat.add_sub_cancel_left]; exact hu)
      rw [Nat.add_assoc]; exact this⟩
theorem Rs.own {w : World} {base : Nat} {v : Value} {n : Nat} {xs : List Sl} (h : w.ownsRow base 65 2 v n (flat xs)) : ∃ A c, v = .slice A n c ∧ xs.length = n ∧ Rs w A c xs ∧ (∀ a, A = some a → base ≤ a.block) := by
  have hl : xs.length = n := by have := h.1; rw [flat_length] at this; omega
  rcases h.2 with ⟨rfl, rfl⟩ | ⟨g, cap, cur, rfl, hb, hg, hc, hm, rest⟩
  · exact ⟨none, 0, rfl, hl, ⟨by omega, Nat.zero_le _, fun _ => rfl, fun h => absurd h (by omega)⟩, fun _ h => by cases h⟩
  · refine ⟨_, cap, rfl, hl, ⟨by omega, hm, fun h => (by cases h), fun _ => ⟨g, 0, rfl, (Array.getElem?_eq_some_iff.1 hg).1, fun j u hu => ?_⟩⟩, fun a ha => by cases ha; exact hb⟩
    have := h.cells (g := g) rfl j u hu
    rw [Addr.add_lit] at this
    exact this

theorem Blk.below {w w1 : World} {b B : Nat} {t : TypeId} {xs : List Value} (h : Blk w b t xs) (hb : Below B w w1) (hB : b < B) : Blk w1 b t xs := h.of (hb.block _ hB)
/-- A box for an argument, and a block for a result behind it. -/
theorem box_one (w : World) (ps : List Value) (tp : TypeId) : Blk (w.alloc (.cells ⟨ps⟩ tp)) w.heap.size tp ps ∧ Below w.heap.size w (w.alloc (.cells ⟨ps⟩ tp)) ∧ (w.alloc (.cells ⟨ps⟩ tp)).heap.size = w.heap.size + 1 :=
  ⟨Blk.new _ _ _, (Below.refl _ _).alloc (Nat.le_refl _) _, nblk_alloc _ _⟩
theorem box_two (w : World) (ps rs : List Value) (tp tr : TypeId) : Blk ((w.alloc (.cells ⟨ps⟩ tp)).alloc (.cells ⟨rs⟩ tr)) w.heap.size tp ps ∧ Blk ((w.alloc (.cells ⟨ps⟩ tp)).alloc (.cells ⟨rs⟩ tr)) (w.heap.size + 1) tr rs ∧
    Below w.heap.size w ((w.alloc (.cells ⟨ps⟩ tp)).alloc (.cells ⟨rs⟩ tr)) ∧ ((w.alloc (.cells ⟨ps⟩ tp)).alloc (.cells ⟨rs⟩ tr)).heap.size = w.heap.size + 2 := by
  obtain ⟨h1, h2, h3⟩ := box_one w ps tp
  refine ⟨h1.alloc _, ?_, h2.alloc (by rw [h3]; omega) _, by rw [nblk_alloc, h3]⟩
  have := Blk.new (w.alloc (.cells ⟨ps⟩ tp)) rs tr
  rw [h3] at this; exact this

theorem Try.info65 : (Try.prog.info? 65).map (fun i => (i.zero, i.size, i.bytes)) = some (some (.agg #[.string ByteArray.empty, .int .u64 0]), 2, 24) := by kernel_rfl

theorem own_less {w : World} {base base' e size n : Nat} {v : Value} {xs : List Value} (h : w.ownsRow base e size v n xs) (hb : base' ≤ base) : w.ownsRow base' e size v n xs := by
  refine ⟨h.1, ?_⟩
  rcases h.2 with hn | ⟨g, cap, cur, rfl, hg, rest⟩
  · exact .inl hn
  · exact .inr ⟨g, cap, cur, rfl, Nat.le_trans hb hg, rest⟩
theorem own_below {w w' : World} {base e size n B : Nat} {v : Value} {xs : List Value} (h : w.ownsRow base e size v n xs) (hb : Below B w w') (hB : w.heap.size ≤ B) : w'.ownsRow base e size v n xs := by
  refine ⟨h.1, ?_⟩
  rcases h.2 with hn | ⟨g, cap, cur, rfl, hg, hh, rest⟩
  · exact .inl hn
  · exact .inr ⟨g, cap, cur, rfl, hg, (hb.block g (Nat.lt_of_lt_of_le (Array.getElem?_eq_some_iff.1 hh).1 hB)).trans hh, rest⟩

/-- One slot, as it is laid out for an append. -/
theorem Rs.one (w : World) (k : ByteArray) (r : Nat) : Rs (w.alloc (.cells #[.string k, .int .u64 (r : Int)] 65)) (some ⟨w.heap.size, 0, none⟩) 1 [(k, r)] :=
  ⟨Nat.le_refl _, by unfold maxLen; omega, fun h => (by cases h), fun _ => ⟨_, _, rfl, by simp, fun j u hu => by
    match j, hu with
    | 0, hu => simp [flat] at hu; subst hu; simp
    | 1, hu => simp [flat] at hu; subst hu; simp
    | j + 2, hu => simp [flat] at hu⟩⟩

/-- A result's five cells written, and the slots' cell of the box ahead of them. -/
theorem own_res {w : World} {base e size n : Nat} {v : Value} {xs : List Value} (h : w.ownsRow base e size v n xs) {r : Nat} (hr : r < base) (u0 u1 u2 u3 u4 : Value) :
    (((((w.setCell ⟨r, 0, none⟩ u0).setCell ⟨r, 1, none⟩ u1).setCell ⟨r, 2, none⟩ u2).setCell ⟨r, 3, none⟩ u3).setCell ⟨r, 4, none⟩ u4).ownsRow base e size v n xs :=
  ownsRow_setCell_below (ownsRow_setCell_below (ownsRow_setCell_below (ownsRow_setCell_below (ownsRow_setCell_below h hr _) hr _) hr _) hr _) hr _
theorem own_page {w : World} {base e size n : Nat} {v : Value} {xs : List Value} (h : w.ownsRow base e size v n xs) {p r : Nat} (hp : p < base) (hr : r < base) (u u0 u1 u2 u3 u4 : Value) :
    ((((((w.setCell ⟨p, 1, none⟩ u).setCell ⟨r, 0, none⟩ u0).setCell ⟨r, 1, none⟩ u1).setCell ⟨r, 2, none⟩ u2).setCell ⟨r, 3, none⟩ u3).setCell ⟨r, 4, none⟩ u4).ownsRow base e size v n xs :=
  own_res (ownsRow_setCell_below h hp u) hr _ _ _ _ _
theorem below_res {B : Nat} {a w : World} (h : Below B a w) {r : Nat} (hr : B ≤ r) (u0 u1 u2 u3 u4 : Value) :
    Below B a (((((w.setCell ⟨r, 0, none⟩ u0).setCell ⟨r, 1, none⟩ u1).setCell ⟨r, 2, none⟩ u2).setCell ⟨r, 3, none⟩ u3).setCell ⟨r, 4, none⟩ u4) :=
  ((((h.setCell hr _).setCell hr _).setCell hr _).setCell hr _).setCell hr _
theorem below_page {B : Nat} {a w : World} (h : Below B a w) {p r : Nat} (hp : B ≤ p) (hr : B ≤ r) (u u0 u1 u2 u3 u4 : Value) :
    Below B a ((((((w.setCell ⟨p, 1, none⟩ u).setCell ⟨r, 0, none⟩ u0).setCell ⟨r, 1, none⟩ u1).setCell ⟨r, 2, none⟩ u2).setCell ⟨r, 3, none⟩ u3).setCell ⟨r, 4, none⟩ u4) :=
  below_res (h.setCell (p := ⟨p, 1, none⟩) hp u) hr _ _ _ _ _

section
variable {w : World} {ops : Array Oper} {rest : List Oper} {o : Oper} {a : Act} {Q : Exit → Act → World → Prop}
/-- append(s, x...) of slots: s a row of the call's own, x any slots. -/
theorem wpList_app (hgd : o.guard = none) (s x : Operand) (ho : o.op = .call { callee := .builtin .append, args := #[s, x], argTypes := #[41, 41] })
    (base : Nat) (v : Value) (n : Nat) (xs : List Sl) (hs : a.eval s = v) (hown : w.ownsRow base 65 2 v n (flat xs)) (A : Option Addr) (m c : Nat) (ys : List Sl) (hx : a.eval x = .slice A m c)
    (hm : ys.length = m) (hR : Rs w A c ys) (h40 : n + m ≤ 1099511627776) (hbase : base ≤ w.heap.size)
    (h : ∀ v' w', w'.ownsRow base 65 2 v' (n + m) (flat (xs ++ ys)) → Below base w w' → wpList Try.prog ops Q rest (a.put o.dst v') w') : wpList Try.prog ops Q (o :: rest) a w := by
  obtain ⟨i, hi, hz0, hz1, hz2⟩ := info_parts Try.info65
  cases A with
  | none =>
    obtain rfl := hR.none' rfl
    have hl := hR.le
    have h0 : ys = [] := List.eq_nil_of_length_eq_zero (by omega)
    subst h0
    obtain rfl : m = 0 := by simpa using hm.symm
    refine wpList_append_own_none hgd s x 41 ho base 65 i 2 Try.underlying41 hi v n (flat xs) hs hown hx ?_
    refine h _ _ ?_ (Below.refl _ _)
    rw [List.append_nil]; exact hown
  | some ad =>
    refine wpList_append_own w hgd s x 41 ho base 65 i _ 2 24 Try.underlying41 hi hz0 hz1 hz2 rfl (by decide) v n (flat xs) hs hown ad m c (flat ys) hx (by rw [flat_length, hm]) ?_ (flat_one ys) (by unfold maxLen; omega) (by omega) hbase ?_
    · intro j u hu
      have hp : 0 < ys.length := by
        have := (List.getElem?_eq_some_iff.1 hu).1
        rw [flat_length] at this; omega
      obtain ⟨g, off, e, _, hc⟩ := hR.some' hp
      cases e
      rw [Addr.add_lit]; exact hc j u hu
    · intro v' w' hown' hgr _
      refine h v' w' (by rw [flat_append]; exact hown') ?_
      exact (Below.refl base w).grown hgr hbase fun k hk => (hown.lt k hk).1
end
end Go.Proofs.Ytboieccjikcdiaa
