/-
  What rows of entries, of writes and of strings look like in memory, and what append does with them. Condition: rows of at most 2^40 elements.
-/
import Derived.Test.YtodenkamlbihnaaRows
import Derived.Test.YtodenkamlbihnaaBatPlain
import Derived.WalkKit
import Derived.WalkSpells
import Derived.WalkLawsBesides
import Derived.Below
import Derived.Lib.Hide
import Derived.Lib.Strings
import Derived.Laws.AppendOwn
import Derived.Laws.AppendOwnNone
import Derived.Deep.QuietTactic
import Derived.BigQuiet
namespace Go.Proofs.Ytodenkamlbihnaa
open Go.RowKit Go.Deep Plain PlainE
set_option linter.unusedVariables false
theorem Blk.below {w w1 : World} {b B : Nat} {t : TypeId} {xs : List Value} (h : Blk w b t xs) (hb : Below B w w1) (hB : b < B) : Blk w1 b t xs := h.of (hb.block _ hB)
theorem own_less {w : World} {base base' e size n : Nat} {v : Value} {xs : List Value} (h : w.ownsRow base e size v n xs) (hb : base' ≤ base) : w.ownsRow base' e size v n xs := by
  refine ⟨h.1, ?_⟩
  rcases h.2 with hn | ⟨g, cap, cur, rfl, hg, rest⟩
  · exact .inl hn
  · exact .inr ⟨g, cap, cur, rfl, Nat.le_trans hb hg, rest⟩
theorem own_below {w w' : World} {base e size n B : Nat} {v : Value} {xs : List Value} (h : w.ownsRow base e size v n xs) (hb : Below B w w') (hB : w.heap.size ≤ B) : w'.ownsRow base e size v n xs := by
  refine ⟨h.1, ?_⟩
  rcases h.2 with hn | ⟨g, cap, cur, rfl, hg, hh, rest⟩
  · exact .inl hn
  · exact .inr ⟨g, cap, cur, rfl, hg, (hb.block g (Nat.lt_of_lt_of_le (Array.getElem?_eq_some_iff.1 hh).1 hB)).trans hh, rest⟩
theorem own_not {W : World} {base e size n : Nat} {v : Value} {ys : List Value} (h : W.ownsRow base e size v n ys) {b : Nat} (hb : W.heap.size ≤ b) : ∀ a c, v = .slice (some a) n c → a.block ≠ b := fun a c hv => by
  rcases h.2 with ⟨rfl, _⟩ | ⟨g, cap, cur, rfl, hg, hh, rest⟩
  · cases hv
  · cases hv
    have := (Array.getElem?_eq_some_iff.1 hh).1
    show g ≠ b
    omega
theorem own_keep {W : World} {base e size n : Nat} {v : Value} {ys : List Value} (h : W.ownsRow base e size v n ys) {p : Addr} (hp : ∀ a c, v = .slice (some a) n c → a.block ≠ p.block) (u : Value) : (W.setCell p u).ownsRow base e size v n ys := by
  refine ⟨h.1, ?_⟩
  rcases h.2 with hn | ⟨g, cap, cur, rfl, hg, hh, rest⟩
  · exact .inl hn
  · exact .inr ⟨g, cap, cur, rfl, hg, (Below.heap_setCell W p u g (hp _ _ rfl)).trans hh, rest⟩
theorem boxed {B : Nat} {w wr w1 : World} {o : Obj} (h : Below B w wr) (hs : B ≤ wr.heap.size) (h1 : Below (wr.alloc o).heap.size (wr.alloc o) w1) : Below B w w1 := (h.alloc hs o).trans (h1.mono (by rw [nblk_alloc]; omega))

/-! ### Rows of Ent -/
/-- The cells of a row, one behind the other. -/
def flatE : List Ent → List Value
  | [] => []
  | x :: r => .string x.1 :: .string x.2 :: flatE r
theorem flatE_length : ∀ xs : List Ent, (flatE xs).length = xs.length * 2
  | [] => rfl
  | x :: r => by simp [flatE, flatE_length r]; omega
theorem flatE_append : ∀ xs ys : List Ent, flatE (xs ++ ys) = flatE xs ++ flatE ys
  | [], _ => rfl
  | x :: r, ys => by simp [flatE, flatE_append r ys]
theorem flatE_at : ∀ (xs : List Ent) (k : Nat) (x : Ent), xs[k]? = some x → (flatE xs)[k * 2]? = some (.string x.1) ∧ (flatE xs)[k * 2 + 1]? = some (.string x.2)
  | [], k, x, h => by simp at h
  | y :: r, 0, x, h => by simp at h; subst h; simp [flatE]
  | y :: r, k + 1, x, h => by
    have := flatE_at r k x (by simpa using h)
    have e : (k + 1) * 2 = k * 2 + 1 + 1 := by omega
    rw [e]
    simpa [flatE, Nat.add_assoc] using this
theorem flatE_one : ∀ (l : List Ent), ∀ u ∈ flatE l, u.oneCell' = true
  | [], u, h => by simp [flatE] at h
  | x :: r, u, h => by
    simp only [flatE, List.mem_cons] at h
    rcases h with rfl | rfl | h
    · rfl
    · rfl
    · exact flatE_one r u h
/-- A slice that reads as this row. -/
structure RE (w : World) (A : Option Addr) (c : Nat) (xs : List Ent) : Prop where
  le : xs.length ≤ c
  max : c ≤ maxLen
  none' : A = none → c = 0
  some' : 0 < xs.length → ∃ g off, A = some ⟨g, off, none⟩ ∧ g < w.heap.size ∧ ∀ j u, (flatE xs)[j]? = some u → w.cell? ⟨g, off + j, none⟩ = some u
theorem RE.below {w w' : World} {A : Option Addr} {c : Nat} {xs : List Ent} {B : Nat} (h : RE w A c xs) (hb : Below B w w') (hB : w.heap.size ≤ B) : RE w' A c xs :=
  ⟨h.le, h.max, h.none', fun hp => by
    obtain ⟨g, off, e, hg, hc⟩ := h.some' hp
    exact ⟨g, off, e, Nat.lt_of_lt_of_le hg hb.size, fun j u hu => (hb.cell (p := ⟨g, off + j, none⟩) (Nat.lt_of_lt_of_le hg hB)).trans (hc j u hu)⟩⟩
theorem RE.at {w : World} {A : Option Addr} {c : Nat} {xs : List Ent} (h : RE w A c xs) (hp : 0 < xs.length) : ∃ g off, A = some ⟨g, off, none⟩ ∧ g < w.heap.size ∧ ∀ (i : Nat) (x : Ent), xs[i]? = some x →
    w.cell? ⟨g, off + i * 2, none⟩ = some (.string x.1) ∧ w.cell? ⟨g, off + i * 2 + 1, none⟩ = some (.string x.2) := by
  obtain ⟨g, off, e, hg, hc⟩ := h.some' hp
  exact ⟨g, off, e, hg, fun i x hx => by
    obtain ⟨f0, f1⟩ := flatE_at xs i x hx
    exact ⟨hc _ _ f0, (by rw [Nat.add_assoc]; exact hc _ _ f1)⟩⟩
theorem RE.nil (w : World) : RE w none 0 [] := ⟨Nat.le_refl _, Nat.zero_le _, fun _ => rfl, fun h => absurd h (by simp)⟩
theorem RE.take {w : World} {A : Option Addr} {c : Nat} {xs : List Ent} (h : RE w A c xs) (i : Nat) : RE w A c (xs.take i) :=
  ⟨by rw [List.length_take]; have := h.le; omega, h.max, h.none', fun hp => by
    obtain ⟨g, off, e, hg, hc⟩ := h.some' (by rw [List.length_take] at hp; omega)
    refine ⟨g, off, e, hg, fun j u hu => hc j u ?_⟩
    have e2 : flatE xs = flatE (xs.take i) ++ flatE (xs.drop i) := by rw [← flatE_append, List.take_append_drop]
    rw [e2, List.getElem?_append_left (List.getElem?_eq_some_iff.1 hu).1]; exact hu⟩
theorem RE.drop {w : World} {A : Option Addr} {c : Nat} {xs : List Ent} (h : RE w A c xs) (i : Nat) (hi : i ≤ xs.length) : RE w (if c = i then A else A.map (·.add (i * 2))) (c - i) (xs.drop i) :=
  ⟨by rw [List.length_drop]; have := h.le; omega, by have := h.max; omega, fun hn => by
    by_cases hc : c = i
    · omega
    · rw [if_neg hc] at hn
      cases A with
      | none => have := h.none' rfl; omega
      | some a => simp at hn, fun hp => by
    rw [List.length_drop] at hp
    obtain ⟨g, off, e, hg, hc⟩ := h.some' (by omega)
    have hl := h.le
    refine ⟨g, off + i * 2, ?_, hg, fun j u hu => ?_⟩
    · rw [if_neg (by omega), e]; simp [Addr.add]
    · have e2 : flatE xs = flatE (xs.take i) ++ flatE (xs.drop i) := by rw [← flatE_append, List.take_append_drop]
      have := hc (i * 2 + j) u (by
        rw [e2, List.getElem?_append_right (by rw [flatE_length, List.length_take, Nat.min_eq_left hi]; omega), flatE_length, List.length_take, Nat.min_eq_left hi, Nat.add_sub_cancel_left]; exact hu)
      rw [Nat.add_assoc]; exact this⟩
theorem RE.own {w : World} {base : Nat} {v : Value} {n : Nat} {xs : List Ent} (h : w.ownsRow base 57 2 v n (flatE xs)) : ∃ A c, v = .slice A n c ∧ xs.length = n ∧ RE w A c xs ∧ (∀ a, A = some a → base ≤ a.block) := by
  have hl : xs.length = n := by have := h.1; rw [flatE_length] at this; omega
  rcases h.2 with ⟨rfl, rfl⟩ | ⟨g, cap, cur, rfl, hb, hg, hc, hm, rest⟩
  · exact ⟨none, 0, rfl, hl, ⟨by omega, Nat.zero_le _, fun _ => rfl, fun h => absurd h (by omega)⟩, fun _ h => by cases h⟩
  · refine ⟨_, cap, rfl, hl, ⟨by omega, hm, fun h => (by cases h), fun _ => ⟨g, 0, rfl, (Array.getElem?_eq_some_iff.1 hg).1, fun j u hu => ?_⟩⟩, fun a ha => by cases ha; exact hb⟩
    have := h.cells (g := g) rfl j u hu
    rw [Addr.add_lit] at this
    exact this
theorem RE.one (w : World) (x : Ent) (o : TypeId) : RE (w.alloc (.cells #[.string x.1, .string x.2] o)) (some ⟨w.heap.size, 0, none⟩) 1 [x] :=
  ⟨Nat.le_refl _, by unfold maxLen; omega, fun h => (by cases h), fun _ => ⟨_, _, rfl, by simp, fun j u hu => by
    match j, hu with
    | 0, hu => simp [flatE] at hu; subst hu; simp
    | 1, hu => simp [flatE] at hu; subst hu; simp
    | j + 2, hu => simp [flatE] at hu⟩⟩
theorem RE.oneAt (w : World) (x : Ent) (o : TypeId) {a : Nat} (ha : w.heap.size = a) : RE (w.alloc (.cells #[.string x.1, .string x.2] o)) (some ⟨a, 0, none⟩) 1 [x] := by rw [← ha]; exact RE.one w x o
theorem Try.info57 : (Try.prog.info? 57).map (fun i => (i.zero, i.size, i.bytes)) = some (some (.agg #[.string ByteArray.empty, .string ByteArray.empty]), 2, 32) := by kernel_rfl
section
variable {w : World} {ops : Array Oper} {rest : List Oper} {o : Oper} {a : Act} {Q : Exit → Act → World → Prop}
/-- append(s, x...): s a row of the call's own, x any row. -/
theorem wpList_appEG (hgd : o.guard = none) (s x : Operand) (ho : o.op = .call { callee := .builtin .append, args := #[s, x], argTypes := #[53, 53] })
    (base : Nat) (v : Value) (n : Nat) (xs : List Ent) (hs : a.eval s = v) (hown : w.ownsRow base 57 2 v n (flatE xs)) (A : Option Addr) (m c : Nat) (ys : List Ent) (hx : a.eval x = .slice A m c)
    (hm : ys.length = m) (hR : RE w A c ys) (h40 : n + m ≤ 1099511627776) (hbase : base ≤ w.heap.size)
    (h : ∀ v' w', w'.ownsRow base 57 2 v' (n + m) (flatE (xs ++ ys)) → Below base w w' → w.grownBy w' v.ownBlock → wpList Try.prog ops Q rest (a.put o.dst v') w') : wpList Try.prog ops Q (o :: rest) a w := by
  obtain ⟨i, hi, hz0, hz1, hz2⟩ := info_parts Try.info57
  cases A with
  | none =>
    obtain rfl := hR.none' rfl
    have hl := hR.le
    have h0 : ys = [] := List.eq_nil_of_length_eq_zero (by omega)
    subst h0
    obtain rfl : m = 0 := by simpa using hm.symm
    refine wpList_append_own_none hgd s x 53 ho base 57 i 2 Try.underlying53 hi v n (flatE xs) hs hown hx ?_
    refine h _ _ ?_ (Below.refl _ _) ⟨rfl, rfl, rfl, Nat.le_refl _, fun _ _ _ => rfl⟩
    rw [List.append_nil]; exact hown
  | some ad =>
    refine wpList_append_own w hgd s x 53 ho base 57 i _ 2 32 Try.underlying53 hi hz0 hz1 hz2 rfl (by decide) v n (flatE xs) hs hown ad m c (flatE ys) hx (by rw [flatE_length, hm]) ?_ (flatE_one ys) (by unfold maxLen; omega) (by omega) hbase ?_
    · intro j u hu
      have hp : 0 < ys.length := by
        have := (List.getElem?_eq_some_iff.1 hu).1
        rw [flatE_length] at this; omega
      obtain ⟨g, off, e, _, hc⟩ := hR.some' hp
      cases e
      rw [Addr.add_lit]; exact hc j u hu
    · intro v' w' hown' hgr _
      refine h v' w' (by rw [flatE_append]; exact hown') ?_ hgr
      exact (Below.refl base w).grown hgr hbase fun k hk => (hown.lt k hk).1
theorem wpList_appE (hgd : o.guard = none) (s x : Operand) (ho : o.op = .call { callee := .builtin .append, args := #[s, x], argTypes := #[53, 53] })
    (base : Nat) (v : Value) (n : Nat) (xs : List Ent) (hs : a.eval s = v) (hown : w.ownsRow base 57 2 v n (flatE xs)) (A : Option Addr) (m c : Nat) (ys : List Ent) (hx : a.eval x = .slice A m c)
    (hm : ys.length = m) (hR : RE w A c ys) (h40 : n + m ≤ 1099511627776) (hbase : base ≤ w.heap.size)
    (h : ∀ v' w', w'.ownsRow base 57 2 v' (n + m) (flatE (xs ++ ys)) → Below base w w' → wpList Try.prog ops Q rest (a.put o.dst v') w') : wpList Try.prog ops Q (o :: rest) a w := by
  obtain ⟨i, hi, hz0, hz1, hz2⟩ := info_parts Try.info57
  cases A with
  | none =>
    obtain rfl := hR.none' rfl
    have hl := hR.le
    have h0 : ys = [] := List.eq_nil_of_length_eq_zero (by omega)
    subst h0
    obtain rfl : m = 0 := by simpa using hm.symm
    refine wpList_append_own_none hgd s x 53 ho base 57 i 2 Try.underlying53 hi v n (flatE xs) hs hown hx ?_
    refine h _ _ ?_ (Below.refl _ _)
    rw [List.append_nil]; exact hown
  | some ad =>
    refine wpList_append_own w hgd s x 53 ho base 57 i _ 2 32 Try.underlying53 hi hz0 hz1 hz2 rfl (by decide) v n (flatE xs) hs hown ad m c (flatE ys) hx (by rw [flatE_length, hm]) ?_ (flatE_one ys) (by unfold maxLen; omega) (by omega) hbase ?_
    · intro j u hu
      have hp : 0 < ys.length := by
        have := (List.getElem?_eq_some_iff.1 hu).1
        rw [flatE_length] at this; omega
      obtain ⟨g, off, e, _, hc⟩ := hR.some' hp
      cases e
      rw [Addr.add_lit]; exact hc j u hu
    · intro v' w' hown' hgr _
      refine h v' w' (by rw [flatE_append]; exact hown') ?_
      exact (Below.refl base w).grown hgr hbase fun k hk => (hown.lt k hk).1
end

/-! ### Rows of Wri -/
/-- The cells of a row, one behind the other. -/
def flatW : List Wri → List Value
  | [] => []
  | x :: r => .string x.1 :: .string x.2.1 :: .bool x.2.2 :: flatW r
theorem flatW_length : ∀ xs : List Wri, (flatW xs).length = xs.length * 3
  | [] => rfl
  | x :: r => by simp [flatW, flatW_length r]; omega
theorem flatW_append : ∀ xs ys : List Wri, flatW (xs ++ ys) = flatW xs ++ flatW ys
  | [], _ => rfl
  | x :: r, ys => by simp [flatW, flatW_append r ys]
theorem flatW_at : ∀ (xs : List Wri) (k : Nat) (x : Wri), xs[k]? = some x → (flatW xs)[k * 3]? = some (.string x.1) ∧ (flatW xs)[k * 3 + 1]? = some (.string x.2.1) ∧ (flatW xs)[k * 3 + 2]? = some (.bool x.2.2)
  | [], k, x, h => by simp at h
  | y :: r, 0, x, h => by simp at h; subst h; simp [flatW]
  | y :: r, k + 1, x, h => by
    have := flatW_at r k x (by simpa using h)
    have e : (k + 1) * 3 = k * 3 + 2 + 1 := by omega
    rw [e]
    simpa [flatW, Nat.add_assoc] using this
theorem flatW_one : ∀ (l : List Wri), ∀ u ∈ flatW l, u.oneCell' = true
  | [], u, h => by simp [flatW] at h
  | x :: r, u, h => by
    simp only [flatW, List.mem_cons] at h
    rcases h with rfl | rfl | rfl | h
    · rfl
    · rfl
    · rfl
    · exact flatW_one r u h
/-- A slice that reads as this row. -/
structure RW (w : World) (A : Option Addr) (c : Nat) (xs : List Wri) : Prop where
  le : xs.length ≤ c
  max : c ≤ maxLen
  none' : A = none → c = 0
  some' : 0 < xs.length → ∃ g off, A = some ⟨g, off, none⟩ ∧ g < w.heap.size ∧ ∀ j u, (flatW xs)[j]? = some u → w.cell? ⟨g, off + j, none⟩ = some u
theorem RW.below {w w' : World} {A : Option Addr} {c : Nat} {xs : List Wri} {B : Nat} (h : RW w A c xs) (hb : Below B w w') (hB : w.heap.size ≤ B) : RW w' A c xs :=
  ⟨h.le, h.max, h.none', fun hp => by
    obtain ⟨g, off, e, hg, hc⟩ := h.some' hp
    exact ⟨g, off, e, Nat.lt_of_lt_of_le hg hb.size, fun j u hu => (hb.cell (p := ⟨g, off + j, none⟩) (Nat.lt_of_lt_of_le hg hB)).trans (hc j u hu)⟩⟩
theorem RW.at {w : World} {A : Option Addr} {c : Nat} {xs : List Wri} (h : RW w A c xs) (hp : 0 < xs.length) : ∃ g off, A = some ⟨g, off, none⟩ ∧ g < w.heap.size ∧ ∀ (i : Nat) (x : Wri), xs[i]? = some x →
    w.cell? ⟨g, off + i * 3, none⟩ = some (.string x.1) ∧ w.cell? ⟨g, off + i * 3 + 1, none⟩ = some (.string x.2.1) ∧ w.cell? ⟨g, off + i * 3 + 2, none⟩ = some (.bool x.2.2) := by
  obtain ⟨g, off, e, hg, hc⟩ := h.some' hp
  exact ⟨g, off, e, hg, fun i x hx => by
    obtain ⟨f0, f1, f2⟩ := flatW_at xs i x hx
    exact ⟨hc _ _ f0, (by rw [Nat.add_assoc]; exact hc _ _ f1), (by rw [Nat.add_assoc]; exact hc _ _ f2)⟩⟩
theorem RW.nil (w : World) : RW w none 0 [] := ⟨Nat.le_refl _, Nat.zero_le _, fun _ => rfl, fun h => absurd h (by simp)⟩
theorem RW.take {w : World} {A : Option Addr} {c : Nat} {xs : List Wri} (h : RW w A c xs) (i : Nat) : RW w A c (xs.take i) :=
  ⟨by rw [List.length_take]; have := h.le; omega, h.max, h.none', fun hp => by
    obtain ⟨g, off, e, hg, hc⟩ := h.some' (by rw [List.length_take] at hp; omega)
    refine ⟨g, off, e, hg, fun j u hu => hc j u ?_⟩
    have e2 : flatW xs = flatW (xs.take i) ++ flatW (xs.drop i) := by rw [← flatW_append, List.take_append_drop]
    rw [e2, List.getElem?_append_left (List.getElem?_eq_some_iff.1 hu).1]; exact hu⟩
theorem RW.drop {w : World} {A : Option Addr} {c : Nat} {xs : List Wri} (h : RW w A c xs) (i : Nat) (hi : i ≤ xs.length) : RW w (if c = i then A else A.map (·.add (i * 3))) (c - i) (xs.drop i) :=
  ⟨by rw [List.length_drop]; have := h.le; omega, by have := h.max; omega, fun hn => by
    by_cases hc : c = i
    · omega
    · rw [if_neg hc] at hn
      cases A with
      | none => have := h.none' rfl; omega
      | some a => simp at hn, fun hp => by
    rw [List.length_drop] at hp
    obtain ⟨g, off, e, hg, hc⟩ := h.some' (by omega)
    have hl := h.le
    refine ⟨g, off + i * 3, ?_, hg, fun j u hu => ?_⟩
    · rw [if_neg (by omega), e]; simp [Addr.add]
    · have e2 : flatW xs = flatW (xs.take i) ++ flatW (xs.drop i) := by rw [← flatW_append, List.take_append_drop]
      have := hc (i * 3 + j) u (by
        rw [e2, List.getElem?_append_right (by rw [flatW_length, List.length_take, Nat.min_eq_left hi]; omega), flatW_length, List.length_take, Nat.min_eq_left hi, Nat.add_sub_cancel_left]; exact hu)
      rw [Nat.add_assoc]; exact this⟩
theorem RW.own {w : World} {base : Nat} {v : Value} {n : Nat} {xs : List Wri} (h : w.ownsRow base 44 3 v n (flatW xs)) : ∃ A c, v = .slice A n c ∧ xs.length = n ∧ RW w A c xs ∧ (∀ a, A = some a → base ≤ a.block) := by
  have hl : xs.length = n := by have := h.1; rw [flatW_length] at this; omega
  rcases h.2 with ⟨rfl, rfl⟩ | ⟨g, cap, cur, rfl, hb, hg, hc, hm, rest⟩
  · exact ⟨none, 0, rfl, hl, ⟨by omega, Nat.zero_le _, fun _ => rfl, fun h => absurd h (by omega)⟩, fun _ h => by cases h⟩
  · refine ⟨_, cap, rfl, hl, ⟨by omega, hm, fun h => (by cases h), fun _ => ⟨g, 0, rfl, (Array.getElem?_eq_some_iff.1 hg).1, fun j u hu => ?_⟩⟩, fun a ha => by cases ha; exact hb⟩
    have := h.cells (g := g) rfl j u hu
    rw [Addr.add_lit] at this
    exact this
theorem RW.one (w : World) (x : Wri) (o : TypeId) : RW (w.alloc (.cells #[.string x.1, .string x.2.1, .bool x.2.2] o)) (some ⟨w.heap.size, 0, none⟩) 1 [x] :=
  ⟨Nat.le_refl _, by unfold maxLen; omega, fun h => (by cases h), fun _ => ⟨_, _, rfl, by simp, fun j u hu => by
    match j, hu with
    | 0, hu => simp [flatW] at hu; subst hu; simp
    | 1, hu => simp [flatW] at hu; subst hu; simp
    | 2, hu => simp [flatW] at hu; subst hu; simp
    | j + 3, hu => simp [flatW] at hu⟩⟩
theorem RW.oneAt (w : World) (x : Wri) (o : TypeId) {a : Nat} (ha : w.heap.size = a) : RW (w.alloc (.cells #[.string x.1, .string x.2.1, .bool x.2.2] o)) (some ⟨a, 0, none⟩) 1 [x] := by rw [← ha]; exact RW.one w x o
theorem Try.info44 : (Try.prog.info? 44).map (fun i => (i.zero, i.size, i.bytes)) = some (some (.agg #[.string ByteArray.empty, .string ByteArray.empty, .bool false]), 3, 40) := by kernel_rfl
section
variable {w : World} {ops : Array Oper} {rest : List Oper} {o : Oper} {a : Act} {Q : Exit → Act → World → Prop}
/-- append(s, x...): s a row of the call's own, x any row. -/
theorem wpList_appWG (hgd : o.guard = none) (s x : Operand) (ho : o.op = .call { callee := .builtin .append, args := #[s, x], argTypes := #[34, 34] })
    (base : Nat) (v : Value) (n : Nat) (xs : List Wri) (hs : a.eval s = v) (hown : w.ownsRow base 44 3 v n (flatW xs)) (A : Option Addr) (m c : Nat) (ys : List Wri) (hx : a.eval x = .slice A m c)
    (hm : ys.length = m) (hR : RW w A c ys) (h40 : n + m ≤ 1099511627776) (hbase : base ≤ w.heap.size)
    (h : ∀ v' w', w'.ownsRow base 44 3 v' (n + m) (flatW (xs ++ ys)) → Below base w w' → w.grownBy w' v.ownBlock → wpList Try.prog ops Q rest (a.put o.dst v') w') : wpList Try.prog ops Q (o :: rest) a w := by
  obtain ⟨i, hi, hz0, hz1, hz2⟩ := info_parts Try.info44
  cases A with
  | none =>
    obtain rfl := hR.none' rfl
    have hl := hR.le
    have h0 : ys = [] := List.eq_nil_of_length_eq_zero (by omega)
    subst h0
    obtain rfl : m = 0 := by simpa using hm.symm
    refine wpList_append_own_none hgd s x 34 ho base 44 i 3 Try.underlying34 hi v n (flatW xs) hs hown hx ?_
    refine h _ _ ?_ (Below.refl _ _) ⟨rfl, rfl, rfl, Nat.le_refl _, fun _ _ _ => rfl⟩
    rw [List.append_nil]; exact hown
  | some ad =>
    refine wpList_append_own w hgd s x 34 ho base 44 i _ 3 40 Try.underlying34 hi hz0 hz1 hz2 rfl (by decide) v n (flatW xs) hs hown ad m c (flatW ys) hx (by rw [flatW_length, hm]) ?_ (flatW_one ys) (by unfold maxLen; omega) (by omega) hbase ?_
    · intro j u hu
      have hp : 0 < ys.length := by
        have := (List.getElem?_eq_some_iff.1 hu).1
        rw [flatW_length] at this; omega
      obtain ⟨g, off, e, _, hc⟩ := hR.some' hp
      cases e
      rw [Addr.add_lit]; exact hc j u hu
    · intro v' w' hown' hgr _
      refine h v' w' (by rw [flatW_append]; exact hown') ?_ hgr
      exact (Below.refl base w).grown hgr hbase fun k hk => (hown.lt k hk).1
theorem wpList_appW (hgd : o.guard = none) (s x : Operand) (ho : o.op = .call { callee := .builtin .append, args := #[s, x], argTypes := #[34, 34] })
    (base : Nat) (v : Value) (n : Nat) (xs : List Wri) (hs : a.eval s = v) (hown : w.ownsRow base 44 3 v n (flatW xs)) (A : Option Addr) (m c : Nat) (ys : List Wri) (hx : a.eval x = .slice A m c)
    (hm : ys.length = m) (hR : RW w A c ys) (h40 : n + m ≤ 1099511627776) (hbase : base ≤ w.heap.size)
    (h : ∀ v' w', w'.ownsRow base 44 3 v' (n + m) (flatW (xs ++ ys)) → Below base w w' → wpList Try.prog ops Q rest (a.put o.dst v') w') : wpList Try.prog ops Q (o :: rest) a w := by
  obtain ⟨i, hi, hz0, hz1, hz2⟩ := info_parts Try.info44
  cases A with
  | none =>
    obtain rfl := hR.none' rfl
    have hl := hR.le
    have h0 : ys = [] := List.eq_nil_of_length_eq_zero (by omega)
    subst h0
    obtain rfl : m = 0 := by simpa using hm.symm
    refine wpList_append_own_none hgd s x 34 ho base 44 i 3 Try.underlying34 hi v n (flatW xs) hs hown hx ?_
    refine h _ _ ?_ (Below.refl _ _)
    rw [List.append_nil]; exact hown
  | some ad =>
    refine wpList_append_own w hgd s x 34 ho base 44 i _ 3 40 Try.underlying34 hi hz0 hz1 hz2 rfl (by decide) v n (flatW xs) hs hown ad m c (flatW ys) hx (by rw [flatW_length, hm]) ?_ (flatW_one ys) (by unfold maxLen; omega) (by omega) hbase ?_
    · intro j u hu
      have hp : 0 < ys.length := by
        have := (List.getElem?_eq_some_iff.1 hu).1
        rw [flatW_length] at this; omega
      obtain ⟨g, off, e, _, hc⟩ := hR.some' hp
      cases e
      rw [Addr.add_lit]; exact hc j u hu
    · intro v' w' hown' hgr _
      refine h v' w' (by rw [flatW_append]; exact hown') ?_
      exact (Below.refl base w).grown hgr hbase fun k hk => (hown.lt k hk).1
end

/-! ### Rows of ByteArray -/
/-- The cells of a row, one behind the other. -/
def flatS : List ByteArray → List Value
  | [] => []
  | x :: r => .string x :: flatS r
theorem flatS_length : ∀ xs : List ByteArray, (flatS xs).length = xs.length
  | [] => rfl
  | x :: r => by simp [flatS, flatS_length r]
theorem flatS_append : ∀ xs ys : List ByteArray, flatS (xs ++ ys) = flatS xs ++ flatS ys
  | [], _ => rfl
  | x :: r, ys => by simp [flatS, flatS_append r ys]
theorem flatS_at : ∀ (xs : List ByteArray) (k : Nat) (x : ByteArray), xs[k]? = some x → (flatS xs)[k]? = some (.string x)
  | [], k, x, h => by simp at h
  | y :: r, 0, x, h => by simp at h; subst h; simp [flatS]
  | y :: r, k + 1, x, h => by
    have := flatS_at r k x (by simpa using h)
    simpa [flatS] using this
theorem flatS_one : ∀ (l : List ByteArray), ∀ u ∈ flatS l, u.oneCell' = true
  | [], u, h => by simp [flatS] at h
  | x :: r, u, h => by
    simp only [flatS, List.mem_cons] at h
    rcases h with rfl | h
    · rfl
    · exact flatS_one r u h
/-- A slice that reads as this row. -/
structure RS (w : World) (A : Option Addr) (c : Nat) (xs : List ByteArray) : Prop where
  le : xs.length ≤ c
  max : c ≤ maxLen
  none' : A = none → c = 0
  some' : 0 < xs.length → ∃ g off, A = some ⟨g, off, none⟩ ∧ g < w.heap.size ∧ ∀ j u, (flatS xs)[j]? = some u → w.cell? ⟨g, off + j, none⟩ = some u
theorem RS.below {w w' : World} {A : Option Addr} {c : Nat} {xs : List ByteArray} {B : Nat} (h : RS w A c xs) (hb : Below B w w') (hB : w.heap.size ≤ B) : RS w' A c xs :=
  ⟨h.le, h.max, h.none', fun hp => by
    obtain ⟨g, off, e, hg, hc⟩ := h.some' hp
    exact ⟨g, off, e, Nat.lt_of_lt_of_le hg hb.size, fun j u hu => (hb.cell (p := ⟨g, off + j, none⟩) (Nat.lt_of_lt_of_le hg hB)).trans (hc j u hu)⟩⟩
theorem RS.at {w : World} {A : Option Addr} {c : Nat} {xs : List ByteArray} (h : RS w A c xs) (hp : 0 < xs.length) : ∃ g off, A = some ⟨g, off, none⟩ ∧ g < w.heap.size ∧ ∀ (i : Nat) (x : ByteArray), xs[i]? = some x →
    w.cell? ⟨g, off + i, none⟩ = some (.string x) := by
  obtain ⟨g, off, e, hg, hc⟩ := h.some' hp
  exact ⟨g, off, e, hg, fun i x hx => by
    obtain f0 := flatS_at xs i x hx
    exact hc _ _ f0⟩
theorem RS.nil (w : World) : RS w none 0 [] := ⟨Nat.le_refl _, Nat.zero_le _, fun _ => rfl, fun h => absurd h (by simp)⟩
theorem RS.take {w : World} {A : Option Addr} {c : Nat} {xs : List ByteArray} (h : RS w A c xs) (i : Nat) : RS w A c (xs.take i) :=
  ⟨by rw [List.length_take]; have := h.le; omega, h.max, h.none', fun hp => by
    obtain ⟨g, off, e, hg, hc⟩ := h.some' (by rw [List.length_take] at hp; omega)
    refine ⟨g, off, e, hg, fun j u hu => hc j u ?_⟩
    have e2 : flatS xs = flatS (xs.take i) ++ flatS (xs.drop i) := by rw [← flatS_append, List.take_append_drop]
    rw [e2, List.getElem?_append_left (List.getElem?_eq_some_iff.1 hu).1]; exact hu⟩
theorem RS.drop {w : World} {A : Option Addr} {c : Nat} {xs : List ByteArray} (h : RS w A c xs) (i : Nat) (hi : i ≤ xs.length) : RS w (if c = i then A else A.map (·.add (i))) (c - i) (xs.drop i) :=
  ⟨by rw [List.length_drop]; have := h.le; omega, by have := h.max; omega, fun hn => by
    by_cases hc : c = i
    · omega
    · rw [if_neg hc] at hn
      cases A with
      | none => have := h.none' rfl; omega
      | some a => simp at hn, fun hp => by
    rw [List.length_drop] at hp
    obtain ⟨g, off, e, hg, hc⟩ := h.some' (by omega)
    have hl := h.le
    refine ⟨g, off + i, ?_, hg, fun j u hu => ?_⟩
    · rw [if_neg (by omega), e]; simp [Addr.add]
    · have e2 : flatS xs = flatS (xs.take i) ++ flatS (xs.drop i) := by rw [← flatS_append, List.take_append_drop]
      have := hc (i + j) u (by
        rw [e2, List.getElem?_append_right (by rw [flatS_length, List.length_take, Nat.min_eq_left hi]; omega), flatS_length, List.length_take, Nat.min_eq_left hi, Nat.add_sub_cancel_left]; exact hu)
      rw [Nat.add_assoc]; exact this⟩
theorem RS.own {w : World} {base : Nat} {v : Value} {n : Nat} {xs : List ByteArray} (h : w.ownsRow base 9 1 v n (flatS xs)) : ∃ A c, v = .slice A n c ∧ xs.length = n ∧ RS w A c xs ∧ (∀ a, A = some a → base ≤ a.block) := by
  have hl : xs.length = n := by have := h.1; rw [flatS_length] at this; omega
  rcases h.2 with ⟨rfl, rfl⟩ | ⟨g, cap, cur, rfl, hb, hg, hc, hm, rest⟩
  · exact ⟨none, 0, rfl, hl, ⟨by omega, Nat.zero_le _, fun _ => rfl, fun h => absurd h (by omega)⟩, fun _ h => by cases h⟩
  · refine ⟨_, cap, rfl, hl, ⟨by omega, hm, fun h => (by cases h), fun _ => ⟨g, 0, rfl, (Array.getElem?_eq_some_iff.1 hg).1, fun j u hu => ?_⟩⟩, fun a ha => by cases ha; exact hb⟩
    have := h.cells (g := g) rfl j u hu
    rw [Addr.add_lit] at this
    exact this
theorem RS.one (w : World) (x : ByteArray) (o : TypeId) : RS (w.alloc (.cells #[.string x] o)) (some ⟨w.heap.size, 0, none⟩) 1 [x] :=
  ⟨Nat.le_refl _, by unfold maxLen; omega, fun h => (by cases h), fun _ => ⟨_, _, rfl, by simp, fun j u hu => by
    match j, hu with
    | 0, hu => simp [flatS] at hu; subst hu; simp
    | j + 1, hu => simp [flatS] at hu⟩⟩
theorem RS.oneAt (w : World) (x : ByteArray) (o : TypeId) {a : Nat} (ha : w.heap.size = a) : RS (w.alloc (.cells #[.string x] o)) (some ⟨a, 0, none⟩) 1 [x] := by rw [← ha]; exact RS.one w x o
theorem Try.info9 : (Try.prog.info? 9).map (fun i => (i.zero, i.size, i.bytes)) = some (some (.string ByteArray.empty), 1, 16) := by kernel_rfl
section
variable {w : World} {ops : Array Oper} {rest : List Oper} {o : Oper} {a : Act} {Q : Exit → Act → World → Prop}
end
end Go.Proofs.Ytodenkamlbihnaa
