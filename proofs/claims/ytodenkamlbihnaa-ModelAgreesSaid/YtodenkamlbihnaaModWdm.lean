/-
  What the reference's world looks like in memory. Condition: rows of at most 2^40 snapshots.
-/
import Derived.Test.YtodenkamlbihnaaModSnap
import Derived.Test.YtodenkamlbihnaaBatMem
namespace Go.Proofs.Ytodenkamlbihnaa
open Go.RowKit Go.Deep Plain PlainE
set_option linter.unusedVariables false

/-- An open snapshot of the reference: thread, number, time. -/
abbrev Sp := Int × Int × Nat
/-! ### Rows of Sp -/
/-- The cells of a row, one behind the other. -/
def flatN : List Sp → List Value
  | [] => []
  | x :: r => .int .i64 x.1 :: .int .i64 x.2.1 :: .int .u64 (x.2.2 : Int) :: flatN r
theorem flatN_length : ∀ xs : List Sp, (flatN xs).length = xs.length * 3
  | [] => rfl
  | x :: r => by simp [flatN, flatN_length r]; omega
theorem flatN_append : ∀ xs ys : List Sp, flatN (xs ++ ys) = flatN xs ++ flatN ys
  | [], _ => rfl
  | x :: r, ys => by simp [flatN, flatN_append r ys]
theorem flatN_at : ∀ (xs : List Sp) (k : Nat) (x : Sp), xs[k]? = some x → (flatN xs)[k * 3]? = some (.int .i64 x.1) ∧ (flatN xs)[k * 3 + 1]? = some (.int .i64 x.2.1) ∧ (flatN xs)[k * 3 + 2]? = some (.int .u64 (x.2.2 : Int))
  | [], k, x, h => by simp at h
  | y :: r, 0, x, h => by simp at h; subst h; simp [flatN]
  | y :: r, k + 1, x, h => by
    have := flatN_at r k x (by simpa using h)
    have e : (k + 1) * 3 = k * 3 + 2 + 1 := by omega
    rw [e]
    simpa [flatN, Nat.add_assoc] using this
theorem flatN_one : ∀ (l : List Sp), ∀ u ∈ flatN l, u.oneCell' = true
  | [], u, h => by simp [flatN] at h
  | x :: r, u, h => by
    simp only [flatN, List.mem_cons] at h
    rcases h with rfl | rfl | rfl | h
    · rfl
    · rfl
    · rfl
    · exact flatN_one r u h
/-- A slice that reads as this row. -/
structure RSn (w : World) (A : Option Addr) (c : Nat) (xs : List Sp) : Prop where
  le : xs.length ≤ c
  max : c ≤ maxLen
  none' : A = none → c = 0
  some' : 0 < xs.length → ∃ g off, A = some ⟨g, off, none⟩ ∧ g < w.heap.size ∧ ∀ j u, (flatN xs)[j]? = some u → w.cell? ⟨g, off + j, none⟩ = some u
theorem RSn.below {w w' : World} {A : Option Addr} {c : Nat} {xs : List Sp} {B : Nat} (h : RSn w A c xs) (hb : Below B w w') (hB : w.heap.size ≤ B) : RSn w' A c xs :=
  ⟨h.le, h.max, h.none', fun hp => by
    obtain ⟨g, off, e, hg, hc⟩ := h.some' hp
    exact ⟨g, off, e, Nat.lt_of_lt_of_le hg hb.size, fun j u hu => (hb.cell (p := ⟨g, off + j, none⟩) (Nat.lt_of_lt_of_le hg hB)).trans (hc j u hu)⟩⟩
theorem RSn.at {w : World} {A : Option Addr} {c : Nat} {xs : List Sp} (h : RSn w A c xs) (hp : 0 < xs.length) : ∃ g off, A = some ⟨g, off, none⟩ ∧ g < w.heap.size ∧ ∀ (i : Nat) (x : Sp), xs[i]? = some x →
    w.cell? ⟨g, off + i * 3, none⟩ = some (.int .i64 x.1) ∧ w.cell? ⟨g, off + i * 3 + 1, none⟩ = some (.int .i64 x.2.1) ∧ w.cell? ⟨g, off + i * 3 + 2, none⟩ = some (.int .u64 (x.2.2 : Int)) := by
  obtain ⟨g, off, e, hg, hc⟩ := h.some' hp
  exact ⟨g, off, e, hg, fun i x hx => by
    obtain ⟨f0, f1, f2⟩ := flatN_at xs i x hx
    exact ⟨hc _ _ f0, (by rw [Nat.add_assoc]; exact hc _ _ f1), (by rw [Nat.add_assoc]; exact hc _ _ f2)⟩⟩
theorem RSn.nil (w : World) : RSn w none 0 [] := ⟨Nat.le_refl _, Nat.zero_le _, fun _ => rfl, fun h => absurd h (by simp)⟩
theorem RSn.take {w : World} {A : Option Addr} {c : Nat} {xs : List Sp} (h : RSn w A c xs) (i : Nat) : RSn w A c (xs.take i) :=
  ⟨by rw [List.length_take]; have := h.le; omega, h.max, h.none', fun hp => by
    obtain ⟨g, off, e, hg, hc⟩ := h.some' (by rw [List.length_take] at hp; omega)
    refine ⟨g, off, e, hg, fun j u hu => hc j u ?_⟩
    have e2 : flatN xs = flatN (xs.take i) ++ flatN (xs.drop i) := by rw [← flatN_append, List.take_append_drop]
    rw [e2, List.getElem?_append_left (List.getElem?_eq_some_iff.1 hu).1]; exact hu⟩
theorem RSn.drop {w : World} {A : Option Addr} {c : Nat} {xs : List Sp} (h : RSn w A c xs) (i : Nat) (hi : i ≤ xs.length) : RSn w (if c = i then A else A.map (·.add (i * 3))) (c - i) (xs.drop i) :=
  ⟨by rw [List.length_drop]; have := h.le; omega, by have := h.max; omega, fun hn => by
    by_cases hc : c = i
    · omega
    · rw [if_neg hc] at hn
      cases A with
      | none => have := h.none' rfl; omega
      | some a => simp at hn, fun hp => by
    rw [List.length_drop] at hp
    obtain ⟨g, off, e, hg, hc⟩ := h.some' (by omega)
    have hl := h.le
    refine ⟨g, off + i * 3, ?_, hg, fun j u hu => ?_⟩
    · rw [if_neg (by omega), e]; simp [Addr.add]
    · have e2 : flatN xs = flatN (xs.take i) ++ flatN (xs.drop i) := by rw [← flatN_append, List.take_append_drop]
      have := hc (i * 3 + j) u (by
        rw [e2, List.getElem?_append_right (by rw [flatN_length, List.length_take, Nat.min_eq_left hi]; omega), flatN_length, List.length_take, Nat.min_eq_left hi, Nat.add_sub_cancel_left]; exact hu)
      rw [Nat.add_assoc]; exact this⟩
theorem RSn.own {w : World} {base : Nat} {v : Value} {n : Nat} {xs : List Sp} (h : w.ownsRow base 69 3 v n (flatN xs)) : ∃ A c, v = .slice A n c ∧ xs.length = n ∧ RSn w A c xs ∧ (∀ a, A = some a → base ≤ a.block) := by
  have hl : xs.length = n := by have := h.1; rw [flatN_length] at this; omega
  rcases h.2 with ⟨rfl, rfl⟩ | ⟨g, cap, cur, rfl, hb, hg, hc, hm, rest⟩
  · exact ⟨none, 0, rfl, hl, ⟨by omega, Nat.zero_le _, fun _ => rfl, fun h => absurd h (by omega)⟩, fun _ h => by cases h⟩
  · refine ⟨_, cap, rfl, hl, ⟨by omega, hm, fun h => (by cases h), fun _ => ⟨g, 0, rfl, (Array.getElem?_eq_some_iff.1 hg).1, fun j u hu => ?_⟩⟩, fun a ha => by cases ha; exact hb⟩
    have := h.cells (g := g) rfl j u hu
    rw [Addr.add_lit] at this
    exact this
theorem RSn.one (w : World) (x : Sp) (o : TypeId) : RSn (w.alloc (.cells #[.int .i64 x.1, .int .i64 x.2.1, .int .u64 (x.2.2 : Int)] o)) (some ⟨w.heap.size, 0, none⟩) 1 [x] :=
  ⟨Nat.le_refl _, by unfold maxLen; omega, fun h => (by cases h), fun _ => ⟨_, _, rfl, by simp, fun j u hu => by
    match j, hu with
    | 0, hu => simp [flatN] at hu; subst hu; simp
    | 1, hu => simp [flatN] at hu; subst hu; simp
    | 2, hu => simp [flatN] at hu; subst hu; simp
    | j + 3, hu => simp [flatN] at hu⟩⟩
theorem RSn.oneAt (w : World) (x : Sp) (o : TypeId) {a : Nat} (ha : w.heap.size = a) : RSn (w.alloc (.cells #[.int .i64 x.1, .int .i64 x.2.1, .int .u64 (x.2.2 : Int)] o)) (some ⟨a, 0, none⟩) 1 [x] := by rw [← ha]; exact RSn.one w x o
theorem Try.info69 : (Try.prog.info? 69).map (fun i => (i.zero, i.size, i.bytes)) = some (some (.agg #[.int .i64 0, .int .i64 0, .int .u64 0]), 3, 24) := by kernel_rfl
/-- What a row that may be nil reads as. -/
theorem RSn.ofOwn {w : World} {base n : Nat} {v : Value} {xs : List Sp} (h : w.ownsRow base 69 3 v n (flatN xs)) : ∃ A c, v = .slice A n c ∧ xs.length = n ∧ RSn w A c xs := by
  obtain ⟨A, c, h1, h2, h3, _⟩ := RSn.own h
  exact ⟨A, c, h1, h2, h3⟩
theorem own_slice {w : World} {base e size n : Nat} {v : Value} {xs : List Value} (h : w.ownsRow base e size v n xs) : ∃ A c, v = .slice A n c := by
  rcases h.2 with ⟨rfl, rfl⟩ | ⟨g, cap, cur, rfl, _⟩
  · exact ⟨none, 0, rfl⟩
  · exact ⟨_, _, rfl⟩
theorem own_kind {w : World} {b1 b2 e1 e2 s1 s2 n1 n2 : Nat} {v1 v2 : Value} {x1 x2 : List Value} (h1 : w.ownsRow b1 e1 s1 v1 n1 x1) (h2 : w.ownsRow b2 e2 s2 v2 n2 x2) (hne : e1 ≠ e2) {g : Nat} (hg : v1.ownBlock = some g) : v2.ownBlock ≠ some g := fun hg2 => by
  obtain ⟨_, _, c1, hh1⟩ := own_cells h1 hg
  obtain ⟨_, _, c2, hh2⟩ := own_cells h2 hg2
  rw [hh1] at hh2
  injection hh2 with hh2
  injection hh2 with _ h3 _
  exact hne h3
theorem own_blk {w : World} {b e s n p : Nat} {t : TypeId} {v : Value} {x xs : List Value} (h : w.ownsRow b e s v n x) (hp : Blk w p t xs) (hne : e ≠ t) : v.ownBlock ≠ some p := fun hg => by
  obtain ⟨_, _, c1, hh1⟩ := own_cells h hg
  have h2 : w.heap[p]? = some (.cells ⟨xs⟩ t (0, 0)) := hp
  rw [hh1] at h2
  injection h2 with h2
  injection h2 with _ h3 _
  exact hne h3

/-- q is a world of the reference with these batches, this floor and these snapshots; its blocks are Z, from B on. -/
structure Wd (w : World) (q B : Nat) (Z : Nat → Prop) (bs : List (List Wri)) (fl : Nat) (sv : List Sp) (vB vS : Value) (vals : List Value) : Prop where
  p : Blk w q 31 [vB, .int .u64 (fl : Int), vS, .slice none 0 0]
  b : w.ownsRow B 34 1 vB bs.length vals
  s : w.ownsRow B 69 3 vS sv.length (flatN sv)
  r : ∀ (i : Nat) (x : List Wri), bs[i]? = some x → ∃ v, vals[i]? = some v ∧ w.ownsRow B 44 3 v x.length (flatW x) ∧ (∀ g, v.ownBlock = some g → Z g)
  zq : Z q
  zb : ∀ g, vB.ownBlock = some g → Z g
  zs : ∀ g, vS.ownBlock = some g → Z g
  z : ∀ i, Z i → B ≤ i ∧ i < w.heap.size
def WdS (w : World) (q B : Nat) (Z : Nat → Prop) (bs : List (List Wri)) (fl : Nat) (sv : List Sp) : Prop := ∃ vB vS vals, Wd w q B Z bs fl sv vB vS vals
variable {w w' : World} {q B : Nat} {Z : Nat → Prop} {bs : List (List Wri)} {fl : Nat} {sv : List Sp} {vB vS : Value} {vals : List Value}
theorem Wd.keep {S : Nat → Prop} (h : Wd w q B Z bs fl sv vB vS vals) (hk : Kept S w w') (hS : ∀ i, Z i → ¬ S i) : Wd w' q B Z bs fl sv vB vS vals := by
  have hb : ∀ i, Z i → w'.heap[i]? = w.heap[i]? := fun i hi => hk.block i (h.z i hi).2 (hS i hi)
  exact ⟨h.p.of (hb q h.zq), own_of h.b fun g hg => hb g (h.zb g hg), own_of h.s fun g hg => hb g (h.zs g hg), fun i x hx => by
    obtain ⟨v, h1, h2, h3⟩ := h.r i x hx
    exact ⟨v, h1, own_of h2 fun g hg => hb g (h3 g hg), h3⟩, h.zq, h.zb, h.zs, fun i hi => ⟨(h.z i hi).1, Nat.lt_of_lt_of_le (h.z i hi).2 hk.size⟩⟩
theorem WdS.keep {S : Nat → Prop} (h : WdS w q B Z bs fl sv) (hk : Kept S w w') (hS : ∀ i, Z i → ¬ S i) : WdS w' q B Z bs fl sv := by
  obtain ⟨vB, vS, vals, h⟩ := h
  exact ⟨vB, vS, vals, h.keep hk hS⟩
theorem WdS.below {C : Nat} (h : WdS w q B Z bs fl sv) (hk : Below C w w') (hC : w.heap.size ≤ C) : WdS w' q B Z bs fl sv :=
  h.keep (S := fun _ => False) (Below.kept hk fun i hi hB => absurd hi (by omega)) (fun _ _ => id)
theorem WdS.lt (h : WdS w q B Z bs fl sv) {i : Nat} (hi : Z i) : B ≤ i ∧ i < w.heap.size := by
  obtain ⟨vB, vS, vals, h⟩ := h
  exact h.z i hi
theorem WdS.mono {Z' : Nat → Prop} (h : WdS w q B Z bs fl sv) (hZ : ∀ i, Z i → Z' i) (hZ' : ∀ i, Z' i → B ≤ i ∧ i < w.heap.size) : WdS w q B Z' bs fl sv := by
  obtain ⟨vB, vS, vals, h⟩ := h
  exact ⟨vB, vS, vals, h.p, h.b, h.s, fun i x hx => by
    obtain ⟨v, h1, h2, h3⟩ := h.r i x hx
    exact ⟨v, h1, h2, fun g hg => hZ g (h3 g hg)⟩, hZ _ h.zq, fun g hg => hZ g (h.zb g hg), fun g hg => hZ g (h.zs g hg), hZ'⟩
/-- The least of a time and the times of all snapshots. -/
def leastS (T : Nat) (sv : List Sp) : Nat := sv.foldl (fun m x => min m x.2.2) T
theorem leastS_snoc (T : Nat) (sv : List Sp) (x : Sp) : leastS T (sv ++ [x]) = min (leastS T sv) x.2.2 := by unfold leastS; rw [List.foldl_append]; rfl
/-- The first snapshot of this name. -/
def ixS (t j : Int) : List Sp → Option Nat
  | [] => none
  | x :: r => if x.1 = t ∧ x.2.1 = j then some 0 else (ixS t j r).map (· + 1)
def delS (t j : Int) (sv : List Sp) : List Sp := match ixS t j sv with
  | some i => sv.take i ++ sv.drop (i + 1)
  | none => sv
theorem ixS_lt {t j : Int} : ∀ {sv : List Sp} {i : Nat}, ixS t j sv = some i → i < sv.length
  | [], _, h => by cases h
  | x :: r, i, h => by
    unfold ixS at h
    split at h
    · cases h; simp
    · cases hr : ixS t j r with
      | none => rw [hr] at h; cases h
      | some k => rw [hr] at h; cases h; have := ixS_lt hr; simp; omega
theorem ixS_hit {t j : Int} : ∀ {sv : List Sp} {i : Nat}, (∀ (k : Nat) (x : Sp), k < i → sv[k]? = some x → ¬ (x.1 = t ∧ x.2.1 = j)) → (∃ x, sv[i]? = some x ∧ x.1 = t ∧ x.2.1 = j) → ixS t j sv = some i
  | [], i, _, ⟨x, h, _⟩ => by simp at h
  | y :: r, 0, _, ⟨x, h, h2⟩ => by
    obtain rfl : y = x := by simpa using h
    unfold ixS; rw [if_pos h2]
  | y :: r, i + 1, hn, ⟨x, h, h2⟩ => by
    unfold ixS
    rw [if_neg (hn 0 y (by omega) rfl), ixS_hit (i := i) (fun k x hk hx => hn (k + 1) x (by omega) (by simpa using hx)) ⟨x, by simpa using h, h2⟩]; rfl
theorem ixS_miss {t j : Int} : ∀ {sv : List Sp}, (∀ x ∈ sv, ¬ (x.1 = t ∧ x.2.1 = j)) → ixS t j sv = none
  | [], _ => rfl
  | y :: r, h => by unfold ixS; rw [if_neg (h y (by simp)), ixS_miss fun x hx => h x (by simp [hx])]; rfl
/-- The reference's snapshots are the model's. -/
structure SnR (sn : Lit → Option Nat) (sv : List Sp) : Prop where
  rng : ∀ x ∈ sv, (0 ≤ x.1 ∧ x.1 < 3) ∧ (0 ≤ x.2.1 ∧ x.2.1 < 2)
  nod : (sv.map fun x => (x.1, x.2.1)).Nodup
  mem : ∀ x ∈ sv, sn (litP x.1 x.2.1) = some x.2.2
  all : ∀ kl y, sn kl = some y → ∃ x ∈ sv, kl = litP x.1 x.2.1 ∧ x.2.2 = y
theorem litP_inj {t j t' j' : Int} (h1 : (0 ≤ t ∧ t < 3) ∧ (0 ≤ j ∧ j < 2)) (h2 : (0 ≤ t' ∧ t' < 3) ∧ (0 ≤ j' ∧ j' < 2)) (h : litP t j = litP t' j') : t = t' ∧ j = j' := by
  have k1 := keyOf_pair h1.1 h1.2
  have k2 := keyOf_pair h2.1 h2.2
  rw [h] at k1
  have e := keyedP.inj k1 k2
  injection e with e
  have e2 := Array.mk.inj e
  have h3 := List.cons.inj e2
  have h4 := List.cons.inj h3.2
  exact ⟨(Value.int.inj h3.1).2, (Value.int.inj h4.1).2⟩
theorem SnR.least {sn : Lit → Option Nat} (h : SnR sn sv) (T : Nat) : IsWm sn T (leastS T sv) := by
  have gen : ∀ (sv : List Sp) (m : Nat), leastS m sv ≤ m ∧ (∀ x ∈ sv, leastS m sv ≤ x.2.2) ∧ (leastS m sv = m ∨ ∃ x ∈ sv, leastS m sv = x.2.2) := by
    intro sv
    induction sv with
    | nil => intro m; exact ⟨Nat.le_refl _, fun x hx => by simp at hx, .inl rfl⟩
    | cons y r ih =>
      intro m
      obtain ⟨h1, h2, h3⟩ := ih (min m y.2.2)
      have e : leastS m (y :: r) = leastS (min m y.2.2) r := rfl
      rw [e]
      refine ⟨by omega, fun x hx => ?_, ?_⟩
      · rcases List.mem_cons.1 hx with rfl | hx
        · omega
        · exact h2 x hx
      · rcases h3 with h3 | ⟨x, hx, h3⟩
        · by_cases hm : m ≤ y.2.2
          · left; omega
          · right; exact ⟨y, by simp, by omega⟩
        · right; exact ⟨x, by simp [hx], h3⟩
  obtain ⟨h1, h2, h3⟩ := gen sv T
  refine ⟨h1, fun kl y hy => ?_, ?_⟩
  · obtain ⟨x, hx, _, rfl⟩ := h.all kl y hy
    exact h2 x hx
  · rcases h3 with h3 | ⟨x, hx, h3⟩
    · exact .inl h3
    · right; exact ⟨_, by rw [h3]; exact h.mem x hx⟩
theorem delS_mem {t j : Int} {sv : List Sp} (hn : (sv.map fun x => (x.1, x.2.1)).Nodup) (x : Sp) : x ∈ delS t j sv ↔ x ∈ sv ∧ ¬ (x.1 = t ∧ x.2.1 = j) := by
  induction sv with
  | nil => simp [delS, ixS]
  | cons y r ih =>
    simp only [List.map_cons, List.nodup_cons] at hn
    by_cases hy : y.1 = t ∧ y.2.1 = j
    · have e : delS t j (y :: r) = r := by unfold delS ixS; rw [if_pos hy]; simp
      rw [e]
      constructor
      · intro hx
        refine ⟨by simp [hx], fun hxy => hn.1 ?_⟩
        exact List.mem_map.2 ⟨x, hx, by rw [hxy.1, hxy.2, hy.1, hy.2]⟩
      · rintro ⟨hx, hne⟩
        rcases List.mem_cons.1 hx with rfl | hx
        · exact absurd hy hne
        · exact hx
    · have e : delS t j (y :: r) = y :: delS t j r := by
        unfold delS
        rw [ixS, if_neg hy]
        cases ixS t j r with
        | none => rfl
        | some i => simp
      rw [e, List.mem_cons, ih hn.2, List.mem_cons]
      constructor
      · rintro (rfl | ⟨h1, h2⟩)
        · exact ⟨.inl rfl, hy⟩
        · exact ⟨.inr h1, h2⟩
      · rintro ⟨rfl | h1, h2⟩
        · exact .inl rfl
        · exact .inr ⟨h1, h2⟩
theorem delS_nod {t j : Int} {sv : List Sp} (hn : (sv.map fun x => (x.1, x.2.1)).Nodup) : ((delS t j sv).map fun x => (x.1, x.2.1)).Nodup := by
  have hs : (delS t j sv).Sublist sv := by
    unfold delS
    cases h : ixS t j sv with
    | none => exact List.Sublist.refl _
    | some i =>
      show (sv.take i ++ sv.drop (i + 1)).Sublist sv
      conv => rhs; rw [← List.take_append_drop i sv]
      exact List.Sublist.append (List.Sublist.refl _) (by rw [← List.drop_drop]; exact List.drop_sublist _ _)
  exact (hs.map _).nodup hn
theorem SnR.del {sn : Lit → Option Nat} (h : SnR sn sv) {t j : Int} (ht : 0 ≤ t ∧ t < 3) (hj : 0 ≤ j ∧ j < 2) : SnR (updL sn (litP t j) none) (delS t j sv) := by
  have hkey := keyedP.key (keyOf_pair ht hj)
  refine ⟨fun x hx => h.rng x ((delS_mem h.nod x).1 hx).1, delS_nod h.nod, fun x hx => ?_, fun kl y hy => ?_⟩
  · obtain ⟨h1, h2⟩ := (delS_mem h.nod x).1 hx
    unfold updL
    rw [if_neg (by rw [Maps.sameKey_ne fun e => h2 (litP_inj (h.rng x h1) ⟨ht, hj⟩ e)]; simp)]
    exact h.mem x h1
  · unfold updL at hy
    split at hy
    · cases hy
    · rename_i hne
      obtain ⟨x, hx, rfl, e2⟩ := h.all kl y hy
      refine ⟨x, (delS_mem h.nod x).2 ⟨hx, fun hxy => hne ?_⟩, rfl, e2⟩
      rw [hxy.1, hxy.2]; exact WideAt.sameKey_self hkey
theorem SnR.put {sn : Lit → Option Nat} (h : SnR sn sv) {t j : Int} (ht : 0 ≤ t ∧ t < 3) (hj : 0 ≤ j ∧ j < 2) (T : Nat) : SnR (updL sn (litP t j) (some T)) (delS t j sv ++ [(t, j, T)]) := by
  have hkey := keyedP.key (keyOf_pair ht hj)
  have hd := h.del ht hj
  refine ⟨fun x hx => ?_, ?_, fun x hx => ?_, fun kl y hy => ?_⟩
  · rcases List.mem_append.1 hx with h1 | h1
    · exact hd.rng x h1
    · simp at h1; subst h1; exact ⟨ht, hj⟩
  · rw [List.map_append, List.nodup_append]
    refine ⟨hd.nod, by simp, fun a ha c hc => ?_⟩
    obtain ⟨x, hx, rfl⟩ := List.mem_map.1 ha
    obtain rfl : c = (t, j) := by simpa using hc
    intro e
    exact ((delS_mem h.nod x).1 hx).2 ⟨congrArg Prod.fst e, congrArg Prod.snd e⟩
  · unfold updL
    rcases List.mem_append.1 hx with h1 | h1
    · obtain ⟨h2, h3⟩ := (delS_mem h.nod x).1 h1
      rw [if_neg (by rw [Maps.sameKey_ne fun e => h3 (litP_inj (h.rng x h2) ⟨ht, hj⟩ e)]; simp)]
      exact h.mem x h2
    · simp at h1; subst h1
      rw [if_pos (WideAt.sameKey_self hkey)]
  · unfold updL at hy
    split at hy
    · rename_i he
      cases hy
      exact ⟨(t, j, T), by simp, WideAt.sameKey_eq he, rfl⟩
    · rename_i hne
      obtain ⟨x, hx, rfl, e2⟩ := h.all kl y hy
      refine ⟨x, List.mem_append.2 (.inl ((delS_mem h.nod x).2 ⟨hx, fun hxy => hne ?_⟩)), rfl, e2⟩
      rw [hxy.1, hxy.2]; exact WideAt.sameKey_self hkey

end Go.Proofs.Ytodenkamlbihnaa
