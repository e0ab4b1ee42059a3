/-
  What the model looks like in memory: the rows of changes, the map that holds them, the map of the open snapshots. Condition: rows of at most 2^40 changes.
-/
import Derived.Test.YtodenkamlbihnaaModPlain
import Derived.Test.YtodenkamlbihnaaBatMem
import Derived.Maps.RangeWalk
import Derived.Maps.OwnSet
import Derived.Maps.AppendAt
import Derived.DeepKeys4
namespace Go.Proofs.Ytodenkamlbihnaa
open Go.RowKit Go.Deep Plain PlainE
set_option linter.unusedVariables false

/-! ### Rows of Chg -/
/-- The cells of a row, one behind the other. -/
def flatC : List Chg → List Value
  | [] => []
  | x :: r => .int .u64 x.1 :: .string x.2.1 :: .bool x.2.2 :: flatC r
theorem flatC_length : ∀ xs : List Chg, (flatC xs).length = xs.length * 3
  | [] => rfl
  | x :: r => by simp [flatC, flatC_length r]; omega
theorem flatC_append : ∀ xs ys : List Chg, flatC (xs ++ ys) = flatC xs ++ flatC ys
  | [], _ => rfl
  | x :: r, ys => by simp [flatC, flatC_append r ys]
theorem flatC_at : ∀ (xs : List Chg) (k : Nat) (x : Chg), xs[k]? = some x → (flatC xs)[k * 3]? = some (.int .u64 x.1) ∧ (flatC xs)[k * 3 + 1]? = some (.string x.2.1) ∧ (flatC xs)[k * 3 + 2]? = some (.bool x.2.2)
  | [], k, x, h => by simp at h
  | y :: r, 0, x, h => by simp at h; subst h; simp [flatC]
  | y :: r, k + 1, x, h => by
    have := flatC_at r k x (by simpa using h)
    have e : (k + 1) * 3 = k * 3 + 2 + 1 := by omega
    rw [e]
    simpa [flatC, Nat.add_assoc] using this
theorem flatC_one : ∀ (l : List Chg), ∀ u ∈ flatC l, u.oneCell' = true
  | [], u, h => by simp [flatC] at h
  | x :: r, u, h => by
    simp only [flatC, List.mem_cons] at h
    rcases h with rfl | rfl | rfl | h
    · rfl
    · rfl
    · rfl
    · exact flatC_one r u h
/-- A slice that reads as this row. -/
structure RC (w : World) (A : Option Addr) (c : Nat) (xs : List Chg) : Prop where
  le : xs.length ≤ c
  max : c ≤ maxLen
  none' : A = none → c = 0
  some' : 0 < xs.length → ∃ g off, A = some ⟨g, off, none⟩ ∧ g < w.heap.size ∧ ∀ j u, (flatC xs)[j]? = some u → w.cell? ⟨g, off + j, none⟩ = some u
theorem RC.below {w w' : World} {A : Option Addr} {c : Nat} {xs : List Chg} {B : Nat} (h : RC w A c xs) (hb : Below B w w') (hB : w.heap.size ≤ B) : RC w' A c xs :=
  ⟨h.le, h.max, h.none', fun hp => by
    obtain ⟨g, off, e, hg, hc⟩ := h.some' hp
    exact ⟨g, off, e, Nat.lt_of_lt_of_le hg hb.size, fun j u hu => (hb.cell (p := ⟨g, off + j, none⟩) (Nat.lt_of_lt_of_le hg hB)).trans (hc j u hu)⟩⟩
theorem RC.at {w : World} {A : Option Addr} {c : Nat} {xs : List Chg} (h : RC w A c xs) (hp : 0 < xs.length) : ∃ g off, A = some ⟨g, off, none⟩ ∧ g < w.heap.size ∧ ∀ (i : Nat) (x : Chg), xs[i]? = some x →
    w.cell? ⟨g, off + i * 3, none⟩ = some (.int .u64 x.1) ∧ w.cell? ⟨g, off + i * 3 + 1, none⟩ = some (.string x.2.1) ∧ w.cell? ⟨g, off + i * 3 + 2, none⟩ = some (.bool x.2.2) := by
  obtain ⟨g, off, e, hg, hc⟩ := h.some' hp
  exact ⟨g, off, e, hg, fun i x hx => by
    obtain ⟨f0, f1, f2⟩ := flatC_at xs i x hx
    exact ⟨hc _ _ f0, (by rw [Nat.add_assoc]; exact hc _ _ f1), (by rw [Nat.add_assoc]; exact hc _ _ f2)⟩⟩
theorem RC.nil (w : World) : RC w none 0 [] := ⟨Nat.le_refl _, Nat.zero_le _, fun _ => rfl, fun h => absurd h (by simp)⟩
theorem RC.take {w : World} {A : Option Addr} {c : Nat} {xs : List Chg} (h : RC w A c xs) (i : Nat) : RC w A c (xs.take i) :=
  ⟨by rw [List.length_take]; have := h.le; omega, h.max, h.none', fun hp => by
    obtain ⟨g, off, e, hg, hc⟩ := h.some' (by rw [List.length_take] at hp; omega)
    refine ⟨g, off, e, hg, fun j u hu => hc j u ?_⟩
    have e2 : flatC xs = flatC (xs.take i) ++ flatC (xs.drop i) := by rw [← flatC_append, List.take_append_drop]
    rw [e2, List.getElem?_append_left (List.getElem?_eq_some_iff.1 hu).1]; exact hu⟩
theorem RC.drop {w : World} {A : Option Addr} {c : Nat} {xs : List Chg} (h : RC w A c xs) (i : Nat) (hi : i ≤ xs.length) : RC w (if c = i then A else A.map (·.add (i * 3))) (c - i) (xs.drop i) :=
  ⟨by rw [List.length_drop]; have := h.le; omega, by have := h.max; omega, fun hn => by
    by_cases hc : c = i
    · omega
    · rw [if_neg hc] at hn
      cases A with
      | none => have := h.none' rfl; omega
      | some a => simp at hn, fun hp => by
    rw [List.length_drop] at hp
    obtain ⟨g, off, e, hg, hc⟩ := h.some' (by omega)
    have hl := h.le
    refine ⟨g, off + i * 3, ?_, hg, fun j u hu => ?_⟩
    · rw [if_neg (by omega), e]; simp [Addr.add]
    · have e2 : flatC xs = flatC (xs.take i) ++ flatC (xs.drop i) := by rw [← flatC_append, List.take_append_drop]
      have := hc (i * 3 + j) u (by
        rw [e2, List.getElem?_append_right (by rw [flatC_length, List.length_take, Nat.min_eq_left hi]; omega), flatC_length, List.length_take, Nat.min_eq_left hi, Nat.add_sub_cancel_left]; exact hu)
      rw [Nat.add_assoc]; exact this⟩
theorem RC.own {w : World} {base : Nat} {v : Value} {n : Nat} {xs : List Chg} (h : w.ownsRow base 77 3 v n (flatC xs)) : ∃ A c, v = .slice A n c ∧ xs.length = n ∧ RC w A c xs ∧ (∀ a, A = some a → base ≤ a.block) := by
  have hl : xs.length = n := by have := h.1; rw [flatC_length] at this; omega
  rcases h.2 with ⟨rfl, rfl⟩ | ⟨g, cap, cur, rfl, hb, hg, hc, hm, rest⟩
  · exact ⟨none, 0, rfl, hl, ⟨by omega, Nat.zero_le _, fun _ => rfl, fun h => absurd h (by omega)⟩, fun _ h => by cases h⟩
  · refine ⟨_, cap, rfl, hl, ⟨by omega, hm, fun h => (by cases h), fun _ => ⟨g, 0, rfl, (Array.getElem?_eq_some_iff.1 hg).1, fun j u hu => ?_⟩⟩, fun a ha => by cases ha; exact hb⟩
    have := h.cells (g := g) rfl j u hu
    rw [Addr.add_lit] at this
    exact this
theorem RC.one (w : World) (x : Chg) (o : TypeId) : RC (w.alloc (.cells #[.int .u64 x.1, .string x.2.1, .bool x.2.2] o)) (some ⟨w.heap.size, 0, none⟩) 1 [x] :=
  ⟨Nat.le_refl _, by unfold maxLen; omega, fun h => (by cases h), fun _ => ⟨_, _, rfl, by simp, fun j u hu => by
    match j, hu with
    | 0, hu => simp [flatC] at hu; subst hu; simp
    | 1, hu => simp [flatC] at hu; subst hu; simp
    | 2, hu => simp [flatC] at hu; subst hu; simp
    | j + 3, hu => simp [flatC] at hu⟩⟩
theorem RC.oneAt (w : World) (x : Chg) (o : TypeId) {a : Nat} (ha : w.heap.size = a) : RC (w.alloc (.cells #[.int .u64 x.1, .string x.2.1, .bool x.2.2] o)) (some ⟨a, 0, none⟩) 1 [x] := by rw [← ha]; exact RC.one w x o
theorem Try.info77 : (Try.prog.info? 77).map (fun i => (i.zero, i.size, i.bytes)) = some (some (.agg #[.int .u64 0, .string ByteArray.empty, .bool false]), 3, 32) := by kernel_rfl
section
variable {w : World} {ops : Array Oper} {rest : List Oper} {o : Oper} {a : Act} {Q : Exit → Act → World → Prop}
/-- append(s, x): s a row of the call's own, x one change. -/
theorem wpList_appC (hgd : o.guard = none) (s x : Operand) (ho : o.op = .call { callee := .builtin .append, args := #[s, x], argTypes := #[75, 75] })
    (base : Nat) (v : Value) (n : Nat) (xs : List Chg) (hs : a.eval s = v) (hown : w.ownsRow base 77 3 v n (flatC xs)) (ad : Addr) (c : Nat) (y : Chg) (hx : a.eval x = .slice (some ad) 1 c)
    (hR : RC w (some ad) c [y]) (h40 : n + 1 ≤ 1099511627776) (hbase : base ≤ w.heap.size)
    (h : ∀ v' w', w'.ownsRow base 77 3 v' (n + 1) (flatC (xs ++ [y])) → w.grownBy w' v.ownBlock → (v'.ownBlock = v.ownBlock ∨ v'.ownBlock = some w.heap.size) → wpList Try.prog ops Q rest (a.put o.dst v') w') : wpList Try.prog ops Q (o :: rest) a w := by
  obtain ⟨i, hi, hz0, hz1, hz2⟩ := info_parts Try.info77
  refine wpList_append_own_at w hgd s x 75 ho base 77 i _ 3 32 Try.underlying75 hi hz0 hz1 hz2 rfl (by decide) v n (flatC xs) hs hown ad 1 c (flatC [y]) hx (by simp [flatC]) ?_ (flatC_one [y]) (by unfold maxLen; omega) (by omega) hbase ?_
  · intro j u hu
    obtain ⟨g, off, e, _, hc⟩ := hR.some' (by simp)
    cases e
    rw [Addr.add_lit]; exact hc j u hu
  · intro v' w' hown' hgr _ hat
    exact h v' w' (by rw [flatC_append]; exact hown') hgr hat
end

/-! ### Keys -/
def litB (s : ByteArray) : Lit := .string s.data.toList
theorem litB_inj {a b : ByteArray} (h : litB a = litB b) : a = b := by
  unfold litB at h
  injection h with h
  exact ByteArray.ext (Array.toList_inj.1 h)
theorem keyedS : Maps.Keyed Try.prog 9 := Maps.string_keyed Try.underlying9
theorem keyOf_str {s : ByteArray} (h : s.size ≤ maxLen) : keyOf Try.prog 9 (.string s) = some (litB s) := by
  simp [keyOf, Try.underlying9, mapKey, h, litB]
theorem keyOf_str_inv {key : Value} {kl : Lit} (h : keyOf Try.prog 9 key = some kl) : ∃ s, key = .string s ∧ kl = litB s ∧ s.size ≤ maxLen := by
  cases key <;> simp [keyOf, Try.underlying9, mapKey] at h
  exact ⟨_, rfl, h.2.symm, h.1⟩
/-- An element is read as the value that it is. -/
def rawE (v : Value) : Option (DataW Value × List MemPlace) := some (.held v, [])

/-- The map of the changes: sl k is key k's slice. -/
structure ChM (w : World) (bm base n : Nat) (D : DataW Value) (sl : ByteArray → Value) (ch : ByteArray → List Chg) : Prop where
  own : w.ownsMap Try.prog 9 rawE bm n D
  has : ∀ k, Maps.has D (litB k) = true ↔ ch k ≠ []
  val : ∀ k, ch k ≠ [] → ∀ z, D.atKey (litB k) z = .held (sl k)
  nil : ∀ k, ch k = [] → sl k = .slice none 0 0
  row : ∀ k, w.ownsRow base 77 3 (sl k) (ch k).length (flatC (ch k))
  apart : ∀ k k' g, k ≠ k' → (sl k).ownBlock = some g → (sl k').ownBlock ≠ some g
theorem own_of {w w' : World} {base e size n : Nat} {v : Value} {xs : List Value} (h : w.ownsRow base e size v n xs) (hb : ∀ g, v.ownBlock = some g → w'.heap[g]? = w.heap[g]?) : w'.ownsRow base e size v n xs := by
  refine ⟨h.1, ?_⟩
  rcases h.2 with hn | ⟨g, cap, cur, rfl, hg, hh, rest⟩
  · exact .inl hn
  · exact .inr ⟨g, cap, cur, rfl, hg, (hb g rfl).trans hh, rest⟩
theorem map_of {w w' : World} {k : TypeId} {R : Value → Option (DataW Value × List MemPlace)} {b n : Nat} {D : DataW Value} (h : w.ownsMap Try.prog k R b n D) (hb : w'.heap[b]? = w.heap[b]?) : w'.ownsMap Try.prog k R b n D := by
  obtain ⟨es, clock, h1, F, hs, hD⟩ := h
  exact ⟨es, clock, hb.trans h1, F, hs, hD⟩
theorem own_cells {w : World} {base e size n : Nat} {v : Value} {xs : List Value} (h : w.ownsRow base e size v n xs) {g : Nat} (hg : v.ownBlock = some g) : base ≤ g ∧ g < w.heap.size ∧ ∃ cur, w.heap[g]? = some (.cells cur e (0, 0)) := by
  rcases h.2 with ⟨rfl, _⟩ | ⟨g', cap, cur, rfl, hb, hh, rest⟩
  · cases hg
  · cases hg
    exact ⟨hb, (Array.getElem?_eq_some_iff.1 hh).1, cur, hh⟩
variable {w w' w2 w3 : World} {bm base n : Nat} {D : DataW Value} {sl : ByteArray → Value} {ch : ByteArray → List Chg}
theorem ChM.of (h : ChM w bm base n D sl ch) (hb : w'.heap[bm]? = w.heap[bm]?) (hr : ∀ k g, (sl k).ownBlock = some g → w'.heap[g]? = w.heap[g]?) : ChM w' bm base n D sl ch :=
  ⟨map_of h.own hb, h.has, h.val, h.nil, fun k => own_of (h.row k) (hr k), h.apart⟩
theorem ChM.off (h : ChM w bm base n D sl ch) {k : ByteArray} {g : Nat} (hg : (sl k).ownBlock = some g) : g ≠ bm := by
  obtain ⟨_, _, cur, hh⟩ := own_cells (h.row k) hg
  obtain ⟨es, clock, h1, _⟩ := h.own
  intro e
  rw [e, h1] at hh
  cases hh
theorem ChM.new (w : World) (base : Nat) : ChM (w.alloc (.map #[] 0)) w.heap.size base 0 (.map []) (fun _ => .slice none 0 0) (fun _ => []) :=
  ⟨World.ownsMap_made w _ _ _, fun k => by simp [Maps.has], fun k h => absurd rfl h, fun _ _ => rfl, fun k => World.ownsRow_nil _ _ _ _, fun k k' g _ h => by cases h⟩
theorem ChM.look (h : ChM w bm base n D sl ch) {k : ByteArray} (hk : k.size ≤ maxLen) : (Instr.lookup 62 (.map (some bm)) (.string k) false).run Try.prog w = .ok (sl k) w := by
  obtain ⟨v, ps, hrun, hv⟩ := h.own.lookup keyedS Try.underlying62 (Try.zeroValue75 w) (zd := .held (.slice none 0 0)) (zp := []) rfl (keyOf_str hk)
  have hv2 : D.atKey (litB k) (.held (.slice none 0 0)) = .held v := by
    have hv3 : some (DataW.held v, ([] : List MemPlace)) = some (D.atKey (litB k) (.held (.slice none 0 0)), ps) := hv
    exact (Prod.mk.inj (Option.some.inj hv3)).1.symm
  have : v = sl k := by
    by_cases hc : ch k = []
    · have h0 : Maps.has D (litB k) = false := by
        cases hh : Maps.has D (litB k)
        · rfl
        · exact absurd hc ((h.has k).1 hh)
      rw [Maps.atKey_of_not_has h0] at hv2
      rw [h.nil k hc]
      exact (DataW.held.inj hv2).symm
    · rw [h.val k hc] at hv2
      exact (DataW.held.inj hv2).symm
  rw [← this]; exact hrun
/-- The store behind an append. -/
theorem ChM.put (h : ChM w bm base n D sl ch) {k : ByteArray} (hk : k.size ≤ maxLen) {c : Chg} {v : Value} (hv : w2.ownsRow base 77 3 v ((ch k).length + 1) (flatC (ch k ++ [c]))) (hg : w.grownBy w2 (sl k).ownBlock)
    (hloc : v.ownBlock = (sl k).ownBlock ∨ ∃ g, v.ownBlock = some g ∧ w.heap.size ≤ g) (hm : w3.ownsMap Try.prog 9 rawE bm (n + 1) (D.put (litB k) (.held v))) (hg3 : w2.grownBy w3 (some bm)) :
    ChM w3 bm base (n + 1) (D.put (litB k) (.held v)) (fun x => if x = k then v else sl x) (fun x => if x = k then ch k ++ [c] else ch x) := by
  have hkey := keyedS.key (keyOf_str (s := k) hk)
  have hbm := h.own.lt
  have hvb : ∀ g, v.ownBlock = some g → g ≠ bm := fun g hgv => by
    rcases hloc with e | ⟨g', e, hge⟩
    · exact h.off (e ▸ hgv)
    · rw [e] at hgv; cases hgv; omega
  refine ⟨hm, fun x => ?_, fun x hx z => ?_, fun x hx => ?_, fun x => ?_, fun x y g hxy hgx => ?_⟩
  · by_cases e : x = k
    · subst e; simp [Maps.has_put_same h.own.isMap hkey]
    · rw [Maps.has_put_other (fun e2 => e (litB_inj e2)), if_neg e]; exact h.has x
  · by_cases e : x = k
    · subst e; rw [Maps.atKey_put_same h.own.isMap hkey, if_pos rfl]
    · rw [Maps.atKey_put_other (fun e2 => e (litB_inj e2)), if_neg e]; rw [if_neg e] at hx; exact h.val x hx z
  · by_cases e : x = k
    · subst e; rw [if_pos rfl] at hx; simp at hx
    · rw [if_neg e] at hx; rw [if_neg e]; exact h.nil x hx
  · by_cases e : x = k
    · subst e
      rw [if_pos rfl, if_pos rfl, List.length_append]
      exact own_of hv fun g hgv => hg3.block g (own_cells hv hgv).2.1 (fun e => hvb g hgv (by injection e))
    · rw [if_neg e, if_neg e]
      refine own_of (h.row x) fun g hgx => ?_
      have h1 := (own_cells (h.row x) hgx).2.1
      have h2 := hg.block g h1 (fun e2 => h.apart x k g e hgx e2.symm)
      exact (hg3.block g (Nat.lt_of_lt_of_le h1 hg.size) (fun e => h.off hgx (by injection e))).trans h2
  · by_cases ex : x = k
    · subst ex
      rw [if_pos rfl] at hgx
      rw [if_neg (fun e => hxy e.symm)]
      rcases hloc with e | ⟨g', e, hge⟩
      · exact h.apart x y g hxy (e ▸ hgx)
      · rw [e] at hgx; cases hgx
        intro h2
        have := (own_cells (h.row y) h2).2.1
        omega
    · rw [if_neg ex] at hgx
      by_cases ey : y = k
      · subst ey
        rw [if_pos rfl]
        rcases hloc with e | ⟨g', e, hge⟩
        · rw [e]; exact h.apart x y g hxy hgx
        · rw [e]
          intro h2
          have := (own_cells (h.row x) hgx).2.1
          cases h2
          omega
      · rw [if_neg ey]; exact h.apart x y g hxy hgx

/-! ### The open snapshots -/
theorem keyedP : Maps.Keyed Try.prog 67 := Maps.Keyed.of_law (deep_law_laid (by kernel_rfl) (m := 2) (by omega) (of_decide_eq_true (by kernel_rfl)) (by kernel_rfl) (by rw [Try.underlying67]))
/-- What a snapshot's name reads as. -/
def litP (t j : Int) : Lit := .string (keyBytes [.int .i64 t, .int .i64 j])
theorem keyOf_pair {t j : Int} (ht : 0 ≤ t ∧ t < 3) (hj : 0 ≤ j ∧ j < 2) : keyOf Try.prog 67 (.agg #[.int .i64 t, .int .i64 j]) = some (litP t j) := by
  rcases (by omega : t = 0 ∨ t = 1 ∨ t = 2) with rfl | rfl | rfl <;> rcases (by omega : j = 0 ∨ j = 1) with rfl | rfl <;> kernel_rfl
def updL (f : Lit → Option Nat) (a : Lit) (v : Option Nat) : Lit → Option Nat := fun x => if x.sameKey a = true then v else f x
structure SnM (w : World) (b n : Nat) (D : DataW Value) (sn : Lit → Option Nat) : Prop where
  own : w.ownsMap Try.prog 67 (plainElem Try.prog 23) b n D
  has : ∀ kl, Maps.has D kl = (sn kl).isSome
  val : ∀ kl x, sn kl = some x → ∀ z, D.atKey kl z = .lit (.int .u64 (x : Int))
theorem SnM.new (w : World) : SnM (w.alloc (.map #[] 0)) w.heap.size 0 (.map []) (fun _ => none) :=
  ⟨World.ownsMap_made w _ _ _, fun _ => rfl, fun _ _ h => by cases h⟩
theorem SnM.of {b : Nat} {sn : Lit → Option Nat} (h : SnM w b n D sn) (hb : w'.heap[b]? = w.heap[b]?) : SnM w' b n D sn := ⟨map_of h.own hb, h.has, h.val⟩
theorem SnM.put {b : Nat} {sn : Lit → Option Nat} (h : SnM w b n D sn) {a : Lit} (ha : WideAt.IsKeyLit a) {x : Nat} (hm : w'.ownsMap Try.prog 67 (plainElem Try.prog 23) b (n + 1) (D.put a (.lit (.int .u64 (x : Int))))) :
    SnM w' b (n + 1) (D.put a (.lit (.int .u64 (x : Int)))) (updL sn a (some x)) := by
  refine ⟨hm, fun kl => ?_, fun kl y hy z => ?_⟩
  · unfold updL
    by_cases e : kl = a
    · subst e; rw [Maps.has_put_same h.own.isMap ha, if_pos (WideAt.sameKey_self ha)]; rfl
    · rw [Maps.has_put_other e, if_neg (by rw [Maps.sameKey_ne e]; simp)]; exact h.has kl
  · unfold updL at hy
    by_cases e : kl = a
    · subst e
      rw [if_pos (WideAt.sameKey_self ha)] at hy
      cases hy
      exact Maps.atKey_put_same h.own.isMap ha _ z
    · rw [if_neg (by rw [Maps.sameKey_ne e]; simp)] at hy
      rw [Maps.atKey_put_other e]; exact h.val kl y hy z
theorem SnM.del {b : Nat} {sn : Lit → Option Nat} (h : SnM w b n D sn) {a : Lit} (ha : WideAt.IsKeyLit a) (hm : w'.ownsMap Try.prog 67 (plainElem Try.prog 23) b n (D.del a)) : SnM w' b n (D.del a) (updL sn a none) := by
  refine ⟨hm, fun kl => ?_, fun kl y hy z => ?_⟩
  · unfold updL
    by_cases e : kl = a
    · subst e; rw [Maps.has_del_same, if_pos (WideAt.sameKey_self ha)]; rfl
    · rw [Maps.has_del_other e, if_neg (by rw [Maps.sameKey_ne e]; simp)]; exact h.has kl
  · unfold updL at hy
    by_cases e : kl = a
    · subst e; rw [if_pos (WideAt.sameKey_self ha)] at hy; cases hy
    · rw [if_neg (by rw [Maps.sameKey_ne e]; simp)] at hy
      rw [Maps.atKey_del_other e]; exact h.val kl y hy z
/-- The least timestamp of the open snapshots and the time. -/
def IsWm (sn : Lit → Option Nat) (T m : Nat) : Prop := m ≤ T ∧ (∀ kl x, sn kl = some x → m ≤ x) ∧ (m = T ∨ ∃ kl, sn kl = some m)
theorem IsWm.uniq {sn : Lit → Option Nat} {T m m' : Nat} (h : IsWm sn T m) (h' : IsWm sn T m') : m = m' := by
  have one : ∀ {a b : Nat}, IsWm sn T a → IsWm sn T b → a ≤ b := fun {a b} ha hb => by
    rcases hb.2.2 with e | ⟨kl, e⟩
    · rw [e]; exact ha.1
    · exact ha.2.1 kl b e
  exact Nat.le_antisymm (one h h') (one h' h)

/-! ### The model -/
/-- p is a model that has seen these batches, with this floor and these snapshots; its blocks are Z, from B on; at most m stores have been made. -/
def MdS (w : World) (p B : Nat) (Z : Nat → Prop) (m : Nat) (bs : List (List Wri)) (fl : Nat) (sn : Lit → Option Nat) : Prop :=
  ∃ bc bn nc nn Dc Dn sl ch, Blk w p 65 [.int .u64 (bs.length : Int), .int .u64 (fl : Int), .map (some bc), .map (some bn)] ∧ ChM w bc B nc Dc sl ch ∧ SnM w bn nn Dn sn ∧ Chs bs ch ∧
    nc ≤ m ∧ nn ≤ m ∧ bc ≠ bn ∧ Z p ∧ Z bc ∧ Z bn ∧ (∀ k g, (sl k).ownBlock = some g → Z g) ∧ (∀ i, Z i → B ≤ i ∧ i < w.heap.size)
theorem MdS.lt {p B m : Nat} {Z : Nat → Prop} {bs : List (List Wri)} {fl : Nat} {sn : Lit → Option Nat} (h : MdS w p B Z m bs fl sn) {i : Nat} (hi : Z i) : B ≤ i ∧ i < w.heap.size := by
  obtain ⟨bc, bn, nc, nn, Dc, Dn, sl, ch, _, _, _, _, _, _, _, _, _, _, _, hz⟩ := h
  exact hz i hi
/-- What writes none of its blocks leaves the model. -/
theorem MdS.keep {p B m : Nat} {Z S : Nat → Prop} {bs : List (List Wri)} {fl : Nat} {sn : Lit → Option Nat} (h : MdS w p B Z m bs fl sn) (hk : Kept S w w') (hS : ∀ i, Z i → ¬ S i) : MdS w' p B Z m bs fl sn := by
  obtain ⟨bc, bn, nc, nn, Dc, Dn, sl, ch, hp, hc, hs, h1, h2, h3, h4, h5, h6, h7, h8, hz⟩ := h
  have hb : ∀ i, Z i → w'.heap[i]? = w.heap[i]? := fun i hi => hk.block i (hz i hi).2 (hS i hi)
  exact ⟨bc, bn, nc, nn, Dc, Dn, sl, ch, hp.of (hb p h5), hc.of (hb bc h6) (fun k g hg => hb g (h8 k g hg)), hs.of (hb bn h7), h1, h2, h3, h4, h5, h6, h7, h8, fun i hi => ⟨(hz i hi).1, Nat.lt_of_lt_of_le (hz i hi).2 hk.size⟩⟩
theorem MdS.below {p B m C : Nat} {Z : Nat → Prop} {bs : List (List Wri)} {fl : Nat} {sn : Lit → Option Nat} (h : MdS w p B Z m bs fl sn) (hk : Below C w w') (hC : w.heap.size ≤ C) : MdS w' p B Z m bs fl sn :=
  h.keep (S := fun _ => False) (Below.kept hk fun i hi hB => absurd hi (by omega)) (fun _ _ => id)
theorem MdS.mono {p B m m' : Nat} {Z Z' : Nat → Prop} {bs : List (List Wri)} {fl : Nat} {sn : Lit → Option Nat} (h : MdS w p B Z m bs fl sn) (hm : m ≤ m') (hZ : ∀ i, Z i → Z' i) (hZ' : ∀ i, Z' i → B ≤ i ∧ i < w.heap.size) : MdS w p B Z' m' bs fl sn := by
  obtain ⟨bc, bn, nc, nn, Dc, Dn, sl, ch, hp, hc, hs, h1, h2, h3, h4, h5, h6, h7, h8, hz⟩ := h
  exact ⟨bc, bn, nc, nn, Dc, Dn, sl, ch, hp, hc, hs, h1, Nat.le_trans h2 hm, Nat.le_trans h3 hm, h4, hZ _ h5, hZ _ h6, hZ _ h7, fun k g hg => hZ _ (h8 k g hg), hZ'⟩

/-! ### Two operations of a region that draws its order -/
section
variable {ops : Array Oper} {o : Oper} {a : Act} {K : Act → World → Prop} {Q : Exit → Act → World → Prop} {E : Prop}
theorem step_appC (w : World) (hgd : o.guard = none) (s x : Operand) (ho : o.op = .call { callee := .builtin .append, args := #[s, x], argTypes := #[75, 75] })
    (base : Nat) (v : Value) (n : Nat) (xs : List Chg) (hs : a.eval s = v) (hown : w.ownsRow base 77 3 v n (flatC xs)) (ad : Addr) (c : Nat) (y : Chg) (hx : a.eval x = .slice (some ad) 1 c)
    (hR : RC w (some ad) c [y]) (h40 : n + 1 ≤ 1099511627776) (hbase : base ≤ w.heap.size)
    (h : ∀ v' w', w'.ownsRow base 77 3 v' (n + 1) (flatC (xs ++ [y])) → w.grownBy w' v.ownBlock → (v'.ownBlock = v.ownBlock ∨ v'.ownBlock = some w.heap.size) → K (a.put o.dst v') w') :
    if Region.wanted o (yielded ops a.tmps) = true then Oper.wp Try.prog o a w K Q else E := by
  have hw : Region.wanted o (yielded ops a.tmps) = true := by simp [Region.wanted, hgd]
  rw [if_pos hw]
  obtain ⟨i, hi, hz0, hz1, hz2⟩ := info_parts Try.info77
  have hnews : ∀ j u, (flatC [y])[j]? = some u → w.cell? (ad.add j) = some u := by
    intro j u hu
    obtain ⟨g, off, e, _, hc⟩ := hR.some' (by simp)
    cases e
    rw [Addr.add_lit]; exact hc j u hu
  obtain ⟨v', w', hr, h2, h3, _, h5⟩ := run_append_own_at (P := Try.prog) w base 75 o.type 77 i _ 3 32 Try.underlying75 hi hz0 hz1 hz2 rfl (by decide) v n (flatC xs) hown ad 1 c (flatC [y]) (by simp [flatC]) hnews (flatC_one [y]) (by unfold maxLen; omega) (by omega) hbase
  unfold Oper.wp execOp
  simp only [ho, resolve, invoke, builtin, Sem.run_bind, Sem.run_pure, Result.andThen_ok, List.map_toArray, List.map_cons, List.map_nil, hs, hx, hr]
  exact h v' w' (by rw [flatC_append]; exact h2) h3 h5
theorem step_mapC (w : World) (hgd : o.guard = none) (m x v : Operand) (hop : o.op = Op.mapUpdate 62 m x v) (b n : Nat) (D : DataW Value)
    (hm : a.eval m = .map (some b)) (hown : w.ownsMap Try.prog 9 rawE b n D) (hn : n < maxLen) (k : ByteArray) (val : Value) (hx : a.eval x = .string k) (hv : a.eval v = val) (hk : k.size ≤ maxLen)
    (hK : ∀ w', w'.ownsMap Try.prog 9 rawE b (n + 1) (D.put (litB k) (.held val)) → w.grownBy w' (some b) → K (a.put o.dst undef) w') :
    if Region.wanted o (yielded ops a.tmps) = true then Oper.wp Try.prog o a w K Q else E := by
  have hw : Region.wanted o (yielded ops a.tmps) = true := by simp [Region.wanted, hgd]
  rw [if_pos hw]
  obtain ⟨w', hrun, r1, r2⟩ := hown.update keyedS Try.underlying62 hn (val := val) (d := .held val) (ps := []) (keyOf_str hk) rfl
  unfold Oper.wp
  simp [execOp, hop, hm, hx, hv, hrun, Result.andThen]
  exact hK w' r1 r2
end

end Go.Proofs.Ytodenkamlbihnaa
