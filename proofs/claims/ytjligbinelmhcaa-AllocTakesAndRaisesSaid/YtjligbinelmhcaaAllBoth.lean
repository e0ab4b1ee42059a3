/-
  Plain facts of the statement of layer 5 'a counter that is raised and taken from at the same time'. No program is spoken of but the machines' cells. Condition: at most six machines.
-/
import Derived.Test.YtjligbinelmhcaaAllAwake
import Derived.Deep.AppendLies
import Derived.Deep.DeepCutAuto
import Derived.Deep.CutBlock
import Derived.Test.YtjligbinelmhcaaKeptRegion
namespace Go.Proofs.Ytjligbinelmhcaa
open Go.RowKit Go.Deep
set_option linter.unusedVariables false

def goal (n : Nat) (lim : Nat → Nat) (t : Nat) (y : Mac) : Nat := if t < n then y.2 + 1 else lim t
/-- What holds of n takers and some raisers behind them while they are picked. -/
structure Bo (n : Nat) (lim : Nat → Nat) (L : List Mac) (v : Nat) : Prop where
  l6 : L.length ≤ 6
  lt : ∀ j, j < n → lim j = 1000
  lr : ∀ j, n ≤ j → lim j ≤ 255
  sum : v ≤ 255 + cnt 2 L
  tak : ∀ (j : Nat) (x : Mac), L[j]? = some x → j < n → x.1 ≠ 3
  look : ∀ (j : Nat) (x : Mac), L[j]? = some x → n ≤ j → x.1 = 1 → x.2 < lim j
  fin : ∀ (j : Nat) (x : Mac), L[j]? = some x → n ≤ j → 2 ≤ x.1 → lim j ≤ v
  seen : ∀ (j : Nat) (x : Mac), L[j]? = some x → x.2 ≤ v

theorem Bo.small {n v : Nat} {lim : Nat → Nat} {L : List Mac} (h : Bo n lim L v) : v ≤ 261 := by
  have := h.sum; have := cnt_le 2 L; have := h.l6; omega
theorem Bo.step {n v v' t : Nat} {lim : Nat → Nat} {L : List Mac} {y y' : Mac} (h : Bo n lim L v) (hy : L[t]? = some y) (hs : y.1 ≤ 3) (hm : moved (lim t) (goal n lim t y) y v = y') (hv : counts (goal n lim t y) y v = v') :
    Bo n lim (L.set t y') v' ∧ v ≤ v' ∧ (t < n → y.1 < 2 → 2 ≤ y'.1 → y' = (2, v) ∧ v' = v + 1) := by
  have hv7 := h.small
  have c2 := cnt_set 2 y' L t y hy
  have hl6 : (L.set t y').length ≤ 6 := by rw [List.length_set]; exact h.l6
  obtain ⟨s, N⟩ := y
  have hN := h.seen t _ hy
  simp only at hs c2 hN hm hv
  rcases (by omega : s = 0 ∨ s = 1 ∨ s = 2 ∨ s = 3) with rfl | rfl | rfl | rfl
  · obtain rfl : v = v' := by simpa [counts] using hv
    by_cases hl : lim t ≤ v
    · obtain rfl : (3, v) = y' := by simpa [moved, hl] using hm
      have htn : ¬ t < n := fun e => by have := h.lt t e; omega
      simp only [show ¬ (0 = 2) by omega, show ¬ (3 = 2) by omega, if_false] at c2
      have hs := h.sum
      exact ⟨⟨hl6, h.lt, h.lr, by omega, set_all (fun e => absurd e htn) (fun j x _ => h.tak j x), set_all (by simp) (fun j x _ => h.look j x), set_all (fun _ _ => hl) (fun j x _ => h.fin j x), set_all (Nat.le_refl _) (fun j x _ => h.seen j x)⟩, Nat.le_refl _, fun e => absurd e htn⟩
    · obtain rfl : (1, v) = y' := by simpa [moved, hl] using hm
      simp only [show ¬ (0 = 2) by omega, show ¬ (1 = 2) by omega, if_false] at c2
      have hs := h.sum
      exact ⟨⟨hl6, h.lt, h.lr, by omega, set_all (by simp) (fun j x _ => h.tak j x), set_all (fun _ _ => by simp only; omega) (fun j x _ => h.look j x), set_all (by simp) (fun j x _ => h.fin j x), set_all (Nat.le_refl _) (fun j x _ => h.seen j x)⟩, Nat.le_refl _, by simp⟩
  · by_cases hl : N = v
    · subst hl
      obtain rfl : (2, N) = y' := by simpa [moved] using hm
      obtain rfl : goal n lim t (1, N) = v' := by simpa [counts] using hv
      simp only [show ¬ (1 = 2) by omega, if_false, if_true] at c2
      have hs := h.sum
      have hge : N ≤ goal n lim t (1, N) ∧ goal n lim t (1, N) ≤ 255 + cnt 2 (L.set t (2, N)) ∧ (n ≤ t → lim t ≤ goal n lim t (1, N)) := by
        unfold goal
        by_cases e : t < n
        · rw [if_pos e]; simp only; omega
        · rw [if_neg e]
          have h1 := h.look t _ hy (by omega) rfl
          have h2 := h.lr t (by omega)
          simp only at h1; omega
      refine ⟨⟨hl6, h.lt, h.lr, hge.2.1, set_all (by simp) (fun j x _ => h.tak j x), set_all (by simp) (fun j x _ => h.look j x), set_all (fun e _ => hge.2.2 e) (fun j x _ hx h1 h2 => by have := h.fin j x hx h1 h2; omega), set_all hge.1 (fun j x _ hx => by have := h.seen j x hx; omega)⟩, hge.1, fun e _ _ => ⟨rfl, by unfold goal; rw [if_pos e]⟩⟩
    · obtain rfl : (0, N) = y' := by simpa [moved, hl] using hm
      obtain rfl : v = v' := by simpa [counts, hl] using hv
      simp only [show ¬ (1 = 2) by omega, show ¬ (0 = 2) by omega, if_false] at c2
      have hs := h.sum
      exact ⟨⟨hl6, h.lt, h.lr, by omega, set_all (by simp) (fun j x _ => h.tak j x), set_all (by simp) (fun j x _ => h.look j x), set_all (by simp) (fun j x _ => h.fin j x), set_all hN (fun j x _ => h.seen j x)⟩, Nat.le_refl _, by simp⟩
  all_goals
    obtain rfl := hm
    obtain rfl : v = v' := by simpa [counts] using hv
    have hm' : ∀ l g : Nat, moved l g (2, N) v = (2, N) ∧ moved l g (3, N) v = (3, N) := fun l g => ⟨rfl, rfl⟩
    have hta := h.tak t _ hy
    have hfi := h.fin t _ hy
    have hsu := h.sum
    first | rw [(hm' _ _).1] at c2 hl6 ⊢ | rw [(hm' _ _).2] at c2 hl6 ⊢
    simp at c2
    exact ⟨⟨hl6, h.lt, h.lr, by omega, set_all hta (fun j x _ => h.tak j x), set_all (by simp) (fun j x _ => h.look j x), set_all hfi (fun j x _ => h.fin j x), set_all hN (fun j x _ => h.seen j x)⟩, Nat.le_refl _, fun _ e => absurd e (by simp)⟩
theorem Bo.start {n m : Nat} {lim : Nat → Nat} (h6 : n + m ≤ 6) (h1 : ∀ j, j < n → lim j = 1000) (h2 : ∀ j, n ≤ j → lim j ≤ 255) : Bo n lim (List.replicate (n + m) (0, 0)) 0 := by
  have hx : ∀ (j : Nat) (x : Mac), (List.replicate (n + m) ((0, 0) : Mac))[j]? = some x → x = (0, 0) := fun j x h => (List.mem_replicate.1 (List.mem_of_getElem? h)).2
  exact ⟨by simp; omega, h1, h2, by omega, fun j x h _ => by rw [hx j x h]; simp, fun j x h _ e => by rw [hx j x h] at e; simp at e, fun j x h _ e => by rw [hx j x h] at e; simp at e, fun j x h => by rw [hx j x h]; omega⟩

def words (xs : List Nat) : List Value := xs.map fun (x : Nat) => .int .u64 (x : Int)
theorem words_snoc (xs : List Nat) (x : Nat) : words (xs ++ [x]) = words xs ++ [.int .u64 (x : Int)] := by simp [words]
theorem words_at {xs : List Nat} {j x : Nat} (h : xs[j]? = some x) : (words xs)[j]? = some (.int .u64 (x : Int)) := by unfold words; rw [List.getElem?_map, h]; rfl

/-- A row of one's own stays where nothing but other blocks is written. -/
theorem ownsRow_kept {S : Nat → Prop} {w w' : World} {base : Nat} {e : TypeId} {size n : Nat} {v : Value} {xs : List Value} (h : w.ownsRow base e size v n xs) (hK : Kept S w w') (hS : ∀ i, base ≤ i → i < w.heap.size → ¬ S i) : w'.ownsRow base e size v n xs := by
  obtain ⟨h1, h2⟩ := h
  refine ⟨h1, ?_⟩
  rcases h2 with ⟨h3, h4⟩ | ⟨g, cap, cur, h3, hb, hg, rest⟩
  · exact .inl ⟨h3, h4⟩
  · exact .inr ⟨g, cap, cur, h3, hb, (hK.block g (Array.getElem?_eq_some_iff.1 hg).1 (hS g hb (Array.getElem?_eq_some_iff.1 hg).1)).trans hg, rest⟩

/-- What is written far behind the set-up's blocks does not touch the machines. -/
theorem Run.far {S : Nat → Prop} {w W0 wr wz : World} {b g gd n P k : Nat} {Q : List Nat} {ad : Nat → Addr} {ty : Nat → TypeId} {lim : Nat → Nat} {L : List Mac} {v c : Nat} {dn : List Value}
    (C : Ctx w W0 b g gd n Q ad) (E : Run W0 wr b g gd n P k Q ty lim L v c dn) (hK : Kept S wr wz) (hS : ∀ i, S i → W0.heap.size ≤ i) : Run W0 wz b g gd n P k Q ty lim L v c dn :=
  ⟨E.n1, E.n6, E.len, E.st, E.good, E.acc, E.mem.kept hK (fun h => by have := hS _ h; have := C.lb; omega) (fun h => by have := hS _ h; have := C.lg; omega), hK.blk E.bd (fun h => by have := hS _ h; have := C.ls; omega),
    fun t y q h1 h2 => hK.blk (E.mac t y q h1 h2) (fun h => by have := hS _ h; have := C.own h2; omega), E.kept.trans hK (fun i hi h => by have := hS i h; omega)⟩

/-- The numbers that have been taken so far, in their row. -/
structure Se (W0 wr : World) (v : Nat) (k : Nat) (sv : Value) (xs : List Nat) : Prop where
  own : wr.ownsRow W0.heap.size 29 1 sv xs.length (words xs)
  le : ∀ x ∈ xs, x ≤ v
  len : xs.length ≤ k
theorem Se.kept {S : Nat → Prop} {W0 wr wz : World} {v v' k k' : Nat} {sv : Value} {xs : List Nat} (h : Se W0 wr v k sv xs) (hK : Kept S wr wz) (hS : ∀ i, S i → i < W0.heap.size) (hv : v ≤ v') (hk : k ≤ k') : Se W0 wz v' k' sv xs :=
  ⟨ownsRow_kept h.own hK (fun i h1 _ h2 => by have := hS i h2; omega), fun x hx => Nat.le_trans (h.le x hx) hv, Nat.le_trans h.len hk⟩
theorem Se.slice {W0 wr : World} {v k : Nat} {sv : Value} {xs : List Nat} (h : Se W0 wr v k sv xs) : ∃ A c, sv = .slice A xs.length c := by
  rcases h.own.2 with ⟨h1, h2⟩ | ⟨g, cap, cur, h1, _⟩
  · rw [h2]; exact ⟨none, 0, h1⟩
  · exact ⟨_, _, h1⟩

theorem both_ctx {w w4 w6 wr : World} {b g n m ga gb cap : Nat} {pt1 ty1 pt2 ty2 : TypeId} {l1 l2 : Nat → Nat} {cl : Cel} {Q1 Q2 : List Nat} {v2 : Value} (hw : Kept (fun _ => False) w w4) (hbw : w.heap.size ≤ b ∧ b < w4.heap.size) (hgw : w.heap.size ≤ g ∧ g < w4.heap.size)
    (h1 : Mk pt1 ty1 l1 w4 w6 b g n cl Q1 (.slice (some ⟨ga, 0, none⟩) n cap)) (hga : w4.heap.size ≤ ga ∧ ga < w6.heap.size) (hc1 : ∀ j u, (ptrs Q1)[j]? = some u → w6.cell? ⟨ga, j, none⟩ = some u)
    (h2 : Mk pt2 ty2 l2 w6 wr b g m cl Q2 v2) (hv2 : 0 < m → w6.heap.size ≤ gb ∧ gb < wr.heap.size ∧ gb ∉ Q2 ∧ ∀ j u, (ptrs Q2)[j]? = some u → wr.cell? ⟨gb, j, none⟩ = some u) :
    Ctx w (wr.alloc (.cells (Array.replicate (n + m) (.bool false)) 4)) b g wr.heap.size (n + m) (Q1 ++ Q2) (fun t => if t < n then ⟨ga, t, none⟩ else ⟨gb, t - n, none⟩) := by
  have hK := (Kept.refl (fun _ => False) wr).alloc (.cells (Array.replicate (n + m) (.bool false)) 4)
  have hz : (wr.alloc (.cells (Array.replicate (n + m) (.bool false)) 4)).heap.size = wr.heap.size + 1 := by rw [nblk_alloc]
  have hs1 := h1.kept.size
  have hs2 := h2.kept.size
  have hs0 := hw.size
  have l1 := h1.len
  have l2 := h2.len
  have hnd : (Q1 ++ Q2).Nodup := by
    rw [List.nodup_append]
    refine ⟨h1.nd, h2.nd, fun x hx y hy => ?_⟩
    have := h1.big x hx; have := h2.big y hy; omega
  have hbig : ∀ q ∈ Q1 ++ Q2, w4.heap.size ≤ q ∧ q < wr.heap.size := fun q hq => by
    rcases List.mem_append.1 hq with h | h
    · have := h1.big q h; omega
    · have := h2.big q h; omega
  refine ⟨by rw [List.length_append]; omega, fun i j q hi hj => ?_, fun q hq => ?_, by omega, by omega, by omega, fun j q hq => ?_, ((hw.trans h1.kept (fun _ _ h => h)).trans h2.kept (fun _ _ h => h)).trans hK (fun _ _ h => h)⟩
  · exact (List.getElem?_inj (List.getElem?_eq_some_iff.1 hi).1 hnd).1 (hi.trans hj.symm)
  · have := hbig q hq; omega
  · have hjl : j < (Q1 ++ Q2).length := (List.getElem?_eq_some_iff.1 hq).1
    rw [List.length_append] at hjl
    by_cases hj : j < n
    · rw [List.getElem?_append_left (by omega)] at hq
      simp only [hj, if_true]
      refine ⟨by omega, ?_, ?_⟩
      · rintro (e | e | e | e)
        · omega
        · omega
        · omega
        · rcases List.mem_append.1 e with e | e
          · exact h1.apart ga rfl e
          · have := h2.big ga e; omega
      · rw [hK.cell (p := ⟨ga, j, none⟩) (by simp only; omega) id, h2.kept.cell (p := ⟨ga, j, none⟩) hga.2 id]
        exact hc1 j _ (by unfold ptrs; rw [List.getElem?_map, hq]; rfl)
    · rw [List.getElem?_append_right (by omega), l1] at hq
      obtain ⟨e1, e2, e3, e4⟩ := hv2 (by omega)
      simp only [hj, if_false]
      refine ⟨by omega, ?_, ?_⟩
      · rintro (e | e | e | e)
        · omega
        · omega
        · omega
        · rcases List.mem_append.1 e with e | e
          · have := h1.big gb e; omega
          · exact e3 e
      · rw [hK.cell (p := ⟨gb, j - n, none⟩) e2 id]
        exact e4 (j - n) _ (by unfold ptrs; rw [List.getElem?_map, hq]; rfl)

theorem both_run {w4 w6 wr : World} {b g n m P : Nat} {pt1 ty1 pt2 ty2 : TypeId} {l1 l2 : Nat → Nat} {Q1 Q2 : List Nat} {v1 v2 : Value} {lim : Nat → Nat} (hn : 1 ≤ n) (h6 : n + m ≤ 6)
    (h1 : Mk pt1 ty1 l1 w4 w6 b g n cel0 Q1 v1) (h2 : Mk pt2 ty2 l2 w6 wr b g m cel0 Q2 v2) (e1 : ∀ t, t < n → lim t = l1 t) (e2 : ∀ t, lim (n + t) = l2 t) :
    Run (wr.alloc (.cells (Array.replicate (n + m) (.bool false)) 4)) (wr.alloc (.cells (Array.replicate (n + m) (.bool false)) 4)) b g wr.heap.size (n + m) P 0 (Q1 ++ Q2) (fun t => if t < n then ty1 else ty2) lim (List.replicate (n + m) (0, 0)) 0 0 (dones (List.replicate (n + m) (0, 0))) := by
  have hx : ∀ x ∈ List.replicate (n + m) ((0, 0) : Mac), x = (0, 0) := fun x hx => (List.mem_replicate.1 hx).2
  have l1' := h1.len
  refine ⟨by omega, h6, by simp, fun x h => by rw [hx x h]; omega, by rw [show 0 - P = 0 by omega, Nat.sub_zero]; exact Good.any (by simp) (by omega) _ 0, by omega, h2.mem.alloc _, ?_, fun t y q hy hq => ?_, Kept.refl _ _⟩
  · unfold dones; rw [List.map_replicate]; exact Blk.new wr (List.replicate (n + m) (.bool false)) 4
  · obtain rfl := hx y (List.mem_of_getElem? hy)
    by_cases ht : t < n
    · rw [List.getElem?_append_left (by omega)] at hq
      simp only [ht, if_true]
      rw [e1 t ht]
      exact (h2.kept.blk (h1.mach t q hq) id).alloc _
    · rw [List.getElem?_append_right (by omega), l1'] at hq
      simp only [ht, if_false]
      have := e2 (t - n)
      rw [show n + (t - n) = t by omega] at this
      rw [this]
      exact (h2.mach (t - n) q hq).alloc _

set_option maxRecDepth 100000 in
set_option maxHeartbeats 1000000 in
theorem lawBoth_long (A B : Option Addr) (lt ct n c : Nat) (takers : Int) (w : World) (hn : 100 < n) (hm : n ≤ maxLen) :
    Calls Try.prog 5 #[.slice A lt ct, .int .i64 takers, .slice B n c] w fun e w' => e = .returned (.bool true) ∧ Below w.heap.size w w' := by
  unfold maxLen at hm
  go_enter Try.func5, Try.ntmps5
  go_wp2_with fail
  refine (new_1 _).mono ?_; rintro e w3 ⟨rfl, hM3, hK3⟩
  have HK3 := Lib.hid hK3
  clear hM3 hK3
  go_wp2_with fail
  refine (awake_any _).mono ?_; rintro e w4 ⟨rfl, hK4⟩
  have HK4 := Lib.hid (HK3.out.trans hK4 (fun _ _ h => h))
  clear hK4 HK3
  go_wp2_with fail
  refine (awake_any _).mono ?_; rintro e w5 ⟨rfl, hK5⟩
  have HK5 := Lib.hid (HK4.out.trans hK5 (fun _ _ h => h))
  clear hK5 HK4
  go_wp2
  go_ret
  exact ⟨rfl, HK5.out.below (Nat.le_refl _) (fun _ h => h.elim)⟩

end Go.Proofs.Ytjligbinelmhcaa
