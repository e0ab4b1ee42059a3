/-
  Open and Release of package registry in a memory whose snapshots are known as numbers: a step, whatever Published is at the time. Condition: words below 2^64; fewer than 2^63 accesses so far.
-/
import Derived.Test.YtcmcgjdbopnbbaaRegAwake
namespace Go.Proofs.Ytcmcgjdbopnbbaa
open Go.RowKit Go.Deep
set_option linter.unusedVariables false

/-- An Open that has made p steps; v is what it has loaded, from its second step on. -/
structure OpAt (w : World) (o q p : Nat) (i : Int) (v : Nat) : Prop where
  obj : Blk w o 69 (openv p i q)
  now : Blk w q 91 (nowv 2 (if p ≤ 1 then 0 else v) (decide (2 ≤ p)))
  ne : o ≠ q
theorem OpAt.kept {S : Nat → Prop} {w w' : World} {o q p v : Nat} {i : Int} (h : OpAt w o q p i v) (hk : Kept S w w') (ho : ¬ S o) (hq : ¬ S q) : OpAt w' o q p i v := ⟨hk.blk h.obj ho, hk.blk h.now hq, h.ne⟩
theorem OpAt.zero {w : World} {o q p v : Nat} {i : Int} (h : OpAt w o q p i v) (hp : p ≤ 1) (v' : Nat) : OpAt w o q p i v' := ⟨h.obj, by have := h.now; rw [if_pos hp] at this ⊢; exact this, h.ne⟩
def opV (p v V : Nat) : Nat := if p = 1 then V else v
def opX (p v : Nat) (x : Nat → Nat) (k : Nat) : Nat → Nat := if p = 0 then upd x k 1 else if p = 1 then x else upd x k (v + 1)
theorem upd_upd (x : Nat → Nat) (k a v : Nat) : upd (upd x k a) k v = upd x k v := by
  funext i; unfold upd; by_cases h : i = k <;> simp [h]

theorem op_step {w : World} {o q b g n V p v k c v' : Nat} {x x' : Nat → Nat} {l : List Cel} {r : Bool} (ho : OpAt w o q p ((8 + k : Nat) : Int) v) (h : Mem w b g l c) (hs : Sn l n V x) (hk : k < n) (hp : p ≤ 2) (hv : v + 1 < 18446744073709551616)
    (hsep : ∀ i, i = b ∨ i = g → o ≠ i ∧ q ≠ i) (hc : c < 9223372036854775808) (hr : decide (p = 2) = r) (hV : opV p v V = v') (hX : opX p v x k = x') :
    Calls Try.prog 17 #[.pointer (some ⟨o, 0, none⟩), .pointer (some ⟨b, 0, none⟩)] w fun e w' => e = .returned (.bool r) ∧ (∃ l', Mem w' b g l' (c + 1) ∧ Sn l' n V x') ∧ OpAt w' o q (p + 1) ((8 + k : Nat) : Int) v' ∧ Kept (Ownw o q b g) w w' := by
  obtain ⟨b1, b2⟩ := hsep b (.inl rfl)
  obtain ⟨g1, g2⟩ := hsep g (.inr rfl)
  subst hr hV hX
  rcases (by omega : p = 0 ∨ p = 1 ∨ p = 2) with rfl | rfl | rfl
  · refine (openStep0 o q b g l c _ w h b1 g1 b2 g2 ho.ne hc 0 false ho.obj ho.now).mono ?_
    rintro e w' ⟨he, hM, hO, hQ, hK⟩
    exact ⟨he, ⟨_, hM, hs.put hk 1⟩, ⟨hO, hQ, ho.ne⟩, hK⟩
  · refine (openStep1 o q b g l c _ w h b1 g1 b2 g2 ho.ne hc 0 V _ _ hs.pub ho.obj ho.now).mono ?_
    rintro e w' ⟨he, hM, hO, hQ, hK⟩
    exact ⟨he, ⟨_, hM, hs⟩, ⟨hO, hQ, ho.ne⟩, hK⟩
  · refine (openStep2 o q b g l c _ w h b1 g1 b2 g2 ho.ne hc v hv ho.obj ho.now).mono ?_
    rintro e w' ⟨he, hM, hO, hQ, hK⟩
    exact ⟨he, ⟨_, hM, hs.put hk (v + 1)⟩, ⟨hO, hQ, ho.ne⟩, hK⟩
theorem op_time {w : World} {o q v : Nat} {i : Int} (ho : OpAt w o q 3 i v) :
    Calls Try.prog 20 #[.pointer (some ⟨o, 0, none⟩)] w fun e w' => e = .returned (.int .u64 (v : Int)) ∧ w = w' := openTime_done o q v i w ho.obj ho.now
theorem op_new (T S : Nat) (hl : Lim (T : Int) (S : Int) 100 100 200 4) (fa fb fd : Int) (t j : Nat) (ht : t < T) (hj : j < S) (w : World) :
    Calls Try.prog 14 #[.agg #[.int .i64 (T : Int), .int .i64 (S : Int), .int .i64 100, .int .i64 100, .int .i64 200, .int .i64 4, .int .u64 1000, .int .i64 fa, .int .i64 fb, .int .i64 fd], .int .i64 (t : Int), .int .i64 (j : Int)] w fun e w' => ∃ o q, e = .returned (.pointer (some ⟨o, 0, none⟩)) ∧ OpAt w' o q 0 ((8 + (t * S + j) : Nat) : Int) 0 ∧ w.heap.size ≤ q ∧ w.heap.size ≤ o ∧ Kept (fun _ => False) w w' := by
  refine (newOpen_any (T : Int) S 100 100 200 4 fa fb fd t j 1000 hl (by omega) (by omega) (by omega) (by omega) w).mono ?_
  rintro e w' ⟨o, q, he, hO, hQ, hq, hqo, hK⟩
  rw [snapAt_nat T S t j ht hj] at hO
  exact ⟨o, q, he, ⟨hO, hQ, by omega⟩, hq, by omega, hK⟩
theorem rel_new (T S : Nat) (hl : Lim (T : Int) (S : Int) 100 100 200 4) (fa fb fd : Int) (t j : Nat) (ht : t < T) (hj : j < S) (w : World) :
    Calls Try.prog 23 #[.agg #[.int .i64 (T : Int), .int .i64 (S : Int), .int .i64 100, .int .i64 100, .int .i64 200, .int .i64 4, .int .u64 1000, .int .i64 fa, .int .i64 fb, .int .i64 fd], .int .i64 (t : Int), .int .i64 (j : Int)] w fun e w' => ∃ o, e = .returned (.pointer (some ⟨o, 0, none⟩)) ∧ Blk w' o 80 (relv ((8 + (t * S + j) : Nat) : Int) false) ∧ w.heap.size ≤ o ∧ Kept (fun _ => False) w w' := by
  refine (newRelease_any (T : Int) S 100 100 200 4 fa fb fd t j 1000 hl (by omega) (by omega) (by omega) (by omega) w).mono ?_
  rintro e w' ⟨o, he, hO, ho, hK⟩
  rw [snapAt_nat T S t j ht hj] at hO
  exact ⟨o, he, hO, ho, hK⟩
theorem rel_step {w : World} {o b g n V k c : Nat} {x : Nat → Nat} {l : List Cel} (ho : Blk w o 80 (relv ((8 + k : Nat) : Int) false)) (h : Mem w b g l c) (hs : Sn l n V x) (hk : k < n) (hsep : ∀ i, i = b ∨ i = g → o ≠ i) (hc : c < 9223372036854775808) :
    Calls Try.prog 24 #[.pointer (some ⟨o, 0, none⟩), .pointer (some ⟨b, 0, none⟩)] w fun e w' => e = .returned (.bool true) ∧ (∃ l', Mem w' b g l' (c + 1) ∧ Sn l' n V (upd x k 0)) ∧ Kept (Own3 o b g) w w' := by
  refine (release_any o b g l c _ w ho h (hsep b (.inl rfl)) (hsep g (.inr rfl)) hc).mono ?_
  rintro e w' ⟨he, hM, hK⟩
  exact ⟨he, ⟨_, hM, hs.put hk 0⟩, hK⟩

/-- A row of n words. -/
def rowN (x : Nat → Nat) (n : Nat) : List Nat := (List.range n).map x
theorem rowN_at (x : Nat → Nat) {n k : Nat} (h : k < n) : (words (rowN x n))[k]? = some (.int .u64 ((x k : Nat) : Int)) := by simp [words, rowN, h]
theorem rowN_set (x : Nat → Nat) (n k v : Nat) : (words (rowN x n)).set k (.int .u64 ((v : Nat) : Int)) = words (rowN (upd x k v) n) := by
  apply List.ext_getElem?
  intro i
  by_cases hi : i < n
  · rw [rowN_at _ hi]
    by_cases e : k = i
    · subst e; rw [List.getElem?_set_self (by simp [words, rowN, hi]), upd_at]
    · rw [List.getElem?_set_ne e, rowN_at _ hi, upd_ne _ _ (fun h => e h.symm)]
  · rw [List.getElem?_eq_none (by simp [words, rowN]; omega), List.getElem?_eq_none (by simp [words, rowN]; omega)]
theorem rowN_zero (n : Nat) : words (rowN (fun _ => 0) n) = List.replicate n (.int .u64 0) := by
  unfold words rowN
  rw [List.map_map]
  apply List.ext_getElem <;> simp

/-- The world of a statement: the memory, the layout, a row of words of the statement's own. -/
structure IV (w wr : World) (b g s h T S c V : Nat) (lay : List Value) (x y : Nat → Nat) : Prop where
  mem : ∃ l, Mem wr b g l c ∧ Sn l (T * S) V x
  lay : Blk wr s 29 lay
  row : Blk wr h 22 (words (rowN y (T * S)))
  lt : w.heap.size ≤ b ∧ w.heap.size ≤ g ∧ w.heap.size ≤ h
  ne : b ≠ h ∧ g ≠ h ∧ s ≠ b ∧ s ≠ g ∧ s ≠ h
  kept : Kept (fun _ => False) w wr
section
variable {w wr w2 : World} {b g s h T S c V c' V' : Nat} {lay : List Value} {x y x' : Nat → Nat}
theorem IV.next {K : Nat → Prop} (hv : IV w wr b g s h T S c V lay x y) (hK : Kept K wr w2) (hm : ∃ l, Mem w2 b g l c' ∧ Sn l (T * S) V' x') (hS : ∀ i, i < w.heap.size ∨ i = s ∨ i = h → ¬ K i) : IV w w2 b g s h T S c' V' lay x' y :=
  ⟨hm, hK.blk hv.lay (hS s (.inr (.inl rfl))), hK.blk hv.row (hS h (.inr (.inr rfl))), hv.lt, hv.ne, hv.kept.trans hK (fun i hi hk => (hS i (.inl hi) hk).elim)⟩
theorem IV.same0 (hv : IV w wr b g s h T S c V lay x y) (hK : Kept (fun _ => False) wr w2) : IV w w2 b g s h T S c V lay x y := by
  obtain ⟨l, hM, hs⟩ := hv.mem
  exact hv.next hK ⟨l, hM.kept hK id id, hs⟩ (fun _ _ h => h)
theorem IV.ext (hv : IV w wr b g s h T S c V lay x y) (e : x = x') : IV w wr b g s h T S c V lay x' y := by subst e; exact hv
theorem IV.set (hv : IV w wr b g s h T S c V lay x y) (k v : Nat) : IV w (wr.setCell ⟨h, k, none⟩ (.int .u64 ((v : Nat) : Int))) b g s h T S c V lay x (upd y k v) := by
  obtain ⟨l, hM, hs⟩ := hv.mem
  have hne := hv.ne
  have hlt := hv.lt
  exact ⟨⟨l, hM.setFar (fun e => hne.1 e.symm) (fun e => hne.2.1 e.symm) _ _, hs⟩, hv.lay.other (a := ⟨h, k, none⟩) hne.2.2.2.2 _, by rw [← rowN_set]; exact hv.row.set k _, hv.lt, hv.ne, hv.kept.setCell (a := ⟨h, k, none⟩) (fun hh => by simp only at hh; omega) _⟩
theorem IV.lts (hv : IV w wr b g s h T S c V lay x y) : b < wr.heap.size ∧ g < wr.heap.size ∧ s < wr.heap.size ∧ h < wr.heap.size ∧ w.heap.size ≤ wr.heap.size := by
  obtain ⟨l, hM, hs⟩ := hv.mem
  exact ⟨hM.obj.lt, hM.row.lt, hv.lay.lt, hv.row.lt, hv.kept.size⟩
theorem iv_poke (hv : IV w wr b g s h T S c V lay x y) (X : Nat) :
    Calls Try.prog 15 #[.pointer (some ⟨b, 0, none⟩), .int .i64 2, .agg #[.int .u64 (X : Int), .string ⟨#[]⟩, .int .u64 0]] wr fun e w' => e = .returned (.tuple #[]) ∧ IV w w' b g s h T S c X lay x y := by
  obtain ⟨l, hM, hs⟩ := hv.mem
  refine (poke_any b g l c 2 (X : Int) 0 ⟨#[]⟩ wr hM).mono ?_
  rintro e w' ⟨he, hM', hK⟩
  exact ⟨he, hv.next hK ⟨_, hM', hs.pub2 X⟩ (fun i hi => by have := hv.lt; have := hv.ne; unfold Own; omega)⟩
theorem iv_peek (hv : IV w wr b g s h T S c V lay x y) {k : Nat} (hk : k < T * S) :
    Calls Try.prog 19 #[.pointer (some ⟨b, 0, none⟩), .int .i64 ((8 + k : Nat) : Int)] wr fun e w' => e = .returned (.agg #[.int .u64 ((x k : Nat) : Int), .string ⟨#[]⟩, .int .u64 0]) ∧ Kept (fun _ => False) wr w' := by
  obtain ⟨l, hM, hs⟩ := hv.mem
  exact peek_any b g l c _ _ _ _ wr hM (hs.sn k hk)
theorem iv_peek_of (hv : IV w wr b g s h T S c V lay x y) {k u : Nat} (hk : k < T * S) (hu : x k = u) :
    Calls Try.prog 19 #[.pointer (some ⟨b, 0, none⟩), .int .i64 ((8 + k : Nat) : Int)] wr fun e w' => e = .returned (.agg #[.int .u64 (u : Int), .string ⟨#[]⟩, .int .u64 0]) ∧ Kept (fun _ => False) wr w' := by
  subst hu; exact iv_peek hv hk
/-- An Open beside the statement's own blocks. -/
theorem iv_step {o q p v k : Nat} {r : Bool} {v' : Nat} (hv : IV w wr b g s h T S c V lay x y) (ho : OpAt wr o q p ((8 + k : Nat) : Int) v) (hk : k < T * S) (hp : p ≤ 2) (hb : v + 1 < 18446744073709551616) (hsep : ∀ i, i = b ∨ i = g ∨ i = s ∨ i = h ∨ i < w.heap.size → o ≠ i ∧ q ≠ i) (hc : c < 9223372036854775808) (hr : decide (p = 2) = r) (hV : opV p v V = v') (hX : opX p v x k = x') :
    Calls Try.prog 17 #[.pointer (some ⟨o, 0, none⟩), .pointer (some ⟨b, 0, none⟩)] wr fun e w' => e = .returned (.bool r) ∧ IV w w' b g s h T S (c + 1) V lay x' y ∧ OpAt w' o q (p + 1) ((8 + k : Nat) : Int) v' := by
  obtain ⟨l, hM, hs⟩ := hv.mem
  refine (op_step ho hM hs hk hp hb (fun i hi => hsep i (by omega)) hc hr hV hX).mono ?_
  rintro e w' ⟨he, hm, hO, hK⟩
  refine ⟨he, hv.next hK hm (fun i hi => ?_), hO⟩
  have := hsep i (by omega); have := hv.lt; have := hv.ne; unfold Ownw; omega
theorem iv_rel {o k : Nat} (hv : IV w wr b g s h T S c V lay x y) (ho : Blk wr o 80 (relv ((8 + k : Nat) : Int) false)) (hk : k < T * S) (hsep : ∀ i, i = b ∨ i = g ∨ i = s ∨ i = h ∨ i < w.heap.size → o ≠ i) (hc : c < 9223372036854775808) :
    Calls Try.prog 24 #[.pointer (some ⟨o, 0, none⟩), .pointer (some ⟨b, 0, none⟩)] wr fun e w' => e = .returned (.bool true) ∧ IV w w' b g s h T S (c + 1) V lay (upd x k 0) y := by
  obtain ⟨l, hM, hs⟩ := hv.mem
  refine (rel_step ho hM hs hk (fun i hi => hsep i (by omega)) hc).mono ?_
  rintro e w' ⟨he, hm, hK⟩
  refine ⟨he, hv.next hK hm (fun i hi => ?_)⟩
  have := hsep i (by omega); have := hv.lt; have := hv.ne; unfold Own3; omega
end

end Go.Proofs.Ytcmcgjdbopnbbaa
