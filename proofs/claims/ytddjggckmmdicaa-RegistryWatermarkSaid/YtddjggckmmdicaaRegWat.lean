/-
  The row that the statement about Live keeps in order while it reads the snapshots, and the world behind its loop. Condition: words below 2^64; fewer than 2^63 accesses so far.
-/
import Derived.Test.YtddjggckmmdicaaRegJv
import Derived.Test.YtddjggckmmdicaaSrtLive
import Derived.Test.YtddjggckmmdicaaSrtBub
namespace Go.Proofs.Ytddjggckmmdicaa
open Go.RowKit Go.Deep
open Go.Sort (swp size_swp insInner)
set_option linter.unusedVariables false

theorem swp_sym (d : Array Nat) (i j : Nat) (hi : i < d.size) (hj : j < d.size) : swp d i j = swp d j i := by
  refine Array.ext (by rw [Go.Sort.swp_size, Go.Sort.swp_size]) (fun k h1 h2 => ?_)
  rw [← getElem!_pos _ k h1, ← getElem!_pos _ k h2, Go.Sort.swp_get d hi hj k, Go.Sort.swp_get d hj hi k]
  by_cases a : k = i
  · by_cases b : k = j
    · subst a; subst b; rfl
    · rw [if_neg b, if_pos a, if_pos a]
  · by_cases b : k = j
    · rw [if_pos b, if_neg a, if_pos b]
    · rw [if_neg b, if_neg a, if_neg a, if_neg b]
theorem raw_ext {x y : Nat → Nat} : ∀ {n : Nat}, (∀ k, k < n → x k = y k) → raw x n = raw y n
  | 0, _ => rfl
  | n + 1, h => by unfold raw; rw [raw_ext (fun k hk => h k (by omega)), h n (by omega)]
theorem raw_tail {x : Nat → Nat} {K : Nat} (h : ∀ j, K ≤ j → x j = 0) : ∀ n, K ≤ n → raw x n = raw x K
  | 0, hn => by obtain rfl : K = 0 := by omega
                rfl
  | n + 1, hn => by
    rcases (by omega : K = n + 1 ∨ K ≤ n) with rfl | h1
    · rfl
    · rw [← raw_tail h n h1]; show (if x n = 0 then raw x n else _) = _; rw [if_pos (h n h1)]
theorem lowN_tail {V : Nat} {x : Nat → Nat} {K : Nat} (h : ∀ j, K ≤ j → x j = 0) : ∀ n, K ≤ n → lowN V x n = lowN V x K
  | 0, hn => by obtain rfl : K = 0 := by omega
                rfl
  | n + 1, hn => by
    rcases (by omega : K = n + 1 ∨ K ≤ n) with rfl | h1
    · rfl
    · rw [← lowN_tail h n h1]; show low (lowN V x n) (x n) = _; rw [h n h1]; rfl
theorem raw_upd (x : Nat → Nat) (k v : Nat) : raw (upd x k v) (k + 1) = if v = 0 then raw x k else raw x k ++ [v - 1] := by
  show (if upd x k v k = 0 then raw (upd x k v) k else raw (upd x k v) k ++ [upd x k v k - 1]) = _
  rw [upd_at, raw_ext (x := upd x k v) (y := x) (fun j hj => upd_ne x v (by omega))]
theorem lowN_upd (V : Nat) (x : Nat → Nat) (k v : Nat) : lowN V (upd x k v) (k + 1) = low (lowN V x k) v := by
  show low (lowN V (upd x k v) k) (upd x k v k) = _
  rw [upd_at, lowN_ext (x := upd x k v) (y := x) (fun j hj => upd_ne x v (by omega))]

theorem own_kept {w w2 : World} {base e size n : Nat} {v : Value} {ys : List Value} {K : Nat → Prop} (h : w.ownsRow base e size v n ys) (hK : Kept K w w2) (hS : ∀ i, base ≤ i → ¬ K i) : w2.ownsRow base e size v n ys :=
  ⟨h.1, h.2.imp id fun ⟨g, cap, cur, hv, hb, hg, r⟩ => ⟨g, cap, cur, hv, hb, (hK.block g (Array.getElem?_eq_some_iff.1 hg).1 (hS g hb)).trans hg, r⟩⟩

section
variable {w wr w2 : World} {b g s h n c V : Nat} {lay : List Value} {x : Nat → Nat} {t : TypeId} {xs : List Value}
theorem jv_putK (hv : JV w wr b g s h n c V lay t xs x) {k : Nat} (hk : k < n) (I X : Int) (Y : Nat) (hI : I = ((8 + k : Nat) : Int)) (hX : X = (Y : Int)) :
    Calls Try.prog 8 #[.pointer (some ⟨b, 0, none⟩), .int .i64 I, .agg #[.int .u64 X, .string ⟨#[]⟩, .int .u64 0]] wr fun e w' => e = .returned (.tuple #[]) ∧ JV w w' b g s h n c V lay t xs (upd x k Y) ∧ Kept (Own b g) wr w' := by
  subst hX hI
  obtain ⟨l, hM, hs⟩ := hv.mem
  refine (poke_any b g l c ((8 + k : Nat) : Int) (Y : Int) 0 ⟨#[]⟩ wr hM).mono ?_
  rintro e w' ⟨he, hM', hK⟩
  exact ⟨he, hv.next hK ⟨_, hM', hs.put hk Y⟩ (fun i hi => by have := hv.lt; have := hv.ne; unfold Own; omega), hK⟩
theorem JV.off (hv : JV w wr b g s h n c V lay t xs x) {K : Nat → Prop} (hK : Kept K wr w2) {B : Nat} (hB : b < B ∧ g < B ∧ s < B ∧ h < B ∧ w.heap.size ≤ B) (hS : ∀ i, i < B → ¬ K i) : JV w w2 b g s h n c V lay t xs x := by
  obtain ⟨l, hM, hs⟩ := hv.mem
  exact hv.next hK ⟨l, hM.kept hK (hS b hB.1) (hS g hB.2.1), hs⟩ (fun i hi => hS i (by omega))
end

/-- The row, an array: it is the call's own, and nothing but its block has changed since w0. -/
structure Ow (w0 w : World) (base g off cap n : Nat) (d : Array Nat) : Prop where
  z : off = 0
  own : w.ownsRow base 22 1 (.slice (some ⟨g, 0, none⟩) n cap) n (words d.toList)
  kept : Kept (fun k => k = g) w0 w
section
variable {w0 w : World} {base g off cap n : Nat} {d : Array Nat}
theorem Ow.size (h : Ow w0 w base g off cap n d) : d.size = n := by have := h.own.1; unfold words at this; simp at this; omega
theorem Ow.cl (h : Ow w0 w base g off cap n d) (j : Nat) (hj : j < d.size) : w.cell? ⟨g, off + j, none⟩ = some (.int .u64 ((d[j]! : Nat) : Int)) := by
  have := h.size
  obtain rfl := h.z
  rw [Nat.zero_add, h.own.cellAt j (by omega), getElem!_pos d j hj]
  unfold words; rw [List.getElem?_map, List.getElem?_eq_getElem (by simpa using hj)]; simp
theorem Ow.fr (h : Ow w0 w base g off cap n d) (j : Nat) (hj : j < d.size) : w.frozen? ⟨g, off + j, none⟩ = false := h.own.frozenAt _
theorem Ow.drewN (h : Ow w0 w base g off cap n d) (m : Nat) : Ow w0 (w.drewN m) base g off cap n d := ⟨h.z, h.own, h.kept.drewN m⟩
theorem Ow.st (h : Ow w0 w base g off cap n d) (i j : Nat) (hi : i < d.size) (hj : j < d.size) (v : Value) : ∃ u, (w.setCell ⟨g, off + i, none⟩ v).cell? ⟨g, off + j, none⟩ = some u := by
  by_cases e : i = j
  · subst e; exact ⟨_, World.cell?_setCell_same _ _ _ (h.cl i hi)⟩
  · exact ⟨_, (World.cell?_setCell_other _ _ _ _ (fun e2 => by injection e2 with _ e2 _; omega)).trans (h.cl j hj)⟩
theorem words_swp (d : Array Nat) (i j x y : Nat) (hi : i < d.size) (hj : j < d.size) (hx : d[i]! = x) (hy : d[j]! = y) :
    ((words d.toList).set i (.int .u64 (y : Int))).set j (.int .u64 (x : Int)) = words (swp d i j).toList := by
  subst hx hy
  unfold swp words
  rw [Array.toList_setIfInBounds, Array.toList_setIfInBounds, List.map_set, List.map_set]
theorem Ow.swap (h : Ow w0 w base g off cap n d) (i j x y : Nat) (hi : i < d.size) (hj : j < d.size) (hx : d[i]! = x) (hy : d[j]! = y) :
    Ow w0 ((w.setCell ⟨g, off + i, none⟩ (.int .u64 (y : Int))).setCell ⟨g, off + j, none⟩ (.int .u64 (x : Int))).drew base g off cap n (swp d i j) := by
  obtain rfl := h.z
  refine ⟨rfl, ?_, ((h.kept.setCell (a := ⟨g, 0 + i, none⟩) (fun _ => rfl) _).setCell (a := ⟨g, 0 + j, none⟩) (fun _ => rfl) _).drew⟩
  rw [← words_swp d i j x y hi hj hx hy, Nat.zero_add, Nat.zero_add]
  exact ((h.own.stored i _).1.stored j _).1
end
theorem ow_start {w : World} {base n : Nat} {v : Value} {e : Array Nat} (h : w.ownsRow base 22 1 v (n + 1) (words e.toList)) :
    ∃ g off cap, v = .slice (some ⟨g, off, none⟩) (n + 1) cap ∧ base ≤ g ∧ g < w.heap.size ∧ Ow w w base g off cap (n + 1) e := by
  rcases h.2 with ⟨_, h0⟩ | ⟨g, cap, cur, rfl, hb, hg, r⟩
  · omega
  · exact ⟨g, 0, cap, rfl, hb, (Array.getElem?_eq_some_iff.1 hg).1, rfl, h, Kept.refl _ _⟩

/-- The world behind the loop: the memory, the layout, the cells as they were, the row in order. -/
structure WV (w wr : World) (b g s hb B : Nat) (A : Option Addr) (cl : Nat) (ns : List Nat) (l : List Cel) (c : Nat) (lay : List Value) : Prop where
  mem : Mem wr b g l c
  lay : Blk wr s 29 lay
  was : Blk wr hb 36 (flat3 l)
  row : Rw wr A cl ns
  kept : Kept (fun _ => False) w wr
  lt : w.heap.size ≤ b ∧ w.heap.size ≤ g
  ne : s ≠ b ∧ s ≠ g ∧ hb ≠ b ∧ hb ≠ g
  top : b < B ∧ g < B ∧ s < B ∧ hb < B ∧ w.heap.size ≤ B ∧ B ≤ wr.heap.size
  rne : ∀ q off, A = some ⟨q, off, none⟩ → q ≠ b ∧ q ≠ g ∧ q < B
section
variable {w wr w2 : World} {b g s hb B cl c c' N V j : Nat} {A : Option Addr} {ns : List Nat} {l : List Cel} {lay : List Value} {x : Nat → Nat}
theorem WV.next {K : Nat → Prop} (hv : WV w wr b g s hb B A cl ns l c lay) (hK : Kept K wr w2) (hM : Mem w2 b g l c') (hS : ∀ i, i < B → i ≠ b → i ≠ g → ¬ K i) : WV w w2 b g s hb B A cl ns l c' lay where
  mem := hM
  lay := hK.blk hv.lay (hS s (by have := hv.top; omega) (by have := hv.ne; omega) (by have := hv.ne; omega))
  was := hK.blk hv.was (hS hb (by have := hv.top; omega) (by have := hv.ne; omega) (by have := hv.ne; omega))
  row := ⟨hv.row.le, hv.row.max, fun hp => by
    obtain ⟨q, off, e, hq, hc⟩ := hv.row.some' hp
    obtain ⟨h1, h2, h3⟩ := hv.rne q off e
    exact ⟨q, off, e, Nat.lt_of_lt_of_le hq hK.size, fun j u hu => (hK.cell (p := ⟨q, off + j, none⟩) hq (hS q h3 h1 h2)).trans (hc j u hu)⟩⟩
  kept := hv.kept.trans hK (fun i hi hk => by
    have := hv.top; have := hv.lt
    exact hS i (by omega) (by omega) (by omega) hk)
  lt := hv.lt
  ne := hv.ne
  top := by have := hv.top; have := hK.size; omega
  rne := hv.rne
theorem WV.same0 (hv : WV w wr b g s hb B A cl ns l c lay) (hK : Kept (fun _ => False) wr w2) : WV w w2 b g s hb B A cl ns l c lay :=
  hv.next hK (hv.mem.kept hK id id) (fun _ _ _ _ h => h)
theorem WV.below (hv : WV w wr b g s hb B A cl ns l c lay) (hbl : Below wr.heap.size wr w2) : WV w w2 b g s hb B A cl ns l c lay :=
  hv.same0 (Below.kept hbl (S := fun _ => False) (fun i h1 h2 => by omega))
theorem wv_step {o q r : Nat} {e : Bool} (hv : WV w wr b g s hb B A cl ns l c lay) (hs : Sn l N V x) (hw : WmAt wr o q r N V x j) (hx : ∀ k, k < N → x k < 18446744073709551616) (hn : 0 < N) (hj : j ≤ N) (hsep : B ≤ o ∧ B ≤ q ∧ B ≤ r) (hc : c < 9223372036854775808) (hr : decide (j = N) = e) :
    Calls Try.prog 12 #[.pointer (some ⟨o, 0, none⟩), .pointer (some ⟨b, 0, none⟩)] wr fun e' w' => e' = .returned (.bool e) ∧ WV w w' b g s hb B A cl ns l (c + 1) lay ∧ WmAt w' o q r N V x (j + 1) := by
  refine (wm_step hw hv.mem hs hx hn hj (fun i hi => by have := hv.top; omega) hc hr).mono ?_
  rintro e' w' ⟨he, hM', hW, hK⟩
  exact ⟨he, hv.next hK hM' (fun i hi h1 h2 => by unfold Ownw; omega), hW⟩
end
end Go.Proofs.Ytddjggckmmdicaa
