/-
  The cells that package registry reads and writes (Published, the snapshots'), as numbers; a Watermark that nobody disturbs, step by step; the database that the statements begin with. Condition: words below 2^64; fewer than 2^63 accesses so far.
-/
import Derived.Test.YtddjggckmmdicaaRegLive
namespace Go.Proofs.Ytddjggckmmdicaa
open Go.RowKit Go.Deep
set_option linter.unusedVariables false

theorem Rw.alloc {w : World} {A : Option Addr} {c : Nat} {xs : List Nat} (h : Rw w A c xs) (o : Obj) : Rw (w.alloc o) A c xs := h.below ((Below.refl w.heap.size w).alloc (Nat.le_refl _) o) (Nat.le_refl _)
theorem Rw.new (w : World) (xs : List Nat) (hm : xs.length ≤ maxLen) : Rw (w.alloc (.cells ⟨words xs⟩ 22)) (some ⟨w.heap.size, 0, none⟩) xs.length xs :=
  ⟨Nat.le_refl _, hm, fun _ => ⟨w.heap.size, 0, rfl, (Blk.new w (words xs) 22).lt, fun j x hx => by
    rw [Nat.zero_add]
    exact (Blk.new w (words xs) 22).cell (by unfold words; rw [List.getElem?_map, hx]; rfl)⟩⟩
/-- Published is V, the cells of the first n snapshots are x. -/
structure Sn (l : List Cel) (n V : Nat) (x : Nat → Nat) : Prop where
  len : 8 + n ≤ l.length
  top : l.length ≤ 1048576
  pub : cellAt l 2 = ((V : Int), ⟨#[]⟩, 0)
  sn : ∀ k, k < n → cellAt l ((8 + k : Nat) : Int) = ((x k : Int), ⟨#[]⟩, 0)
def upd (x : Nat → Nat) (k v : Nat) : Nat → Nat := fun i => if i = k then v else x i
theorem upd_at (x : Nat → Nat) (k v : Nat) : upd x k v k = v := if_pos rfl
theorem upd_ne (x : Nat → Nat) {k i : Nat} (v : Nat) (h : i ≠ k) : upd x k v i = x i := if_neg h
theorem Sn.pub2 {l : List Cel} {n V : Nat} {x : Nat → Nat} (h : Sn l n V x) (X : Nat) : Sn (putAt l 2 ((X : Int), ⟨#[]⟩, 0)) n X x :=
  have h8 := h.len
  ⟨by rw [putAt_length]; exact h.len, by rw [putAt_length]; exact h.top, (cellAt_put l 2 2 _ (by omega)).trans (if_pos rfl), fun k hk => ((cellAt_put l 2 (8 + k) _ (by omega)).trans (if_neg (by omega))).trans (h.sn k hk)⟩
theorem Sn.put {l : List Cel} {n V : Nat} {x : Nat → Nat} (h : Sn l n V x) {k : Nat} (hk : k < n) (v : Nat) : Sn (putAt l ((8 + k : Nat) : Int) ((v : Int), ⟨#[]⟩, 0)) n V (upd x k v) := by
  have h8 := h.len
  refine ⟨by rw [putAt_length]; exact h.len, by rw [putAt_length]; exact h.top, ((cellAt_put l (8 + k) 2 _ (by omega)).trans (if_neg (by omega))).trans h.pub, fun i hi => ?_⟩
  by_cases e : i = k
  · subst e; rw [upd_at]; exact (cellAt_put l (8 + i) (8 + i) _ (by omega)).trans (if_pos rfl)
  · rw [upd_ne x v e]; exact ((cellAt_put l (8 + k) (8 + i) _ (by omega)).trans (if_neg (by omega))).trans (h.sn i hi)
theorem Sn.ext {l : List Cel} {n V : Nat} {x y : Nat → Nat} (h : Sn l n V x) (e : ∀ k, k < n → x k = y k) : Sn l n V y := ⟨h.len, h.top, h.pub, fun k hk => by rw [← e k hk]; exact h.sn k hk⟩
theorem Sn.snaps {l : List Cel} {n V : Nat} {x : Nat → Nat} (h : Sn l n V x) (hx : ∀ k, k < n → x k < 18446744073709551616) : Snaps l n x := fun k hk => ⟨hx k hk, _, _, h.sn k hk⟩
theorem cel_eq {l : List Cel} {i j : Nat} {c : Cel} (h : cellAt l (i : Int) = c) (e : i = j) : cellAt l (j : Int) = c := by subst e; exact h

theorem startCells_sn (T S : Nat) (hl : Lim (T : Int) (S : Int) 100 100 200 4) : Sn (startCells T S 100 100 200 4) (T * S) 0 (fun _ => 0) := by
  have hlen := startCells_length (T : Int) S 100 100 200 4 hl
  have hbd := allCells_bd hl
  have h0 : allCells (T : Int) S 100 100 200 4 = 8 + ((T * S : Nat) : Int) + 1500 := by unfold allCells firstRecord firstChain firstNode; simp; omega
  have hn : nodeAt 100 4 (firstNode (T : Int) S) 1 2 = ((10 + T * S : Nat) : Int) := by unfold nodeAt firstNode; rw [if_pos (by omega)]; simp; omega
  have hz : ∀ (l : List Cel) (i j : Nat) (c : Cel), i < l.length → i ≠ j → cellAt l (j : Int) = cel0 → cellAt (putAt l (i : Int) c) (j : Int) = cel0 := fun l i j c hi hij h => ((cellAt_put l i j c hi).trans (if_neg hij)).trans h
  have hall : ∀ j : Nat, 1 ≤ j → j < 8 + T * S → j ≠ 4 → cellAt (startCells T S 100 100 200 4) (j : Int) = cel0 := fun j h1 h2 h4 => by
    unfold startCells
    rw [hn]
    refine hz _ _ j _ ?_ (by omega) (hz _ 4 j _ ?_ (by omega) (hz _ 0 j _ ?_ (by omega) (cellAt_zero _ _)))
    · rw [putAt_length, putAt_length, List.length_replicate]; omega
    · rw [putAt_length, List.length_replicate]; omega
    · rw [List.length_replicate]; omega
  exact ⟨by omega, by omega, hall 2 (by omega) (by omega) (by omega), fun k hk => hall (8 + k) (by omega) (by omega) (by omega)⟩

/-- What the kit's Memory answers for T threads and S snapshots each. -/
def MemOk (T S : Nat) (w : World) (e : Ending) (w' : World) : Prop :=
  ∃ (b g : Nat) (l : List Cel) (fa fb fd : Int), e = .returned (.tuple #[.agg #[.int .i64 (T : Int), .int .i64 (S : Int), .int .i64 100, .int .i64 100, .int .i64 200, .int .i64 4, .int .u64 1000, .int .i64 fa, .int .i64 fb, .int .i64 fd], .pointer (some ⟨b, 0, none⟩)]) ∧ Mem w' b g l 0 ∧ Sn l (T * S) 0 (fun _ => 0) ∧ w.heap.size ≤ b ∧ w.heap.size ≤ g ∧ Kept (fun _ => False) w w'
theorem kitMem (T S : Nat) (hl : Lim (T : Int) (S : Int) 100 100 200 4) (w : World) :
    Calls Try.prog 6 #[.agg #[.int .i64 (T : Int), .int .i64 (S : Int), .int .i64 100, .int .i64 100, .int .i64 200, .int .i64 4, .int .u64 1000]] w (MemOk T S w) := by
  refine (kitMemory_yes (T : Int) (S : Int) 100 100 200 4 1000 hl (by omega) (by omega) w).mono ?_
  rintro e w' ⟨b, g, he, hM, hb, hg, hK⟩
  exact ⟨b, g, _, _, _, _, he, hM, startCells_sn T S hl, hb, hg, hK⟩
theorem lim_of {T S : Nat} (h1 : 1 ≤ T) (h2 : T ≤ 64) (h3 : 1 ≤ S) (h4 : S ≤ 8) : Lim (T : Int) (S : Int) 100 100 200 4 := by constructor <;> omega

/-- The least of Published and the first c snapshots. -/
def lowN (V : Nat) (x : Nat → Nat) : Nat → Nat
  | 0 => V
  | c + 1 => low (lowN V x c) (x c)
theorem lowN_ext {V : Nat} {x y : Nat → Nat} : ∀ {n : Nat}, (∀ k, k < n → x k = y k) → lowN V x n = lowN V y n
  | 0, _ => rfl
  | n + 1, h => by unfold lowN; rw [lowN_ext (fun k hk => h k (by omega)), h n (by omega)]
/-- A Watermark that has made j steps, with nobody else at work. -/
def WmAt (w : World) (o q g n V : Nat) (x : Nat → Nat) (j : Nat) : Prop :=
  (j = 0 ∧ ∃ least, Wm w o q g false n 0 least) ∨ ∃ c, j = c + 1 ∧ c ≤ n ∧ Wm w o q g true n c (lowN V x c)
theorem WmAt.kept {S : Nat → Prop} {w w' : World} {o q g n V j : Nat} {x : Nat → Nat} (h : WmAt w o q g n V x j) (hk : Kept S w w') (ho : ¬ S o) (hq : ¬ S q) (hg : ¬ S g) : WmAt w' o q g n V x j := by
  rcases h with ⟨h0, least, h⟩ | ⟨c, h0, hc, h⟩
  · exact .inl ⟨h0, least, h.kept hk ho hq hg⟩
  · exact .inr ⟨c, h0, hc, h.kept hk ho hq hg⟩
theorem wm_step {w : World} {o q g b m n V j k : Nat} {x : Nat → Nat} {l : List Cel} {r : Bool} (hw : WmAt w o q g n V x j) (h : Mem w b m l k) (hs : Sn l n V x) (hx : ∀ k, k < n → x k < 18446744073709551616) (hn : 0 < n) (hj : j ≤ n) (hsep : ∀ i, i = b ∨ i = m → o ≠ i ∧ q ≠ i ∧ g ≠ i) (hk : k < 9223372036854775808) (hr : decide (j = n) = r) :
    Calls Try.prog 12 #[.pointer (some ⟨o, 0, none⟩), .pointer (some ⟨b, 0, none⟩)] w fun e w' => e = .returned (.bool r) ∧ Mem w' b m l (k + 1) ∧ WmAt w' o q g n V x (j + 1) ∧ Kept (Ownw o q b m) w w' := by
  rcases hw with ⟨rfl, least, hw⟩ | ⟨c, rfl, hc, hw⟩
  · obtain rfl : r = false := by rw [← hr]; simp; omega
    refine (wm_first hw h hn hsep hk hs.pub).mono ?_
    rintro e w' ⟨he, hM, hW, hK⟩
    exact ⟨he, hM, .inr ⟨0, rfl, by omega, hW⟩, hK⟩
  · refine (wm_next hw h (by omega) hsep hk (hs.sn c (by omega)) (hx c (by omega)) rfl hr).mono ?_
    rintro e w' ⟨he, hM, hW, hK⟩
    exact ⟨he, hM, .inr ⟨c + 1, rfl, by omega, hW⟩, hK⟩
theorem wm_end {w : World} {o q g n V : Nat} {x : Nat → Nat} {v : Nat} (hw : WmAt w o q g n V x (n + 1)) (hv : lowN V x n = v) :
    Calls Try.prog 14 #[.pointer (some ⟨o, 0, none⟩)] w fun e w' => e = .returned (.int .u64 (v : Int)) ∧ w = w' := by
  rcases hw with ⟨h0, _⟩ | ⟨c, h0, hc, hw⟩
  · omega
  · obtain rfl : c = n := by omega
    rw [hv] at hw
    exact wm_time hw

end Go.Proofs.Ytddjggckmmdicaa
