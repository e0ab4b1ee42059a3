/-
  The world of a statement with a block of its own beside the memory and the layout; a Watermark and a Release in it; what a release does to the watermark. Condition: words below 2^64; fewer than 2^63 accesses so far.
-/
import Derived.Test.YtddjggckmmdicaaRegMach
namespace Go.Proofs.Ytddjggckmmdicaa
open Go.RowKit Go.Deep
set_option linter.unusedVariables false

theorem low_le (a N : Nat) : low a N ≤ a := by unfold low; split <;> omega
theorem low_mono {a b : Nat} (h : a ≤ b) (N : Nat) : low a N ≤ low b N := by unfold low; split <;> omega
theorem lowN_le (V : Nat) (x : Nat → Nat) : ∀ n, lowN V x n ≤ V
  | 0 => Nat.le_refl _
  | n + 1 => by have := lowN_le V x n; have := low_le (lowN V x n) (x n); unfold lowN; omega
theorem lowN_upd0 (V : Nat) (x : Nat → Nat) (k : Nat) : ∀ n, lowN V x n ≤ lowN V (upd x k 0) n
  | 0 => Nat.le_refl _
  | n + 1 => by
    have h := lowN_upd0 V x k n
    unfold lowN
    by_cases e : n = k
    · subst e; rw [upd_at]; exact Nat.le_trans (low_le _ _) h
    · rw [upd_ne x 0 e]; exact low_mono h _
theorem lowN_zero (V : Nat) (x : Nat → Nat) : ∀ n, (∀ k, k < n → x k = 0) → lowN V x n = V
  | 0, _ => rfl
  | n + 1, h => by unfold lowN; rw [lowN_zero V x n (fun k hk => h k (by omega)), h n (by omega)]; rfl

structure JV (w wr : World) (b g s h n c V : Nat) (lay : List Value) (t : TypeId) (xs : List Value) (x : Nat → Nat) : Prop where
  mem : ∃ l, Mem wr b g l c ∧ Sn l n V x
  lay : Blk wr s 29 lay
  own : Blk wr h t xs
  lt : w.heap.size ≤ b ∧ w.heap.size ≤ g ∧ w.heap.size ≤ h
  ne : b ≠ h ∧ g ≠ h ∧ s ≠ b ∧ s ≠ g ∧ s ≠ h
  kept : Kept (fun _ => False) w wr
section
variable {w wr w2 : World} {b g s h n c V c' V' : Nat} {lay : List Value} {x x' : Nat → Nat} {t : TypeId} {xs : List Value}
theorem JV.next {K : Nat → Prop} (hv : JV w wr b g s h n c V lay t xs x) (hK : Kept K wr w2) (hm : ∃ l, Mem w2 b g l c' ∧ Sn l n V' x') (hS : ∀ i, i < w.heap.size ∨ i = s ∨ i = h → ¬ K i) : JV w w2 b g s h n c' V' lay t xs x' :=
  ⟨hm, hK.blk hv.lay (hS s (.inr (.inl rfl))), hK.blk hv.own (hS h (.inr (.inr rfl))), hv.lt, hv.ne, hv.kept.trans hK (fun i hi hk => (hS i (.inl hi) hk).elim)⟩
theorem JV.same0 (hv : JV w wr b g s h n c V lay t xs x) (hK : Kept (fun _ => False) wr w2) : JV w w2 b g s h n c V lay t xs x := by
  obtain ⟨l, hM, hs⟩ := hv.mem
  exact hv.next hK ⟨l, hM.kept hK id id, hs⟩ (fun _ _ h => h)
theorem JV.lts (hv : JV w wr b g s h n c V lay t xs x) : b < wr.heap.size ∧ g < wr.heap.size ∧ s < wr.heap.size ∧ h < wr.heap.size ∧ w.heap.size ≤ wr.heap.size := by
  obtain ⟨l, hM, hs⟩ := hv.mem
  exact ⟨hM.obj.lt, hM.row.lt, hv.lay.lt, hv.own.lt, hv.kept.size⟩
theorem jv_poke (hv : JV w wr b g s h n c V lay t xs x) (X : Int) (Y : Nat) (hX : X = (Y : Int)) :
    Calls Try.prog 8 #[.pointer (some ⟨b, 0, none⟩), .int .i64 2, .agg #[.int .u64 X, .string ⟨#[]⟩, .int .u64 0]] wr fun e w' => e = .returned (.tuple #[]) ∧ JV w w' b g s h n c Y lay t xs x := by
  subst hX
  obtain ⟨l, hM, hs⟩ := hv.mem
  refine (poke_any b g l c 2 (Y : Int) 0 ⟨#[]⟩ wr hM).mono ?_
  rintro e w' ⟨he, hM', hK⟩
  exact ⟨he, hv.next hK ⟨_, hM', hs.pub2 Y⟩ (fun i hi => by have := hv.lt; have := hv.ne; unfold Own; omega)⟩
theorem jv_put (hv : JV w wr b g s h n c V lay t xs x) {k : Nat} (hk : k < n) (I X : Int) (Y : Nat) (hI : I = ((8 + k : Nat) : Int)) (hX : X = (Y : Int)) :
    Calls Try.prog 8 #[.pointer (some ⟨b, 0, none⟩), .int .i64 I, .agg #[.int .u64 X, .string ⟨#[]⟩, .int .u64 0]] wr fun e w' => e = .returned (.tuple #[]) ∧ JV w w' b g s h n c V lay t xs (upd x k Y) := by
  subst hX hI
  obtain ⟨l, hM, hs⟩ := hv.mem
  refine (poke_any b g l c ((8 + k : Nat) : Int) (Y : Int) 0 ⟨#[]⟩ wr hM).mono ?_
  rintro e w' ⟨he, hM', hK⟩
  exact ⟨he, hv.next hK ⟨_, hM', hs.put hk Y⟩ (fun i hi => by have := hv.lt; have := hv.ne; unfold Own; omega)⟩
/-- A step of a Watermark, beside the statement's own blocks. -/
theorem jv_wstep {o q r j : Nat} {e : Bool} (hv : JV w wr b g s h n c V lay t xs x) (hw : WmAt wr o q r n V x j) (hx : ∀ k, k < n → x k < 18446744073709551616) (hn : 0 < n) (hj : j ≤ n) (hsep : ∀ i, i = b ∨ i = g ∨ i = s ∨ i = h ∨ i < w.heap.size → o ≠ i ∧ q ≠ i ∧ r ≠ i) (hc : c < 9223372036854775808) (hr : decide (j = n) = e) :
    Calls Try.prog 12 #[.pointer (some ⟨o, 0, none⟩), .pointer (some ⟨b, 0, none⟩)] wr fun e' w' => e' = .returned (.bool e) ∧ JV w w' b g s h n (c + 1) V lay t xs x ∧ WmAt w' o q r n V x (j + 1) := by
  obtain ⟨l, hM, hs⟩ := hv.mem
  refine (wm_step hw hM hs hx hn hj (fun i hi => hsep i (by omega)) hc hr).mono ?_
  rintro e' w' ⟨he, hM', hW, hK⟩
  refine ⟨he, hv.next hK ⟨l, hM', hs⟩ (fun i hi => ?_), hW⟩
  have := hsep i (by omega); have := hv.lt; have := hv.ne; unfold Ownw; omega
end
/-- The plain state of the statement about releases: the watermark has not gone down, and who came by after step 20 is released. -/
structure Rl (n V s last : Nat) (x : Nat → Nat) : Prop where
  le : last ≤ lowN V x n
  zero : ∀ t, 20 ≤ t → t < s → x (t % n) = 0
  fin : s = n + 21 → last = V
theorem Rl.next {n V s last i : Nat} {x : Nat → Nat} (h : Rl n V s last x) (hn : 0 < n) (hi : 20 ≤ s → i = s % n) : Rl n V (s + 1) (lowN V x n) (upd x i 0) := by
  refine ⟨lowN_upd0 V x i n, fun t h20 ht => ?_, fun hs => ?_⟩
  · by_cases e : t % n = i
    · rw [e, upd_at]
    · rw [upd_ne x 0 e]
      refine h.zero t h20 ?_
      rcases (by omega : t < s ∨ t = s) with h1 | h1
      · exact h1
      · subst h1; exact (e (hi h20).symm).elim
  · refine lowN_zero V x n (fun k hk => ?_)
    have hm := Nat.mod_lt 20 hn
    obtain ⟨t, h20, ht, htm⟩ : ∃ t, 20 ≤ t ∧ t < s ∧ t % n = k := by
      rcases (by omega : 20 % n ≤ k ∨ k < 20 % n) with h1 | h1
      · refine ⟨20 + (k - 20 % n), by omega, by omega, ?_⟩
        rw [Nat.add_mod, Nat.mod_eq_of_lt (show k - 20 % n < n by omega), show 20 % n + (k - 20 % n) = k by omega, Nat.mod_eq_of_lt hk]
      · refine ⟨20 + (n + k - 20 % n), by omega, by omega, ?_⟩
        rw [Nat.add_mod, Nat.mod_eq_of_lt (show n + k - 20 % n < n by omega), show 20 % n + (n + k - 20 % n) = n + k by omega, Nat.add_mod_left, Nat.mod_eq_of_lt hk]
    rw [← htm]; exact h.zero t h20 ht

end Go.Proofs.Ytddjggckmmdicaa
