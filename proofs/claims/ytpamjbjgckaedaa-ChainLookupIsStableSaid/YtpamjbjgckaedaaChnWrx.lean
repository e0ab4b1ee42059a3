/-
  The writer of ChainLookupIsStable as one predicate, and a step of it. Condition: a list of at most eight steps within the model's reach; fewer than 2^63 accesses so far.
-/
import Derived.Test.YtpamjbjgckaedaaChnWriX
import Derived.Test.YtpamjbjgckaedaaChnLawC
namespace Go.Proofs.Ytpamjbjgckaedaa
open Go.RowKit Go.Deep Plain
set_option linter.unusedVariables false

theorem wm_start {l : List Cel} {ys : List Ve} {n t : Nat} {x : Ve} (hd : KDb l (own ys) n) (hc : Cnt ys n) (hn : n ≤ 100) (ht : t ≤ n) (hx : 0 < t → ys[n - t]? = some x) : Wm 100 200 810 910 1510 l t n n x.2 := by
  have h0 : num (own ys) 0 = n := by rw [hc.num]; omega
  have hL := hd.lnk
  have h1 := hd.one
  rw [h0] at hL h1
  refine ⟨hd.len, hc.way hL (by omega) ht hx, h1, ht, Nat.le_refl _, hd.free, fun q h2 h3 => ?_⟩
  have hy : ys[n - q]? = some (ys[n - q]'(by rw [hc.1]; omega)) := List.getElem?_eq_getElem (by rw [hc.1]; omega)
  have h4 := hL.recs (n - q) _ _ (own_some hy)
  have h5 := hc.2 _ _ hy
  have h6 := h4.del
  rw [show ((ys[n - q]'(by rw [hc.1]; omega)).1 : Nat) = q by omega] at h6
  obtain ⟨m, hm1, hm2⟩ := del_one h6
  exact ⟨m, hm1⟩
/-- The writer between two steps: the memory, the records, and where it is; its machines lie behind B0. -/
def WrAt (w : World) (p b g k tm : Nat) (u : ByteArray × Bool) (A : Option Addr) (c n B0 : Nat) (l : List Cel) (top c1 : Nat) : Prop :=
  Mem w b g l k ∧ Wm 100 200 810 910 1510 l tm top c1 u ∧ top ≤ 17 ∧ (p < B0 ∧ b < B0 ∧ g < B0) ∧ (p ≠ b ∧ p ≠ g) ∧ B0 ≤ w.heap.size ∧ n ≤ 8 ∧ ∃ (at' stm : Nat), tm ≤ stm ∧ stm ≤ 8 + at' ∧ at' ≤ n ∧
  ((Blk w p 67 (wrv b A c n at' top stm tm (.pointer none) (.pointer none) false) ∧ top ≤ 8 + at') ∨
   (∃ q ph, Blk w p 67 (wrv b A c n at' (top + 1) stm tm (.pointer (some ⟨q, 0, none⟩)) (.pointer none) false) ∧ top ≤ 8 + at' ∧ at' < n ∧ B0 ≤ q ∧ ph < 4 ∧ WiAt 1 2 100 100 200 4 1000 10 810 910 w q tm top l ph) ∨
   (∃ q, Blk w p 67 (wrv b A c n at' top stm tm (.pointer (some ⟨q, 0, none⟩)) (.pointer none) true) ∧ top ≤ 9 + at' ∧ at' < n ∧ B0 ≤ q ∧ WiAt 1 2 100 100 200 4 1000 10 810 910 w q tm top l 4) ∨
   (∃ q f, Blk w p 67 (wrv b A c n at' top stm tm (.pointer none) (.pointer (some ⟨q, 0, none⟩)) false) ∧ top ≤ 8 + at' ∧ at' < n ∧ B0 ≤ q ∧ f ≤ tm ∧ WtAt 1 2 100 100 200 4 1000 10 810 910 w q f tm top false))
def Wrs (p b g B0 : Nat) (i : Nat) : Prop := i = p ∨ i = b ∨ i = g ∨ B0 ≤ i
section
variable {w w' : World} {p b g k k' tm B0 q0 : Nat} {u : ByteArray × Bool} {A : Option Addr} {c n top c1 : Nat} {l : List Cel}
theorem WrAt.far (h : WrAt w p b g k tm u A c n B0 l top c1) {Y : Nat → Prop} (hk : Kept Y w w') (hm : Mem w' b g l k') (hp : ¬ Y p) (hB : ∀ i, B0 ≤ i → ¬ Y i) : WrAt w' p b g k' tm u A c n B0 l top c1 := by
  obtain ⟨_, h2, h3, h4, h5, h6, h7, at', stm, h8, h9, h10, h11⟩ := h
  refine ⟨hm, h2, h3, h4, h5, Nat.le_trans h6 hk.size, h7, at', stm, h8, h9, h10, ?_⟩
  rcases h11 with ⟨a, b⟩ | ⟨q, ph, a, b, c, d, e, f⟩ | ⟨q, a, b, c, d, e⟩ | ⟨q, f, a, b, c, d, e, g⟩
  · exact .inl ⟨hk.blk a hp, b⟩
  · exact .inr (.inl ⟨q, ph, hk.blk a hp, b, c, d, e, f.kept hk (hB q d)⟩)
  · exact .inr (.inr (.inl ⟨q, hk.blk a hp, b, c, d, e.kept hk (hB q d)⟩))
  · exact .inr (.inr (.inr ⟨q, f, hk.blk a hp, b, c, d, e, g.kept hk (hB q d)⟩))
theorem WrAt.reader (h : WrAt w p b g k tm u A c n B0 l top c1) (hk : Kept (Own3 q0 b g) w w') (hm : Mem w' b g l k') (hp : p ≠ q0) (hB : q0 < B0) : WrAt w' p b g k' tm u A c n B0 l top c1 := by
  have h4 := h.2.2.2.1
  have h5 := h.2.2.2.2.1
  exact h.far hk hm (fun e => by rcases e with e | e | e <;> omega) (fun i hi e => by rcases e with e | e | e <;> omega)
end
theorem kept4 {Y : Nat → Prop} {w w' : World} {p b g B0 : Nat} (h : Kept Y w w') (hY : ∀ i, Y i → Wrs p b g B0 i) : Kept (Wrs p b g B0) w w' := h.mono hY
set_option maxHeartbeats 1000000 in
theorem wr_step (p b g k tm : Nat) (u : ByteArray × Bool) (A : Option Addr) (c n B0 : Nat) (l : List Cel) (top c1 : Nat) (w : World) (xs : List Stp) (hxn : xs.length = n) (hR : Rp w A c xs) (hk : k < 9223372036854775808) (h : WrAt w p b g k tm u A c n B0 l top c1) :
    Calls Try.prog 31 #[.pointer (some ⟨p, 0, none⟩)] w fun e w' => e = .returned (.tuple #[]) ∧ ∃ l' top' c' k', k' ≤ k + 1 ∧ top ≤ top' ∧ WrAt w' p b g k' tm u A c n B0 l' top' c' ∧ Kept (Wrs p b g B0) w w' := by
  obtain ⟨hm, hW, h3, h4, h5, h6, h7, at', stm, h8, h9, h10, h11⟩ := h
  have hpw : p < w.heap.size := by omega
  have htmt := hW.lo
  have hc1t := hW.hi
  by_cases hat : n ≤ at'
  · rcases h11 with ⟨a, b2⟩ | ⟨q, ph, a, b2, c2, _⟩ | ⟨q, a, b2, c2, _⟩ | ⟨q, f, a, b2, c2, _⟩
    · refine (wr_over p b A c n at' top stm tm (.pointer none) (.pointer none) false w a hat).mono ?_
      rintro e w' ⟨rfl, hB, hK⟩
      exact ⟨rfl, l, top, c1, k, by omega, Nat.le_refl _, ⟨hm.kept hK (fun h => h) (fun h => h), hW, h3, h4, h5, Nat.le_trans h6 hK.size, h7, at', stm, h8, h9, h10, .inl ⟨hB, b2⟩⟩, hK.mono (fun _ h => h.elim)⟩
    · omega
    · omega
    · omega
  · rcases h11 with ⟨a, b2⟩ | ⟨q, ph, a, b2, c2, d, e2, f⟩ | ⟨q, a, b2, c2, d, e2⟩ | ⟨q, f, a, b2, c2, d, e2, f2⟩
    · refine (wr_new p b A c n at' top stm tm w a xs hxn hR (by omega) (by omega) l (by omega) (by omega) hpw).mono ?_
      rintro e w' ⟨rfl, hK, ⟨q, f, i1, i2, i3, i4⟩ | ⟨q, i1, i2, i3⟩⟩
      · exact ⟨rfl, l, top, c1, k, by omega, Nat.le_refl _, ⟨hm.kept hK (fun e => h5.1 e.symm) (fun e => h5.2 e.symm), hW, h3, h4, h5, Nat.le_trans h6 hK.size, h7, at', stm, h8, h9, h10, .inr (.inr (.inr ⟨q, f, i4, b2, by omega, by omega, i2, i3⟩))⟩, hK.mono (fun _ h => .inl h)⟩
      · exact ⟨rfl, l, top, c1, k, by omega, Nat.le_refl _, ⟨hm.kept hK (fun e => h5.1 e.symm) (fun e => h5.2 e.symm), hW, h3, h4, h5, Nat.le_trans h6 hK.size, h7, at', stm, h8, h9, h10, .inr (.inl ⟨q, 0, i3, b2, by omega, by omega, by omega, i2⟩)⟩, hK.mono (fun _ h => .inl h)⟩
    · obtain ⟨ff, hff⟩ : ∃ ff, (ph + 1 == 4) = ff := ⟨_, rfl⟩
      obtain ⟨top2, ht2⟩ : ∃ t2, (if ph = 3 then top + 1 else top) = t2 := ⟨_, rfl⟩
      refine (wr_in p b A c n at' (top + 1) stm tm w q a xs hxn hR (by omega) (by omega) g l k tm top c1 ph u hm ⟨by omega, by omega⟩ ⟨by omega, h5.1, h5.2⟩ hk hW (by omega) f e2 ff hff top2 ht2).mono ?_
      rintro e w' ⟨rfl, l', c', hI, hW', hM', hB', hK⟩
      have hYY : ∀ i, (i = p ∨ Own3 q b g i) → Wrs p b g B0 i := fun i e => by unfold Wrs; rcases e with e | e | e | e <;> omega
      by_cases h33 : ph = 3
      · subst h33
        rw [if_pos rfl] at ht2
        subst ht2
        have hfe : ff = true := by rw [← hff]; rfl
        subst hfe
        exact ⟨rfl, l', top + 1, c', k + 1, by omega, by omega, ⟨hM', hW', by omega, h4, h5, Nat.le_trans h6 hK.size, h7, at', stm, h8, h9, h10, .inr (.inr (.inl ⟨q, hB', by omega, by omega, d, hI⟩))⟩, hK.mono hYY⟩
      · rw [if_neg h33] at ht2
        subst ht2
        have hfe : ff = false := by rw [← hff]; simp; omega
        subst hfe
        exact ⟨rfl, l', top, c', k + 1, by omega, Nat.le_refl _, ⟨hM', hW', h3, h4, h5, Nat.le_trans h6 hK.size, h7, at', stm, h8, h9, h10, .inr (.inl ⟨q, ph + 1, hB', b2, by omega, d, by omega, hI⟩)⟩, hK.mono hYY⟩
    · refine (wr_end p b A c n at' top stm tm w q a xs hxn hR (by omega) (by omega) g l k c1 u hm ⟨by omega, h5.1, h5.2⟩ hk ⟨h8, by omega⟩ hW e2 hpw).mono ?_
      rintro e w' ⟨rfl, l', c', stm', hW', hM', i1, i2, hB', hK⟩
      exact ⟨rfl, l', top, c', k + 1, by omega, Nat.le_refl _, ⟨hM', hW', h3, h4, h5, Nat.le_trans h6 hK.size, h7, at' + 1, stm', i1, by omega, by omega, .inl ⟨hB', by omega⟩⟩, hK.mono (fun i e => by unfold Wrs; omega)⟩
    · refine (wr_cut p b A c n at' top stm tm w q a xs hxn hR (by omega) (by omega) g l k f tm top c1 u hm ⟨by omega, by omega⟩ ⟨by omega, h5.1, h5.2⟩ hk hW e2 f2).mono ?_
      rintro e w' ⟨rfl, l', hW', hM', hK, hres⟩
      have hYY : ∀ i, (i = p ∨ Own3 q b g i) → Wrs p b g B0 i := fun i e => by unfold Wrs; rcases e with e | e | e | e <;> omega
      rcases hres with ⟨hT, hB'⟩ | hB'
      · exact ⟨rfl, l', top, c1, k + 1, by omega, Nat.le_refl _, ⟨hM', hW', h3, h4, h5, Nat.le_trans h6 hK.size, h7, at', stm, h8, h9, h10, .inr (.inr (.inr ⟨q, f, hB', b2, c2, d, e2, hT⟩))⟩, hK.mono hYY⟩
      · exact ⟨rfl, l', top, c1, k + 1, by omega, Nat.le_refl _, ⟨hM', hW', h3, h4, h5, Nat.le_trans h6 hK.size, h7, at' + 1, stm, h8, by omega, by omega, .inl ⟨hB', by omega⟩⟩, hK.mono hYY⟩
end Go.Proofs.Ytpamjbjgckaedaa
