/-
  A memory in which only Published and one snapshot have changed, cell by cell; the world of the statement about one Open and one Release. Condition: words below 2^64; fewer than 2^63 accesses so far.
-/
import Derived.Test.YtcmcgjdbopnbbaaRegMach
namespace Go.Proofs.Ytcmcgjdbopnbbaa
open Go.RowKit Go.Deep
set_option linter.unusedVariables false

/-- The cells l, but for Published (a) and snapshot k (v). -/
def St (l : List Cel) (k a v : Nat) : List Cel := putAt (putAt l 2 ((a : Int), ⟨#[]⟩, 0)) ((8 + k : Nat) : Int) ((v : Int), ⟨#[]⟩, 0)
theorem put_put (l : List Cel) (i : Nat) (c d : Cel) : putAt (putAt l (i : Int) c) (i : Int) d = putAt l (i : Int) d := by rw [putAt_in, putAt_in, putAt_in, List.set_set]
theorem put_comm (l : List Cel) (i j : Nat) (c d : Cel) (h : i ≠ j) : putAt (putAt l (i : Int) c) (j : Int) d = putAt (putAt l (j : Int) d) (i : Int) c := by rw [putAt_in, putAt_in, putAt_in, putAt_in, List.set_comm _ _ h]
theorem put_same (l : List Cel) (i : Nat) (c : Cel) (hi : i < l.length) (h : cellAt l (i : Int) = c) : putAt l (i : Int) c = l := by
  rw [cellAt_in l i hi] at h; subst h; rw [putAt_in, List.set_getElem_self]
theorem St.pub (l : List Cel) (k a v a' : Nat) : putAt (St l k a v) 2 ((a' : Int), ⟨#[]⟩, 0) = St l k a' v := by
  unfold St
  exact (put_comm _ (8 + k) 2 _ _ (by omega)).trans <| congrArg (fun m => putAt m ((8 + k : Nat) : Int) ((v : Int), ⟨#[]⟩, 0)) (put_put l 2 _ _)
theorem St.put (l : List Cel) (k a v v' : Nat) : putAt (St l k a v) ((8 + k : Nat) : Int) ((v' : Int), ⟨#[]⟩, 0) = St l k a v' := by
  unfold St; exact put_put _ (8 + k) _ _
section
variable {l : List Cel} {n k : Nat}
theorem St.sn (h : Sn l n 0 (fun _ => 0)) (hk : k < n) (a v : Nat) : Sn (St l k a v) n a (upd (fun _ => 0) k v) := (h.pub2 a).put hk v
theorem St.zero (h : Sn l n 0 (fun _ => 0)) (hk : k < n) (a : Nat) : St l k a 0 = putAt l 2 ((a : Int), ⟨#[]⟩, 0) := by
  have h2 := h.pub2 a
  exact put_same _ (8 + k) _ (by have := h2.len; omega) (h2.sn k hk)
theorem St.start (h : Sn l n 0 (fun _ => 0)) (hk : k < n) : St l k 0 0 = l := by
  rw [St.zero h hk]; exact put_same l 2 _ (by have := h.len; omega) h.pub
end
theorem raw_none (x : Nat → Nat) : ∀ n, (∀ i, i < n → x i = 0) → raw x n = []
  | 0, _ => rfl
  | n + 1, h => by unfold raw; rw [if_pos (h n (by omega))]; exact raw_none x n (fun i hi => h i (by omega))
theorem raw_one (k v : Nat) : ∀ n, k < n → raw (upd (fun _ => 0) k (v + 1)) n = [v]
  | 0, h => by omega
  | n + 1, h => by
    unfold raw
    by_cases e : k = n
    · subst e; rw [upd_at, if_neg (by omega), raw_none _ k (fun i hi => upd_ne _ _ (by omega))]; rfl
    · rw [upd_ne _ _ (fun h => e h.symm), if_pos rfl]; exact raw_one k v n (by omega)
theorem asc_one (v : Nat) : Asc [v] := fun i x y h1 h2 => by simp at h2
theorem asc_nil : Asc [] := fun i x y h1 h2 => by simp at h1

structure OV (w wr : World) (b g s h m k c a v : Nat) (l0 : List Cel) (lay more : List Value) : Prop where
  mem : Mem wr b g (St l0 k a v) c
  lay : Blk wr s 29 lay
  was : Blk wr h 41 (flat3 l0)
  mo : Blk wr m 23 more
  lt : w.heap.size ≤ b ∧ w.heap.size ≤ g ∧ w.heap.size ≤ h
  ne : b ≠ h ∧ g ≠ h ∧ s ≠ b ∧ s ≠ g ∧ m ≠ b ∧ m ≠ g
  kept : Kept (fun _ => False) w wr
section
variable {w wr w2 : World} {b g s h m k c a v c' a' v' : Nat} {l0 : List Cel} {lay more : List Value}
theorem OV.next {K : Nat → Prop} (hv : OV w wr b g s h m k c a v l0 lay more) (hK : Kept K wr w2) (hm : Mem w2 b g (St l0 k a' v') c') (hS : ∀ i, i < w.heap.size ∨ i = s ∨ i = h ∨ i = m → ¬ K i) : OV w w2 b g s h m k c' a' v' l0 lay more :=
  ⟨hm, hK.blk hv.lay (hS s (by omega)), hK.blk hv.was (hS h (by omega)), hK.blk hv.mo (hS m (by omega)), hv.lt, hv.ne, hv.kept.trans hK (fun i hi hk => (hS i (.inl hi) hk).elim)⟩
theorem OV.same0 (hv : OV w wr b g s h m k c a v l0 lay more) (hK : Kept (fun _ => False) wr w2) : OV w w2 b g s h m k c a v l0 lay more := hv.next hK (hv.mem.kept hK id id) (fun _ _ h => h)
theorem OV.lts (hv : OV w wr b g s h m k c a v l0 lay more) : b < wr.heap.size ∧ g < wr.heap.size ∧ s < wr.heap.size ∧ h < wr.heap.size ∧ m < wr.heap.size ∧ w.heap.size ≤ wr.heap.size :=
  ⟨hv.mem.obj.lt, hv.mem.row.lt, hv.lay.lt, hv.was.lt, hv.mo.lt, hv.kept.size⟩
theorem ov_poke (hv : OV w wr b g s h m k c a v l0 lay more) (X : Int) (Y : Nat) (hX : X = (Y : Int)) :
    Calls Try.prog 15 #[.pointer (some ⟨b, 0, none⟩), .int .i64 2, .agg #[.int .u64 X, .string ⟨#[]⟩, .int .u64 0]] wr fun e w' => e = .returned (.tuple #[]) ∧ OV w w' b g s h m k c Y v l0 lay more ∧ Kept (Own b g) wr w' := by
  subst hX
  refine (poke_any b g _ c 2 (Y : Int) 0 ⟨#[]⟩ wr hv.mem).mono ?_
  rintro e w' ⟨he, hM', hK⟩
  rw [St.pub] at hM'
  exact ⟨he, hv.next hK hM' (fun i hi => by have := hv.lt; have := hv.ne; unfold Own; omega), hK⟩
theorem ov_peek {n u : Nat} (hs : Sn l0 n 0 (fun _ => 0)) (hk : k < n) (hv : OV w wr b g s h m k c a v l0 lay more) (I : Int) (hI : I = ((8 + k : Nat) : Int)) (hu : v = u) :
    Calls Try.prog 19 #[.pointer (some ⟨b, 0, none⟩), .int .i64 I] wr fun e w' => e = .returned (.agg #[.int .u64 (u : Int), .string ⟨#[]⟩, .int .u64 0]) ∧ Kept (fun _ => False) wr w' := by
  subst hI hu
  refine peek_any b g _ c _ _ _ _ wr hv.mem ?_
  have := (St.sn hs hk a v).sn k hk
  rwa [upd_at] at this
theorem ov_step {n o q p lv : Nat} {r : Bool} (hs : Sn l0 n 0 (fun _ => 0)) (hk : k < n) (hv : OV w wr b g s h m k c a v l0 lay more) (ho : OpAt wr o q p ((8 + k : Nat) : Int) lv) (hp : p ≤ 2) (hb : lv + 1 < 18446744073709551616)
    (hsep : ∀ i, i = b ∨ i = g ∨ i = s ∨ i = h ∨ i = m ∨ i < w.heap.size → o ≠ i ∧ q ≠ i) (hc : c < 9223372036854775808) (hr : decide (p = 2) = r) (hL : p = 1 → lv = a) (hX : (if p = 0 then 1 else if p = 1 then v else lv + 1) = v') :
    Calls Try.prog 17 #[.pointer (some ⟨o, 0, none⟩), .pointer (some ⟨b, 0, none⟩)] wr fun e w' => e = .returned (.bool r) ∧ OV w w' b g s h m k (c + 1) a v' l0 lay more ∧ OpAt w' o q (p + 1) ((8 + k : Nat) : Int) lv := by
  obtain ⟨b1, b2⟩ := hsep b (by omega)
  obtain ⟨g1, g2⟩ := hsep g (by omega)
  have hS : ∀ i, i < w.heap.size ∨ i = s ∨ i = h ∨ i = m → ¬ (i = o ∨ i = q ∨ i = b ∨ i = g) := fun i hi => by have := hsep i (by omega); have := hv.lt; have := hv.ne; omega
  subst hr hX
  rcases (by omega : p = 0 ∨ p = 1 ∨ p = 2) with rfl | rfl | rfl
  · refine (openStep0 o q b g _ c _ wr hv.mem b1 g1 b2 g2 ho.ne hc 0 false ho.obj ho.now).mono ?_
    rintro e w' ⟨he, hM, hO, hQ, hK⟩
    have hM2 : Mem w' b g (St l0 k a 1) (c + 1) := by rw [← St.put l0 k a v 1]; exact hM
    exact ⟨he, hv.next hK hM2 hS, ⟨hO, hQ, ho.ne⟩⟩
  · obtain rfl := hL rfl
    have hpub : cellAt (St l0 k lv v) 2 = ((lv : Int), ⟨#[]⟩, 0) := (St.sn hs hk lv v).pub
    refine (openStep1 o q b g _ c _ wr hv.mem b1 g1 b2 g2 ho.ne hc 0 lv _ _ hpub ho.obj ho.now).mono ?_
    rintro e w' ⟨he, hM, hO, hQ, hK⟩
    exact ⟨he, hv.next hK hM hS, ⟨hO, hQ, ho.ne⟩⟩
  · refine (openStep2 o q b g _ c _ wr hv.mem b1 g1 b2 g2 ho.ne hc lv hb ho.obj ho.now).mono ?_
    rintro e w' ⟨he, hM, hO, hQ, hK⟩
    have hM2 : Mem w' b g (St l0 k a (lv + 1)) (c + 1) := by rw [← St.put l0 k a v (lv + 1)]; exact hM
    exact ⟨he, hv.next hK hM2 hS, ⟨hO, hQ, ho.ne⟩⟩
theorem ov_rel {o : Nat} (hv : OV w wr b g s h m k c a v l0 lay more) (ho : Blk wr o 80 (relv ((8 + k : Nat) : Int) false)) (hsep : ∀ i, i = b ∨ i = g ∨ i = s ∨ i = h ∨ i = m ∨ i < w.heap.size → o ≠ i) (hc : c < 9223372036854775808) :
    Calls Try.prog 24 #[.pointer (some ⟨o, 0, none⟩), .pointer (some ⟨b, 0, none⟩)] wr fun e w' => e = .returned (.bool true) ∧ OV w w' b g s h m k (c + 1) a 0 l0 lay more ∧ Kept (Own3 o b g) wr w' := by
  refine (release_any o b g _ c _ wr ho hv.mem (hsep b (by omega)) (hsep g (by omega)) hc).mono ?_
  rintro e w' ⟨he, hM, hK⟩
  have hM2 : Mem w' b g (St l0 k a 0) (c + 1) := by rw [← St.put l0 k a v 0]; exact hM
  refine ⟨he, hv.next hK hM2 (fun i hi => ?_), hK⟩
  have := hsep i (by omega); have := hv.lt; have := hv.ne; unfold Own3; omega
end

end Go.Proofs.Ytcmcgjdbopnbbaa
