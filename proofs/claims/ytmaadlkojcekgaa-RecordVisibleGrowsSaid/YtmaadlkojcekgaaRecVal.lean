/-
  The statements' own example 'awake', which answers yes, and what their 'valid' makes of any chain: a valid chain of at most 30 versions in a row of its own. Condition: rows within the model's reach.
-/
import Derived.Test.YtmaadlkojcekgaaRecSee
import Derived.Test.YtmaadlkojcekgaaRecCut
import Derived.Test.YtmaadlkojcekgaaRecChk
import Derived.Deep.AppendLies
namespace Go.Proofs.Ytmaadlkojcekgaa
open Go.RowKit Go.Deep Plain
set_option linter.unusedVariables false

/-- A chain under way: valid, its stamps below N, none pending. -/
def Bld (l : List Ve) (N : Nat) : Prop := ChkI l ∧ (∀ x, l[0]? = some x → x.1 < N) ∧ ∀ x ∈ l, x.1 ≠ 0 ∧ x.1 < N
theorem Bld.nil (N : Nat) : Bld [] N := ⟨ChkI.nil, fun x h => by simp at h, fun x h => by simp at h⟩
theorem Bld.cons {l : List Ve} {N N' : Nat} {v : Ve} (h : Bld l N) (hb : bad v = false) (hv : v.1 = N) (hN : 0 < N ∧ N < N') : Bld (v :: l) N' := by
  refine ⟨h.1.cons hb fun x hx => flw_iff.2 ⟨(h.2.2 x (List.mem_of_getElem? hx)).1, .inr (by rw [hv]; exact h.2.1 x hx)⟩, fun x hx => ?_, fun x hx => ?_⟩
  · simp at hx; subst hx; omega
  · rcases List.mem_cons.1 hx with rfl | hx
    · omega
    · have := h.2.2 x hx; omega
theorem Bld.small {l : List Ve} {N : Nat} (h : Bld l N) (hN : N ≤ 1000) : ∀ x ∈ l, x.1 < 1000 := fun x hx => by have := h.2.2 x hx; omega
theorem Bld.smallp {l : List Ve} {x : Ve} {N : Nat} (h : Bld (x :: l) N) (hN : N ≤ 1000) : ∀ y ∈ (((0, x.2) : Ve) :: l), y.1 < 1000 := fun y hy => by
  rcases List.mem_cons.1 hy with rfl | hy
  · show 0 < 1000; omega
  · exact h.small hN y (List.mem_cons_of_mem _ hy)
theorem own_one_at {base : Nat} (w : World) (x : Ve) (b : Nat) (h : w.heap.size = b) (hb : base ≤ w.heap.size) : (w.alloc (.cells #[.int .u64 (x.1 : Int), .string x.2.1, .bool x.2.2] 27)).ownsRow base 27 3 (.slice (some ⟨b, 0, none⟩) 1 1) 1 (flatv [x]) := by
  subst h
  exact ⟨rfl, .inr ⟨_, 1, _, rfl, hb, blk_alloc_new _ _, Nat.le_refl _, by unfold maxLen; decide, rfl, rfl⟩⟩

set_option maxRecDepth 100000 in
set_option maxHeartbeats 8000000 in
theorem valid_any (A : Option Addr) (c : Nat) (xs : List Ve) (p : Bool) (w : World) (n : Nat) (hn : xs.length = n) (h47 : n ≤ maxLen) (hR : Rv w A c xs) :
    Calls Try.prog 10 #[.slice A n c, .bool p] w fun e w' => ∃ (A' : Option Addr) (m c' : Nat) (ys : List Ve), e = .returned (.slice A' m c') ∧ ys.length = m ∧ m ≤ 30 ∧ Rv w' A' c' ys ∧ ChkI ys ∧ (∀ x ∈ ys, x.1 < 1000) ∧ Below w.heap.size w w' := by
  have HR := Lib.hid hR
  have HN := Lib.hid hn
  clear hR
  go_enter Try.func10, Try.ntmps10
  go_wp2_with fail
  go_loopw [7, 6, 5] (fun i nx v wr => ∃ (j N : Nat) (l : List Ve), j ≤ n ∧ j ≤ 30 ∧ i = .int .i64 j ∧ nx = .int .u64 N ∧ 1 ≤ N ∧ N ≤ 1 + 5 * j ∧ wr.ownsRow w.heap.size 27 3 v j (flatv l) ∧ Bld l N ∧ Below w.heap.size w wr) (fun i _ _ _ => 30 - (intOf i).toNat)
  case atStart => exact ⟨0, 1, [], Nat.zero_le _, Nat.zero_le _, rfl, rfl, Nat.le_refl _, Nat.le_refl _, World.ownsRow_nil _ _ _ _, Bld.nil _, Below.refl _ _⟩
  case round =>
    obtain ⟨j, N, l, hj, hj30, rfl, rfl, hN1, hN2, hown, hbld, hbel⟩ := hrel
    have HL := Lib.hid hbel
    have HO := Lib.hid hown
    have HBLD := Lib.hid hbld
    have hsz := hbel.size
    obtain ⟨A2, c2, rfl, hlen, hR2, _⟩ := Rv.own hown
    have HLEN := Lib.hid hlen
    have HR2 := Lib.hid hR2
    clear hown hbld hlen hR2
    by_cases hlt : j < n
    · by_cases h30 : j < 30
      · obtain ⟨⟨s, v, d⟩, hx⟩ : ∃ x, xs[j]? = some x := ⟨_, List.getElem?_eq_getElem (by omega)⟩
        obtain ⟨g, off, rfl, hg, hcell⟩ := (HR.out.below hbel (Nat.le_refl _)).at (by omega)
        obtain ⟨c0, c1, c2'⟩ := hcell j _ hx
        obtain ⟨r, hr⟩ : ∃ r : Nat, s % 5 = r := ⟨_, rfl⟩
        have hr1 : (s : Int) % 5 = (r : Int) := by omega
        have hr2 : (s : Int).tmod 5 = (r : Int) := by rw [Int.tmod_eq_emod_of_nonneg (by omega)]; omega
        have hr5 : r < 5 := by omega
        clear hcell hx hr hbel
        cases d
        · have hb2 := HBLD.out.cons (v := (N, v, false)) (N' := N + 1 + r) (by rfl) rfl (by omega)
          have HB2 := Lib.hid hb2
          clear hb2
          go_wp2_with (at_builtin; go_must (refine wpList_app rfl (.tmp 38) (.tmp 39) rfl w.heap.size _ 1 [(N, v, false)] rfl (own_one_at _ (N, v, false) _ (nblk_alloc _ _) (by rw [nblk_alloc]; omega)) A2 j c2 l rfl HLEN.out (HR2.out.below (((Below.refl wr.heap.size wr).alloc (Nat.le_refl _) _).alloc (by rw [nblk_alloc]; omega) _) (Nat.le_refl _)) (by omega) (by rw [nblk_alloc, nblk_alloc]; omega) ?_))
          intro v3 w3 hown3 hB3
          have HB3 := Lib.hid (((HL.out.alloc hsz _).alloc (by rw [nblk_alloc]; omega) _).trans hB3)
          rw [show 1 + j = j + 1 by omega] at hown3
          have HO3 := Lib.hid hown3
          clear hown3 hB3
          go_wp2
          go_roundw
          case rel => exact ⟨j + 1, N + 1 + r, _, by omega, by omega, by go_num, by first | rfl | (congr 1; omega) | (simp; omega), by omega, by omega, HO3.out, HB2.out, HB3.out⟩
          case measure => simp [intOf]; omega
        · have hb2 := HBLD.out.cons (v := (N, ⟨#[]⟩, true)) (N' := N + 1 + r) (by unfold bad; rw [Lib.toList_data]; rfl) rfl (by omega)
          have HB2 := Lib.hid hb2
          clear hb2
          go_wp2_with (at_builtin; go_must (refine wpList_app rfl (.tmp 38) (.tmp 39) rfl w.heap.size _ 1 [(N, ⟨#[]⟩, true)] rfl (own_one_at _ (N, ⟨#[]⟩, true) _ (nblk_alloc _ _) (by rw [nblk_alloc]; omega)) A2 j c2 l rfl HLEN.out (HR2.out.below (((Below.refl wr.heap.size wr).alloc (Nat.le_refl _) _).alloc (by rw [nblk_alloc]; omega) _) (Nat.le_refl _)) (by omega) (by rw [nblk_alloc, nblk_alloc]; omega) ?_))
          intro v3 w3 hown3 hB3
          have HB3 := Lib.hid (((HL.out.alloc hsz _).alloc (by rw [nblk_alloc]; omega) _).trans hB3)
          rw [show 1 + j = j + 1 by omega] at hown3
          have HO3 := Lib.hid hown3
          clear hown3 hB3
          go_wp2
          go_roundw
          case rel => exact ⟨j + 1, N + 1 + r, _, by omega, by omega, by go_num, by first | rfl | (congr 1; omega) | (simp; omega), by omega, by omega, HO3.out, HB2.out, HB3.out⟩
          case measure => simp [intOf]; omega
      · have hd30 : decide ((j : Int) < 30) = false := by simp; omega
        clear hbel
        cases p
        · go_wp2
          go_ret
          exact ⟨_, _, _, l, rfl, HLEN.out, by omega, HR2.out, HBLD.out.1, HBLD.out.small (by omega), HL.out⟩
        · by_cases hj0 : j = 0
          · have hd0 : decide (0 < j) = false := by simp; omega
            have HJ0 := Lib.hid hj0
            clear hj0
            go_wp2
            go_ret
            exact ⟨_, _, _, l, rfl, HLEN.out, by omega, HR2.out, HBLD.out.1, HBLD.out.small (by omega), HL.out⟩
          · have hd0 : decide (0 < j) = true := by simp; omega
            have hjp : 0 < j := by omega
            cases l with
            | nil => exact absurd HLEN.out (by simp; omega)
            | cons x r =>
              obtain ⟨g, cap, hg1, hg2, hg3⟩ := HO.out.form (by omega)
              cases hg1
              have c1' := (HO.out.cellAt 0 (by omega)).trans (show (flatv (x :: r))[0]? = some (.int .u64 (x.1 : Int)) from rfl)
              have z1 := HO.out.frozenAt 0
              obtain ⟨hst, hgr⟩ := HO.out.stored 0 (.int .u64 ((0 : Nat) : Int))
              rw [flatv_head] at hst
              have hst2 : (wr.setCell ⟨g, 0, none⟩ (.int .u64 0)).ownsRow w.heap.size 27 3 (.slice (some ⟨g, 0, none⟩) j c2) j (flatv ((0, x.2) :: r)) := hst
              have HST := Lib.hid hst2
              have HB5 := Lib.hid (HL.out.setCell (p := ⟨g, 0, none⟩) hg2 (.int .u64 0))
              clear hst hst2 hgr hj0
              go_wp2
              go_ret
              obtain ⟨A9, c9, e9, hl9, hR9, _⟩ := Rv.own HST.out
              cases e9
              exact ⟨_, _, _, _, rfl, hl9, by omega, hR9, HBLD.out.1.pend, HBLD.out.smallp (by omega), HB5.out⟩
    · have hdn : decide ((j : Int) < (n : Int)) = false := by simp; omega
      clear hbel
      cases p
      · go_wp2
        go_ret
        exact ⟨_, _, _, l, rfl, HLEN.out, by omega, HR2.out, HBLD.out.1, HBLD.out.small (by omega), HL.out⟩
      · by_cases hj0 : j = 0
        · have hd0 : decide (0 < j) = false := by simp; omega
          have HJ0 := Lib.hid hj0
          clear hj0
          go_wp2
          go_ret
          exact ⟨_, _, _, l, rfl, HLEN.out, by omega, HR2.out, HBLD.out.1, HBLD.out.small (by omega), HL.out⟩
        · have hd0 : decide (0 < j) = true := by simp; omega
          have hjp : 0 < j := by omega
          cases l with
          | nil => exact absurd HLEN.out (by simp; omega)
          | cons x r =>
            obtain ⟨g, cap, hg1, hg2, hg3⟩ := HO.out.form (by omega)
            cases hg1
            have c1' := (HO.out.cellAt 0 (by omega)).trans (show (flatv (x :: r))[0]? = some (.int .u64 (x.1 : Int)) from rfl)
            have z1 := HO.out.frozenAt 0
            obtain ⟨hst, hgr⟩ := HO.out.stored 0 (.int .u64 ((0 : Nat) : Int))
            rw [flatv_head] at hst
            have hst2 : (wr.setCell ⟨g, 0, none⟩ (.int .u64 0)).ownsRow w.heap.size 27 3 (.slice (some ⟨g, 0, none⟩) j c2) j (flatv ((0, x.2) :: r)) := hst
            have HST := Lib.hid hst2
            have HB5 := Lib.hid (HL.out.setCell (p := ⟨g, 0, none⟩) hg2 (.int .u64 0))
            clear hst hst2 hgr hj0
            go_wp2
            go_ret
            obtain ⟨A9, c9, e9, hl9, hR9, _⟩ := Rv.own HST.out
            cases e9
            exact ⟨_, _, _, _, rfl, hl9, by omega, hR9, HBLD.out.1.pend, HBLD.out.smallp (by omega), HB5.out⟩

def exV : List Ve := [(7, ⟨#[120]⟩, false), (4, ⟨#[121]⟩, false), (2, ⟨#[]⟩, true)]
theorem exV_rv (w : World) : Rv (w.alloc (.cells ⟨[.int .u64 7, .string ⟨#[120]⟩, .bool false, .int .u64 4, .string ⟨#[121]⟩, .bool false, .int .u64 2, .string ⟨#[]⟩, .bool true]⟩ 27)) (some ⟨w.heap.size, 0, none⟩) 3 exV :=
  ⟨Nat.le_refl _, by unfold maxLen; omega, fun h => (by cases h), fun _ => ⟨_, _, rfl, by simp, fun j u hu => by
    rw [Nat.zero_add]
    exact (Blk.new w [.int .u64 7, .string ⟨#[120]⟩, .bool false, .int .u64 4, .string ⟨#[121]⟩, .bool false, .int .u64 2, .string ⟨#[]⟩, .bool true] 27).cell hu⟩⟩
theorem exV_chk : true = true ↔ ChkI exV := ⟨fun _ => by
  have e : bad (2, ⟨#[]⟩, true) = false := by unfold bad; rw [Lib.toList_data]; rfl
  refine ⟨fun i x hx => ?_, fun i x y hx hy => ?_⟩
  · match i, hx with
    | 0, hx => cases hx; rfl
    | 1, hx => cases hx; rfl
    | 2, hx => cases hx; exact e
    | i + 3, hx => simp [exV] at hx
  · match i, hx, hy with
    | 0, hx, hy => cases hx; cases hy; rfl
    | 1, hx, hy => cases hx; cases hy; rfl
    | 2, hx, hy => simp [exV] at hy
    | i + 3, hx, hy => simp [exV] at hx, fun _ => rfl⟩

set_option maxHeartbeats 2000000 in
theorem awake_any (w : World) :
    Calls Try.prog 9 #[] w fun e w' => e = .returned (.bool true) ∧ Below w.heap.size w w' := by
  have HR := Lib.hid (exV_rv w)
  have HB := Lib.hid ((Below.refl w.heap.size w).alloc (Nat.le_refl _) (.cells ⟨[.int .u64 7, .string ⟨#[120]⟩, .bool false, .int .u64 4, .string ⟨#[121]⟩, .bool false, .int .u64 2, .string ⟨#[]⟩, .bool true]⟩ 27))
  have HZ := Lib.hid (nblk_alloc w (.cells ⟨[.int .u64 7, .string ⟨#[120]⟩, .bool false, .int .u64 4, .string ⟨#[121]⟩, .bool false, .int .u64 2, .string ⟨#[]⟩, .bool true]⟩ 27))
  go_enter Try.func9, Try.ntmps9
  go_wp2_with fail
  refine (visible_any _ 3 exV 5 _ 3 rfl (by omega) HR.out (4, ⟨#[121]⟩, false) true rfl).mono ?_; rintro e w1 ⟨rfl, hB1⟩
  have P1 := Blk.new w1 [.int .u64 4, .string ⟨#[121]⟩, .bool false] 27
  have hz1 := nblk_alloc w1 (.cells #[.int .u64 4, .string ⟨#[121]⟩, .bool false] 27)
  have hs1 := hB1.size
  have HR1 := Lib.hid ((HR.out.below hB1 (Nat.le_refl _)).below ((Below.refl w1.heap.size w1).alloc (Nat.le_refl _) (.cells #[.int .u64 4, .string ⟨#[121]⟩, .bool false] 27)) (Nat.le_refl _))
  rw [HZ.out] at hs1 hB1
  have HB1 := Lib.hid ((HB.out.trans (hB1.mono (by omega))).alloc (by omega) (.cells #[.int .u64 4, .string ⟨#[121]⟩, .bool false] 27))
  have hw1 : w.heap.size ≤ (w1.alloc (.cells #[.int .u64 4, .string ⟨#[121]⟩, .bool false] 27)).heap.size := by rw [hz1]; omega
  have x0 := P1.cell (i := 0) rfl
  clear hB1 hz1
  go_wp2_with fail
  refine (cut_any _ 3 exV 5 _ 3 rfl (by omega) HR1.out 2 rfl).mono ?_; rintro e w2 ⟨A2, c2, rfl, -, hB2⟩
  have HB2 := Lib.hid (HB1.out.trans (hB2.mono hw1))
  have HR2 := Lib.hid (HR1.out.below hB2 (Nat.le_refl _))
  have hw2 := Nat.le_trans hw1 hB2.size
  clear hB2
  go_wp2_with fail
  refine (cut_any _ 3 exV 1 _ 3 rfl (by omega) HR2.out 3 rfl).mono ?_; rintro e w3 ⟨A3, c3, rfl, -, hB3⟩
  have HB3 := Lib.hid (HB2.out.trans (hB3.mono hw2))
  have HR3 := Lib.hid (HR2.out.below hB3 (Nat.le_refl _))
  have hw3 := Nat.le_trans hw2 hB3.size
  clear hB3
  go_wp2_with fail
  refine (check_any _ 3 exV _ 3 rfl (by omega) HR3.out true exV_chk).mono ?_; rintro e w4 ⟨rfl, hB4⟩
  have HB4 := Lib.hid (HB3.out.trans (hB4.mono hw3))
  clear hB4
  go_wp2
  go_ret
  exact ⟨by first | rfl | simp, HB4.out⟩
end Go.Proofs.Ytmaadlkojcekgaa
