/-
  The law BatchNormalForm answers yes for all batches and lists. Condition: none beside the form's own reach.
-/
import Derived.Test.YtdhobiiejokglaaBatAwk
namespace Go.Proofs.Ytdhobiiejokglaa
open Go.RowKit Go.Deep Plain PlainE
set_option linter.unusedVariables false

theorem normL_len_le (b : List Wri) : (normL b).length ≤ b.length := by rw [normL_length]; exact keysB_len b
theorem normL_sub {b : List Wri} {x : Wri} (h : x ∈ normL b) : x ∈ b := (lastW_key (normL_mem.1 h)).2
theorem chk_zero {b : List Wri} (h : chk b = 0) : ¬ 16 < b.length ∧ b.any bigW = false ∧ b.any badW = false := by
  unfold chk at h
  by_cases h1 : (decide (16 < b.length) || b.any bigW) = true
  · rw [if_pos h1] at h; omega
  · rw [if_neg h1] at h
    by_cases h2 : b.any badW = true
    · rw [if_pos h2] at h; omega
    · simp only [Bool.or_eq_true, not_or, decide_eq_true_eq, Bool.not_eq_true] at h1 h2
      exact ⟨h1.1, h1.2, h2⟩
theorem chk_norm {b : List Wri} (h : chk b = 0) : chk (normL b) = 0 := by
  obtain ⟨h1, h2, h3⟩ := chk_zero h
  have g1 := normL_len_le b
  have g2 : (normL b).any bigW = false := List.any_eq_false.2 fun x hx => List.any_eq_false.1 h2 x (normL_sub hx)
  have g3 : (normL b).any badW = false := List.any_eq_false.2 fun x hx => List.any_eq_false.1 h3 x (normL_sub hx)
  unfold chk
  rw [g2, g3]
  have : ¬ 16 < (normL b).length := by omega
  simp [this]
theorem gt_ltB (x y : List UInt8) : (!(Op.bytesLess x y || x == y)) = ltB y x := by
  rw [bytesLess_ltB]
  cases h : ltB x y
  · cases k : ltB y x
    · rw [ltB_tri x y h k]; simp
    · have : ¬ x = y := fun e => by rw [e, ltB_self] at k; exact absurd k (by decide)
      simpa using this
  · rw [ltB_asymm x y h]; simp

set_option maxRecDepth 100000 in
set_option maxHeartbeats 8000000 in
theorem lawBatchNormalForm (w : World) (A0 : Option Addr) (c0 : Nat) (l0 : List Wri) (n0 : Nat) (hn0 : l0.length = n0) (hm0 : n0 ≤ maxLen) (hR0 : RW w A0 c0 l0) (hs0 : ∀ y ∈ l0, y.1.size ≤ maxLen ∧ y.2.1.size ≤ maxLen) (A1 : Option Addr) (c1 : Nat) (l1 : List Ent) (n1 : Nat) (hn1 : l1.length = n1) (hm1 : n1 ≤ maxLen) (hR1 : RE w A1 c1 l1) (hs1 : ∀ y ∈ l1, y.1.size ≤ maxLen ∧ y.2.size ≤ maxLen) :
    Calls Try.prog 4 #[.slice A0 n0 c0, .slice A1 n1 c1] w fun e w' => e = .returned (.bool true) ∧ Below w.heap.size w w' := by
  have HSraw0 : Hid (∀ x ∈ l0, Sz x) := Lib.hid hs0
  have HRraw0 := Lib.hid hR0
  clear hR0 hs0
  have HRraw1 := Lib.hid hR1
  clear hR1 hs1
  have HB := Lib.hid (Below.refl w.heap.size w)
  have hw : w.heap.size ≤ w.heap.size := Nat.le_refl _
  go_enter Try.func4, Try.ntmps4
  go_wp2_with fail
  refine (fit_any A0 c0 l0 _ n0 hn0 hm0 HRraw0.out HSraw0.out).mono ?_; rintro e w1 ⟨Aa, ca, na, rfl, hl9, hba, hR9, hB9⟩
  have hs9 := hB9.size
  replace HB := Lib.hid (HB.out.trans (hB9.mono hw))
  replace HRraw0 := Lib.hid (HRraw0.out.below hB9 (Nat.le_refl _))
  replace HRraw1 := Lib.hid (HRraw1.out.below hB9 (Nat.le_refl _))
  replace hw := Nat.le_trans hw hs9
  clear hB9 hs9
  have HLa := Lib.hid hl9
  have HSa := Lib.hid (fitL_sz l0)
  clear hl9
  have HRa := Lib.hid hR9
  clear hR9
  obtain ⟨ea, he9⟩ : ∃ e, fitL l0 = e := ⟨_, rfl⟩
  have HCa := Lib.hid (fitL_chk l0)
  rw [he9] at HLa HSa HRa HCa
  clear he9
  go_wp2_with fail
  refine (list_any A1 c1 l1 _ n1 hn1 hm1 HRraw1.out).mono ?_; rintro e w2 ⟨Al, cl, nl, rfl, hl9, hbl, hR9, hB9⟩
  have hs9 := hB9.size
  replace HB := Lib.hid (HB.out.trans (hB9.mono hw))
  replace HRraw0 := Lib.hid (HRraw0.out.below hB9 (Nat.le_refl _))
  replace HRraw1 := Lib.hid (HRraw1.out.below hB9 (Nat.le_refl _))
  replace HRa := Lib.hid (HRa.out.below hB9 (Nat.le_refl _))
  replace hw := Nat.le_trans hw hs9
  clear hB9 hs9
  have HLl := Lib.hid hl9
  have HAl := Lib.hid (listL_asc l1)
  clear hl9
  have HRl := Lib.hid hR9
  clear hR9
  obtain ⟨el, he9⟩ : ∃ e, listL l1 = e := ⟨_, rfl⟩
  rw [he9] at HLl HAl HRl
  clear he9
  obtain ⟨em, hem⟩ : ∃ e, normL ea = e := ⟨_, rfl⟩
  obtain ⟨nm, hnm⟩ : ∃ n, em.length = n := ⟨_, rfl⟩
  have hbm : nm ≤ na := by rw [← hnm, ← hem, ← HLa.out]; exact normL_len_le ea
  have hk1 : nrm ea = em := by rw [nrm_ok HCa.out]; exact hem
  have hcm : chk em = 0 := by rw [← hem]; exact chk_norm HCa.out
  have hk2 : nrm em = em := by rw [nrm_ok hcm, ← hem]; exact normL_normL ea
  have hsm : ∀ x ∈ em, Sz x := fun x hx => HSa.out x (normL_sub (b := ea) (by rw [hem]; exact hx))
  have hpe : applyL el em = applyL el ea := by rw [← hem]; exact applyL_normL HAl.out ea
  have hasc : AscW em := by rw [← hem]; exact normL_asc ea
  have HLm := Lib.hid hnm
  have HK1 := Lib.hid hk1
  have HK2 := Lib.hid hk2
  have HCm := Lib.hid hcm
  have HSm := Lib.hid hsm
  have HPE := Lib.hid hpe
  have HAS := Lib.hid hasc
  clear hem hnm hk1 hk2 hcm hsm hpe hasc
  obtain ⟨ep, hep⟩ : ∃ e, applyL el ea = e := ⟨_, rfl⟩
  obtain ⟨np, hlp⟩ : ∃ n, ep.length = n := ⟨_, rfl⟩
  have hbp : np ≤ nl + na := by rw [← hlp, ← hep, ← HLl.out, ← HLa.out]; exact applyL_len _ _
  have HAp := Lib.hid (asc_applyL ea HAl.out)
  rw [hep] at HAp
  have HEp := Lib.hid hep
  have HLp := Lib.hid hlp
  clear hep hlp
  obtain ⟨eq, heq⟩ : ∃ e, applyL el em = e := ⟨_, rfl⟩
  obtain ⟨nq, hlq⟩ : ∃ n, eq.length = n := ⟨_, rfl⟩
  have hbq : nq ≤ nl + nm := by rw [← hlq, ← heq, ← HLl.out, ← HLm.out]; exact applyL_len _ _
  have HAq := Lib.hid (asc_applyL em HAl.out)
  rw [heq] at HAq
  have HEq := Lib.hid heq
  have HLq := Lib.hid hlq
  clear heq hlq
  have hpq : ep = eq := by rw [← HEp.out, ← HEq.out, HPE.out]
  have HPQ := Lib.hid hpq
  clear hpq
  go_wp2_with fail
  refine (normalize_any Aa ca ea _ na HLa.out (by omega) HRa.out HSa.out 0 HCa.out nm (by rw [HK1.out]; exact HLm.out)).mono ?_; rintro e w3 ⟨Am, cm, rfl, hR9, hB9⟩
  have hs9 := hB9.size
  replace HB := Lib.hid (HB.out.trans (hB9.mono hw))
  replace HRraw0 := Lib.hid (HRraw0.out.below hB9 (Nat.le_refl _))
  replace HRraw1 := Lib.hid (HRraw1.out.below hB9 (Nat.le_refl _))
  replace HRa := Lib.hid (HRa.out.below hB9 (Nat.le_refl _))
  replace HRl := Lib.hid (HRl.out.below hB9 (Nat.le_refl _))
  replace hw := Nat.le_trans hw hs9
  clear hB9 hs9
  rw [HK1.out] at hR9
  have HRm := Lib.hid hR9
  clear hR9
  go_wp2_with fail
  refine (normalize_any Am cm em _ nm HLm.out (by omega) HRm.out HSm.out 0 HCm.out nm (by rw [HK2.out]; exact HLm.out)).mono ?_; rintro e w4 ⟨Ao, co, rfl, hR9, hB9⟩
  have hs9 := hB9.size
  replace HB := Lib.hid (HB.out.trans (hB9.mono hw))
  replace HRraw0 := Lib.hid (HRraw0.out.below hB9 (Nat.le_refl _))
  replace HRraw1 := Lib.hid (HRraw1.out.below hB9 (Nat.le_refl _))
  replace HRa := Lib.hid (HRa.out.below hB9 (Nat.le_refl _))
  replace HRl := Lib.hid (HRl.out.below hB9 (Nat.le_refl _))
  replace HRm := Lib.hid (HRm.out.below hB9 (Nat.le_refl _))
  replace hw := Nat.le_trans hw hs9
  clear hB9 hs9
  rw [HK2.out] at hR9
  have HRo := Lib.hid hR9
  clear hR9
  go_wp2_with fail
  refine (awake_any _).mono ?_; rintro e w5 ⟨rfl, hB9⟩
  have hs9 := hB9.size
  replace HB := Lib.hid (HB.out.trans (hB9.mono hw))
  replace HRraw0 := Lib.hid (HRraw0.out.below hB9 (Nat.le_refl _))
  replace HRraw1 := Lib.hid (HRraw1.out.below hB9 (Nat.le_refl _))
  replace HRa := Lib.hid (HRa.out.below hB9 (Nat.le_refl _))
  replace HRl := Lib.hid (HRl.out.below hB9 (Nat.le_refl _))
  replace HRm := Lib.hid (HRm.out.below hB9 (Nat.le_refl _))
  replace HRo := Lib.hid (HRo.out.below hB9 (Nat.le_refl _))
  replace hw := Nat.le_trans hw hs9
  clear hB9 hs9
  go_wp2_with fail
  refine (sameW_any Am Ao cm co em em _ nm nm HLm.out HLm.out (by omega) (by omega) HRm.out HRo.out true (by simp)).mono ?_; rintro e w6 ⟨rfl, hB9⟩
  have hs9 := hB9.size
  replace HB := Lib.hid (HB.out.trans (hB9.mono hw))
  replace HRraw0 := Lib.hid (HRraw0.out.below hB9 (Nat.le_refl _))
  replace HRraw1 := Lib.hid (HRraw1.out.below hB9 (Nat.le_refl _))
  replace HRa := Lib.hid (HRa.out.below hB9 (Nat.le_refl _))
  replace HRl := Lib.hid (HRl.out.below hB9 (Nat.le_refl _))
  replace HRm := Lib.hid (HRm.out.below hB9 (Nat.le_refl _))
  replace HRo := Lib.hid (HRo.out.below hB9 (Nat.le_refl _))
  replace hw := Nat.le_trans hw hs9
  clear hB9 hs9
  go_wp2_with fail
  refine (normal_any Am cm em _ nm HLm.out (by omega) HRm.out HSm.out true (by rw [HCm.out, HK2.out]; simp)).mono ?_; rintro e w7 ⟨rfl, hB9⟩
  have hs9 := hB9.size
  replace HB := Lib.hid (HB.out.trans (hB9.mono hw))
  replace HRraw0 := Lib.hid (HRraw0.out.below hB9 (Nat.le_refl _))
  replace HRraw1 := Lib.hid (HRraw1.out.below hB9 (Nat.le_refl _))
  replace HRa := Lib.hid (HRa.out.below hB9 (Nat.le_refl _))
  replace HRl := Lib.hid (HRl.out.below hB9 (Nat.le_refl _))
  replace HRm := Lib.hid (HRm.out.below hB9 (Nat.le_refl _))
  replace HRo := Lib.hid (HRo.out.below hB9 (Nat.le_refl _))
  replace hw := Nat.le_trans hw hs9
  clear hB9 hs9
  go_wp2_with fail
  refine (apply_any Al Aa cl ca el ea _ nl na HLl.out HLa.out (by omega) (by omega) HRl.out HRa.out HSa.out HAl.out np (by rw [HEp.out]; exact HLp.out)).mono ?_; rintro e w8 ⟨Ap, cp, rfl, hR9, hB9⟩
  have hs9 := hB9.size
  replace HB := Lib.hid (HB.out.trans (hB9.mono hw))
  replace HRraw0 := Lib.hid (HRraw0.out.below hB9 (Nat.le_refl _))
  replace HRraw1 := Lib.hid (HRraw1.out.below hB9 (Nat.le_refl _))
  replace HRa := Lib.hid (HRa.out.below hB9 (Nat.le_refl _))
  replace HRl := Lib.hid (HRl.out.below hB9 (Nat.le_refl _))
  replace HRm := Lib.hid (HRm.out.below hB9 (Nat.le_refl _))
  replace HRo := Lib.hid (HRo.out.below hB9 (Nat.le_refl _))
  replace hw := Nat.le_trans hw hs9
  clear hB9 hs9
  rw [HEp.out] at hR9
  have HRp := Lib.hid hR9
  clear hR9
  go_wp2_with fail
  refine (apply_any Al Am cl cm el em _ nl nm HLl.out HLm.out (by omega) (by omega) HRl.out HRm.out HSm.out HAl.out nq (by rw [HEq.out]; exact HLq.out)).mono ?_; rintro e w9 ⟨Aq, cq, rfl, hR9, hB9⟩
  have hs9 := hB9.size
  replace HB := Lib.hid (HB.out.trans (hB9.mono hw))
  replace HRraw0 := Lib.hid (HRraw0.out.below hB9 (Nat.le_refl _))
  replace HRraw1 := Lib.hid (HRraw1.out.below hB9 (Nat.le_refl _))
  replace HRa := Lib.hid (HRa.out.below hB9 (Nat.le_refl _))
  replace HRl := Lib.hid (HRl.out.below hB9 (Nat.le_refl _))
  replace HRm := Lib.hid (HRm.out.below hB9 (Nat.le_refl _))
  replace HRo := Lib.hid (HRo.out.below hB9 (Nat.le_refl _))
  replace HRp := Lib.hid (HRp.out.below hB9 (Nat.le_refl _))
  replace hw := Nat.le_trans hw hs9
  clear hB9 hs9
  rw [HEq.out] at hR9
  have HRq := Lib.hid hR9
  clear hR9
  go_wp2_with fail
  refine (sameE_any Ap Aq cp cq ep eq _ np nq HLp.out HLq.out (by omega) (by omega) HRp.out HRq.out true (by rw [HPQ.out]; simp)).mono ?_; rintro e w10 ⟨rfl, hB9⟩
  have hs9 := hB9.size
  replace HB := Lib.hid (HB.out.trans (hB9.mono hw))
  replace HRraw0 := Lib.hid (HRraw0.out.below hB9 (Nat.le_refl _))
  replace HRraw1 := Lib.hid (HRraw1.out.below hB9 (Nat.le_refl _))
  replace HRa := Lib.hid (HRa.out.below hB9 (Nat.le_refl _))
  replace HRl := Lib.hid (HRl.out.below hB9 (Nat.le_refl _))
  replace HRm := Lib.hid (HRm.out.below hB9 (Nat.le_refl _))
  replace HRo := Lib.hid (HRo.out.below hB9 (Nat.le_refl _))
  replace HRp := Lib.hid (HRp.out.below hB9 (Nat.le_refl _))
  replace HRq := Lib.hid (HRq.out.below hB9 (Nat.le_refl _))
  replace hw := Nat.le_trans hw hs9
  clear hB9 hs9
  go_wp2_with fail
  go_loopw [11] (fun i wr => ∃ j : Nat, 1 ≤ j ∧ j ≤ nm + 1 ∧ i = .int .i64 j ∧ Below w10.heap.size w10 wr) (fun i _ => nm + 1 - (intOf i).toNat)
  case atStart => exact ⟨1, Nat.le_refl _, by omega, rfl, Below.refl _ _⟩
  case round =>
    obtain ⟨j, hj1, hj, rfl, hbel⟩ := hrel
    have HBE := Lib.hid hbel
    by_cases hlt : j < nm
    · obtain ⟨x, hx⟩ : ∃ x, em[j]? = some x := ⟨_, List.getElem?_eq_getElem (by have := HLm.out; omega)⟩
      obtain ⟨y, hy⟩ : ∃ y, em[j - 1]? = some y := ⟨_, List.getElem?_eq_getElem (by have := HLm.out; omega)⟩
      obtain ⟨g, off, rfl, hg, hcell⟩ := (HRm.out.below hbel (Nat.le_refl _)).at (by have := HLm.out; omega)
      obtain ⟨d0, _, _⟩ := hcell j x hx
      obtain ⟨f0, _, _⟩ := hcell (j - 1) y hy
      have hlt2 := HAS.out (j - 1) y x hy (by rw [show j - 1 + 1 = j by omega]; exact hx)
      have hle := gt_ltB x.1.toList y.1.toList
      rw [hlt2] at hle
      have hle2 : (Op.bytesLess x.1.toList y.1.toList || x.1.toList == y.1.toList) = false := by simpa using hle
      obtain ⟨j1, hj9⟩ : ∃ j1, j - 1 = j1 := ⟨_, rfl⟩
      have hji : (j : Int) - 1 = (j1 : Int) := by omega
      have hj1n : j1 < nm := by omega
      rw [hj9] at f0
      clear hcell hx hy hlt2 hle hbel hj9
      go_wp2_with fail
      go_quiet (fail)
      go_wp2
      go_roundw
      case rel => exact ⟨j + 1, by omega, by omega, by go_num, below_drewN HBE.out _⟩
      case measure => simp [intOf]; omega
    · have HB9 := Lib.hid (HB.out.trans (hbel.mono hw))
      go_wp2
      go_ret
      exact ⟨by first | rfl | simp, HB9.out⟩
end Go.Proofs.Ytdhobiiejokglaa
