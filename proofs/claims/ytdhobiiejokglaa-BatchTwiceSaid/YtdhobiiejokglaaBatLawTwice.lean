/-
  The law BatchTwice answers yes for all batches and lists. Condition: none beside the form's own reach.
-/
import Derived.Test.YtdhobiiejokglaaBatAwk
namespace Go.Proofs.Ytdhobiiejokglaa
open Go.RowKit Go.Deep Plain PlainE
set_option linter.unusedVariables false

theorem normL_len_le (b : List Wri) : (normL b).length ≤ b.length := by rw [normL_length]; exact keysB_len b
theorem normL_sub {b : List Wri} {x : Wri} (h : x ∈ normL b) : x ∈ b := (lastW_key (normL_mem.1 h)).2
theorem chk_zero {b : List Wri} (h : chk b = 0) : ¬ 16 < b.length ∧ b.any bigW = false ∧ b.any badW = false := by
  unfold chk at h
  by_cases h1 : (decide (16 < b.length) || b.any bigW) = true
  · rw [if_pos h1] at h; omega
  · rw [if_neg h1] at h
    by_cases h2 : b.any badW = true
    · rw [if_pos h2] at h; omega
    · simp only [Bool.or_eq_true, not_or, decide_eq_true_eq, Bool.not_eq_true] at h1 h2
      exact ⟨h1.1, h1.2, h2⟩
theorem chk_norm {b : List Wri} (h : chk b = 0) : chk (normL b) = 0 := by
  obtain ⟨h1, h2, h3⟩ := chk_zero h
  have g1 := normL_len_le b
  have g2 : (normL b).any bigW = false := List.any_eq_false.2 fun x hx => List.any_eq_false.1 h2 x (normL_sub hx)
  have g3 : (normL b).any badW = false := List.any_eq_false.2 fun x hx => List.any_eq_false.1 h3 x (normL_sub hx)
  unfold chk
  rw [g2, g3]
  have : ¬ 16 < (normL b).length := by omega
  simp [this]

theorem lastW_any (k : ByteArray) : ∀ b : List Wri, (lastW b k).isSome = b.any (fun v => eqk v.1 k)
  | [] => rfl
  | w :: r => by
    rw [lastW, List.any_cons, ← lastW_any k r]
    cases lastW r k with
    | some v => simp
    | none => cases eqk w.1 k <;> simp
set_option maxRecDepth 100000 in
set_option maxHeartbeats 8000000 in
theorem lawBatchTwice (w : World) (A0 : Option Addr) (c0 : Nat) (l0 : List Wri) (n0 : Nat) (hn0 : l0.length = n0) (hm0 : n0 ≤ maxLen) (hR0 : RW w A0 c0 l0) (hs0 : ∀ y ∈ l0, y.1.size ≤ maxLen ∧ y.2.1.size ≤ maxLen) (A1 : Option Addr) (c1 : Nat) (l1 : List Ent) (n1 : Nat) (hn1 : l1.length = n1) (hm1 : n1 ≤ maxLen) (hR1 : RE w A1 c1 l1) (hs1 : ∀ y ∈ l1, y.1.size ≤ maxLen ∧ y.2.size ≤ maxLen) :
    Calls Try.prog 8 #[.slice A0 n0 c0, .slice A1 n1 c1] w fun e w' => e = .returned (.bool true) ∧ Below w.heap.size w w' := by
  have HSraw0 : Hid (∀ x ∈ l0, Sz x) := Lib.hid hs0
  have HRraw0 := Lib.hid hR0
  clear hR0 hs0
  have HRraw1 := Lib.hid hR1
  clear hR1 hs1
  have HB := Lib.hid (Below.refl w.heap.size w)
  have hw : w.heap.size ≤ w.heap.size := Nat.le_refl _
  go_enter Try.func8, Try.ntmps8
  go_wp2_with fail
  refine (fit_any A0 c0 l0 _ n0 hn0 hm0 HRraw0.out HSraw0.out).mono ?_; rintro e w1 ⟨Aa, ca, na, rfl, hl9, hba, hR9, hB9⟩
  have hs9 := hB9.size
  replace HB := Lib.hid (HB.out.trans (hB9.mono hw))
  replace HRraw0 := Lib.hid (HRraw0.out.below hB9 (Nat.le_refl _))
  replace HRraw1 := Lib.hid (HRraw1.out.below hB9 (Nat.le_refl _))
  replace hw := Nat.le_trans hw hs9
  clear hB9 hs9
  have HLa := Lib.hid hl9
  have HSa := Lib.hid (fitL_sz l0)
  clear hl9
  have HRa := Lib.hid hR9
  clear hR9
  obtain ⟨ea, he9⟩ : ∃ e, fitL l0 = e := ⟨_, rfl⟩
  have HCa := Lib.hid (fitL_chk l0)
  rw [he9] at HLa HSa HRa HCa
  clear he9
  go_wp2_with fail
  refine (list_any A1 c1 l1 _ n1 hn1 hm1 HRraw1.out).mono ?_; rintro e w2 ⟨Al, cl, nl, rfl, hl9, hbl, hR9, hB9⟩
  have hs9 := hB9.size
  replace HB := Lib.hid (HB.out.trans (hB9.mono hw))
  replace HRraw0 := Lib.hid (HRraw0.out.below hB9 (Nat.le_refl _))
  replace HRraw1 := Lib.hid (HRraw1.out.below hB9 (Nat.le_refl _))
  replace HRa := Lib.hid (HRa.out.below hB9 (Nat.le_refl _))
  replace hw := Nat.le_trans hw hs9
  clear hB9 hs9
  have HLl := Lib.hid hl9
  have HAl := Lib.hid (listL_asc l1)
  clear hl9
  have HRl := Lib.hid hR9
  clear hR9
  obtain ⟨el, he9⟩ : ∃ e, listL l1 = e := ⟨_, rfl⟩
  rw [he9] at HLl HAl HRl
  clear he9
  obtain ⟨ep, hep⟩ : ∃ e, applyL el ea = e := ⟨_, rfl⟩
  obtain ⟨np, hlp⟩ : ∃ n, ep.length = n := ⟨_, rfl⟩
  have hbp : np ≤ nl + na := by rw [← hlp, ← hep, ← HLl.out, ← HLa.out]; exact applyL_len _ _
  have HAp := Lib.hid (asc_applyL ea HAl.out)
  rw [hep] at HAp
  have HEp := Lib.hid hep
  have HLp := Lib.hid hlp
  clear hep hlp
  obtain ⟨eq, heq⟩ : ∃ e, applyL ep ea = e := ⟨_, rfl⟩
  obtain ⟨nq, hlq⟩ : ∃ n, eq.length = n := ⟨_, rfl⟩
  have hbq : nq ≤ np + na := by rw [← hlq, ← heq, ← HLp.out, ← HLa.out]; exact applyL_len _ _
  have HAq := Lib.hid (asc_applyL ea HAp.out)
  rw [heq] at HAq
  have HEq := Lib.hid heq
  have HLq := Lib.hid hlq
  clear heq hlq
  have hpq : eq = ep := by rw [← HEq.out, ← HEp.out]; exact applyL_twice HAl.out ea
  obtain ⟨em, hem⟩ : ∃ e, normL ea = e := ⟨_, rfl⟩
  obtain ⟨nm, hnm⟩ : ∃ n, em.length = n := ⟨_, rfl⟩
  have hbm : nm ≤ na := by rw [← hnm, ← hem, ← HLa.out]; exact normL_len_le ea
  have hk1 : nrm ea = em := by rw [nrm_ok HCa.out]; exact hem
  have hkl : (keysB ea).length = nm := by rw [← normL_length, hem]; exact hnm
  have HPQ := Lib.hid hpq
  have HLm := Lib.hid hnm
  have HK1 := Lib.hid hk1
  have HKL := Lib.hid hkl
  clear hpq hem hnm hk1 hkl
  go_wp2_with fail
  refine (apply_any Al Aa cl ca el ea _ nl na HLl.out HLa.out (by omega) (by omega) HRl.out HRa.out HSa.out HAl.out np (by rw [HEp.out]; exact HLp.out)).mono ?_; rintro e w3 ⟨Ap, cp, rfl, hR9, hB9⟩
  have hs9 := hB9.size
  replace HB := Lib.hid (HB.out.trans (hB9.mono hw))
  replace HRraw0 := Lib.hid (HRraw0.out.below hB9 (Nat.le_refl _))
  replace HRraw1 := Lib.hid (HRraw1.out.below hB9 (Nat.le_refl _))
  replace HRa := Lib.hid (HRa.out.below hB9 (Nat.le_refl _))
  replace HRl := Lib.hid (HRl.out.below hB9 (Nat.le_refl _))
  replace hw := Nat.le_trans hw hs9
  clear hB9 hs9
  rw [HEp.out] at hR9
  have HRp := Lib.hid hR9
  clear hR9
  go_wp2_with fail
  refine (normalize_any Aa ca ea _ na HLa.out (by omega) HRa.out HSa.out 0 HCa.out nm (by rw [HK1.out]; exact HLm.out)).mono ?_; rintro e w4 ⟨Am, cm, rfl, hR9, hB9⟩
  have hs9 := hB9.size
  replace HB := Lib.hid (HB.out.trans (hB9.mono hw))
  replace HRraw0 := Lib.hid (HRraw0.out.below hB9 (Nat.le_refl _))
  replace HRraw1 := Lib.hid (HRraw1.out.below hB9 (Nat.le_refl _))
  replace HRa := Lib.hid (HRa.out.below hB9 (Nat.le_refl _))
  replace HRl := Lib.hid (HRl.out.below hB9 (Nat.le_refl _))
  replace HRp := Lib.hid (HRp.out.below hB9 (Nat.le_refl _))
  replace hw := Nat.le_trans hw hs9
  clear hB9 hs9
  rw [HK1.out] at hR9
  have HRm := Lib.hid hR9
  clear hR9
  go_wp2_with fail
  go_loopw [10, 11] (fun q i wr => ∃ (j z : Nat), j ≤ na ∧ i = .int .i64 j ∧ q = .int .i64 z ∧ z ≤ j ∧ (keysB (ea.take j)).length = z ∧ Below w4.heap.size w4 wr) (fun _ i _ => na - (intOf i).toNat)
  case atStart => exact ⟨0, 0, Nat.zero_le _, rfl, rfl, Nat.le_refl _, rfl, Below.refl _ _⟩
  case round =>
    obtain ⟨j, z, hj, rfl, rfl, hz, hkz, hbel⟩ := hrel
    have HKZ := Lib.hid hkz
    have HBE := Lib.hid hbel
    clear hkz
    by_cases hlt : j < na
    · obtain ⟨x, hx⟩ : ∃ x, ea[j]? = some x := ⟨_, List.getElem?_eq_getElem (by have := HLa.out; omega)⟩
      have HX := Lib.hid hx
      rename World => V1
      have HRv := Lib.hid (HRa.out.below hbel (Nat.le_refl _))
      obtain ⟨f, hf⟩ : ∃ f, (ea.take j).any (fun v => eqk v.1 x.1) = f := ⟨_, rfl⟩
      have hnx := keysB_len_snoc (ea.take j) x
      rw [← take_nx hx, lastW_any, hf, HKZ.out] at hnx
      have HF := Lib.hid hf
      have HNX := Lib.hid hnx
      clear hx hf hnx hbel
      go_wp2_with fail
      go_loopw [12, 13] (fun q i wr => ∃ k : Nat, k ≤ j ∧ i = .int .i64 k ∧ q = .bool (!((ea.take k).any fun v => eqk v.1 x.1)) ∧ Below V1.heap.size V1 wr) (fun _ i _ => j - (intOf i).toNat)
      case atStart => exact ⟨0, Nat.zero_le _, rfl, rfl, Below.refl _ _⟩
      case round =>
        obtain ⟨k, hk, rfl, rfl, hbel⟩ := hrel
        rename World => V2
        have HBF := Lib.hid hbel
        by_cases hlt2 : k < j
        · obtain ⟨v, hv⟩ : ∃ v, ea[k]? = some v := ⟨_, List.getElem?_eq_getElem (by have := HLa.out; omega)⟩
          obtain ⟨g, off, rfl, hg, hcell⟩ := (HRv.out.below hbel (Nat.le_refl _)).at (by have := HLa.out; omega)
          obtain ⟨d0, _, _⟩ := hcell k v hv
          obtain ⟨f0, _, _⟩ := hcell j x HX.out
          obtain ⟨fs, hfs⟩ : ∃ fs, (!((ea.take k).any fun v => eqk v.1 x.1)) = fs := ⟨_, rfl⟩
          obtain ⟨bb, hbb⟩ : ∃ bb, (v.1.toList == x.1.toList) = bb := ⟨_, rfl⟩
          have hst : (!((ea.take (k + 1)).any fun v => eqk v.1 x.1)) = (fs && !bb) := by
            rw [take_nx hv, List.any_append, List.any_cons, List.any_nil, Bool.or_false, Bool.not_or, hfs]
            show (fs && !(v.1.toList == x.1.toList)) = _
            rw [hbb]
          rw [hfs]
          have HST := Lib.hid hst
          clear hcell hv hst hbel hfs
          cases fs
          · go_wp2_with fail
            go_quiet (fail)
            go_wp2
            go_roundw
            case rel => exact ⟨k + 1, by omega, by go_num, by rw [HST.out]; rfl, below_drewN HBF.out _⟩
            case measure => simp [intOf]; omega
          · have hbb2 : (v.1.toList != x.1.toList) = !bb := by rw [← hbb]; rfl
            cases bb
            all_goals
              go_wp2_with fail
              go_quiet (fail)
              go_wp2
              go_roundw
              case rel => exact ⟨k + 1, by omega, by go_num, by rw [HST.out]; rfl, below_drewN HBF.out _⟩
              case measure => simp [intOf]; omega
        · obtain rfl : k = j := by omega
          have hq := HF.out
          rw [hq]
          have HB7 := Lib.hid (HBE.out.trans (HBF.out.mono HBE.out.size))
          clear hq hbel
          cases f
          · go_wp2
            go_roundw
            case rel => exact ⟨k + 1, z + 1, by omega, by go_num, by go_num, by omega, by rw [HNX.out]; rfl, HB7.out⟩
            case measure => simp [intOf]; omega
          · go_wp2
            go_roundw
            case rel => exact ⟨k + 1, z, by omega, by go_num, rfl, by omega, by rw [HNX.out]; rfl, HB7.out⟩
            case measure => simp [intOf]; omega
    · have hfull : ea.take j = ea := List.take_of_length_le (by have := HLa.out; omega)
      have hzm : z = nm := by rw [← HKZ.out, hfull]; exact HKL.out
      subst hzm
      have hB9 := hbel
      clear hbel hfull
      have hs9 := hB9.size
      replace HB := Lib.hid (HB.out.trans (hB9.mono hw))
      replace HRraw0 := Lib.hid (HRraw0.out.below hB9 (Nat.le_refl _))
      replace HRraw1 := Lib.hid (HRraw1.out.below hB9 (Nat.le_refl _))
      replace HRa := Lib.hid (HRa.out.below hB9 (Nat.le_refl _))
      replace HRl := Lib.hid (HRl.out.below hB9 (Nat.le_refl _))
      replace HRp := Lib.hid (HRp.out.below hB9 (Nat.le_refl _))
      replace HRm := Lib.hid (HRm.out.below hB9 (Nat.le_refl _))
      replace hw := Nat.le_trans hw hs9
      clear hB9 hs9
      go_wp2_with fail
      refine (awake_any _).mono ?_; rintro e w5 ⟨rfl, hB9⟩
      have hs9 := hB9.size
      replace HB := Lib.hid (HB.out.trans (hB9.mono hw))
      replace HRraw0 := Lib.hid (HRraw0.out.below hB9 (Nat.le_refl _))
      replace HRraw1 := Lib.hid (HRraw1.out.below hB9 (Nat.le_refl _))
      replace HRa := Lib.hid (HRa.out.below hB9 (Nat.le_refl _))
      replace HRl := Lib.hid (HRl.out.below hB9 (Nat.le_refl _))
      replace HRp := Lib.hid (HRp.out.below hB9 (Nat.le_refl _))
      replace HRm := Lib.hid (HRm.out.below hB9 (Nat.le_refl _))
      replace hw := Nat.le_trans hw hs9
      clear hB9 hs9
      go_wp2_with fail
      refine (apply_any Ap Aa cp ca ep ea _ np na HLp.out HLa.out (by omega) (by omega) HRp.out HRa.out HSa.out HAp.out nq (by rw [HEq.out]; exact HLq.out)).mono ?_; rintro e w6 ⟨Aq, cq, rfl, hR9, hB9⟩
      have hs9 := hB9.size
      replace HB := Lib.hid (HB.out.trans (hB9.mono hw))
      replace HRraw0 := Lib.hid (HRraw0.out.below hB9 (Nat.le_refl _))
      replace HRraw1 := Lib.hid (HRraw1.out.below hB9 (Nat.le_refl _))
      replace HRa := Lib.hid (HRa.out.below hB9 (Nat.le_refl _))
      replace HRl := Lib.hid (HRl.out.below hB9 (Nat.le_refl _))
      replace HRp := Lib.hid (HRp.out.below hB9 (Nat.le_refl _))
      replace HRm := Lib.hid (HRm.out.below hB9 (Nat.le_refl _))
      replace hw := Nat.le_trans hw hs9
      clear hB9 hs9
      rw [HEq.out] at hR9
      have HRq := Lib.hid hR9
      clear hR9
      go_wp2_with fail
      refine (sameE_any Aq Ap cq cp eq ep _ nq np HLq.out HLp.out (by omega) (by omega) HRq.out HRp.out true (by rw [HPQ.out]; simp)).mono ?_; rintro e w7 ⟨rfl, hB9⟩
      have hs9 := hB9.size
      replace HB := Lib.hid (HB.out.trans (hB9.mono hw))
      replace HRraw0 := Lib.hid (HRraw0.out.below hB9 (Nat.le_refl _))
      replace HRraw1 := Lib.hid (HRraw1.out.below hB9 (Nat.le_refl _))
      replace HRa := Lib.hid (HRa.out.below hB9 (Nat.le_refl _))
      replace HRl := Lib.hid (HRl.out.below hB9 (Nat.le_refl _))
      replace HRp := Lib.hid (HRp.out.below hB9 (Nat.le_refl _))
      replace HRm := Lib.hid (HRm.out.below hB9 (Nat.le_refl _))
      replace HRq := Lib.hid (HRq.out.below hB9 (Nat.le_refl _))
      replace hw := Nat.le_trans hw hs9
      clear hB9 hs9
      go_wp2
      go_ret
      exact ⟨by first | rfl | simp, HB.out⟩
end Go.Proofs.Ytdhobiiejokglaa
