/-
  The law BatchAgrees answers yes for all batches and lists. Condition: none beside the form's own reach.
-/
import Derived.Test.YtdhobiiejokglaaBatAwk
namespace Go.Proofs.Ytdhobiiejokglaa
open Go.RowKit Go.Deep Plain PlainE
set_option linter.unusedVariables false

theorem normL_len_le (b : List Wri) : (normL b).length ≤ b.length := by rw [normL_length]; exact keysB_len b
theorem normL_sub {b : List Wri} {x : Wri} (h : x ∈ normL b) : x ∈ b := (lastW_key (normL_mem.1 h)).2
theorem chk_zero {b : List Wri} (h : chk b = 0) : ¬ 16 < b.length ∧ b.any bigW = false ∧ b.any badW = false := by
  unfold chk at h
  by_cases h1 : (decide (16 < b.length) || b.any bigW) = true
  · rw [if_pos h1] at h; omega
  · rw [if_neg h1] at h
    by_cases h2 : b.any badW = true
    · rw [if_pos h2] at h; omega
    · simp only [Bool.or_eq_true, not_or, decide_eq_true_eq, Bool.not_eq_true] at h1 h2
      exact ⟨h1.1, h1.2, h2⟩
theorem chk_norm {b : List Wri} (h : chk b = 0) : chk (normL b) = 0 := by
  obtain ⟨h1, h2, h3⟩ := chk_zero h
  have g1 := normL_len_le b
  have g2 : (normL b).any bigW = false := List.any_eq_false.2 fun x hx => List.any_eq_false.1 h2 x (normL_sub hx)
  have g3 : (normL b).any badW = false := List.any_eq_false.2 fun x hx => List.any_eq_false.1 h3 x (normL_sub hx)
  unfold chk
  rw [g2, g3]
  have : ¬ 16 < (normL b).length := by omega
  simp [this]
set_option maxRecDepth 100000 in
set_option maxHeartbeats 8000000 in
theorem lawBatchAgrees (w : World) (A0 : Option Addr) (c0 : Nat) (l0 : List Wri) (n0 : Nat) (hn0 : l0.length = n0) (hm0 : n0 ≤ maxLen) (hR0 : RW w A0 c0 l0) (hs0 : ∀ y ∈ l0, y.1.size ≤ maxLen ∧ y.2.1.size ≤ maxLen) (A1 : Option Addr) (c1 : Nat) (l1 : List Ent) (n1 : Nat) (hn1 : l1.length = n1) (hm1 : n1 ≤ maxLen) (hR1 : RE w A1 c1 l1) (hs1 : ∀ y ∈ l1, y.1.size ≤ maxLen ∧ y.2.size ≤ maxLen) :
    Calls Try.prog 3 #[.slice A0 n0 c0, .slice A1 n1 c1] w fun e w' => e = .returned (.bool true) ∧ Below w.heap.size w w' := by
  have HSraw0 : Hid (∀ x ∈ l0, Sz x) := Lib.hid hs0
  have HRraw0 := Lib.hid hR0
  clear hR0 hs0
  have HRraw1 := Lib.hid hR1
  clear hR1 hs1
  have HB := Lib.hid (Below.refl w.heap.size w)
  have hw : w.heap.size ≤ w.heap.size := Nat.le_refl _
  go_enter Try.func3, Try.ntmps3
  by_cases h40 : 40 < n0
  · go_wp2_with fail
    refine (awake_any _).mono ?_; rintro e w1 ⟨rfl, hB9⟩
    have hs9 := hB9.size
    replace HB := Lib.hid (HB.out.trans (hB9.mono hw))
    replace HRraw0 := Lib.hid (HRraw0.out.below hB9 (Nat.le_refl _))
    replace HRraw1 := Lib.hid (HRraw1.out.below hB9 (Nat.le_refl _))
    replace hw := Nat.le_trans hw hs9
    clear hB9 hs9
    go_wp2
    go_ret
    exact ⟨by first | rfl | simp, HB.out⟩
  · have hn40 : n0 ≤ 40 := by omega
    go_wp2_with fail
    refine (list_any A1 c1 l1 _ n1 hn1 hm1 HRraw1.out).mono ?_; rintro e w2 ⟨Al, cl, nl, rfl, hl9, hbl, hR9, hB9⟩
    have hs9 := hB9.size
    replace HB := Lib.hid (HB.out.trans (hB9.mono hw))
    replace HRraw0 := Lib.hid (HRraw0.out.below hB9 (Nat.le_refl _))
    replace HRraw1 := Lib.hid (HRraw1.out.below hB9 (Nat.le_refl _))
    replace hw := Nat.le_trans hw hs9
    clear hB9 hs9
    have HLl := Lib.hid hl9
    have HAl := Lib.hid (listL_asc l1)
    clear hl9
    have HRl := Lib.hid hR9
    clear hR9
    obtain ⟨el, he9⟩ : ∃ e, listL l1 = e := ⟨_, rfl⟩
    rw [he9] at HLl HAl HRl
    clear he9
    go_wp2_with fail
    refine (fit_any A0 c0 l0 _ n0 hn0 hm0 HRraw0.out HSraw0.out).mono ?_; rintro e w3 ⟨Aa, ca, na, rfl, hl9, hba, hR9, hB9⟩
    have hs9 := hB9.size
    replace HB := Lib.hid (HB.out.trans (hB9.mono hw))
    replace HRraw0 := Lib.hid (HRraw0.out.below hB9 (Nat.le_refl _))
    replace HRraw1 := Lib.hid (HRraw1.out.below hB9 (Nat.le_refl _))
    replace HRl := Lib.hid (HRl.out.below hB9 (Nat.le_refl _))
    replace hw := Nat.le_trans hw hs9
    clear hB9 hs9
    have HLa := Lib.hid hl9
    have HSa := Lib.hid (fitL_sz l0)
    clear hl9
    have HRa := Lib.hid hR9
    clear hR9
    obtain ⟨ea, he9⟩ : ∃ e, fitL l0 = e := ⟨_, rfl⟩
    have HCa := Lib.hid (fitL_chk l0)
    rw [he9] at HLa HSa HRa HCa
    clear he9
    have P0 := Lib.hid (Blk.new w3 [.slice A0 n0 c0, .slice Aa na ca] 22)
    have hbx := (Below.refl w3.heap.size w3).alloc (Nat.le_refl _) (.cells #[.slice A0 n0 c0, .slice Aa na ca] 22)
    have hzx : (w3.alloc (.cells #[.slice A0 n0 c0, .slice Aa na ca] 22)).heap.size = w3.heap.size + 1 := nblk_alloc _ _
    go_wp2_with fail
    generalize w3.alloc (.cells #[.slice A0 n0 c0, .slice Aa na ca] 22) = V1 at *
    replace HB := Lib.hid (HB.out.trans (hbx.mono hw))
    replace HRraw0 := Lib.hid (HRraw0.out.below hbx (Nat.le_refl _))
    replace HRraw1 := Lib.hid (HRraw1.out.below hbx (Nat.le_refl _))
    replace HRl := Lib.hid (HRl.out.below hbx (Nat.le_refl _))
    replace HRa := Lib.hid (HRa.out.below hbx (Nat.le_refl _))
    have hwo : w.heap.size ≤ V1.heap.size := by omega
    have hb0 : w3.heap.size < V1.heap.size := by omega
    generalize w3.heap.size = b0 at *
    clear hbx hzx hw
    go_loopw [23] (fun i wr => ∃ j : Nat, j ≤ 2 ∧ i = .int .i64 j ∧ Below V1.heap.size V1 wr) (fun i _ => 2 - (intOf i).toNat)
    case atStart => exact ⟨0, by omega, rfl, Below.refl _ _⟩
    case round =>
      obtain ⟨j, hj, rfl, hbel⟩ := hrel
      by_cases hlt : j < 2
      · obtain ⟨Ab, cb, nb, eb, hcell, hlb, hbb, hRb, hSb⟩ : ∃ (Ab : Option Addr) (cb nb : Nat) (eb : List Wri), wr.cell? ⟨b0, j, none⟩ = some (.slice Ab nb cb) ∧ eb.length = nb ∧ nb ≤ 40 ∧ RW wr Ab cb eb ∧ ∀ x ∈ eb, Sz x := by
          have P1 := P0.out.below hbel hb0
          rcases (by omega : j = 0 ∨ j = 1) with h | h
          · exact ⟨A0, c0, n0, l0, by rw [h]; exact P1.cell (i := 0) rfl, hn0, hn40, HRraw0.out.below hbel (Nat.le_refl _), HSraw0.out⟩
          · exact ⟨Aa, ca, na, ea, by rw [h]; exact P1.cell (i := 1) rfl, HLa.out, by omega, HRa.out.below hbel (Nat.le_refl _), HSa.out⟩
        have HRb := Lib.hid hRb
        have HSb := Lib.hid hSb
        have HLb := Lib.hid hlb
        have HRl := Lib.hid (HRl.out.below hbel (Nat.le_refl _))
        have HBo := HB
        have HB := Lib.hid hbel
        have hw : V1.heap.size ≤ wr.heap.size := hbel.size
        clear hRb hSb hlb hbel HRraw0 HRa HRraw1
        obtain ⟨E0, hE0⟩ : ∃ E0, chk eb = E0 := ⟨_, rfl⟩
        obtain ⟨em, hem⟩ : ∃ em, nrm eb = em := ⟨_, rfl⟩
        obtain ⟨nm, hnm⟩ : ∃ nm, em.length = nm := ⟨_, rfl⟩
        have hbm : nm ≤ 40 := by
          rw [← hnm, ← hem]
          unfold nrm
          split
          · have := normL_len_le eb; have := HLb.out; omega
          · simp
        obtain ⟨v, hv⟩ : ∃ v, (decide (E0 = 0) && decide (em = eb)) = v := ⟨_, rfl⟩
        have HE0 := Lib.hid hE0
        have HEM := Lib.hid hem
        have HLm := Lib.hid hnm
        have HV := Lib.hid hv
        clear hE0 hem hnm hv
        obtain ⟨ep, hep⟩ : ∃ e, applyL el eb = e := ⟨_, rfl⟩
        obtain ⟨np, hlp⟩ : ∃ n, ep.length = n := ⟨_, rfl⟩
        have hbp : np ≤ nl + nb := by rw [← hlp, ← hep, ← HLl.out, ← HLb.out]; exact applyL_len _ _
        have HAp := Lib.hid (asc_applyL eb HAl.out)
        rw [hep] at HAp
        have HEp := Lib.hid hep
        have HLp := Lib.hid hlp
        clear hep hlp
        go_wp2_with fail
        refine (normalize_any Ab cb eb _ nb HLb.out (by omega) HRb.out HSb.out E0 HE0.out nm (by rw [HEM.out]; exact HLm.out)).mono ?_; rintro e w4 ⟨Am, cm, rfl, hR9, hB9⟩
        have hs9 := hB9.size
        replace HB := Lib.hid (HB.out.trans (hB9.mono hw))
        replace HRl := Lib.hid (HRl.out.below hB9 (Nat.le_refl _))
        replace HRb := Lib.hid (HRb.out.below hB9 (Nat.le_refl _))
        replace hw := Nat.le_trans hw hs9
        clear hB9 hs9
        rw [HEM.out] at hR9
        clear hcell
        have HRm := Lib.hid hR9
        clear hR9
        go_wp2_with fail
        refine (refCheck_any Ab cb eb _ nb HLb.out (by omega) HRb.out HSb.out E0 HE0.out).mono ?_; rintro e w5 ⟨rfl, hB9⟩
        have hs9 := hB9.size
        replace HB := Lib.hid (HB.out.trans (hB9.mono hw))
        replace HRl := Lib.hid (HRl.out.below hB9 (Nat.le_refl _))
        replace HRb := Lib.hid (HRb.out.below hB9 (Nat.le_refl _))
        replace HRm := Lib.hid (HRm.out.below hB9 (Nat.le_refl _))
        replace hw := Nat.le_trans hw hs9
        clear hB9 hs9
        go_wp2_with fail
        refine (check_any Ab cb eb _ nb HLb.out (by omega) HRb.out HSb.out E0 HE0.out).mono ?_; rintro e w6 ⟨rfl, hB9⟩
        have hs9 := hB9.size
        replace HB := Lib.hid (HB.out.trans (hB9.mono hw))
        replace HRl := Lib.hid (HRl.out.below hB9 (Nat.le_refl _))
        replace HRb := Lib.hid (HRb.out.below hB9 (Nat.le_refl _))
        replace HRm := Lib.hid (HRm.out.below hB9 (Nat.le_refl _))
        replace hw := Nat.le_trans hw hs9
        clear hB9 hs9
        have hne : (E0 != E0) = false := by simp
        have heq9 : (E0 == E0) = true := by simp
        go_wp2_with fail
        refine (apply_any Al Ab cl cb el eb _ nl nb HLl.out HLb.out (by omega) (by omega) HRl.out HRb.out HSb.out HAl.out np (by rw [HEp.out]; exact HLp.out)).mono ?_; rintro e w7 ⟨Ap, cp, rfl, hR9, hB9⟩
        have hs9 := hB9.size
        replace HB := Lib.hid (HB.out.trans (hB9.mono hw))
        replace HRl := Lib.hid (HRl.out.below hB9 (Nat.le_refl _))
        replace HRb := Lib.hid (HRb.out.below hB9 (Nat.le_refl _))
        replace HRm := Lib.hid (HRm.out.below hB9 (Nat.le_refl _))
        replace hw := Nat.le_trans hw hs9
        clear hB9 hs9
        rw [HEp.out] at hR9
        have HRp := Lib.hid hR9
        clear hR9
        go_wp2_with fail
        refine (refApply_any Al Ab cl cb el eb _ nl nb HLl.out HLb.out (by omega) (by omega) HRl.out HRb.out np (by rw [HEp.out]; exact HLp.out)).mono ?_; rintro e w8 ⟨Ap', cp', rfl, hR9, hB9⟩
        have hs9 := hB9.size
        replace HB := Lib.hid (HB.out.trans (hB9.mono hw))
        replace HRl := Lib.hid (HRl.out.below hB9 (Nat.le_refl _))
        replace HRb := Lib.hid (HRb.out.below hB9 (Nat.le_refl _))
        replace HRm := Lib.hid (HRm.out.below hB9 (Nat.le_refl _))
        replace HRp := Lib.hid (HRp.out.below hB9 (Nat.le_refl _))
        replace hw := Nat.le_trans hw hs9
        clear hB9 hs9
        rw [HEp.out] at hR9
        have HRp' := Lib.hid hR9
        clear hR9
        go_wp2_with fail
        refine (sameE_any Ap Ap' cp cp' ep ep _ np np HLp.out HLp.out (by omega) (by omega) HRp.out HRp'.out true (by simp)).mono ?_; rintro e w9 ⟨rfl, hB9⟩
        have hs9 := hB9.size
        replace HB := Lib.hid (HB.out.trans (hB9.mono hw))
        replace HRl := Lib.hid (HRl.out.below hB9 (Nat.le_refl _))
        replace HRb := Lib.hid (HRb.out.below hB9 (Nat.le_refl _))
        replace HRm := Lib.hid (HRm.out.below hB9 (Nat.le_refl _))
        replace HRp := Lib.hid (HRp.out.below hB9 (Nat.le_refl _))
        replace HRp' := Lib.hid (HRp'.out.below hB9 (Nat.le_refl _))
        replace hw := Nat.le_trans hw hs9
        clear hB9 hs9
        by_cases h0 : E0 = 0
        · have hn9 : normL eb = em := by rw [← HEM.out]; exact (nrm_ok (by rw [HE0.out]; exact h0)).symm
          have hv2 : decide (em = eb) = v := by rw [← HV.out]; simp [h0]
          have HN9 := Lib.hid hn9
          have HV2 := Lib.hid hv2
          subst h0
          clear hn9 hv2
          go_wp2_with fail
          refine (refNormalize_any Ab cb eb _ nb HLb.out (by omega) HRb.out nm (by rw [HN9.out]; exact HLm.out)).mono ?_; rintro e w10 ⟨Ax, cx, rfl, hR9, hB9⟩
          have hs9 := hB9.size
          replace HB := Lib.hid (HB.out.trans (hB9.mono hw))
          replace HRl := Lib.hid (HRl.out.below hB9 (Nat.le_refl _))
          replace HRb := Lib.hid (HRb.out.below hB9 (Nat.le_refl _))
          replace HRm := Lib.hid (HRm.out.below hB9 (Nat.le_refl _))
          replace HRp := Lib.hid (HRp.out.below hB9 (Nat.le_refl _))
          replace HRp' := Lib.hid (HRp'.out.below hB9 (Nat.le_refl _))
          replace hw := Nat.le_trans hw hs9
          clear hB9 hs9
          rw [HN9.out] at hR9
          have HRx := Lib.hid hR9
          clear hR9
          go_wp2_with fail
          refine (sameW_any Am Ax cm cx em em _ nm nm HLm.out HLm.out (by omega) (by omega) HRm.out HRx.out true (by simp)).mono ?_; rintro e w11 ⟨rfl, hB9⟩
          have hs9 := hB9.size
          replace HB := Lib.hid (HB.out.trans (hB9.mono hw))
          replace HRl := Lib.hid (HRl.out.below hB9 (Nat.le_refl _))
          replace HRb := Lib.hid (HRb.out.below hB9 (Nat.le_refl _))
          replace HRm := Lib.hid (HRm.out.below hB9 (Nat.le_refl _))
          replace HRp := Lib.hid (HRp.out.below hB9 (Nat.le_refl _))
          replace HRp' := Lib.hid (HRp'.out.below hB9 (Nat.le_refl _))
          replace HRx := Lib.hid (HRx.out.below hB9 (Nat.le_refl _))
          replace hw := Nat.le_trans hw hs9
          clear hB9 hs9
          go_wp2_with fail
          refine (normal_any Ab cb eb _ nb HLb.out (by omega) HRb.out HSb.out v (by rw [HE0.out, HEM.out]; exact HV.out)).mono ?_; rintro e w12 ⟨rfl, hB9⟩
          have hs9 := hB9.size
          replace HB := Lib.hid (HB.out.trans (hB9.mono hw))
          replace HRl := Lib.hid (HRl.out.below hB9 (Nat.le_refl _))
          replace HRb := Lib.hid (HRb.out.below hB9 (Nat.le_refl _))
          replace HRm := Lib.hid (HRm.out.below hB9 (Nat.le_refl _))
          replace HRp := Lib.hid (HRp.out.below hB9 (Nat.le_refl _))
          replace HRp' := Lib.hid (HRp'.out.below hB9 (Nat.le_refl _))
          replace HRx := Lib.hid (HRx.out.below hB9 (Nat.le_refl _))
          replace hw := Nat.le_trans hw hs9
          clear hB9 hs9
          go_wp2_with fail
          refine (sameW_any Ab Ax cb cx eb em _ nb nm HLb.out HLm.out (by omega) (by omega) HRb.out HRx.out v (by rw [← HV2.out]; exact decide_eq_decide.2 ⟨fun h => h.symm, fun h => h.symm⟩)).mono ?_; rintro e w13 ⟨rfl, hB9⟩
          have hs9 := hB9.size
          replace HB := Lib.hid (HB.out.trans (hB9.mono hw))
          replace HRl := Lib.hid (HRl.out.below hB9 (Nat.le_refl _))
          replace HRb := Lib.hid (HRb.out.below hB9 (Nat.le_refl _))
          replace HRm := Lib.hid (HRm.out.below hB9 (Nat.le_refl _))
          replace HRp := Lib.hid (HRp.out.below hB9 (Nat.le_refl _))
          replace HRp' := Lib.hid (HRp'.out.below hB9 (Nat.le_refl _))
          replace HRx := Lib.hid (HRx.out.below hB9 (Nat.le_refl _))
          replace hw := Nat.le_trans hw hs9
          clear hB9 hs9
          have hvv : (v != v) = false := by simp
          go_wp2
          go_roundw
          case rel => exact ⟨j + 1, by omega, by go_num, HB.out⟩
          case measure => simp [intOf]; omega
        · have hm0 : em = [] := by rw [← HEM.out]; exact nrm_no (by rw [HE0.out]; exact h0)
          obtain rfl : nm = 0 := by rw [← HLm.out, hm0]; rfl
          obtain rfl : v = false := by rw [← HV.out]; simp [h0]
          have h1 : (E0 == 0) = false := by simpa using h0
          have HM0 := Lib.hid hm0
          clear hm0
          go_wp2_with fail
          refine (sameW_any Am none cm 0 em [] _ 0 0 HLm.out rfl (by omega) (by omega) HRm.out (RW.nil _) true (by rw [HM0.out]; simp)).mono ?_; rintro e w10 ⟨rfl, hB9⟩
          have hs9 := hB9.size
          replace HB := Lib.hid (HB.out.trans (hB9.mono hw))
          replace HRl := Lib.hid (HRl.out.below hB9 (Nat.le_refl _))
          replace HRb := Lib.hid (HRb.out.below hB9 (Nat.le_refl _))
          replace HRm := Lib.hid (HRm.out.below hB9 (Nat.le_refl _))
          replace HRp := Lib.hid (HRp.out.below hB9 (Nat.le_refl _))
          replace HRp' := Lib.hid (HRp'.out.below hB9 (Nat.le_refl _))
          replace hw := Nat.le_trans hw hs9
          clear hB9 hs9
          go_wp2_with fail
          refine (normal_any Ab cb eb _ nb HLb.out (by omega) HRb.out HSb.out false (by rw [HE0.out, HEM.out]; exact HV.out)).mono ?_; rintro e w11 ⟨rfl, hB9⟩
          have hs9 := hB9.size
          replace HB := Lib.hid (HB.out.trans (hB9.mono hw))
          replace HRl := Lib.hid (HRl.out.below hB9 (Nat.le_refl _))
          replace HRb := Lib.hid (HRb.out.below hB9 (Nat.le_refl _))
          replace HRm := Lib.hid (HRm.out.below hB9 (Nat.le_refl _))
          replace HRp := Lib.hid (HRp.out.below hB9 (Nat.le_refl _))
          replace HRp' := Lib.hid (HRp'.out.below hB9 (Nat.le_refl _))
          replace hw := Nat.le_trans hw hs9
          clear hB9 hs9
          go_wp2
          go_roundw
          case rel => exact ⟨j + 1, by omega, by go_num, HB.out⟩
          case measure => simp [intOf]; omega
      · replace HB := Lib.hid (HB.out.trans (hbel.mono hwo))
        have hw : w.heap.size ≤ wr.heap.size := HB.out.size
        clear hbel
        go_wp2_with fail
        refine (awake_any _).mono ?_; rintro e w10 ⟨rfl, hB9⟩
        have hs9 := hB9.size
        replace HB := Lib.hid (HB.out.trans (hB9.mono hw))
        replace hw := Nat.le_trans hw hs9
        clear hB9 hs9
        go_wp2
        go_ret
        exact ⟨by first | rfl | simp, HB.out⟩
end Go.Proofs.Ytdhobiiejokglaa
