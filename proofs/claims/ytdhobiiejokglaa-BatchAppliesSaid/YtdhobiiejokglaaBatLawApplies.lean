/-
  The law BatchApplies answers yes for all batches, lists and keys. Condition: none beside the form's own reach.
-/
import Derived.Test.YtdhobiiejokglaaBatAwk
namespace Go.Proofs.Ytdhobiiejokglaa
open Go.RowKit Go.Deep Plain PlainE
set_option linter.unusedVariables false

theorem normL_len_le (b : List Wri) : (normL b).length ≤ b.length := by rw [normL_length]; exact keysB_len b
theorem normL_sub {b : List Wri} {x : Wri} (h : x ∈ normL b) : x ∈ b := (lastW_key (normL_mem.1 h)).2
theorem chk_zero {b : List Wri} (h : chk b = 0) : ¬ 16 < b.length ∧ b.any bigW = false ∧ b.any badW = false := by
  unfold chk at h
  by_cases h1 : (decide (16 < b.length) || b.any bigW) = true
  · rw [if_pos h1] at h; omega
  · rw [if_neg h1] at h
    by_cases h2 : b.any badW = true
    · rw [if_pos h2] at h; omega
    · simp only [Bool.or_eq_true, not_or, decide_eq_true_eq, Bool.not_eq_true] at h1 h2
      exact ⟨h1.1, h1.2, h2⟩
theorem chk_norm {b : List Wri} (h : chk b = 0) : chk (normL b) = 0 := by
  obtain ⟨h1, h2, h3⟩ := chk_zero h
  have g1 := normL_len_le b
  have g2 : (normL b).any bigW = false := List.any_eq_false.2 fun x hx => List.any_eq_false.1 h2 x (normL_sub hx)
  have g3 : (normL b).any badW = false := List.any_eq_false.2 fun x hx => List.any_eq_false.1 h3 x (normL_sub hx)
  unfold chk
  rw [g2, g3]
  have : ¬ 16 < (normL b).length := by omega
  simp [this]
theorem gt_ltB (x y : List UInt8) : (!(Op.bytesLess x y || x == y)) = ltB y x := by
  rw [bytesLess_ltB]
  cases h : ltB x y
  · cases k : ltB y x
    · rw [ltB_tri x y h k]; simp
    · have : ¬ x = y := fun e => by rw [e, ltB_self] at k; exact absurd k (by decide)
      simpa using this
  · rw [ltB_asymm x y h]; simp


/-- The value of a key and whether it has one, behind writes, where it was v and b before. -/
def sees (v : ByteArray) (b : Bool) (l : List Wri) (k : ByteArray) : ByteArray × Bool := match lastW l k with | some w => (w.2.1, !w.2.2) | none => (v, b)
theorem sees_nx (v : ByteArray) (b : Bool) (k : ByteArray) {l : List Wri} {j : Nat} {x : Wri} (h : l[j]? = some x) : sees v b (l.take (j + 1)) k = if eqk x.1 k = true then (x.2.1, !x.2.2) else sees v b (l.take j) k := by
  unfold sees
  rw [take_nx h, lastW_snoc]
  by_cases e : x.1 = k
  · rw [if_pos e, if_pos (eqk_iff.2 e)]
  · rw [if_neg e, if_neg (fun h => e (eqk_iff.1 h))]
theorem sees_end {l : List Ent} {b : List Wri} (ha : Asc l) (he : ∀ x ∈ b, x.2.2 = true → x.2.1 = ⟨#[]⟩) (k : ByteArray) : sees (getV l k) (getB l k) b k = (getV (applyL l b) k, getB (applyL l b) k) := by
  unfold sees getV getB
  rw [getL_applyL ha]
  cases h : lastW b k with
  | none => rfl
  | some w =>
    simp only
    have hm := (lastW_key h).2
    unfold eff
    cases hd : w.2.2
    · simp
    · rw [he w hm hd]; simp
set_option maxRecDepth 100000 in
set_option maxHeartbeats 8000000 in
theorem lawBatchApplies (w : World) (A0 : Option Addr) (c0 : Nat) (l0 : List Wri) (n0 : Nat) (hn0 : l0.length = n0) (hm0 : n0 ≤ maxLen) (hR0 : RW w A0 c0 l0) (hs0 : ∀ y ∈ l0, y.1.size ≤ maxLen ∧ y.2.1.size ≤ maxLen) (A1 : Option Addr) (c1 : Nat) (l1 : List Ent) (n1 : Nat) (hn1 : l1.length = n1) (hm1 : n1 ≤ maxLen) (hR1 : RE w A1 c1 l1) (hs1 : ∀ y ∈ l1, y.1.size ≤ maxLen ∧ y.2.size ≤ maxLen) (a2 : ByteArray) (hs2 : a2.size ≤ maxLen) :
    Calls Try.prog 5 #[.slice A0 n0 c0, .slice A1 n1 c1, .string a2] w fun e w' => e = .returned (.bool true) ∧ Below w.heap.size w w' := by
  have HSraw0 : Hid (∀ x ∈ l0, Sz x) := Lib.hid hs0
  have HRraw0 := Lib.hid hR0
  clear hR0 hs0
  have HRraw1 := Lib.hid hR1
  clear hR1 hs1
  have HB := Lib.hid (Below.refl w.heap.size w)
  have hw : w.heap.size ≤ w.heap.size := Nat.le_refl _
  go_enter Try.func5, Try.ntmps5
  go_wp2_with fail
  refine (fit_any A0 c0 l0 _ n0 hn0 hm0 HRraw0.out HSraw0.out).mono ?_; rintro e w1 ⟨Aa, ca, na, rfl, hl9, hba, hR9, hB9⟩
  have hs9 := hB9.size
  replace HB := Lib.hid (HB.out.trans (hB9.mono hw))
  replace HRraw0 := Lib.hid (HRraw0.out.below hB9 (Nat.le_refl _))
  replace HRraw1 := Lib.hid (HRraw1.out.below hB9 (Nat.le_refl _))
  replace hw := Nat.le_trans hw hs9
  clear hB9 hs9
  have HLa := Lib.hid hl9
  have HSa := Lib.hid (fitL_sz l0)
  clear hl9
  have HRa := Lib.hid hR9
  clear hR9
  obtain ⟨ea, he9⟩ : ∃ e, fitL l0 = e := ⟨_, rfl⟩
  have HCa := Lib.hid (fitL_chk l0)
  rw [he9] at HLa HSa HRa HCa
  clear he9
  go_wp2_with fail
  refine (list_any A1 c1 l1 _ n1 hn1 hm1 HRraw1.out).mono ?_; rintro e w2 ⟨Al, cl, nl, rfl, hl9, hbl, hR9, hB9⟩
  have hs9 := hB9.size
  replace HB := Lib.hid (HB.out.trans (hB9.mono hw))
  replace HRraw0 := Lib.hid (HRraw0.out.below hB9 (Nat.le_refl _))
  replace HRraw1 := Lib.hid (HRraw1.out.below hB9 (Nat.le_refl _))
  replace HRa := Lib.hid (HRa.out.below hB9 (Nat.le_refl _))
  replace hw := Nat.le_trans hw hs9
  clear hB9 hs9
  have HLl := Lib.hid hl9
  have HAl := Lib.hid (listL_asc l1)
  clear hl9
  have HRl := Lib.hid hR9
  clear hR9
  obtain ⟨el, he9⟩ : ∃ e, listL l1 = e := ⟨_, rfl⟩
  rw [he9] at HLl HAl HRl
  clear he9
  obtain ⟨ep, hep⟩ : ∃ e, applyL el ea = e := ⟨_, rfl⟩
  obtain ⟨np, hlp⟩ : ∃ n, ep.length = n := ⟨_, rfl⟩
  have hbp : np ≤ nl + na := by rw [← hlp, ← hep, ← HLl.out, ← HLa.out]; exact applyL_len _ _
  have HAp := Lib.hid (asc_applyL ea HAl.out)
  rw [hep] at HAp
  have HEp := Lib.hid hep
  have HLp := Lib.hid hlp
  clear hep hlp
  go_wp2_with fail
  refine (apply_any Al Aa cl ca el ea _ nl na HLl.out HLa.out (by omega) (by omega) HRl.out HRa.out HSa.out HAl.out np (by rw [HEp.out]; exact HLp.out)).mono ?_; rintro e w3 ⟨Ap, cp, rfl, hR9, hB9⟩
  have hs9 := hB9.size
  replace HB := Lib.hid (HB.out.trans (hB9.mono hw))
  replace HRraw0 := Lib.hid (HRraw0.out.below hB9 (Nat.le_refl _))
  replace HRraw1 := Lib.hid (HRraw1.out.below hB9 (Nat.le_refl _))
  replace HRa := Lib.hid (HRa.out.below hB9 (Nat.le_refl _))
  replace HRl := Lib.hid (HRl.out.below hB9 (Nat.le_refl _))
  replace hw := Nat.le_trans hw hs9
  clear hB9 hs9
  rw [HEp.out] at hR9
  have HRp := Lib.hid hR9
  clear hR9
  have hempty : ∀ x ∈ ea, x.2.2 = true → x.2.1 = ⟨#[]⟩ := fun x hx hd => by
    have h := List.any_eq_false.1 (chk_zero HCa.out).2.2 x hx
    unfold badW at h
    rw [hd] at h
    simp only [Bool.true_and, Bool.not_eq_true', Bool.not_eq_false, List.isEmpty_iff] at h
    refine toList_inj ?_
    rw [h, ByteArray.toList_eq]
  have HEMP := Lib.hid hempty
  have P0 := Lib.hid (Blk.new w3 [.string a2] 9)
  have hbx := (Below.refl w3.heap.size w3).alloc (Nat.le_refl _) (.cells #[.string a2] 9)
  have hzx : (w3.alloc (.cells #[.string a2] 9)).heap.size = w3.heap.size + 1 := nblk_alloc _ _
  clear hempty
  go_wp2_with fail
  generalize w3.alloc (.cells #[.string a2] 9) = V1 at *
  have hO0 : V1.ownsRow w3.heap.size 9 1 (.slice (some ⟨w3.heap.size, 0, none⟩) 1 1) 1 (flatS [a2]) := ⟨rfl, .inr ⟨_, 1, _, rfl, Nat.le_refl _, P0.out, Nat.le_refl _, by unfold maxLen; omega, rfl, rfl⟩⟩
  have HO0 := Lib.hid hO0
  have HBX := Lib.hid hbx
  clear hbx hzx hO0 P0
  go_loopw [10, 11] (fun o i wr => ∃ (j : Nat) (vo : Value), vo = o ∧ j ≤ na ∧ i = .int .i64 j ∧ wr.ownsRow w3.heap.size 9 1 vo (j + 1) (flatS (a2 :: (ea.take j).map (·.1))) ∧ Below w3.heap.size w3 wr) (fun _ i _ => na - (intOf i).toNat)
  case atStart => exact ⟨0, _, rfl, Nat.zero_le _, rfl, HO0.out, HBX.out⟩
  case round =>
    clear HO0 HBX
    obtain ⟨j, vo, rfl, hj, rfl, hown, hbel⟩ := hrel
    have HO := Lib.hid hown
    have HBE := Lib.hid hbel
    have hsz := hbel.size
    clear hown
    by_cases hlt : j < na
    · obtain ⟨x, hx⟩ : ∃ x, ea[j]? = some x := ⟨_, List.getElem?_eq_getElem (by have := HLa.out; omega)⟩
      obtain ⟨g, off, rfl, hg, hcell⟩ := (HRa.out.below hbel (Nat.le_refl _)).at (by have := HLa.out; omega)
      obtain ⟨d0, _, _⟩ := hcell j x hx
      have hst : a2 :: (ea.take (j + 1)).map (·.1) = (a2 :: (ea.take j).map (·.1)) ++ [x.1] := by rw [take_nx hx, List.map_append]; rfl
      obtain ⟨K, hK⟩ : ∃ K, a2 :: (ea.take j).map (·.1) = K := ⟨_, rfl⟩
      rw [hK] at hst
      have hO := HO.out
      rw [hK] at hO
      have HO := Lib.hid hO
      have HST := Lib.hid hst
      clear hcell hx hst hO hK hbel
      go_wp2_with (at_builtin; go_must (refine wpList_appS rfl (.tmp 34) (.tmp 40) rfl w3.heap.size _ (j + 1) K rfl (HO.out.alloc _) _ 1 1 [x.1] rfl rfl (RS.one wr x.1 _) (by omega) (by rw [nblk_alloc]; omega) ?_))
      intro v8 W8 hown8 hB8
      have HO8 := Lib.hid hown8
      have HB8 := Lib.hid (HBE.out.trans (((Below.refl _ _).alloc hsz _).trans hB8))
      clear hown8 hB8
      go_wp2
      go_roundw
      case rel => exact ⟨j + 1, _, rfl, by omega, by go_num, by rw [HST.out]; exact HO8.out, HB8.out⟩
      case measure => simp [intOf]; omega
    · have hfull : ea.take j = ea := List.take_of_length_le (by have := HLa.out; omega)
      have hO := HO.out
      have hjn : j + 1 = na + 1 := by omega
      rw [hfull, hjn] at hO
      obtain ⟨ek, hek⟩ : ∃ ek, a2 :: ea.map (·.1) = ek := ⟨_, rfl⟩
      rw [hek] at hO
      obtain ⟨Ak, ck, rfl, hlk, hRk, _⟩ := RS.own hO
      rename World => V1
      have HRk := Lib.hid hRk
      have HLk := Lib.hid hlk
      have HRa := Lib.hid (HRa.out.below hbel (Nat.le_refl _))
      have HRl := Lib.hid (HRl.out.below hbel (Nat.le_refl _))
      have HRp := Lib.hid (HRp.out.below hbel (Nat.le_refl _))
      have HB := Lib.hid (HB.out.trans (hbel.mono hw))
      have hw1 : w.heap.size ≤ V1.heap.size := HB.out.size
      clear hfull hO hjn hek hlk hRk hbel HO HBE HRraw0 HRraw1
      go_wp2_with fail
      go_loopw [12] (fun i wr => ∃ j : Nat, 1 ≤ j ∧ j ≤ np + 1 ∧ i = .int .i64 j ∧ Below V1.heap.size V1 wr) (fun i _ => np + 1 - (intOf i).toNat)
      case atStart => exact ⟨1, Nat.le_refl _, by omega, rfl, Below.refl _ _⟩
      case round =>
        obtain ⟨i, hi1, hi, rfl, hbel⟩ := hrel
        have HBE := Lib.hid hbel
        by_cases hlt2 : i < np
        · obtain ⟨x, hx⟩ : ∃ x, ep[i]? = some x := ⟨_, List.getElem?_eq_getElem (by have := HLp.out; omega)⟩
          obtain ⟨y, hy⟩ : ∃ y, ep[i - 1]? = some y := ⟨_, List.getElem?_eq_getElem (by have := HLp.out; omega)⟩
          obtain ⟨g, off, rfl, hg, hcell⟩ := (HRp.out.below hbel (Nat.le_refl _)).at (by have := HLp.out; omega)
          obtain ⟨d0, _⟩ := hcell i x hx
          obtain ⟨f0, _⟩ := hcell (i - 1) y hy
          have hltb := asc_nx HAp.out (i - 1) y x hy (by rw [show i - 1 + 1 = i by omega]; exact hx)
          have hle := gt_ltB x.1.toList y.1.toList
          rw [hltb] at hle
          have hle2 : (Op.bytesLess x.1.toList y.1.toList || x.1.toList == y.1.toList) = false := by simpa using hle
          obtain ⟨j1, hj9⟩ : ∃ j1, i - 1 = j1 := ⟨_, rfl⟩
          have hji : (i : Int) - 1 = (j1 : Int) := by omega
          have hj1n : j1 < np := by omega
          rw [hj9] at f0
          clear hcell hx hy hltb hle hbel hj9
          go_wp2_with fail
          go_quiet (fail)
          go_wp2
          go_roundw
          case rel => exact ⟨i + 1, by omega, by omega, by go_num, below_drewN HBE.out _⟩
          case measure => simp [intOf]; omega
        · rename World => V2
          have HRk := Lib.hid (HRk.out.below hbel (Nat.le_refl _))
          have HRa := Lib.hid (HRa.out.below hbel (Nat.le_refl _))
          have HRl := Lib.hid (HRl.out.below hbel (Nat.le_refl _))
          have HRp := Lib.hid (HRp.out.below hbel (Nat.le_refl _))
          have HB := Lib.hid (HB.out.trans (hbel.mono hw1))
          have hw2 : w.heap.size ≤ V2.heap.size := HB.out.size
          clear hbel HBE
          go_wp2_with fail
          go_loopw [13] (fun i wr => ∃ j : Nat, j ≤ na + 1 ∧ i = .int .i64 j ∧ Below V2.heap.size V2 wr) (fun i _ => na + 1 - (intOf i).toNat)
          case atStart => exact ⟨0, Nat.zero_le _, rfl, Below.refl _ _⟩
          case round =>
            obtain ⟨q, hq, rfl, hbel⟩ := hrel
            rename World => V3
            by_cases hlt3 : q < na + 1
            · obtain ⟨key, hkey⟩ : ∃ key, ek[q]? = some key := ⟨_, List.getElem?_eq_getElem (by have := HLk.out; omega)⟩
              have HRk := Lib.hid (HRk.out.below hbel (Nat.le_refl _))
              have HRa := Lib.hid (HRa.out.below hbel (Nat.le_refl _))
              have HRl := Lib.hid (HRl.out.below hbel (Nat.le_refl _))
              have HRp := Lib.hid (HRp.out.below hbel (Nat.le_refl _))
              have HBE := Lib.hid hbel
              have hs3 := hbel.size
              have HKY := Lib.hid hkey
              obtain ⟨gk, offk, rfl, hgk, hcellk⟩ := HRk.out.at (by have := HLk.out; omega)
              have k0 := hcellk q key hkey
              clear hcellk hkey hbel
              obtain ⟨v0, hv0⟩ : ∃ v, getV el key = v := ⟨_, rfl⟩
              obtain ⟨i0, hi0⟩ : ∃ b, getB el key = b := ⟨_, rfl⟩
              obtain ⟨v9, hv9⟩ : ∃ v, getV ep key = v := ⟨_, rfl⟩
              obtain ⟨i9, hi9⟩ : ∃ b, getB ep key = b := ⟨_, rfl⟩
              have hend := sees_end HAl.out HEMP.out key
              rw [HEp.out, hv0, hi0, hv9, hi9] at hend
              have HEND := Lib.hid hend
              have HV0 := Lib.hid hv0
              have HI0 := Lib.hid hi0
              have HV9 := Lib.hid hv9
              have HI9 := Lib.hid hi9
              clear hend hv0 hi0 hv9 hi9
              go_wp2_with fail
              refine (get_any Al cl el key _ nl HLl.out (by omega) HRl.out v0 i0 HV0.out HI0.out).mono ?_; rintro e w9 ⟨rfl, rfl⟩
              rename World => V3
              go_wp2_with fail
              go_loopw [14, 15, 16] (fun vv bb i wr => ∃ k : Nat, k ≤ na ∧ i = .int .i64 k ∧ vv = .string (sees v0 i0 (ea.take k) key).1 ∧ bb = .bool (sees v0 i0 (ea.take k) key).2 ∧ Below V3.heap.size V3 wr) (fun _ _ i _ => na - (intOf i).toNat)
              case atStart => exact ⟨0, Nat.zero_le _, rfl, rfl, rfl, Below.refl _ _⟩
              case round =>
                obtain ⟨k, hk, rfl, rfl, rfl, hbel⟩ := hrel
                rename World => V4
                have HBF := Lib.hid hbel
                obtain ⟨sv, hsv⟩ : ∃ sv, (sees v0 i0 (ea.take k) key).1 = sv := ⟨_, rfl⟩
                obtain ⟨sb, hsb⟩ : ∃ sb, (sees v0 i0 (ea.take k) key).2 = sb := ⟨_, rfl⟩
                rw [hsv, hsb]
                by_cases hlt4 : k < na
                · obtain ⟨x, hx⟩ : ∃ x, ea[k]? = some x := ⟨_, List.getElem?_eq_getElem (by have := HLa.out; omega)⟩
                  obtain ⟨g, off, rfl, hg, hcell⟩ := (HRa.out.below hbel (Nat.le_refl _)).at (by have := HLa.out; omega)
                  obtain ⟨d0, d1, d2⟩ := hcell k x hx
                  have k1 := (hbel.cell (p := ⟨gk, offk + q, none⟩) hgk).trans k0
                  obtain ⟨bb, hbb⟩ : ∃ bb, (x.1.toList == key.toList) = bb := ⟨_, rfl⟩
                  have hst := sees_nx v0 i0 key hx
                  have hb2 : eqk x.1 key = bb := hbb
                  rw [hb2] at hst
                  have HST := Lib.hid hst
                  have HSV := Lib.hid hsv
                  have HSB := Lib.hid hsb
                  clear hcell hx hst hb2 hbel hsv hsb
                  obtain ⟨xa, xv, xd⟩ := x
                  simp only at d0 d1 d2 hbb HST
                  cases bb
                  · go_wp2_with fail
                    go_quiet (fail)
                    go_wp2
                    go_roundw
                    case rel => exact ⟨k + 1, by omega, by go_num, by rw [HST.out]; exact congrArg Value.string HSV.out.symm, by rw [HST.out]; exact congrArg Value.bool HSB.out.symm, below_drewN HBF.out _⟩
                    case measure => simp [intOf]; omega
                  · go_wp2_with fail
                    go_quiet (fail)
                    go_wp2_with fail
                    go_quiet (fail)
                    go_wp2
                    go_roundw
                    case rel => exact ⟨k + 1, by omega, by go_num, by rw [HST.out]; rfl, by rw [HST.out]; first | rfl | simp, below_drewN HBF.out _⟩
                    case measure => simp [intOf]; omega
                · have hfull : ea.take k = ea := List.take_of_length_le (by have := HLa.out; omega)
                  rw [hfull, HEND.out] at hsv hsb
                  have hsv2 : v9 = sv := hsv
                  have hsb2 : i9 = sb := hsb
                  subst hsv2 hsb2
                  have k1 := (hbel.cell (p := ⟨gk, offk + q, none⟩) hgk).trans k0
                  have HRp := Lib.hid (HRp.out.below hbel (Nat.le_refl _))
                  have HB7 := Lib.hid (HBE.out.trans (hbel.mono hs3))
                  have hn1 : (i9 != i9) = false := by simp
                  have hn2 : (v9.toList != v9.toList) = false := by simp
                  clear hfull hsv hsb hbel
                  go_wp2_with fail
                  refine (get_any Ap cp ep key _ np HLp.out (by omega) HRp.out v9 i9 HV9.out HI9.out).mono ?_; rintro e w8 ⟨rfl, rfl⟩
                  go_wp2
                  go_roundw
                  case rel => exact ⟨q + 1, by omega, by go_num, HB7.out⟩
                  case measure => simp [intOf]; omega
            · replace HB := Lib.hid (HB.out.trans (hbel.mono hw2))
              clear hbel
              go_wp2_with fail
              refine (awake_any _).mono ?_; rintro e w9 ⟨rfl, hB9⟩
              replace HB := Lib.hid (HB.out.trans (hB9.mono HB.out.size))
              clear hB9
              go_wp2
              go_ret
              exact ⟨by first | rfl | simp, HB.out⟩
end Go.Proofs.Ytdhobiiejokglaa
