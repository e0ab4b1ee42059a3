/-
  DescentLevels, walked. Condition: arguments within the model's reach.
-/
import Derived.Test.YtboieccjikcdiaaDesLawS
namespace Go.Proofs.Ytboieccjikcdiaa
open Go.RowKit Go.Deep Plain
set_option linter.unusedVariables false

set_option maxRecDepth 100000 in
set_option maxHeartbeats 8000000 in
theorem lawLevels (w : World) (AR : Option Addr) (nR cR : Nat) (ss : List ByteArray) (hnR : ss.length = nR) (hrd : Rdv w w.heap.size (.slice AR nR cR) nR (ss.map Value.string)) (hsz : ∀ s ∈ ss, s.size ≤ maxLen) (f : Int) (sh : Int) (hs : 0 ≤ sh) (hide : Bool) (key : ByteArray) (hkey : key.size ≤ maxLen) :
    Calls Try.prog 7 #[.slice AR nR cR, .int .i64 f, .int .u64 sh, .bool hide, .string key] w fun e w' => e = .returned (.bool true) ∧ Below w.heap.size w w' := by
  unfold maxLen at hkey
  obtain ⟨F, hF⟩ : ∃ F : Nat, 4 + f % 3 = (F : Int) := ⟨(4 + f % 3).toNat, by omega⟩
  have h4 : 4 ≤ F := by omega
  have h6 : F ≤ 6 := by omega
  have HF := Lib.hid hF
  have HRD := Lib.hid hrd
  have HSS := Lib.hid hsz
  clear hF hrd hsz
  go_enter Try.func7, Try.ntmps7
  go_wp2_with fail
  refine (tree_any F h4 h6 f HF.out AR nR cR ss hnR sh hs hide w HRD.out HSS.out).mono ?_
  rintro e w1 ⟨b, g, l, fb, fd, A, c, H, n0, rfl, hM, hP, hl2, hD, hbw, hgw, hKr, hA, hK⟩
  obtain ⟨nk, hnk⟩ : ∃ nk, (keysOf ss).length = nk := ⟨_, rfl⟩
  rw [hnk]
  have hnk40 : nk ≤ 40 := by rw [← hnk]; exact keysOf_len ss
  obtain ⟨st, mm, lo, pg, off, hT, hLv, hs0, hFu, hNat, hlen⟩ := hP
  have HM := Lib.hid hM
  have HT := Lib.hid hT
  have HLV := Lib.hid hLv
  have HS0 := Lib.hid hs0
  have HFU := Lib.hid hFu
  have HNAT := Lib.hid hNat
  have HD := Lib.hid hD
  have HKR := Lib.hid hKr
  have HA := Lib.hid hA
  have HK := Lib.hid hK
  have HNK := Lib.hid hnk
  have HBG := Lib.hid (show w.heap.size ≤ b ∧ w.heap.size ≤ g ∧ b < w1.heap.size ∧ g < w1.heap.size from ⟨hbw, hgw, hM.obj.lt, hM.row.lt⟩)
  clear hM hT hLv hs0 hFu hNat hD hKr hA hK hnk hbw hgw hlen HRD HSS HF
  go_wp2_with fail
  have hal := ((Kept.refl (fun _ => False) w1).alloc (.cells #[.int .i64 1, .int .i64 2, .int .i64 100, .int .i64 100, .int .i64 200, .int .i64 (F : Int), .int .u64 1000] 25)).alloc (.cells #[.int .i64 1, .int .i64 2, .int .i64 100, .int .i64 100, .int .i64 200, .int .i64 (F : Int), .int .u64 1000, .int .i64 10, .int .i64 fb, .int .i64 fd] 27)
  have H11 := Lib.hid ((Blk.new w1 [.int .i64 1, .int .i64 2, .int .i64 100, .int .i64 100, .int .i64 200, .int .i64 (F : Int), .int .u64 1000] 25).alloc (.cells #[.int .i64 1, .int .i64 2, .int .i64 100, .int .i64 100, .int .i64 200, .int .i64 (F : Int), .int .u64 1000, .int .i64 10, .int .i64 fb, .int .i64 fd] 27))
  have hNN := Blk.new (w1.alloc (.cells #[.int .i64 1, .int .i64 2, .int .i64 100, .int .i64 100, .int .i64 200, .int .i64 (F : Int), .int .u64 1000] 25)) [.int .i64 1, .int .i64 2, .int .i64 100, .int .i64 100, .int .i64 200, .int .i64 (F : Int), .int .u64 1000, .int .i64 10, .int .i64 fb, .int .i64 fd] 27
  have hsz1 : (w1.alloc (.cells #[.int .i64 1, .int .i64 2, .int .i64 100, .int .i64 100, .int .i64 200, .int .i64 (F : Int), .int .u64 1000] 25)).heap.size = w1.heap.size + 1 := nblk_alloc _ _
  rw [hsz1] at hNN
  have H12 := Lib.hid hNN
  replace HM := Lib.hid (HM.out.kept hal (fun h => h) (fun h => h))
  replace HKR := Lib.hid (HKR.out.kept hal (fun _ _ h => h))
  replace HK := Lib.hid (HK.out.trans hal (fun _ _ h => h))
  clear hal hNN hsz1
  generalize (w1.alloc (.cells #[.int .i64 1, .int .i64 2, .int .i64 100, .int .i64 100, .int .i64 200, .int .i64 (F : Int), .int .u64 1000] 25)).alloc (.cells #[.int .i64 1, .int .i64 2, .int .i64 100, .int .i64 100, .int .i64 200, .int .i64 (F : Int), .int .u64 1000, .int .i64 10, .int .i64 fb, .int .i64 fd] 27) = W at *
  generalize hr12 : w1.heap.size + 1 = r12 at *
  generalize hr11 : w1.heap.size = r11 at *
  have HR := Lib.hid (show w.heap.size ≤ b ∧ w.heap.size ≤ g ∧ b < r11 ∧ g < r11 ∧ r11 < r12 by have := HBG.out; omega)
  clear hr12 hr11 HBG
  refine (awake_any _).mono ?_; rintro e w2 ⟨rfl, hKa⟩
  replace HM := Lib.hid (HM.out.kept hKa (fun h => h) (fun h => h))
  replace HKR := Lib.hid (HKR.out.kept hKa (fun _ _ h => h))
  replace H11 := Lib.hid (hKa.blk H11.out (fun h => h))
  replace H12 := Lib.hid (hKa.blk H12.out (fun h => h))
  replace HK := Lib.hid (HK.out.trans hKa (fun _ _ h => h))
  clear hKa
  by_cases hk100 : 100 < key.size
  · have d0 : (100 : Int) < (key.size : Int) := by omega
    go_wp2_with fail
    refine (awake_any _).mono ?_; rintro e w9 ⟨rfl, hKa⟩
    go_wp2
    go_ret
    exact ⟨rfl, (HK.out.trans hKa (fun _ _ h => h)).below (Nat.le_refl _) (fun _ h => h.elim)⟩
  · have d0 : ¬ (100 : Int) < (key.size : Int) := by omega
    have h11 := H11.out
    have y0 := h11.cell (i := 0) rfl
    have y1 := h11.cell (i := 1) rfl
    have y2 := h11.cell (i := 2) rfl
    have y3 := h11.cell (i := 3) rfl
    have y4 := h11.cell (i := 4) rfl
    have y5 := h11.cell (i := 5) rfl
    have y6 := h11.cell (i := 6) rfl
    clear h11
    go_wp2_with fail
    obtain ⟨nl, hnl⟩ : ∃ nl, l.length = nl := ⟨_, rfl⟩
    refine (view_any F b g l 0 nl hnl (by omega) _ HM.out).mono ?_; rintro e w3 ⟨gv, rfl, hBv, hgv, hKv⟩
    have HNL := Lib.hid hnl
    have HGV := Lib.hid (show r12 < gv by have := H12.out.lt; omega)
    have HBV := Lib.hid hBv
    replace HM := Lib.hid (HM.out.kept hKv (fun h => h) (fun h => h))
    replace HKR := Lib.hid (HKR.out.kept hKv (fun _ _ h => h))
    replace H11 := Lib.hid (hKv.blk H11.out (fun h => h))
    replace H12 := Lib.hid (hKv.blk H12.out (fun h => h))
    replace HK := Lib.hid (HK.out.trans hKv (fun _ _ h => h))
    clear hKv
    clear hBv hgv hnl y0 y1 y2 y3 y4 y5 y6 d0 hk100
    go_wp2_with fail
    have HBV0 := Lib.hid (show gv < w3.heap.size from HBV.out.lt)
    have hal := (Kept.refl (fun _ => False) w3).alloc (.cells #[.int .i64 1, .int .i64 2, .int .i64 100, .int .i64 100, .int .i64 200, .int .i64 (F : Int), .int .u64 1000, .slice (some ⟨gv, 0, none⟩) nl nl] 35)
    have HVX := Lib.hid (Blk.new w3 [.int .i64 1, .int .i64 2, .int .i64 100, .int .i64 100, .int .i64 200, .int .i64 (F : Int), .int .u64 1000, .slice (some ⟨gv, 0, none⟩) nl nl] 35)
    replace HBV := Lib.hid (hal.blk HBV.out (fun h => h))
    replace HM := Lib.hid (HM.out.kept hal (fun h => h) (fun h => h))
    replace HKR := Lib.hid (HKR.out.kept hal (fun _ _ h => h))
    replace H11 := Lib.hid (hal.blk H11.out (fun h => h))
    replace H12 := Lib.hid (hal.blk H12.out (fun h => h))
    replace HK := Lib.hid (HK.out.trans hal (fun _ _ h => h))
    clear hal
    have HRV := Lib.hid (show gv < w3.heap.size ∧ r12 < gv from ⟨HBV0.out, HGV.out⟩)
    generalize hrv : w3.heap.size = rv at *
    generalize w3.alloc (.cells #[.int .i64 1, .int .i64 2, .int .i64 100, .int .i64 100, .int .i64 200, .int .i64 (F : Int), .int .u64 1000, .slice (some ⟨gv, 0, none⟩) nl nl] 35) = V0 at *
    clear hrv HBV0
    have hr12v : r12 < V0.heap.size := H12.out.lt
    have hrvv : rv < V0.heap.size := HVX.out.lt
    go_wp2_with fail
    go_loopw [16, 17, 18] (fun lav hiv lv wr => ∃ (L ka : Nat) (la : Bool) (hi : ByteArray), L ≤ H ∧ lv = .int .i64 (L : Int) ∧ lav = .bool la ∧ hiv = .string hi ∧ ka ≤ L * 1112 ∧ (∀ L', L = L' + 1 → ∃ j, j < mm L' ∧ kl key (lo L' j) = false ∧ la = (pg L' j).la ∧ hi = (pg L' j).hi) ∧ Mem wr b g l ka ∧ Kept (fun i => w.heap.size ≤ i ∧ i ≠ r11 ∧ i ≠ r12 ∧ i ≠ rv ∧ i ≠ gv) V0 wr) (fun _ _ lv _ => H - (intOf lv).toNat)
    case atStart => exact ⟨0, 0, false, _, Nat.zero_le _, rfl, rfl, rfl, by omega, fun L' e => by omega, HM.out, Kept.refl _ _⟩
    case round =>
      rename World => V1
      obtain ⟨L, ka, la, hi, hLH, rfl, rfl, rfl, hka, hprev, hM1, hK1⟩ := hrel
      have hH100 := HT.out.H100
      have HM1 := Lib.hid hM1
      have HK1 := Lib.hid hK1
      have HPR := Lib.hid hprev
      have hvx := hK1.blk HVX.out (by have := HRV.out; have := HR.out; omega)
      have hbv := hK1.blk HBV.out (by have := HRV.out; have := HR.out; omega)
      have h12a := hK1.blk H12.out (by have := HRV.out; have := HR.out; omega)
      have v0 := hvx.cell (i := 0) rfl
      have v1 := hvx.cell (i := 1) rfl
      have v2 := hvx.cell (i := 2) rfl
      have v3 := hvx.cell (i := 3) rfl
      have v4 := hvx.cell (i := 4) rfl
      have v5 := hvx.cell (i := 5) rfl
      have v6 := hvx.cell (i := 6) rfl
      have v7 := hvx.cell (i := 7) rfl
      have HVX1 := Lib.hid hvx
      have HBV1 := Lib.hid hbv
      have H12a := Lib.hid h12a
      have V9 := HT.out.lev (H - 1) (by have := HT.out.H1; omega)
      have hone := HT.out.one
      have hnd := V9.nd 0 (by omega)
      rw [Nat.add_zero] at hnd
      have hlv := V9.lv 0 (by omega)
      have hall := HT.out.all (L := H - 1) (i := 0) (by have := HT.out.H1; omega) (by omega)
      have hH1 := HT.out.H1
      have HND := Lib.hid hnd
      clear hM1 hK1 hprev hvx hbv h12a V9 hnd
      go_wp2_with fail
      refine (height_any F h4 h6 gv nl l HNL.out (st (H - 1)) 0 ⟨#[]⟩ (by omega) (by omega) (pg (H - 1) 0) HND.out.holds HND.out.wf HND.out.len (by omega) _ HBV1.out HT.out.root).mono ?_; rintro e V2 ⟨rfl, hK2⟩
      have hHe : ((pg (H - 1) 0).lv : Int) + 1 = (H : Int) := by omega
      rw [hHe]
      have HM2 := Lib.hid (HM1.out.kept hK2 (fun h => h) (fun h => h))
      have HVX2 := Lib.hid (hK2.blk HVX1.out (fun h => h))
      have HBV2 := Lib.hid (hK2.blk HBV1.out (fun h => h))
      have h12b := hK2.blk H12a.out (fun h => h)
      have H12b := Lib.hid h12b
      have HK2 := Lib.hid (HK1.out.trans hK2 (fun _ _ h => h.elim))
      clear v0 v1 v2 v3 v4 v5 v6 v7 hHe hlv hone hall hK2 HM1 HVX1 HBV1 H12a HK1
      by_cases hlt : L < H
      · have hltI : (L : Int) < (H : Int) := by omega
        have y0 := h12b.cell (i := 0) rfl
        have y1 := h12b.cell (i := 1) rfl
        have y2 := h12b.cell (i := 2) rfl
        have y3 := h12b.cell (i := 3) rfl
        have y4 := h12b.cell (i := 4) rfl
        have y5 := h12b.cell (i := 5) rfl
        have y6 := h12b.cell (i := 6) rfl
        have y7 := h12b.cell (i := 7) rfl
        have y8 := h12b.cell (i := 8) rfl
        have y9 := h12b.cell (i := 9) rfl
        clear h12b
        go_wp2_with fail
        refine (newFind_any F fb fd key L _).mono ?_; rintro e W4 ⟨x, rfl, hx4, hB4, hK4⟩
        clear y0 y1 y2 y3 y4 y5 y6 y7 y8 y9
        obtain ⟨D, jt, hjt, hpath, hDle, hjlo, hjcov⟩ := HT.out.find_root h6 key L hlt
        have HX := Lib.hid (show x ≠ b ∧ x ≠ g ∧ w.heap.size ≤ x ∧ x ≠ r11 ∧ x ≠ r12 ∧ x ≠ rv ∧ x ≠ gv by have h1 := HR.out; have h2 := HRV.out; have h3 := HK2.out.size; have h4 := HK.out.size; omega)
        have HAT := Lib.hid (show WAt (fun _ => False) W4 F fb fd x 79 (tlF key L) (nxF key L) l (D + 1) (st L + jt) ⟨#[]⟩ from WAt.start hB4 HT.out.root hpath)
        have HM4 := Lib.hid (HM2.out.kept hK4 (fun h => h) (fun h => h))
        have HVX4 := Lib.hid (hK4.blk HVX2.out (fun h => h))
        have HBV4 := Lib.hid (hK4.blk HBV2.out (fun h => h))
        have HK4 := Lib.hid (HK2.out.trans hK4 (fun _ _ h => h.elim))
        have HJL := Lib.hid hjlo
        have HJC := Lib.hid hjcov
        have hV04 := HK4.out.size
        have hka1 : ka ≤ 111200 := by have : L * 1112 ≤ 100 * 1112 := Nat.mul_le_mul_right _ (by omega); omega
        clear hB4 hx4 hpath hjlo hjcov hK4 HM2 HVX2 HBV2 HK2 H12b
        go_wp2_with fail
        go_loopw [20] (fun kv wr => ∃ (k : Nat) (Z : Nat → Prop), k ≤ D ∧ kv = .int .i64 (k : Int) ∧ WAt Z wr F fb fd x 79 (tlF key L) (nxF key L) l (D + 1 - k) (st L + jt) ⟨#[]⟩ ∧ Mem wr b g l (ka + k) ∧ (∀ i, Z i → w.heap.size ≤ i ∧ i ≠ b ∧ i ≠ g ∧ i ≠ r11 ∧ i ≠ r12 ∧ i ≠ rv ∧ i ≠ gv) ∧ Kept (fun i => w.heap.size ≤ i ∧ i ≠ r11 ∧ i ≠ r12 ∧ i ≠ rv ∧ i ≠ gv) W4 wr) (fun kv _ => D - (intOf kv).toNat)
        case atStart => exact ⟨0, _, by omega, rfl, HAT.out, HM4.out, fun i h => h.elim, Kept.refl _ _⟩
        case round =>
          obtain ⟨k, Z, hk, rfl, hA, hM, hZ, hK5⟩ := hrel
          have HAr := Lib.hid hA
          have HMr := Lib.hid hM
          have HZ := Lib.hid hZ
          have HKr := Lib.hid hK5
          have hbl := hM.obj.lt
          have hgl := hM.row.lt
          have hk20 : (k : Int) < 5000 := by omega
          clear hA hM hZ hK5
          obtain ⟨d, hd⟩ : ∃ d, D + 1 - k = d + 1 := ⟨D - k, by omega⟩
          have HST := Lib.hid (find_step F h4 h6 fb fd HD.out Z x key L d (st L + jt) ⟨#[]⟩ wr b g l (ka + k) HMr.out (by omega) (fun h => (HZ.out b h).2.1 rfl) (fun h => (HZ.out g h).2.2.1 rfl) HX.out.1 HX.out.2.1 HNAT.out (by rw [← hd]; exact HAr.out))
          go_wp2_with fail
          refine HST.out.mono ?_; rintro e w5 ⟨rfl, hM5, Z5, hA5, hK5, hn5⟩
          have HA5 := Lib.hid hA5
          have HM5 := Lib.hid hM5
          have HZ5 := Lib.hid (show ∀ i, Z5 i → w.heap.size ≤ i ∧ i ≠ b ∧ i ≠ g ∧ i ≠ r11 ∧ i ≠ r12 ∧ i ≠ rv ∧ i ≠ gv from fun i hi => by
            rcases hn5 i hi with h | h
            · exact HZ.out i h
            · have h1 := HKr.out.size
              have h2 := HR.out
              have h3 := HK.out.size
              have h4 := HRV.out
              omega)
          have HK5 := Lib.hid (show Kept (fun i => w.heap.size ≤ i ∧ i ≠ r11 ∧ i ≠ r12 ∧ i ≠ rv ∧ i ≠ gv) W4 w5 from HKr.out.trans hK5 (fun i hi h => by
            have h1 := HX.out
            have h2 := HR.out
            have h3 := HRV.out
            rcases h with h | h | h | h
            · omega
            · have := HZ.out i h; omega
            · omega
            · omega))
          clear hA5 hM5 hK5 hn5 HST HAr HMr HZ HKr
          by_cases hd0 : d = 0
          · have e0 : (d == 0) = true := by simp [hd0]
            have hkD : k = D := by omega
            have HFN := Lib.hid (find_node F fb fd Z5 x key L l (st L + jt) ⟨#[]⟩ w5 (by have := (HT.out.lev L hlt).s1; omega) h6 (by have := HA5.out; rwa [hd0] at this))
            have hkDl : k ≤ D := by omega
            clear hd0 hkD hd
            go_wp2_with fail
            refine HFN.out.mono ?_; rintro e w6 ⟨P, A6, c6, hP, rfl, hR6, -, hK6⟩
            obtain rfl : P = pg L jt := hP.inj ((HT.out.lev L hlt).nd jt hjt)
            have hPl := (HT.out.lev L hlt).lv jt hjt
            rw [hPl]
            obtain ⟨tn, htn⟩ : ∃ tn, st L + jt = tn := ⟨_, rfl⟩
            rw [htn]
            have htn0 : ((tn : Int) == 0) = false := beq_false_of_ne (by have := (HT.out.lev L hlt).s1; omega)
            obtain ⟨la2, hla2⟩ : ∃ x, (pg L jt).la = x := ⟨_, rfl⟩
            obtain ⟨hi2, hhi2⟩ : ∃ x, (pg L jt).hi = x := ⟨_, rfl⟩
            obtain ⟨xl, hxl⟩ : ∃ x, (pg L jt).xs.length = x := ⟨_, rfl⟩
            obtain ⟨rt2, hrt2⟩ : ∃ x, (pg L jt).rt = x := ⟨_, rfl⟩
            rw [hla2, hhi2, hxl, hrt2]
            have HLA2 := Lib.hid hla2
            have HHI2 := Lib.hid hhi2
            have HM6 := Lib.hid (HM5.out.kept hK6 (fun h => h) (fun h => h))
            have HK6 := Lib.hid (HK5.out.trans hK6 (fun _ _ h => h.elim))
            have hs6 := hK6.size
            clear hP hR6 hK6 hPl htn hla2 hhi2 hxl hrt2 HFN HA5 HM5 HK5 HZ5 e0
            -- the check of the page
            have HNEXT : Hid (∀ W', Kept (fun _ => False) w6 W' → Mem W' b g l (ka + (k + 1)) ∧ Kept (fun i => w.heap.size ≤ i ∧ i ≠ r11 ∧ i ≠ r12 ∧ i ≠ rv ∧ i ≠ gv) V0 W') := Lib.hid fun W' hW => ⟨HM6.out.kept hW (fun h => h) (fun h => h), (HK4.out.trans HK6.out (fun i _ h => h)).trans hW (fun _ _ h => h.elim)⟩
            have hka2 : ka + (k + 1) ≤ (L + 1) * 1112 := by rw [Nat.succ_mul]; omega
            have HREL := Lib.hid (show ∀ L', L + 1 = L' + 1 → ∃ j, j < mm L' ∧ kl key (lo L' j) = false ∧ la2 = (pg L' j).la ∧ hi2 = (pg L' j).hi from fun L' e => by
              obtain rfl : L = L' := by omega
              exact ⟨jt, hjt, HJL.out, HLA2.out.symm, HHI2.out.symm⟩)
            have hL1000 : L ≤ 1000 := by omega
            cases la2 with
            | true =>
              by_cases hL0 : L = 0
              · have hL0' : ¬ (0 : Int) < (L : Int) := by omega
                clear hL0
                go_upto_region 16 with fail
                have hal := (Kept.refl (fun _ => False) w6).alloc (.cells #[.int .i64 (L : Int), .slice A6 xl c6, .string hi2, .bool true, .int .u64 (rt2 : Int)] 43)
                have HPG := Lib.hid (Blk.new w6 [.int .i64 (L : Int), .slice A6 xl c6, .string hi2, .bool true, .int .u64 (rt2 : Int)] 43)
                have HKP := Lib.hid hal
                clear hal
                generalize w6.heap.size = rp at HPG ⊢
                generalize w6.alloc (.cells #[.int .i64 (L : Int), .slice A6 xl c6, .string hi2, .bool true, .int .u64 (rt2 : Int)] 43) = V7 at *
                refine qregion (fun w' => Kept (fun _ => False) V7 w') (by kernel_rfl) (by kernel_rfl) (Kept.refl _ _).drew ?_
                refine qstep (o := ⟨some 114, _, _, _, _, _⟩) (v := ?_) (by rfl) (fun wq hSw => ?_) ?_
                rotate_left
                · (go_simp; try with_reducible rfl)
                try simp only [Act.put, List.setIfInBounds_toArray, List.set_cons_zero, List.set_cons_succ]
                refine qstep (o := ⟨some 115, _, _, _, _, _⟩) (v := ?_) (by rfl) (fun wq hSw => ?_) ?_
                rotate_left
                · (have hb9 := hSw.blk HPG.out (fun h => h); have x2 := hb9.cell (i := 2) rfl; have x3 := hb9.cell (i := 3) rfl; clear hb9; go_simp; try with_reducible rfl)
                try simp only [Act.put, List.setIfInBounds_toArray, List.set_cons_zero, List.set_cons_succ]
                refine qstep (o := ⟨some 116, _, _, _, _, _⟩) (v := ?_) (by rfl) (fun wq hSw => ?_) ?_
                rotate_left
                · (go_simp; try with_reducible rfl)
                try simp only [Act.put, List.setIfInBounds_toArray, List.set_cons_zero, List.set_cons_succ]
                refine qstep (o := ⟨some 117, _, _, _, _, _⟩) (v := ?_) (by rfl) (fun wq hSw => ?_) ?_
                rotate_left
                · (have hb9 := hSw.blk HPG.out (fun h => h); have x2 := hb9.cell (i := 2) rfl; have x3 := hb9.cell (i := 3) rfl; clear hb9; go_simp; try with_reducible rfl)
                try simp only [Act.put, List.setIfInBounds_toArray, List.set_cons_zero, List.set_cons_succ]
                refine qstep (o := ⟨some 16, _, _, _, _, _⟩) (v := ?_) (by rfl) (fun wq hSw => ?_) ?_
                rotate_left
                · (go_simp; try with_reducible rfl)
                try simp only [Act.put, List.setIfInBounds_toArray, List.set_cons_zero, List.set_cons_succ]
                refine qstep (o := ⟨some 17, _, _, _, _, _⟩) (v := ?_) (by rfl) (fun wq hSw => ?_) ?_
                rotate_left
                · (go_simp; try with_reducible rfl)
                try simp only [Act.put, List.setIfInBounds_toArray, List.set_cons_zero, List.set_cons_succ]
                refine wpQuiet_nil ?_
                intro wz hHeld
                obtain ⟨hM8, hK8⟩ := HNEXT.out wz (HKP.out.trans hHeld (fun _ _ h => h))
                have HM8 := Lib.hid hM8
                have HK8 := Lib.hid hK8
                clear hM8 hK8 hHeld HPG HKP HNEXT
                go_wp2
                go_roundw
                case rel => exact ⟨L + 1, ka + (k + 1), true, hi2, by omega, by go_num, rfl, rfl, hka2, HREL.out, HM8.out, HK8.out⟩
                case measure => simp [intOf]; omega
              · have hL0' : (0 : Int) < (L : Int) := by omega
                clear hL0
                go_upto_region 16 with fail
                have hal := (Kept.refl (fun _ => False) w6).alloc (.cells #[.int .i64 (L : Int), .slice A6 xl c6, .string hi2, .bool true, .int .u64 (rt2 : Int)] 43)
                have HPG := Lib.hid (Blk.new w6 [.int .i64 (L : Int), .slice A6 xl c6, .string hi2, .bool true, .int .u64 (rt2 : Int)] 43)
                have HKP := Lib.hid hal
                clear hal
                generalize w6.heap.size = rp at HPG ⊢
                generalize w6.alloc (.cells #[.int .i64 (L : Int), .slice A6 xl c6, .string hi2, .bool true, .int .u64 (rt2 : Int)] 43) = V7 at *
                refine qregion (fun w' => Kept (fun _ => False) V7 w') (by kernel_rfl) (by kernel_rfl) (Kept.refl _ _).drew ?_
                refine qstep (o := ⟨some 114, _, _, _, _, _⟩) (v := ?_) (by rfl) (fun wq hSw => ?_) ?_
                rotate_left
                · (go_simp; try with_reducible rfl)
                try simp only [Act.put, List.setIfInBounds_toArray, List.set_cons_zero, List.set_cons_succ]
                refine qstep (o := ⟨some 115, _, _, _, _, _⟩) (v := ?_) (by rfl) (fun wq hSw => ?_) ?_
                rotate_left
                · (have hb9 := hSw.blk HPG.out (fun h => h); have x2 := hb9.cell (i := 2) rfl; have x3 := hb9.cell (i := 3) rfl; clear hb9; go_simp; try with_reducible rfl)
                try simp only [Act.put, List.setIfInBounds_toArray, List.set_cons_zero, List.set_cons_succ]
                refine qstep (o := ⟨some 116, _, _, _, _, _⟩) (v := ?_) (by rfl) (fun wq hSw => ?_) ?_
                rotate_left
                · (go_simp; try with_reducible rfl)
                try simp only [Act.put, List.setIfInBounds_toArray, List.set_cons_zero, List.set_cons_succ]
                refine qstep (o := ⟨some 117, _, _, _, _, _⟩) (v := ?_) (by rfl) (fun wq hSw => ?_) ?_
                rotate_left
                · (have hb9 := hSw.blk HPG.out (fun h => h); have x2 := hb9.cell (i := 2) rfl; have x3 := hb9.cell (i := 3) rfl; clear hb9; go_simp; try with_reducible rfl)
                try simp only [Act.put, List.setIfInBounds_toArray, List.set_cons_zero, List.set_cons_succ]
                refine qstep (o := ⟨some 16, _, _, _, _, _⟩) (v := ?_) (by rfl) (fun wq hSw => ?_) ?_
                rotate_left
                · (go_simp; try with_reducible rfl)
                try simp only [Act.put, List.setIfInBounds_toArray, List.set_cons_zero, List.set_cons_succ]
                refine qstep (o := ⟨some 17, _, _, _, _, _⟩) (v := ?_) (by rfl) (fun wq hSw => ?_) ?_
                rotate_left
                · (go_simp; try with_reducible rfl)
                try simp only [Act.put, List.setIfInBounds_toArray, List.set_cons_zero, List.set_cons_succ]
                refine wpQuiet_nil ?_
                intro wz hHeld
                obtain ⟨hM8, hK8⟩ := HNEXT.out wz (HKP.out.trans hHeld (fun _ _ h => h))
                have HM8 := Lib.hid hM8
                have HK8 := Lib.hid hK8
                clear hM8 hK8 hHeld HPG HKP HNEXT
                go_wp2
                go_roundw
                case rel => exact ⟨L + 1, ka + (k + 1), true, hi2, by omega, by go_num, rfl, rfl, hka2, HREL.out, HM8.out, HK8.out⟩
                case measure => simp [intOf]; omega
            | false =>
              have hless : Op.bytesLess key.toList hi2.toList = true := by
                have := HJC.out
                unfold cov at this
                rw [HLA2.out, HHI2.out, Bool.false_or] at this
                rw [bytesLess_ltB]; exact this
              by_cases hL0 : L = 0
              · have hL0' : ¬ (0 : Int) < (L : Int) := by omega
                clear hL0
                go_upto_region 16 with fail
                have hal := (Kept.refl (fun _ => False) w6).alloc (.cells #[.int .i64 (L : Int), .slice A6 xl c6, .string hi2, .bool false, .int .u64 (rt2 : Int)] 43)
                have HPG := Lib.hid (Blk.new w6 [.int .i64 (L : Int), .slice A6 xl c6, .string hi2, .bool false, .int .u64 (rt2 : Int)] 43)
                have HKP := Lib.hid hal
                clear hal
                generalize w6.heap.size = rp at HPG ⊢
                generalize w6.alloc (.cells #[.int .i64 (L : Int), .slice A6 xl c6, .string hi2, .bool false, .int .u64 (rt2 : Int)] 43) = V7 at *
                refine qregion (fun w' => Kept (fun _ => False) V7 w') (by kernel_rfl) (by kernel_rfl) (Kept.refl _ _).drew ?_
                refine qstep (o := ⟨some 114, _, _, _, _, _⟩) (v := ?_) (by rfl) (fun wq hSw => ?_) ?_
                rotate_left
                · (go_simp; try with_reducible rfl)
                try simp only [Act.put, List.setIfInBounds_toArray, List.set_cons_zero, List.set_cons_succ]
                refine qstep (o := ⟨some 115, _, _, _, _, _⟩) (v := ?_) (by rfl) (fun wq hSw => ?_) ?_
                rotate_left
                · (have hb9 := hSw.blk HPG.out (fun h => h); have x2 := hb9.cell (i := 2) rfl; have x3 := hb9.cell (i := 3) rfl; clear hb9; go_simp; try with_reducible rfl)
                try simp only [Act.put, List.setIfInBounds_toArray, List.set_cons_zero, List.set_cons_succ]
                refine qstep (o := ⟨some 116, _, _, _, _, _⟩) (v := ?_) (by rfl) (fun wq hSw => ?_) ?_
                rotate_left
                · (go_simp; try with_reducible rfl)
                try simp only [Act.put, List.setIfInBounds_toArray, List.set_cons_zero, List.set_cons_succ]
                refine qstep (o := ⟨some 117, _, _, _, _, _⟩) (v := ?_) (by rfl) (fun wq hSw => ?_) ?_
                rotate_left
                · (have hb9 := hSw.blk HPG.out (fun h => h); have x2 := hb9.cell (i := 2) rfl; have x3 := hb9.cell (i := 3) rfl; clear hb9; go_simp; try with_reducible rfl)
                try simp only [Act.put, List.setIfInBounds_toArray, List.set_cons_zero, List.set_cons_succ]
                refine qstep (o := ⟨some 16, _, _, _, _, _⟩) (v := ?_) (by rfl) (fun wq hSw => ?_) ?_
                rotate_left
                · (go_simp; try with_reducible rfl)
                try simp only [Act.put, List.setIfInBounds_toArray, List.set_cons_zero, List.set_cons_succ]
                refine qstep (o := ⟨some 17, _, _, _, _, _⟩) (v := ?_) (by rfl) (fun wq hSw => ?_) ?_
                rotate_left
                · (go_simp; try with_reducible rfl)
                try simp only [Act.put, List.setIfInBounds_toArray, List.set_cons_zero, List.set_cons_succ]
                refine wpQuiet_nil ?_
                intro wz hHeld
                obtain ⟨hM8, hK8⟩ := HNEXT.out wz (HKP.out.trans hHeld (fun _ _ h => h))
                have HM8 := Lib.hid hM8
                have HK8 := Lib.hid hK8
                clear hM8 hK8 hHeld HPG HKP HNEXT
                go_wp2
                go_roundw
                case rel => exact ⟨L + 1, ka + (k + 1), false, hi2, by omega, by go_num, rfl, rfl, hka2, HREL.out, HM8.out, HK8.out⟩
                case measure => simp [intOf]; omega
              · have hL0' : (0 : Int) < (L : Int) := by omega
                obtain ⟨L', hL'⟩ : ∃ L', L = L' + 1 := ⟨L - 1, by omega⟩
                obtain ⟨j, hj, hjl, rfl, rfl⟩ := HPR.out L' hL'
                have hne : (pg L' j).la = false ∧ kl hi2 (pg L' j).hi = false := by
                  have h1 := HJL.out; have h2 := HJC.out; have h3 := HLA2.out; have h4 := HHI2.out; have h5 := hjt; have h6' := hlt
                  rw [hL'] at h1 h2 h3 h4 h5 h6'
                  have := HT.out.nested h6' h5 hj h1 h2 hjl h3
                  rw [h4] at this; exact this
                rw [hne.1]
                obtain ⟨hi3, hhi3⟩ : ∃ x, (pg L' j).hi = x := ⟨_, rfl⟩
                rw [hhi3]
                have hcmp : Op.bytesLess hi3.toList hi2.toList = true ∨ (hi3.toList == hi2.toList) = true := by
                  have h1 : ltB hi2.toList hi3.toList = false := by have := hne.2; rw [hhi3] at this; exact this
                  rw [bytesLess_ltB]
                  cases h2 : ltB hi3.toList hi2.toList
                  · right; rw [ltB_tri _ _ h2 h1]; simp
                  · left; rfl
                clear hL0 hL' hne hhi3 hjl
                rcases hcmp with hcmp | hcmp
                · go_upto_region 16 with fail
                  have hal := (Kept.refl (fun _ => False) w6).alloc (.cells #[.int .i64 (L : Int), .slice A6 xl c6, .string hi2, .bool false, .int .u64 (rt2 : Int)] 43)
                  have HPG := Lib.hid (Blk.new w6 [.int .i64 (L : Int), .slice A6 xl c6, .string hi2, .bool false, .int .u64 (rt2 : Int)] 43)
                  have HKP := Lib.hid hal
                  clear hal
                  generalize w6.heap.size = rp at HPG ⊢
                  generalize w6.alloc (.cells #[.int .i64 (L : Int), .slice A6 xl c6, .string hi2, .bool false, .int .u64 (rt2 : Int)] 43) = V7 at *
                  refine qregion (fun w' => Kept (fun _ => False) V7 w') (by kernel_rfl) (by kernel_rfl) (Kept.refl _ _).drew ?_
                  refine qstep (o := ⟨some 114, _, _, _, _, _⟩) (v := ?_) (by rfl) (fun wq hSw => ?_) ?_
                  rotate_left
                  · (go_simp; try with_reducible rfl)
                  try simp only [Act.put, List.setIfInBounds_toArray, List.set_cons_zero, List.set_cons_succ]
                  refine qstep (o := ⟨some 115, _, _, _, _, _⟩) (v := ?_) (by rfl) (fun wq hSw => ?_) ?_
                  rotate_left
                  · (have hb9 := hSw.blk HPG.out (fun h => h); have x2 := hb9.cell (i := 2) rfl; have x3 := hb9.cell (i := 3) rfl; clear hb9; go_simp; try with_reducible rfl)
                  try simp only [Act.put, List.setIfInBounds_toArray, List.set_cons_zero, List.set_cons_succ]
                  refine qstep (o := ⟨some 116, _, _, _, _, _⟩) (v := ?_) (by rfl) (fun wq hSw => ?_) ?_
                  rotate_left
                  · (go_simp; try with_reducible rfl)
                  try simp only [Act.put, List.setIfInBounds_toArray, List.set_cons_zero, List.set_cons_succ]
                  refine qstep (o := ⟨some 117, _, _, _, _, _⟩) (v := ?_) (by rfl) (fun wq hSw => ?_) ?_
                  rotate_left
                  · (have hb9 := hSw.blk HPG.out (fun h => h); have x2 := hb9.cell (i := 2) rfl; have x3 := hb9.cell (i := 3) rfl; clear hb9; go_simp; try with_reducible rfl)
                  try simp only [Act.put, List.setIfInBounds_toArray, List.set_cons_zero, List.set_cons_succ]
                  refine qstep (o := ⟨some 16, _, _, _, _, _⟩) (v := ?_) (by rfl) (fun wq hSw => ?_) ?_
                  rotate_left
                  · (go_simp; try with_reducible rfl)
                  try simp only [Act.put, List.setIfInBounds_toArray, List.set_cons_zero, List.set_cons_succ]
                  refine qstep (o := ⟨some 17, _, _, _, _, _⟩) (v := ?_) (by rfl) (fun wq hSw => ?_) ?_
                  rotate_left
                  · (go_simp; try with_reducible rfl)
                  try simp only [Act.put, List.setIfInBounds_toArray, List.set_cons_zero, List.set_cons_succ]
                  refine wpQuiet_nil ?_
                  intro wz hHeld
                  obtain ⟨hM8, hK8⟩ := HNEXT.out wz (HKP.out.trans hHeld (fun _ _ h => h))
                  have HM8 := Lib.hid hM8
                  have HK8 := Lib.hid hK8
                  clear hM8 hK8 hHeld HPG HKP HNEXT
                  go_wp2
                  go_roundw
                  case rel => exact ⟨L + 1, ka + (k + 1), false, hi2, by omega, by go_num, rfl, rfl, hka2, HREL.out, HM8.out, HK8.out⟩
                  case measure => simp [intOf]; omega
                · go_upto_region 16 with fail
                  have hal := (Kept.refl (fun _ => False) w6).alloc (.cells #[.int .i64 (L : Int), .slice A6 xl c6, .string hi2, .bool false, .int .u64 (rt2 : Int)] 43)
                  have HPG := Lib.hid (Blk.new w6 [.int .i64 (L : Int), .slice A6 xl c6, .string hi2, .bool false, .int .u64 (rt2 : Int)] 43)
                  have HKP := Lib.hid hal
                  clear hal
                  generalize w6.heap.size = rp at HPG ⊢
                  generalize w6.alloc (.cells #[.int .i64 (L : Int), .slice A6 xl c6, .string hi2, .bool false, .int .u64 (rt2 : Int)] 43) = V7 at *
                  refine qregion (fun w' => Kept (fun _ => False) V7 w') (by kernel_rfl) (by kernel_rfl) (Kept.refl _ _).drew ?_
                  refine qstep (o := ⟨some 114, _, _, _, _, _⟩) (v := ?_) (by rfl) (fun wq hSw => ?_) ?_
                  rotate_left
                  · (go_simp; try with_reducible rfl)
                  try simp only [Act.put, List.setIfInBounds_toArray, List.set_cons_zero, List.set_cons_succ]
                  refine qstep (o := ⟨some 115, _, _, _, _, _⟩) (v := ?_) (by rfl) (fun wq hSw => ?_) ?_
                  rotate_left
                  · (have hb9 := hSw.blk HPG.out (fun h => h); have x2 := hb9.cell (i := 2) rfl; have x3 := hb9.cell (i := 3) rfl; clear hb9; go_simp; try with_reducible rfl)
                  try simp only [Act.put, List.setIfInBounds_toArray, List.set_cons_zero, List.set_cons_succ]
                  refine qstep (o := ⟨some 116, _, _, _, _, _⟩) (v := ?_) (by rfl) (fun wq hSw => ?_) ?_
                  rotate_left
                  · (go_simp; try with_reducible rfl)
                  try simp only [Act.put, List.setIfInBounds_toArray, List.set_cons_zero, List.set_cons_succ]
                  refine qstep (o := ⟨some 117, _, _, _, _, _⟩) (v := ?_) (by rfl) (fun wq hSw => ?_) ?_
                  rotate_left
                  · (have hb9 := hSw.blk HPG.out (fun h => h); have x2 := hb9.cell (i := 2) rfl; have x3 := hb9.cell (i := 3) rfl; clear hb9; go_simp; try with_reducible rfl)
                  try simp only [Act.put, List.setIfInBounds_toArray, List.set_cons_zero, List.set_cons_succ]
                  refine qstep (o := ⟨some 16, _, _, _, _, _⟩) (v := ?_) (by rfl) (fun wq hSw => ?_) ?_
                  rotate_left
                  · (go_simp; try with_reducible rfl)
                  try simp only [Act.put, List.setIfInBounds_toArray, List.set_cons_zero, List.set_cons_succ]
                  refine qstep (o := ⟨some 17, _, _, _, _, _⟩) (v := ?_) (by rfl) (fun wq hSw => ?_) ?_
                  rotate_left
                  · (go_simp; try with_reducible rfl)
                  try simp only [Act.put, List.setIfInBounds_toArray, List.set_cons_zero, List.set_cons_succ]
                  refine wpQuiet_nil ?_
                  intro wz hHeld
                  obtain ⟨hM8, hK8⟩ := HNEXT.out wz (HKP.out.trans hHeld (fun _ _ h => h))
                  have HM8 := Lib.hid hM8
                  have HK8 := Lib.hid hK8
                  clear hM8 hK8 hHeld HPG HKP HNEXT
                  go_wp2
                  go_roundw
                  case rel => exact ⟨L + 1, ka + (k + 1), false, hi2, by omega, by go_num, rfl, rfl, hka2, HREL.out, HM8.out, HK8.out⟩
                  case measure => simp [intOf]; omega
          · have e0 : (d == 0) = false := by simp [hd0]
            have hd1 : 1 ≤ d := by omega
            have HDK := Lib.hid hd
            have hk4 : k + 1 ≤ D := by omega
            clear hd0 hd
            go_wp2
            go_roundw
            case rel => exact ⟨k + 1, Z5, hk4, by go_num, by have := HA5.out; have e := HDK.out; rwa [show d = D + 1 - (k + 1) by omega] at this, HM5.out, HZ5.out, HK5.out⟩
            case measure => simp [intOf]; omega
      · obtain hLe : L = H := by omega
        have hltI : ¬ (L : Int) < (H : Int) := by omega
        clear hLe h12b
        go_wp2
        go_ret
        refine ⟨rfl, ?_⟩
        have hKz := (HK.out.mono (T := fun i => w.heap.size ≤ i) (fun _ h => h.elim)).trans (HK2.out.mono (T := fun i => w.heap.size ≤ i) (fun i h => h.1)) (fun _ _ h => h)
        exact hKz.below (Nat.le_refl _) (fun _ h => h)

end Go.Proofs.Ytboieccjikcdiaa
