/-
  LeaflockLocks, walked. Condition: arguments within the model's reach.
-/
import Derived.Test.YtndadgenkmgmaaaGreatLkLaw0
import Derived.Test.YtndadgenkmgmaaaGreatLkAux
namespace Go.Proofs.YtndadgenkmgmaaaGreat
open Go.RowKit Go.Deep Plain
set_option linter.unusedVariables false

set_option maxRecDepth 100000 in
set_option maxHeartbeats 8000000 in
theorem lawLocks (w : World) (AR : Option Addr) (nR cR : Nat) (ss : List ByteArray) (hnR : ss.length = nR) (hrd : Rdv w w.heap.size (.slice AR nR cR) nR (ss.map Value.string)) (hsz : ∀ s ∈ ss, s.size ≤ maxLen) (f : Int) (sh : Int) (hs : 0 ≤ sh) (hide : Bool) (key : ByteArray) (hkey : key.size ≤ maxLen) (at' : Int) (lv' : Int) :
    Calls Tryz.prog 3 #[.slice AR nR cR, .int .i64 f, .int .u64 sh, .bool hide, .string key, .int .i64 at', .int .i64 lv'] w fun e w' => e = .returned (.bool true) ∧ Below w.heap.size w w' := by
  unfold maxLen at hkey
  obtain ⟨F, hF⟩ : ∃ F : Nat, 4 + f % 3 = (F : Int) := ⟨(4 + f % 3).toNat, by omega⟩
  have h4 : 4 ≤ F := by omega
  have h6 : F ≤ 6 := by omega
  have HF := Lib.hid hF
  have HRD := Lib.hid hrd
  have HSS := Lib.hid hsz
  clear hF hrd hsz
  go_enter Tryz.func3, Tryz.ntmps3
  go_wp2_with fail
  refine (kitConfig_any 1 f F HF.out _).mono ?_; rintro e w1 ⟨rfl, hK1⟩
  have HK := Lib.hid (hK1.mono (T := (fun i => w.heap.size ≤ i)) (fun _ h => h.elim))
  replace HRD := Lib.hid (HRD.out.keptN hK1 (Nat.le_refl _))
  have HW1 := Lib.hid HK.out.size
  clear hK1 HF
  go_wp2_with fail
  have hal := (Kept.refl (fun _ => False) w1).alloc (.cells #[.int .i64 1, .int .i64 2, .int .i64 100, .int .i64 100, .int .i64 200, .int .i64 (F : Int), .int .u64 1000] 25)
  have H11 := Lib.hid (Blk.new w1 [.int .i64 1, .int .i64 2, .int .i64 100, .int .i64 100, .int .i64 200, .int .i64 (F : Int), .int .u64 1000] 25)
  replace HRD := Lib.hid (HRD.out.keptN hal (Nat.le_refl _))
  replace HK := Lib.hid (HK.out.trans hal (fun _ _ h => h.elim))
  clear hal
  generalize hr11 : w1.heap.size = r11 at *
  generalize w1.alloc (.cells #[.int .i64 1, .int .i64 2, .int .i64 100, .int .i64 100, .int .i64 200, .int .i64 (F : Int), .int .u64 1000] 25) = W1 at *
  have HR11 := Lib.hid (show w.heap.size ≤ r11 ∧ r11 < W1.heap.size from ⟨HW1.out, H11.out.lt⟩)
  clear hr11
  refine (kitMem2 F h4 h6 _).mono ?_
  rintro e w2 ⟨b, g, l, fb, fd, rfl, hM2, hS2, hr2, hd, hb2, hg2, hK2⟩
  have HM := Lib.hid hM2
  have HS := Lib.hid hS2
  have HRT := Lib.hid hr2
  have HD := Lib.hid hd
  have HBG := Lib.hid (show r11 < b ∧ r11 < g ∧ b < w2.heap.size ∧ g < w2.heap.size by have h1 := HR11.out; have h2 := hM2.obj.lt; have h3 := hM2.row.lt; omega)
  replace HRD := Lib.hid (HRD.out.keptN hK2 (Nat.le_refl _))
  replace HK := Lib.hid (HK.out.trans hK2 (fun _ _ h => h.elim))
  replace H11 := Lib.hid (hK2.blk H11.out (fun h => h))
  clear hM2 hS2 hr2 hd hb2 hg2 hK2
  go_wp2_with fail
  have hal := (Kept.refl (fun _ => False) w2).alloc (.cells #[.int .i64 1, .int .i64 2, .int .i64 100, .int .i64 100, .int .i64 200, .int .i64 (F : Int), .int .u64 1000, .int .i64 10, .int .i64 fb, .int .i64 fd] 28)
  have H12 := Lib.hid (Blk.new w2 [.int .i64 1, .int .i64 2, .int .i64 100, .int .i64 100, .int .i64 200, .int .i64 (F : Int), .int .u64 1000, .int .i64 10, .int .i64 fb, .int .i64 fd] 28)
  replace HRD := Lib.hid (HRD.out.keptN hal (Nat.le_refl _))
  replace HK := Lib.hid (HK.out.trans hal (fun _ _ h => h.elim))
  replace H11 := Lib.hid (hal.blk H11.out (fun h => h))
  replace HM := Lib.hid (HM.out.kept hal (fun h => h) (fun h => h))
  clear hal
  generalize hr12 : w2.heap.size = r12 at *
  have HR := Lib.hid (show w.heap.size ≤ r11 ∧ r11 < b ∧ r11 < g ∧ b < r12 ∧ g < r12 by have h1 := HR11.out; have h2 := HBG.out; omega)
  clear hr12 HBG HR11
  generalize w2.alloc (.cells #[.int .i64 1, .int .i64 2, .int .i64 100, .int .i64 100, .int .i64 200, .int .i64 (F : Int), .int .u64 1000, .int .i64 10, .int .i64 fb, .int .i64 fd] 28) = W2 at *
  refine (awake_any _).mono ?_; rintro e w3 ⟨rfl, hKa⟩
  replace HRD := Lib.hid (HRD.out.keptN hKa (Nat.le_refl _))
  replace HK := Lib.hid (HK.out.trans hKa (fun _ _ h => h.elim))
  replace H11 := Lib.hid (hKa.blk H11.out (fun h => h))
  replace H12 := Lib.hid (hKa.blk H12.out (fun h => h))
  replace HM := Lib.hid (HM.out.kept hKa (fun h => h) (fun h => h))
  clear hKa
  by_cases hk100 : 100 < key.size
  · have d0 : (100 : Int) < (key.size : Int) := by omega
    go_wp2_with fail
    refine (awake_any _).mono ?_; rintro e w9 ⟨rfl, hKa⟩
    replace HK := Lib.hid (HK.out.trans hKa (fun _ _ h => h.elim))
    go_wp2
    go_ret
    exact ⟨rfl, HK.out.below (Nat.le_refl _) (fun _ h => h)⟩
  · have d0 : ¬ (100 : Int) < (key.size : Int) := by omega
    go_wp2_with fail
    refine (keys_any AR nR cR ss 40 _ hnR (by omega) HRD.out HSS.out).mono ?_; rintro e w5 ⟨vk, rfl, hO3, hB3⟩
    have HM0 := Lib.hid HM.out
    have hK3 := Below.kept hB3 (S := fun _ => False) (fun i hi h => by omega)
    replace HK := Lib.hid (HK.out.trans hK3 (fun _ _ h => h.elim))
    replace H11 := Lib.hid (hK3.blk H11.out (fun h => h))
    replace H12 := Lib.hid (hK3.blk H12.out (fun h => h))
    replace HM := Lib.hid (HM.out.kept hK3 (fun h => h) (fun h => h))
    obtain ⟨AK, cK, rfl, hKr, hAK⟩ := keys_read hO3
    obtain ⟨ks, hks⟩ : ∃ ks, keysOf ss = ks := ⟨_, rfl⟩
    have hks' : (PlainE.keysE (ss.take 40)).map (·.1) = ks := by rw [← hks]; rfl
    rw [hks'] at hKr
    rw [hks']
    obtain ⟨nk, hnk⟩ : ∃ nk, ks.length = nk := ⟨_, rfl⟩
    rw [hnk]
    have HKR := Lib.hid hKr
    have HAK := Lib.hid (show ∀ a, AK = some a → a.block ≠ b ∧ a.block ≠ g from fun a ha => by
      have h1 := hAK a ha
      have h2 := HM0.out.obj.lt
      have h3 := HM0.out.row.lt
      omega)
    have HKF := Lib.hid (show ks.length ≤ 40 ∧ ((∀ k ∈ ks, k.size ≤ 32) ∧ ∀ i a b, ks[i]? = some a → ks[i + 1]? = some b → kl a b = true) from by rw [← hks]; exact ⟨keysOf_len _, keysOf_facts _⟩)
    have HNK := Lib.hid hnk
    clear hO3 hB3 hK3 hKr hAK hks hks' hnk HRD HSS HM0
    have hx11 := H11.out
    have x0 := hx11.cell (i := 0) rfl
    have x1 := hx11.cell (i := 1) rfl
    have x2 := hx11.cell (i := 2) rfl
    have x3 := hx11.cell (i := 3) rfl
    have x4 := hx11.cell (i := 4) rfl
    have x5 := hx11.cell (i := 5) rfl
    have x6 := hx11.cell (i := 6) rfl
    clear hx11
    go_wp2_with fail
    refine (plant_any F h4 h6 b g l 0 AK nk cK ks sh hs hide _ HM.out HKR.out HNK.out HKF.out.1 HS.out.nats HS.out.lo (HS.out.latches h4 h6) HKF.out.2 (HS.out.rest)).mono ?_; rintro e w6 ⟨H, l2, rfl, hM4, hP4, hK4⟩
    obtain ⟨st, mm, lo, pg, off, hT, hLv, hs0, hFu, hNat, hlen, hRe, hLa, hHi⟩ := hP4
    have HLEN := Lib.hid (show l2.length ≤ 1048576 ∧ 10 + 100 * (F : Int) + 400 ≤ (l2.length : Int) from by rw [hlen]; exact ⟨HS.out.hi, HS.out.lo⟩)
    have nb : ∀ j, j ≠ b → j ≠ g → ¬ Own b g j := fun j h1 h2 e => by rcases e with e | e; exact h1 e; exact h2 e
    replace H11 := Lib.hid (hK4.blk H11.out (nb _ (by have := HR.out; omega) (by have := HR.out; omega)))
    replace H12 := Lib.hid (hK4.blk H12.out (nb _ (by have := HR.out; omega) (by have := HR.out; omega)))
    replace HKR := Lib.hid (HKR.out.kept hK4 (fun a ha => nb _ (HAK.out a ha).1 (HAK.out a ha).2))
    replace HK := Lib.hid (HK.out.trans hK4 (fun i hi e => by have h1 := HR.out; rcases e with e | e <;> omega))
    replace HM := Lib.hid hM4
    have HT := Lib.hid hT
    have HLV := Lib.hid hLv
    have HS0 := Lib.hid hs0
    have HNAT := Lib.hid hNat
    have HRE := Lib.hid hRe
    have HZ := Lib.hid hLa
    have HHI := Lib.hid hHi
    clear hM4 hT hLv hs0 hFu hNat hlen hRe hLa hHi hK4 nb x0 x1 x2 x3 x4 x5 x6
    go_upto_region 7 with fail
    go_cut [67] from 60 to 67 (fun v wx => ∃ e : Bool, v = .bool e ∧ (e = true → 0 < nk) ∧ wx = w6)
    case first =>
      by_cases hnk0 : 0 < nk
      · have d1 : (0 : Int) < (nk : Int) := by omega
        go_wp2
        go_meet
        exact ⟨_, rfl, fun _ => hnk0, rfl⟩
      · have d1 : ¬ (0 : Int) < (nk : Int) := by omega
        go_wp2
        go_meet
        exact ⟨false, rfl, (fun e => (by cases e)), rfl⟩
    case rest =>
      obtain ⟨ee, rfl, hee, rfl⟩ := hcut
      rename World => W3
      have HEE := Lib.hid hee
      clear hee
      go_upto_if 67 with fail
      go_cut [4] from 68 to 74 (fun v wx => ∃ k' : ByteArray, v = .string k' ∧ wx = W3)
      case first =>
        cases ee with
        | true =>
          have hnk0 := HEE.out rfl
          obtain ⟨r, hr⟩ : ∃ r : Nat, at' % (nk : Int) = (r : Int) := ⟨(at' % (nk : Int)).toNat, by have := Int.emod_nonneg at' (b := (nk : Int)) (by omega); omega⟩
          have hrl : r < nk := by have := Int.emod_lt_of_pos at' (b := (nk : Int)) (by omega); omega
          have HRM := Lib.hid hr
          clear hr
          obtain ⟨gk, ok, rfl, hgk, hkc⟩ := HKR.out (by rw [HNK.out]; exact hnk0)
          obtain ⟨k', hk'⟩ : ∃ k', ks[r]? = some k' := ⟨_, List.getElem?_eq_getElem (by rw [HNK.out]; exact hrl)⟩
          have hkc1 := hkc r k' hk'
          have hnk40 : nk ≤ 40 := by rw [← HNK.out]; exact HKF.out.1
          clear hkc hk'
          go_wp2_with fail
          refine (mod_of at' (nk : Int) r _ (by omega) (by omega) HRM.out).mono ?_; rintro e w9 ⟨rfl, rfl⟩
          go_wp2
          go_meet
          exact ⟨k', rfl, rfl⟩
        | false =>
          go_wp2
          go_meet
          exact ⟨key, rfl, rfl⟩
      case rest =>
        obtain ⟨key2, rfl, rfl⟩ := hcut
        rename World => W3
        clear HEE d0 hk100
        have h11 := H11.out
        have y0 := h11.cell (i := 0) rfl
        have y1 := h11.cell (i := 1) rfl
        have y2 := h11.cell (i := 2) rfl
        have y3 := h11.cell (i := 3) rfl
        have y4 := h11.cell (i := 4) rfl
        have y5 := h11.cell (i := 5) rfl
        have y6 := h11.cell (i := 6) rfl
        clear h11
        obtain ⟨nl, hnl⟩ : ∃ nl, l2.length = nl := ⟨_, rfl⟩
        have hnl20 : nl ≤ 1048576 := by rw [← hnl]; exact HLEN.out.1
        go_wp2_with fail
        refine (view_any F b g l2 0 nl hnl (by omega) _ HM.out).mono ?_; rintro e w7 ⟨gv, rfl, hBv, hgv, hKv⟩
        have HNL := Lib.hid hnl
        have HGV := Lib.hid (show r12 < gv by have := H12.out.lt; omega)
        have HBV := Lib.hid hBv
        replace HM := Lib.hid (HM.out.kept hKv (fun h => h) (fun h => h))
        replace H11 := Lib.hid (hKv.blk H11.out (fun h => h))
        replace H12 := Lib.hid (hKv.blk H12.out (fun h => h))
        replace HK := Lib.hid (HK.out.trans hKv (fun _ _ h => h.elim))
        clear hKv hBv hgv hnl y0 y1 y2 y3 y4 y5 y6
        go_wp2_with fail
        have HBV0 := Lib.hid (show gv < w7.heap.size from HBV.out.lt)
        have hal := (Kept.refl (fun _ => False) w7).alloc (.cells #[.int .i64 1, .int .i64 2, .int .i64 100, .int .i64 100, .int .i64 200, .int .i64 (F : Int), .int .u64 1000, .slice (some ⟨gv, 0, none⟩) nl nl] 38)
        have HVX := Lib.hid (Blk.new w7 [.int .i64 1, .int .i64 2, .int .i64 100, .int .i64 100, .int .i64 200, .int .i64 (F : Int), .int .u64 1000, .slice (some ⟨gv, 0, none⟩) nl nl] 38)
        replace HM := Lib.hid (HM.out.kept hal (fun h => h) (fun h => h))
        replace H11 := Lib.hid (hal.blk H11.out (fun h => h))
        replace H12 := Lib.hid (hal.blk H12.out (fun h => h))
        replace HK := Lib.hid (HK.out.trans hal (fun _ _ h => h.elim))
        replace HBV := Lib.hid (hal.blk HBV.out (fun h => h))
        clear hal
        have HRV := Lib.hid (show gv < w7.heap.size ∧ r12 < gv from ⟨HBV0.out, HGV.out⟩)
        generalize hrv : w7.heap.size = rv at *
        generalize w7.alloc (.cells #[.int .i64 1, .int .i64 2, .int .i64 100, .int .i64 100, .int .i64 200, .int .i64 (F : Int), .int .u64 1000, .slice (some ⟨gv, 0, none⟩) nl nl] 38) = V0 at *
        clear hrv HBV0
        have hr12v : r12 < V0.heap.size := H12.out.lt
        have hrvv : rv < V0.heap.size := HVX.out.lt
        have hvx := HVX.out
        have v0 := hvx.cell (i := 0) rfl
        have v1 := hvx.cell (i := 1) rfl
        have v2 := hvx.cell (i := 2) rfl
        have v3 := hvx.cell (i := 3) rfl
        have v4 := hvx.cell (i := 4) rfl
        have v5 := hvx.cell (i := 5) rfl
        have v6 := hvx.cell (i := 6) rfl
        have v7 := hvx.cell (i := 7) rfl
        clear hvx
        have V9 := HT.out.lev (H - 1) (by have := HT.out.H1; omega)
        have hone := HT.out.one
        have hnd := V9.nd 0 (by omega)
        rw [Nat.add_zero] at hnd
        have hlv := V9.lv 0 (by omega)
        have hall := HT.out.all (L := H - 1) (i := 0) (by have := HT.out.H1; omega) (by omega)
        have hH1 := HT.out.H1
        have hH100 := HT.out.H100
        have HND := Lib.hid hnd
        clear V9 hnd
        go_wp2_with fail
        refine (height_any F h4 h6 gv nl l2 HNL.out (st (H - 1)) 0 ⟨#[]⟩ (by omega) (by omega) (pg (H - 1) 0) HND.out.holds HND.out.wf HND.out.len (by omega) _ HBV.out HT.out.root).mono ?_; rintro e V2 ⟨rfl, hK2⟩
        have hHe : ((pg (H - 1) 0).lv : Int) + 1 = (H : Int) := by omega
        rw [hHe]
        replace HM := Lib.hid (HM.out.kept hK2 (fun h => h) (fun h => h))
        replace H11 := Lib.hid (hK2.blk H11.out (fun h => h))
        replace H12 := Lib.hid (hK2.blk H12.out (fun h => h))
        replace HK := Lib.hid (HK.out.trans hK2 (fun _ _ h => h.elim))
        replace HVX := Lib.hid (hK2.blk HVX.out (fun h => h))
        replace HBV := Lib.hid (hK2.blk HBV.out (fun h => h))
        clear hK2
        clear v0 v1 v2 v3 v4 v5 v6 v7 hHe hlv hone hall
        obtain ⟨h1, hh1⟩ : ∃ h1, H + 1 = h1 := ⟨_, rfl⟩
        have e7 : (H : Int) + 1 = (h1 : Int) := by omega
        have wh1 : IntKind.i64.wrap (h1 : Int) = (h1 : Int) := by rw [IntKind.wrap_i64]; omega
        obtain ⟨lvl, hlvl⟩ : ∃ r : Nat, lv' % (h1 : Int) = (r : Int) := ⟨(lv' % (h1 : Int)).toNat, by have := Int.emod_nonneg lv' (b := (h1 : Int)) (by omega); omega⟩
        have hlH : lvl ≤ H := by have := Int.emod_lt_of_pos lv' (b := (h1 : Int)) (by omega); omega
        have HLV' := Lib.hid hlvl
        have hh1p : (0 : Int) < (h1 : Int) ∧ (h1 : Int) ≤ 9223372036854775807 := by omega
        clear hlvl hh1
        have h12 := H12.out
        have y0 := h12.cell (i := 0) rfl
        have y1 := h12.cell (i := 1) rfl
        have y2 := h12.cell (i := 2) rfl
        have y3 := h12.cell (i := 3) rfl
        have y4 := h12.cell (i := 4) rfl
        have y5 := h12.cell (i := 5) rfl
        have y6 := h12.cell (i := 6) rfl
        have y7 := h12.cell (i := 7) rfl
        have y8 := h12.cell (i := 8) rfl
        have y9 := h12.cell (i := 9) rfl
        clear h12
        go_wp2_with fail
        refine (mod_of lv' (h1 : Int) lvl _ hh1p.1 hh1p.2 HLV'.out).mono ?_; rintro e w9 ⟨rfl, rfl⟩
        go_wp2_with fail
        refine (newLock_at F fb fd key2 lvl _).mono ?_; rintro e W4 ⟨x, Z0, rfl, hA0, hZ0, hK4⟩
        clear y0 y1 y2 y3 y4 y5 y6 y7 y8 y9 e7 wh1 hh1p
        obtain ⟨D, t, P, hpath, hDle, hin, hno, hT9⟩ : ∃ D t P, WPath F l2 (nxF key2 lvl) (st (H - 1)) (pg (H - 1) 0) ⟨#[]⟩ D t ⟨#[]⟩ ∧ D ≤ 1111 ∧ (lvl < H → ∃ jt, jt < mm lvl ∧ t = st lvl + jt ∧ P = pg lvl jt ∧ kl key2 (lo lvl jt) = false ∧ cov (pg lvl jt) key2 = true) ∧ (¬ lvl < H → t = 0) ∧ (t ≠ 0 → Tgt F key2 l2 t P) := by
          by_cases hlt : lvl < H
          · obtain ⟨D, jt, hjt, hpath, hDle, hjlo, hjcov⟩ := HT.out.find_root h6 key2 lvl hlt
            have hV := HT.out.lev lvl hlt
            have ha := HT.out.all hlt hjt
            exact ⟨D, _, pg lvl jt, hpath, hDle, fun _ => ⟨jt, hjt, rfl, rfl, hjlo, hjcov⟩, fun h => absurd hlt h, fun _ => ⟨hV.nd jt hjt, by omega, by omega, hjcov⟩⟩
          · obtain ⟨D, hpath, hDle⟩ := HT.out.find_none h6 key2 lvl (by omega)
            exact ⟨D, 0, pg0, hpath, hDle, fun h => absurd h hlt, fun _ => rfl, fun h => absurd rfl h⟩
        have HTG := Lib.hid hT9
        have HA0 := Lib.hid hA0
        have HZ0 := Lib.hid (show ∀ i, Z0 i → w.heap.size ≤ i ∧ i ≠ b ∧ i ≠ g ∧ i ≠ r11 ∧ i ≠ r12 ∧ i ≠ rv ∧ i ≠ gv from fun i hi => by have h0 := hZ0 i hi; have h1 := HR.out; have h2 := HRV.out; have h3 := H12.out.lt; have h4 := HK.out.size; have h5 := HVX.out.lt; have h6 := HBV.out.lt; omega)
        have HZL0 := Lib.hid (fun i hi => (hZ0 i hi).2)
        have HWAY0 := Lib.hid (show Way F key2 lvl l2 t P (19 + D) (.fnd .root) l2 from by
          have hr : FW F key2 lvl l2 (D + 1) t .root := .root HT.out.root hpath
          by_cases ht : t = 0
          · exact .inr ⟨ht, rfl, .inl ⟨D, _, rfl, by rw [ht] at hr; exact hr, rfl⟩⟩
          · refine .inl ⟨ht, .fnd hr hDle, ?_⟩
            have e : (fun n => decide (n = t) && decide (19 + D < 17)) = (fun _ : Nat => false) := by funext n; simp; omega
            rw [e]; exact Lks.start h4 HZ.out HNAT.out)
        have HIN := Lib.hid hin
        have HNO := Lib.hid hno
        replace HM := Lib.hid (HM.out.kept hK4 (fun h => h) (fun h => h))
        replace H11 := Lib.hid (hK4.blk H11.out (fun h => h))
        replace H12 := Lib.hid (hK4.blk H12.out (fun h => h))
        replace HK := Lib.hid (HK.out.trans hK4 (fun _ _ h => h.elim))
        replace HVX := Lib.hid (hK4.blk HVX.out (fun h => h))
        replace HBV := Lib.hid (hK4.blk HBV.out (fun h => h))
        have HSV4 := Lib.hid hK4.size
        clear hK4 hA0 hZ0 hpath hin hno hT9
        go_wp2_with fail
        go_loopw [21] (fun kv wr => ∃ (k m : Nat) (s : Ls) (l' : List Cel) (Z : Nat → Prop), k + m ≤ 1130 ∧ kv = .int .i64 ((k + 1 : Nat) : Int) ∧ s.fin = false ∧ Way F key2 lvl l2 t P m s l' ∧ LAt Z wr F fb fd x key2 lvl s ∧ Mem wr b g l' k ∧ (∀ i, Z i → w.heap.size ≤ i ∧ i ≠ b ∧ i ≠ g ∧ i ≠ r11 ∧ i ≠ r12 ∧ i ≠ rv ∧ i ≠ gv) ∧ (∀ i, Z i → i < wr.heap.size) ∧ Kept (fun i => w.heap.size ≤ i ∧ i ≠ r11 ∧ i ≠ r12 ∧ i ≠ rv ∧ i ≠ gv) W4 wr) (fun kv _ => 1132 - (intOf kv).toNat)
        case atStart => exact ⟨0, _, _, _, _, by omega, rfl, rfl, HWAY0.out, HA0.out, HM.out, HZ0.out, HZL0.out, Kept.refl _ _⟩
        case round =>
          obtain ⟨k, m, s, l', Z, hkm, rfl, hfin, hWay, hA, hM, hZ, hZl, hKr⟩ := hrel
          obtain ⟨hok, hnats, hm4, m', hm', hWay'⟩ := hWay.step h4 h6 HZ.out HNAT.out HLEN.out.2 HTG.out hfin
          obtain ⟨k1, hk1⟩ : ∃ k1, k + 1 = k1 := ⟨_, rfl⟩
          rw [hk1]
          have hk63 : k < 9223372036854775808 := by omega
          have HST := Lib.hid (lock_go F h4 h6 fb fd HD.out Z x key2 lvl s wr b g l' k hM hk63 (fun h => (hZ b h).2.1 rfl) (fun h => (hZ g h).2.2.1 rfl) hnats hok hA)
          have HZr := Lib.hid hZ
          have HZl := Lib.hid hZl
          have HKr := Lib.hid hKr
          have HWAY := Lib.hid hWay'
          have HFIN := Lib.hid hfin
          have hkm' : k1 + m' ≤ 1130 := by omega
          have hk20 : (k1 : Int) < 5000 := by omega
          have HK1 := Lib.hid hk1
          clear hWay hA hM hZ hZl hKr hok hnats hWay' hfin hk1
          go_wp2_with fail
          refine HST.out.mono ?_; rintro e w8 ⟨rfl, hM5, hA5, hK5⟩
          rw [HFIN.out] at hM5
          have HM5 := Lib.hid (show Mem w8 b g (lmem F l' s) k1 from by rw [← HK1.out]; exact hM5)
          have HA5 := Lib.hid hA5
          have HZ5 := Lib.hid (show ∀ i, Zn Z wr w8 i → w.heap.size ≤ i ∧ i ≠ b ∧ i ≠ g ∧ i ≠ r11 ∧ i ≠ r12 ∧ i ≠ rv ∧ i ≠ gv from fun i hi => by
            rcases hi with h | h
            · exact HZr.out i h
            · have h1 := HKr.out.size
              have h2 := HR.out
              have h3 := HK.out.size
              have h4 := HRV.out
              have h5 := H12.out.lt
              have h6 := HVX.out.lt
              have h7 := HSV4.out
              omega)
          have HZL5 := Lib.hid (show ∀ i, Zn Z wr w8 i → i < w8.heap.size from fun i hi => hi.elim (fun h => Nat.lt_of_lt_of_le (HZl.out i h) hK5.size) (fun h => h.2))
          have HK5 := Lib.hid (show Kept (fun i => w.heap.size ≤ i ∧ i ≠ r11 ∧ i ≠ r12 ∧ i ≠ rv ∧ i ≠ gv) W4 w8 from HKr.out.trans hK5 (fun i hi h => by
            have h2 := HR.out
            have h3 := HRV.out
            rcases h with h | h | h
            · have := HZr.out i h; omega
            · omega
            · omega))
          clear hM5 hA5 hK5 HST HZr HZl HKr
          generalize lmem F l' s = l5 at *
          cases hf : (lgo F key2 lvl l' s).fin with
          | true =>
            have hend := HWAY.out.atEnd h4 h6 HZ.out HLEN.out.2 HTG.out hf
            have HVX5 := Lib.hid (HK5.out.blk HVX.out (by have h2 := HR.out; have h3 := HRV.out; omega))
            have HBV5 := Lib.hid (HK5.out.blk HBV.out (by have h2 := HR.out; have h3 := HRV.out; omega))
            have H115 := Lib.hid (HK5.out.blk H11.out (by have h2 := HR.out; have h3 := HRV.out; omega))
            have hk1D : k1 ≤ 1130 := by omega
            have e0 := hf
            generalize lgo F key2 lvl l' s = s5 at *
            clear hkm' hkm hm4 hm' HWAY HFIN
            rcases hend with ⟨ht0, rfl, rfl⟩ | ⟨ht0, rfl, rfl⟩
            · have hlt : lvl < H := by rcases Nat.lt_or_ge lvl H with h | h; exact h; exact absurd (HNO.out (by omega)) ht0
              obtain ⟨jt, hjt, htj, hPE, hjl, hjc⟩ := HIN.out hlt
              have hPl : P.lv = lvl := by rw [hPE]; exact (HT.out.lev lvl hlt).lv jt hjt
              have HPLEN := Lib.hid (HTG.out ht0).nd.len
              have HTJ := Lib.hid htj
              have HPE := Lib.hid hPE
              have HPL := Lib.hid hPl
              have HJL := Lib.hid hjl
              have HJC := Lib.hid hjc
              have HT0 := Lib.hid ht0
              have HHD := Lib.hid (held_lck F h6 fb fd _ x key2 lvl t 1 _ w8 HA5.out)
              clear htj hPE hPl hjl hjc
              obtain ⟨l5, hl5⟩ : ∃ l5, putAt l2 (nla F t) (lbit true) = l5 := ⟨_, rfl⟩
              rw [hl5] at HM5
              have HL5 := Lib.hid hl5
              have HLC := Lib.hid (show l5.length = nl from by rw [← hl5, putAt_length]; exact HNL.out)
              clear hl5
              go_wp2_with fail
              refine HHD.out.mono ?_; rintro e w9 ⟨A6, c6, rfl, hR6, -, hK6⟩
              rw [(got_all P).2.2.2.2] at hR6
              rw [hval_got]
              unfold hpg
              rw [HPL.out]
              have HR6 := Lib.hid hR6
              replace HM5 := Lib.hid (HM5.out.kept hK6 (fun h => h) (fun h => h))
              replace HVX5 := Lib.hid (hK6.blk HVX5.out (fun h => h))
              replace HBV5 := Lib.hid (hK6.blk HBV5.out (fun h => h))
              replace H115 := Lib.hid (hK6.blk H115.out (fun h => h))
              replace HK5 := Lib.hid (HK5.out.trans hK6 (fun _ _ h => h.elim))
              clear hR6 hK6 HHD HA5 e0
              go_upto_region 16 with fail
              have hal := (Kept.refl (fun _ => False) w9).alloc (.cells #[.int .u64 (t : Int), .int .u64 1, .int .i64 (lvl : Int), .slice A6 P.xs.length c6, .string P.hi, .bool P.la, .int .u64 (P.rt : Int)] 48)
              have HHB := Lib.hid (Blk.new w9 [.int .u64 (t : Int), .int .u64 1, .int .i64 (lvl : Int), .slice A6 P.xs.length c6, .string P.hi, .bool P.la, .int .u64 (P.rt : Int)] 48)
              replace HM5 := Lib.hid (HM5.out.kept hal (fun h => h) (fun h => h))
              replace HVX5 := Lib.hid (hal.blk HVX5.out (fun h => h))
              replace HBV5 := Lib.hid (hal.blk HBV5.out (fun h => h))
              replace H115 := Lib.hid (hal.blk H115.out (fun h => h))
              replace HK5 := Lib.hid (HK5.out.trans hal (fun _ _ h => h.elim))
              replace HR6 := Lib.hid (HR6.out.keptF hal (fun _ _ h => h))
              clear hal
              generalize w9.heap.size = rh at HHB ⊢
              generalize w9.alloc (.cells #[.int .u64 (t : Int), .int .u64 1, .int .i64 (lvl : Int), .slice A6 P.xs.length c6, .string P.hi, .bool P.la, .int .u64 (P.rt : Int)] 48) = V7 at *
              have hvx9 := HVX5.out
              have v0 := hvx9.cell (i := 0) rfl
              have v1 := hvx9.cell (i := 1) rfl
              have v2 := hvx9.cell (i := 2) rfl
              have v3 := hvx9.cell (i := 3) rfl
              have v4 := hvx9.cell (i := 4) rfl
              have v5 := hvx9.cell (i := 5) rfl
              have v6 := hvx9.cell (i := 6) rfl
              have v7 := hvx9.cell (i := 7) rfl
              clear hvx9
              have HALL := Lib.hid (HT.out.all (L := lvl) (i := mm lvl - 1) hlt (by omega))
              go_wp2_with fail
              refine (vlevel_in F h4 h6 gv nl l2 HNL.out H st mm lo pg HT.out lvl hlt _ HBV5.out).mono ?_; rintro e w10 ⟨AL, cL, rfl, hAL, hK9⟩
              obtain ⟨gL, oL, rfl, hgL, -, hcL⟩ := hAL (by omega)
              replace HM5 := Lib.hid (HM5.out.kept hK9 (fun h => h) (fun h => h))
              replace HVX5 := Lib.hid (hK9.blk HVX5.out (fun h => h))
              replace HBV5 := Lib.hid (hK9.blk HBV5.out (fun h => h))
              replace H115 := Lib.hid (hK9.blk H115.out (fun h => h))
              replace HK5 := Lib.hid (HK5.out.trans hK9 (fun _ _ h => h.elim))
              replace HHB := Lib.hid (hK9.blk HHB.out (fun h => h))
              replace HR6 := Lib.hid (HR6.out.keptF hK9 (fun _ _ h => h))
              clear hK9 v0 v1 v2 v3 v4 v5 v6 v7
              obtain ⟨m2, hm⟩ : ∃ m2, mm lvl = m2 := ⟨_, rfl⟩
              rw [hm] at hcL hjt
              rw [hm]
              have HMM := Lib.hid hm
              have hm100 : m2 ≤ 1000 := by have := HALL.out; omega
              have HCL := Lib.hid (show ∀ i, i < m2 → w10.cell? ⟨gL, oL + i, none⟩ = some (.int .u64 ((st lvl + i : Nat) : Int)) from fun i hi => hcL i _ (ids_at hi))
              clear hcL hm HALL
              go_wp2_with fail
              go_loopw [23, 24, 26] (fun wv lv iv wr => ∃ (i wn : Nat) (lw : ByteArray), i ≤ m2 ∧ iv = .int .i64 (i : Int) ∧ wv = .int .u64 (wn : Int) ∧ lv = .string lw ∧ (i < m2 → lw = lo lvl i) ∧ (jt < i → wn = t) ∧ (i ≤ jt → wn = 0) ∧ Kept (fun _ => False) w10 wr) (fun _ _ iv _ => m2 - (intOf iv).toNat)
              case atStart => exact ⟨0, 0, ⟨#[]⟩, by omega, rfl, rfl, rfl, fun _ => (HT.out.lev lvl hlt).low0.symm, by omega, by omega, Kept.refl _ _⟩
              case round =>
                rename World => V3
                obtain ⟨i, wn, lw, him, rfl, rfl, rfl, hlw, hwn1, hwn2, hKr⟩ := hrel
                have HKr := Lib.hid hKr
                have HVXr := Lib.hid (hKr.blk HVX5.out (fun h => h))
                have HBVr := Lib.hid (hKr.blk HBV5.out (fun h => h))
                have hgLr : gL < V3.heap.size := Nat.lt_of_lt_of_le hgL hKr.size
                by_cases him2 : i < m2
                · obtain ⟨nid, hnid⟩ : ∃ nid, st lvl + i = nid := ⟨_, rfl⟩
                  have hlw2 := hlw him2
                  obtain ⟨la3, hla3⟩ : ∃ x, (pg lvl i).la = x := ⟨_, rfl⟩
                  obtain ⟨hi3, hhi3⟩ : ∃ x, (pg lvl i).hi = x := ⟨_, rfl⟩
                  obtain ⟨n3, hn3⟩ : ∃ x, (pg lvl i).xs.length = x := ⟨_, rfl⟩
                  obtain ⟨rt3, hrt3⟩ : ∃ x, (pg lvl i).rt = x := ⟨_, rfl⟩
                  have hcl1 := HCL.out i him2
                  rw [hnid] at hcl1
                  have HCLr := Lib.hid ((hKr.cell (p := ⟨gL, oL + i, none⟩) hgL (fun h => h)).trans hcl1)
                  have HNI := Lib.hid hnid
                  have HNX := Lib.hid (show i + 1 < m2 → hi3 = lo lvl (i + 1) from fun h => by rw [← hhi3]; exact ((HT.out.lev lvl hlt).next i (by rw [HMM.out]; exact h)).2.2)
                  have HPAGE := Lib.hid (show ∀ W, Kept (fun _ => False) V3 W → Calls Tryz.prog 18 #[.agg #[.int .i64 1, .int .i64 2, .int .i64 100, .int .i64 100, .int .i64 200, .int .i64 (F : Int), .int .u64 1000, .slice (some ⟨gv, 0, none⟩) nl nl], .int .u64 (nid : Int)] W fun e w' => ∃ (A : Option Addr) (c : Nat), e = .returned (.agg #[.int .i64 (lvl : Int), .slice A n3 c, .string hi3, .bool la3, .int .u64 (rt3 : Int)]) ∧ Kept (fun _ => False) W w' from fun W hW => by
                    refine (tpage_any F h4 h6 gv nl l2 HNL.out H st mm lo pg HT.out lvl i nid hlt (by rw [HMM.out]; exact him2) HNI.out.symm lvl rfl W (hW.blk HBVr.out (fun h => h))).mono ?_
                    rintro e w' ⟨A, c, rfl, -, -, hk⟩
                    rw [hhi3, hla3, hn3, hrt3]
                    exact ⟨A, c, rfl, hk⟩)
                  have HCOV := Lib.hid (show ((Op.bytesLess lw.toList key2.toList || (lw.toList == key2.toList)) && (la3 || Op.bytesLess key2.toList hi3.toList)) = true ↔ i = jt from by
                    rw [hlw2, ← hla3, ← hhi3]
                    exact covers (HT.out.lev lvl hlt) (by rw [HMM.out]; exact him2) (by rw [HMM.out]; exact hjt) HJL.out HJC.out)
                  have himI : (i : Int) < (m2 : Int) := by omega
                  clear hKr hcl1 hnid hla3 hhi3 hn3 hrt3 hlw2 hlw
                  go_upto_region 21 with fail
                  refine wp_region_held_drew (S := (fun w' => Kept (fun _ => False) V3 w')) (by kernel_rfl) ?_ (fun hHeld => ?_)
                  · exact (Kept.refl _ _).drew
                  have HW := Lib.hid ((Kept.refl (fun _ => False) V3).drew)
                  generalize V3.drew = G at *
                  refine wpAnyH_take (i := 0) (oi := ⟨some 108, _, _, _, _, _⟩) (v := ?_) rfl (by kernel_rfl) (by kernel_rfl) (by kernel_rfl) (fun _ _ _ h => h) (Or.inl ⟨by rfl, ?_⟩) hHeld ?_
                  rotate_left
                  · (intro wq hSw; have hb9 := hSw.blk HVXr.out (fun h => h); have x0 := hb9.cell (i := 0) rfl; have x1 := hb9.cell (i := 1) rfl; have x2 := hb9.cell (i := 2) rfl; have x3 := hb9.cell (i := 3) rfl; have x4 := hb9.cell (i := 4) rfl; have x5 := hb9.cell (i := 5) rfl; have x6 := hb9.cell (i := 6) rfl; have x7 := hb9.cell (i := 7) rfl; clear hb9; have hc9 := (hSw.cell (p := ⟨gL, oL + i, none⟩) hgLr (fun h => h)).trans HCLr.out; go_simp; try with_reducible rfl)
                  try simp only [Act.put, List.setIfInBounds_toArray, List.set_cons_zero, List.set_cons_succ]
                  refine wpAnyH_take (i := 1) (oi := ⟨some 109, _, _, _, _, _⟩) (v := ?_) rfl (by kernel_rfl) (by kernel_rfl) (by kernel_rfl) (fun _ _ _ h => h) (Or.inl ⟨by rfl, ?_⟩) hHeld ?_
                  rotate_left
                  · (intro wq hSw; go_simp; try with_reducible rfl)
                  try simp only [Act.put, List.setIfInBounds_toArray, List.set_cons_zero, List.set_cons_succ]
                  refine wpAnyH_take (i := 2) (oi := ⟨some 110, _, _, _, _, _⟩) (v := ?_) rfl (by kernel_rfl) (by kernel_rfl) (by kernel_rfl) (fun _ _ _ h => h) (Or.inl ⟨by rfl, ?_⟩) hHeld ?_
                  rotate_left
                  · (intro wq hSw; go_simp; try with_reducible rfl)
                  try simp only [Act.put, List.setIfInBounds_toArray, List.set_cons_zero, List.set_cons_succ]
                  refine wpAnyH_take (i := 3) (oi := ⟨some 111, _, _, _, _, _⟩) (v := ?_) rfl (by kernel_rfl) (by kernel_rfl) (by kernel_rfl) (fun _ _ _ h => h) (Or.inl ⟨by rfl, ?_⟩) hHeld ?_
                  rotate_left
                  · (intro wq hSw; go_simp; try with_reducible rfl)
                  try simp only [Act.put, List.setIfInBounds_toArray, List.set_cons_zero, List.set_cons_succ]
                  refine wpAnyH_take (i := 4) (oi := ⟨some 112, _, _, _, _, _⟩) (v := ?_) rfl (by kernel_rfl) (by kernel_rfl) (by kernel_rfl) (fun _ _ _ h => h) (Or.inl ⟨by rfl, ?_⟩) hHeld ?_
                  rotate_left
                  · (intro wq hSw; have hb9 := hSw.blk HVXr.out (fun h => h); have x0 := hb9.cell (i := 0) rfl; have x1 := hb9.cell (i := 1) rfl; have x2 := hb9.cell (i := 2) rfl; have x3 := hb9.cell (i := 3) rfl; have x4 := hb9.cell (i := 4) rfl; have x5 := hb9.cell (i := 5) rfl; have x6 := hb9.cell (i := 6) rfl; have x7 := hb9.cell (i := 7) rfl; clear hb9; have hc9 := (hSw.cell (p := ⟨gL, oL + i, none⟩) hgLr (fun h => h)).trans HCLr.out; go_simp; try with_reducible rfl)
                  try simp only [Act.put, List.setIfInBounds_toArray, List.set_cons_zero, List.set_cons_succ]
                  refine wpAnyH_ready (rs := [5, 6]) (by kernel_rfl) (by simp) ?_
                  refine AllReadyH.cons (o := ⟨some 113, _, _, _, _, _⟩) rfl (fun KK hK => ?_) (AllReadyH.cons (o := ⟨some 27, _, _, _, _, _⟩) rfl (fun KK hK => ?_) (AllReadyH.nil))
                  · go_simp
                    go_at_call 18
                    refine (HPAGE.out _ HW.out).mono ?_; rintro e G ⟨A3, c3, rfl, hK3⟩
                    replace HW := Lib.hid (HW.out.trans hK3 (fun _ _ h => h))
                    try replace HSL := Lib.hid (hK3.blk HSL.out (fun h => h))
                    clear hK3
                    refine hK.out _ _ ?_ (fun hHeld2 => ?_)
                    · exact HW.out
                    clear hK KK hHeld
                    have hHeld := hHeld2
                    clear hHeld2
                    try simp only [Act.put, List.setIfInBounds_toArray, List.set_cons_zero, List.set_cons_succ]
                    refine wpAnyH_ready (rs := [6]) (by kernel_rfl) (by simp) ?_
                    refine AllReadyH.cons (o := ⟨some 27, _, _, _, _, _⟩) rfl (fun KK hK => ?_) (AllReadyH.nil)
                    go_simp
                    have hr1 : V3.heap.size ≤ G.heap.size := HW.out.size
                    replace HW := Lib.hid (HW.out.alloc (.cells #[.int .i64 0, .slice none 0 0, .string ⟨#[]⟩, .bool false, .int .u64 0] 46))
                    have HSL := Lib.hid (Blk.new G [.int .i64 0, .slice none 0 0, .string ⟨#[]⟩, .bool false, .int .u64 0] 46)
                    generalize G.heap.size = rq at *
                    have HR1 := Lib.hid hr1
                    clear hr1
                    generalize G.alloc (.cells #[.int .i64 0, .slice none 0 0, .string ⟨#[]⟩, .bool false, .int .u64 0] 46) = G at *
                    refine hK.out _ _ ?_ (fun hHeld2 => ?_)
                    · exact HW.out
                    clear hK KK hHeld
                    have hHeld := hHeld2
                    clear hHeld2
                    try simp only [Act.put, List.setIfInBounds_toArray, List.set_cons_zero, List.set_cons_succ]
                    refine wpAnyH_ready (rs := [7]) (by kernel_rfl) (by simp) ?_
                    refine AllReadyH.cons (o := ⟨none, _, _, _, _, _⟩) rfl (fun KK hK => ?_) (AllReadyH.nil)
                    have hs9 := HSL.out
                    have s0 := hs9.cell (i := 0) rfl
                    have s1 := hs9.cell (i := 1) rfl
                    have s2 := hs9.cell (i := 2) rfl
                    have s3 := hs9.cell (i := 3) rfl
                    have s4 := hs9.cell (i := 4) rfl
                    have z0 := hs9.frozen 0
                    have z1 := hs9.frozen 1
                    have z2 := hs9.frozen 2
                    have z3 := hs9.frozen 3
                    have z4 := hs9.frozen 4
                    clear hs9
                    go_simp
                    replace HW := Lib.hid ((((((HW.out).setNew HR1.out 0 (.int .i64 (lvl : Int))).setNew HR1.out 1 (.slice A3 n3 c3)).setNew HR1.out 2 (.string hi3)).setNew HR1.out 3 (.bool la3)).setNew HR1.out 4 (.int .u64 (rt3 : Int)))
                    replace HSL := Lib.hid ((((((HSL.out).set 0 (.int .i64 (lvl : Int))).set 1 (.slice A3 n3 c3)).set 2 (.string hi3)).set 3 (.bool la3)).set 4 (.int .u64 (rt3 : Int)))
                    clear s0 s1 s2 s3 s4 z0 z1 z2 z3 z4
                    generalize (((((G).setCell ⟨rq, 0, none⟩ (.int .i64 (lvl : Int))).setCell ⟨rq, 1, none⟩ (.slice A3 n3 c3)).setCell ⟨rq, 2, none⟩ (.string hi3)).setCell ⟨rq, 3, none⟩ (.bool la3)).setCell ⟨rq, 4, none⟩ (.int .u64 (rt3 : Int)) = G at *
                    refine hK.out _ _ ?_ (fun hHeld2 => ?_)
                    · exact HW.out
                    clear hK KK hHeld
                    have hHeld := hHeld2
                    clear hHeld2
                    try simp only [Act.put, List.setIfInBounds_toArray, List.set_cons_zero, List.set_cons_succ]
                    refine wpAnyH_done (by kernel_rfl) ?_ _
                    clear hHeld
                    have hsl := HSL.out
                    have s0 := hsl.cell (i := 0) rfl
                    have s1 := hsl.cell (i := 1) rfl
                    have s2 := hsl.cell (i := 2) rfl
                    have s3 := hsl.cell (i := 3) rfl
                    have s4 := hsl.cell (i := 4) rfl
                    have hcl := (HW.out.cell (p := ⟨gL, oL + i, none⟩) hgLr (fun h => h)).trans HCLr.out
                    replace HKr := Lib.hid (HKr.out.trans HW.out (fun _ _ h => h))
                    have hcov := HCOV.out
                    clear hsl HW HSL
                    go_upto_region 22 with fail
                    go_cut [126] from 114 to 126 (fun v wx => ∃ e : Bool, v = .bool e ∧ (e = true ↔ i = jt) ∧ wx = G)
                    case first =>
                      cases hb1 : Op.bytesLess lw.toList key2.toList <;> cases hb2 : (lw.toList == key2.toList) <;> cases la3 <;> cases hb4 : Op.bytesLess key2.toList hi3.toList <;> rw [hb1, hb2, hb4] at hcov <;> (go_wp2; go_meet; exact ⟨_, rfl, by simpa using hcov, rfl⟩)
                    case rest =>
                      obtain ⟨ee, rfl, hee, rfl⟩ := hcut
                      rename World => G9
                      cases ee with
                      | true =>
                        have HIJ := Lib.hid (hee.1 rfl)
                        clear hee hcov
                        go_wp2
                        go_roundw
                        case rel => exact ⟨i + 1, nid, hi3, by omega, by go_num, rfl, rfl, HNX.out, by have := HNI.out; have := HTJ.out; have := HIJ.out; omega, by have := HIJ.out; omega, HKr.out⟩
                        case measure => simp [intOf]; omega
                      | false =>
                        have hij : ¬ i = jt := fun h => by have := hee.2 h; cases this
                        clear hee hcov
                        go_wp2
                        go_roundw
                        case rel => exact ⟨i + 1, wn, hi3, by omega, by go_num, rfl, rfl, HNX.out, by omega, by omega, HKr.out⟩
                        case measure => simp [intOf]; omega
                  · go_simp
                    have hr1 : V3.heap.size ≤ G.heap.size := HW.out.size
                    replace HW := Lib.hid (HW.out.alloc (.cells #[.int .i64 0, .slice none 0 0, .string ⟨#[]⟩, .bool false, .int .u64 0] 46))
                    have HSL := Lib.hid (Blk.new G [.int .i64 0, .slice none 0 0, .string ⟨#[]⟩, .bool false, .int .u64 0] 46)
                    generalize G.heap.size = rq at *
                    have HR1 := Lib.hid hr1
                    clear hr1
                    generalize G.alloc (.cells #[.int .i64 0, .slice none 0 0, .string ⟨#[]⟩, .bool false, .int .u64 0] 46) = G at *
                    refine hK.out _ _ ?_ (fun hHeld2 => ?_)
                    · exact HW.out
                    clear hK KK hHeld
                    have hHeld := hHeld2
                    clear hHeld2
                    try simp only [Act.put, List.setIfInBounds_toArray, List.set_cons_zero, List.set_cons_succ]
                    refine wpAnyH_ready (rs := [5]) (by kernel_rfl) (by simp) ?_
                    refine AllReadyH.cons (o := ⟨some 113, _, _, _, _, _⟩) rfl (fun KK hK => ?_) (AllReadyH.nil)
                    go_simp
                    go_at_call 18
                    refine (HPAGE.out _ HW.out).mono ?_; rintro e G ⟨A3, c3, rfl, hK3⟩
                    replace HW := Lib.hid (HW.out.trans hK3 (fun _ _ h => h))
                    try replace HSL := Lib.hid (hK3.blk HSL.out (fun h => h))
                    clear hK3
                    refine hK.out _ _ ?_ (fun hHeld2 => ?_)
                    · exact HW.out
                    clear hK KK hHeld
                    have hHeld := hHeld2
                    clear hHeld2
                    try simp only [Act.put, List.setIfInBounds_toArray, List.set_cons_zero, List.set_cons_succ]
                    refine wpAnyH_ready (rs := [7]) (by kernel_rfl) (by simp) ?_
                    refine AllReadyH.cons (o := ⟨none, _, _, _, _, _⟩) rfl (fun KK hK => ?_) (AllReadyH.nil)
                    have hs9 := HSL.out
                    have s0 := hs9.cell (i := 0) rfl
                    have s1 := hs9.cell (i := 1) rfl
                    have s2 := hs9.cell (i := 2) rfl
                    have s3 := hs9.cell (i := 3) rfl
                    have s4 := hs9.cell (i := 4) rfl
                    have z0 := hs9.frozen 0
                    have z1 := hs9.frozen 1
                    have z2 := hs9.frozen 2
                    have z3 := hs9.frozen 3
                    have z4 := hs9.frozen 4
                    clear hs9
                    go_simp
                    replace HW := Lib.hid ((((((HW.out).setNew HR1.out 0 (.int .i64 (lvl : Int))).setNew HR1.out 1 (.slice A3 n3 c3)).setNew HR1.out 2 (.string hi3)).setNew HR1.out 3 (.bool la3)).setNew HR1.out 4 (.int .u64 (rt3 : Int)))
                    replace HSL := Lib.hid ((((((HSL.out).set 0 (.int .i64 (lvl : Int))).set 1 (.slice A3 n3 c3)).set 2 (.string hi3)).set 3 (.bool la3)).set 4 (.int .u64 (rt3 : Int)))
                    clear s0 s1 s2 s3 s4 z0 z1 z2 z3 z4
                    generalize (((((G).setCell ⟨rq, 0, none⟩ (.int .i64 (lvl : Int))).setCell ⟨rq, 1, none⟩ (.slice A3 n3 c3)).setCell ⟨rq, 2, none⟩ (.string hi3)).setCell ⟨rq, 3, none⟩ (.bool la3)).setCell ⟨rq, 4, none⟩ (.int .u64 (rt3 : Int)) = G at *
                    refine hK.out _ _ ?_ (fun hHeld2 => ?_)
                    · exact HW.out
                    clear hK KK hHeld
                    have hHeld := hHeld2
                    clear hHeld2
                    try simp only [Act.put, List.setIfInBounds_toArray, List.set_cons_zero, List.set_cons_succ]
                    refine wpAnyH_done (by kernel_rfl) ?_ _
                    clear hHeld
                    have hsl := HSL.out
                    have s0 := hsl.cell (i := 0) rfl
                    have s1 := hsl.cell (i := 1) rfl
                    have s2 := hsl.cell (i := 2) rfl
                    have s3 := hsl.cell (i := 3) rfl
                    have s4 := hsl.cell (i := 4) rfl
                    have hcl := (HW.out.cell (p := ⟨gL, oL + i, none⟩) hgLr (fun h => h)).trans HCLr.out
                    replace HKr := Lib.hid (HKr.out.trans HW.out (fun _ _ h => h))
                    have hcov := HCOV.out
                    clear hsl HW HSL
                    go_upto_region 22 with fail
                    go_cut [126] from 114 to 126 (fun v wx => ∃ e : Bool, v = .bool e ∧ (e = true ↔ i = jt) ∧ wx = G)
                    case first =>
                      cases hb1 : Op.bytesLess lw.toList key2.toList <;> cases hb2 : (lw.toList == key2.toList) <;> cases la3 <;> cases hb4 : Op.bytesLess key2.toList hi3.toList <;> rw [hb1, hb2, hb4] at hcov <;> (go_wp2; go_meet; exact ⟨_, rfl, by simpa using hcov, rfl⟩)
                    case rest =>
                      obtain ⟨ee, rfl, hee, rfl⟩ := hcut
                      rename World => G9
                      cases ee with
                      | true =>
                        have HIJ := Lib.hid (hee.1 rfl)
                        clear hee hcov
                        go_wp2
                        go_roundw
                        case rel => exact ⟨i + 1, nid, hi3, by omega, by go_num, rfl, rfl, HNX.out, by have := HNI.out; have := HTJ.out; have := HIJ.out; omega, by have := HIJ.out; omega, HKr.out⟩
                        case measure => simp [intOf]; omega
                      | false =>
                        have hij : ¬ i = jt := fun h => by have := hee.2 h; cases this
                        clear hee hcov
                        go_wp2
                        go_roundw
                        case rel => exact ⟨i + 1, wn, hi3, by omega, by go_num, rfl, rfl, HNX.out, by omega, by omega, HKr.out⟩
                        case measure => simp [intOf]; omega
                · obtain rfl : wn = t := hwn1 (by omega)
                  have himI : ¬ (i : Int) < (m2 : Int) := by omega
                  have htn0 : ((wn : Int) == 0) = false := beq_false_of_ne (by omega)
                  have htn1 : ¬ (wn : Int) = 0 := by omega
                  have hkk : ¬ (k1 : Int) < (k1 : Int) := by omega
                  have hk50 : ¬ (5000 : Int) ≤ (k1 : Int) := by omega
                  have wku : IntKind.u64.wrap (k1 : Int) = (k1 : Int) := by rw [IntKind.wrap_u64]; omega
                  replace HM5 := Lib.hid (HM5.out.kept hKr (fun h => h) (fun h => h))
                  replace HVX5 := Lib.hid (hKr.blk HVX5.out (fun h => h))
                  replace HBV5 := Lib.hid (hKr.blk HBV5.out (fun h => h))
                  replace H115 := Lib.hid (hKr.blk H115.out (fun h => h))
                  replace HK5 := Lib.hid (HK5.out.trans hKr (fun _ _ h => h.elim))
                  replace HHB := Lib.hid (hKr.blk HHB.out (fun h => h))
                  replace HR6 := Lib.hid (HR6.out.keptF hKr (fun _ _ h => h))
                  have HHB9 := HHB.out
                  have u0 := HHB9.cell (i := 0) rfl
                  have u1 := HHB9.cell (i := 1) rfl
                  have u2 := HHB9.cell (i := 2) rfl
                  have u3 := HHB9.cell (i := 3) rfl
                  have u4 := HHB9.cell (i := 4) rfl
                  have u5 := HHB9.cell (i := 5) rfl
                  have u6 := HHB9.cell (i := 6) rfl
                  clear HHB9 hKr hwn1 hwn2 hlw
                  have HLTS := Lib.hid (show b < V3.heap.size ∧ g < V3.heap.size ∧ rv < V3.heap.size ∧ gv < V3.heap.size ∧ r11 < V3.heap.size ∧ rh < V3.heap.size from ⟨HM5.out.obj.lt, HM5.out.row.lt, HVX5.out.lt, HBV5.out.lt, H115.out.lt, HHB.out.lt⟩)
                  have HA6 := Lib.hid (show 0 < P.xs.length → ∀ a, A6 = some a → a.block < V3.heap.size from fun hp a ha => by
                    obtain ⟨g9, off9, he9, hg9, -⟩ := HR6.out.at hp
                    rw [ha] at he9; cases he9; exact hg9)
                  have HW4 := Lib.hid (show W4.heap.size ≤ V3.heap.size from HK5.out.size)
                  have HWS := Lib.hid (show w.heap.size ≤ V3.heap.size from by have h1 := HK.out.size; have h2 := HK5.out.size; omega)
                  have hv91 := HVX5.out
                  have v7 := hv91.cell (i := 7) rfl
                  clear hv91
                  go_wp2_with fail
                  refine (accesses_any b g l5 k1 _ HM5.out).mono ?_; rintro e w11 ⟨rfl, rfl⟩
                  obtain ⟨i0, hi0, hz0, hz1, hz2⟩ := info_parts Tryz.info56
                  have hnlp : 0 < nl := by have := HNL.out; have := HLEN.out.2; omega
                  go_wp2_with (at_builtin; go_must (refine wpList_append_own _ rfl (.const (.slice none 0 0)) (.tmp 149) 36 rfl V3.heap.size 56 i0 _ 3 32 Tryz.underlying36 hi0 hz0 hz1 hz2 rfl (by decide) _ 0 [] rfl (World.ownsRow_nil _ _ _ _) ⟨gv, 0, none⟩ nl nl (flat3 l2) rfl ?a1 ?b1 ?c1 ?d1 ?e1 ?f1 ?_))
                  try case a1 => rw [flat3_length, HNL.out]
                  try case b1 => exact fun j u hu => by rw [Addr.add_lit, Nat.zero_add]; exact HBV5.out.cell hu
                  try case c1 => exact flat3_one l2
                  try case d1 => unfold maxLen; omega
                  try case e1 => omega
                  try case f1 => exact Nat.le_refl _
                  intro v6 w12 hown6 hgr6 _
                  have hown7 : w12.ownsRow V3.heap.size 56 3 v6 nl (flat3 l2) := by simpa using hown6
                  obtain ⟨gq, cq, restq, rfl, hbq, hBq⟩ := own_blk hown7 hnlp
                  have hK6 : Kept (fun _ => False) V3 w12 := (Kept.refl _ _).grown hgr6 (fun k hk => by simp [Value.ownBlock] at hk)
                  replace HM5 := Lib.hid (HM5.out.kept hK6 (fun h => h) (fun h => h))
                  replace HVX5 := Lib.hid (hK6.blk HVX5.out (fun h => h))
                  replace HBV5 := Lib.hid (hK6.blk HBV5.out (fun h => h))
                  replace H115 := Lib.hid (hK6.blk H115.out (fun h => h))
                  replace HK5 := Lib.hid (HK5.out.trans hK6 (fun _ _ h => h.elim))
                  replace HHB := Lib.hid (hK6.blk HHB.out (fun h => h))
                  replace HR6 := Lib.hid (HR6.out.keptF hK6 (fun _ _ h => h))
                  have HRW := Lib.hid hBq
                  have HQ := Lib.hid hbq
                  have HNEWQ := Lib.hid (show W4.heap.size ≤ gq by have h1 := hbq; have h2 := HW4.out; omega)
                  have hgq := hBq.lt
                  clear hown6 hown7 hgr6 hbq hBq hK6 u0 u1 u2 u3 u4 u5 u6 v7 hkk hk50 wku hi0 hz0 hz1 hz2
                  obtain ⟨j, hj⟩ : ∃ j : Nat, nla F wn = (j : Int) := ⟨(nla F wn).toNat, by have := nla_in (F := F) (HTG.out HT0.out).one (HTG.out HT0.out).top; omega⟩
                  have hjl : (j : Int) < (nl : Int) := by have h1 := nla_lo h4 h6 (HTG.out HT0.out).one (HTG.out HT0.out).top; have h2 := HLEN.out.2; have h3 := HNL.out; omega
                  have hj0 : (0 : Int) ≤ (j : Int) := by omega
                  have HJ := Lib.hid hj
                  have HNODE := Lib.hid (show ∀ W, Calls Tryz.prog 22 #[.agg #[.int .i64 1, .int .i64 2, .int .i64 100, .int .i64 100, .int .i64 200, .int .i64 (F : Int), .int .u64 1000], .int .u64 (wn : Int), .int .i64 0] W fun e w' => e = .returned (.int .i64 (j : Int)) ∧ Kept (fun _ => False) W w' from fun W => by
                    have h := refNode_any 1 2 100 100 200 (F : Int) 1000 (wn : Int) 0 (limF h4 h6) (by omega) (by omega) (by omega) W
                    have e : nodeAt 100 (F : Int) (firstNode 1 2) (wn : Int) 0 = (j : Int) := HJ.out
                    rw [e] at h
                    exact h)
                  have HLAT := Lib.hid (show ∀ W, Blk W gv 56 (flat3 l2) → Calls Tryz.prog 21 #[.agg #[.int .i64 1, .int .i64 2, .int .i64 100, .int .i64 100, .int .i64 200, .int .i64 (F : Int), .int .u64 1000, .slice (some ⟨gv, 0, none⟩) nl nl], .int .u64 (wn : Int)] W fun e w' => e = .returned (.int .u64 0) ∧ Kept (fun _ => False) W w' from fun W hW =>
                    vlatch_any F h4 h6 gv nl l2 HNL.out wn (nla F wn) rfl 0 0 ⟨#[]⟩ W hW (HZ.out wn (HTG.out HT0.out).one (HTG.out HT0.out).top))
                  have HLCK := Lib.hid (show ∀ W, Calls Tryz.prog 20 #[.int .u64 0] W fun e w' => e = .returned (.int .u64 1) ∧ W = w' from fun W => lock_of 0 1 (by omega) rfl W)
                  clear hj
                  go_upto_region 29 with fail
                  rename World => V8
                  refine qtail 10 (fun w' => Kept (fun _ => False) V8 w') (by kernel_rfl) (by kernel_rfl) (Kept.refl _ _).drew ?_
                  simp only [List.take_succ_cons, List.take_zero, List.drop_succ_cons, List.drop_zero]
                  refine qstep (o := ⟨some 153, _, _, _, _, _⟩) (v := ?_) (by rfl) (fun wq hSw => ?_) ?_
                  rotate_left
                  · (go_simp; try with_reducible rfl)
                  try simp only [Act.put, List.setIfInBounds_toArray, List.set_cons_zero, List.set_cons_succ]
                  refine qstep (o := ⟨some 154, _, _, _, _, _⟩) (v := ?_) (by rfl) (fun wq hSw => ?_) ?_
                  rotate_left
                  · (have hb9 := hSw.blk HVX5.out (fun h => h); have x0 := hb9.cell (i := 0) rfl; have x1 := hb9.cell (i := 1) rfl; have x2 := hb9.cell (i := 2) rfl; have x3 := hb9.cell (i := 3) rfl; have x4 := hb9.cell (i := 4) rfl; have x5 := hb9.cell (i := 5) rfl; have x6 := hb9.cell (i := 6) rfl; have x7 := hb9.cell (i := 7) rfl; clear hb9; have hc9 := hSw.blk H115.out (fun h => h); have y0 := hc9.cell (i := 0) rfl; have y1 := hc9.cell (i := 1) rfl; have y2 := hc9.cell (i := 2) rfl; have y3 := hc9.cell (i := 3) rfl; have y4 := hc9.cell (i := 4) rfl; have y5 := hc9.cell (i := 5) rfl; have y6 := hc9.cell (i := 6) rfl; clear hc9; go_simp; try with_reducible rfl)
                  try simp only [Act.put, List.setIfInBounds_toArray, List.set_cons_zero, List.set_cons_succ]
                  refine qstep (o := ⟨some 155, _, _, _, _, _⟩) (v := ?_) (by rfl) (fun wq hSw => ?_) ?_
                  rotate_left
                  · (go_simp; try with_reducible rfl)
                  try simp only [Act.put, List.setIfInBounds_toArray, List.set_cons_zero, List.set_cons_succ]
                  refine qcall (o := ⟨some 156, _, _, _, _, _⟩) (v := .int .i64 (j : Int)) (by rfl) (fun wq hSw => ?_) (fun wq hSw => Calls.mono (HNODE.out _) ?_) ?_
                  · (go_simp; try with_reducible rfl)
                  · rintro e w9 ⟨rfl, hk⟩; exact ⟨rfl, hSw.trans hk (fun _ _ h => h)⟩
                  try simp only [Act.put, List.setIfInBounds_toArray, List.set_cons_zero, List.set_cons_succ]
                  refine qstep (o := ⟨some 157, _, _, _, _, _⟩) (v := ?_) (by rfl) (fun wq hSw => ?_) ?_
                  rotate_left
                  · (have hb9 := hSw.blk HVX5.out (fun h => h); have x0 := hb9.cell (i := 0) rfl; have x1 := hb9.cell (i := 1) rfl; have x2 := hb9.cell (i := 2) rfl; have x3 := hb9.cell (i := 3) rfl; have x4 := hb9.cell (i := 4) rfl; have x5 := hb9.cell (i := 5) rfl; have x6 := hb9.cell (i := 6) rfl; have x7 := hb9.cell (i := 7) rfl; clear hb9; have hc9 := hSw.blk H115.out (fun h => h); have y0 := hc9.cell (i := 0) rfl; have y1 := hc9.cell (i := 1) rfl; have y2 := hc9.cell (i := 2) rfl; have y3 := hc9.cell (i := 3) rfl; have y4 := hc9.cell (i := 4) rfl; have y5 := hc9.cell (i := 5) rfl; have y6 := hc9.cell (i := 6) rfl; clear hc9; go_simp; try with_reducible rfl)
                  try simp only [Act.put, List.setIfInBounds_toArray, List.set_cons_zero, List.set_cons_succ]
                  refine qstep (o := ⟨some 158, _, _, _, _, _⟩) (v := ?_) (by rfl) (fun wq hSw => ?_) ?_
                  rotate_left
                  · (go_simp; try with_reducible rfl)
                  try simp only [Act.put, List.setIfInBounds_toArray, List.set_cons_zero, List.set_cons_succ]
                  refine qcall (o := ⟨some 159, _, _, _, _, _⟩) (v := .int .u64 0) (by rfl) (fun wq hSw => ?_) (fun wq hSw => Calls.mono (HLAT.out _ (hSw.blk HBV5.out (fun h => h))) ?_) ?_
                  · (go_simp; try with_reducible rfl)
                  · rintro e w9 ⟨rfl, hk⟩; exact ⟨rfl, hSw.trans hk (fun _ _ h => h)⟩
                  try simp only [Act.put, List.setIfInBounds_toArray, List.set_cons_zero, List.set_cons_succ]
                  refine qcall (o := ⟨some 160, _, _, _, _, _⟩) (v := .int .u64 1) (by rfl) (fun wq hSw => ?_) (fun wq hSw => Calls.mono (HLCK.out _) ?_) ?_
                  · (go_simp; try with_reducible rfl)
                  · rintro e w9 ⟨rfl, rfl⟩; exact ⟨rfl, hSw⟩
                  try simp only [Act.put, List.setIfInBounds_toArray, List.set_cons_zero, List.set_cons_succ]
                  refine qstep (o := ⟨some 161, _, _, _, _, _⟩) (v := ?_) (by rfl) (fun wq hSw => ?_) ?_
                  rotate_left
                  · (go_simp; try with_reducible rfl)
                  try simp only [Act.put, List.setIfInBounds_toArray, List.set_cons_zero, List.set_cons_succ]
                  refine qstep (o := ⟨some 162, _, _, _, _, _⟩) (v := ?_) (by rfl) (fun wq hSw => ?_) ?_
                  rotate_left
                  · (go_simp; try with_reducible rfl)
                  try simp only [Act.put, List.setIfInBounds_toArray, List.set_cons_zero, List.set_cons_succ]
                  refine wpQuiet_nil ?_
                  intro wz hHeld
                  try simp only [Act.put, List.setIfInBounds_toArray, List.set_cons_zero, List.set_cons_succ]
                  replace HM5 := Lib.hid (HM5.out.kept hHeld (fun h => h) (fun h => h))
                  replace HVX5 := Lib.hid (hHeld.blk HVX5.out (fun h => h))
                  replace HBV5 := Lib.hid (hHeld.blk HBV5.out (fun h => h))
                  replace H115 := Lib.hid (hHeld.blk H115.out (fun h => h))
                  replace HK5 := Lib.hid (HK5.out.trans hHeld (fun _ _ h => h.elim))
                  replace HHB := Lib.hid (hHeld.blk HHB.out (fun h => h))
                  replace HR6 := Lib.hid (HR6.out.keptF hHeld (fun _ _ h => h))
                  replace HRW := Lib.hid (hHeld.blk HRW.out (fun h => h))
                  clear hHeld
                  have hrw9 := HRW.out
                  have hc3 : cellAt l2 (nla F wn) = cel0 := HZ.out wn (HTG.out HT0.out).one (HTG.out HT0.out).top
                  have hj2 : j < l2.length := by have := HNL.out; omega
                  have hlj : l2[j]? = some ((0 : Int), (⟨#[]⟩ : ByteArray), (0 : Int)) := by
                    rw [HJ.out] at hc3
                    rw [cellAt_in _ _ hj2] at hc3
                    rw [List.getElem?_eq_getElem hj2, hc3]; rfl
                  have h3l : j * 3 < (flat3 l2).length := by rw [flat3_length]; omega
                  have s0 := hrw9.cell (i := j * 3) (by rw [List.getElem?_append_left h3l]; exact (flat3_at l2 j _ hlj).1)
                  have z0 := hrw9.frozen (j * 3)
                  clear hrw9
                  go_upto_region 30 with fail
                  have hKs := (Kept.refl (fun i => i = gq) wz).setCell (a := ⟨gq, j * 3, none⟩) (fun _ => rfl) (.int .u64 1)
                  have hrws := HRW.out.set (j * 3) (.int .u64 1)
                  have hl5e : l2.set j ((1 : Int), (⟨#[]⟩ : ByteArray), (0 : Int)) = l5 := by
                    have h := HL5.out
                    rw [HJ.out] at h
                    unfold putAt at h
                    rw [if_pos (by omega), Int.toNat_natCast] at h
                    exact h
                  rw [list_set_left h3l, flat3_word hlj, hl5e] at hrws
                  replace HRW := Lib.hid hrws
                  have hq1 := HQ.out
                  have hq2 := HLTS.out
                  replace HM5 := Lib.hid (HM5.out.kept hKs (by omega) (by omega))
                  replace HVX5 := Lib.hid (hKs.blk HVX5.out (by omega))
                  replace HBV5 := Lib.hid (hKs.blk HBV5.out (by omega))
                  replace H115 := Lib.hid (hKs.blk H115.out (by omega))
                  replace HHB := Lib.hid (hKs.blk HHB.out (by omega))
                  replace HR6 := Lib.hid (HR6.out.keptP hKs (fun hp a ha e => by have := HA6.out hp a ha; omega))
                  replace HK5 := Lib.hid (HK5.out.trans hKs (fun i hi e => by have h1 := HWS.out; have h2 := HNEWQ.out; omega))
                  clear hKs hrws hl5e s0 z0 h3l hlj hj2 hc3 hq1 hq2
                  generalize wz.setCell ⟨gq, j * 3, none⟩ (.int .u64 1) = V9 at *
                  have HPAGE2 := Lib.hid (show ∀ W, Kept (fun _ => False) V9 W → Calls Tryz.prog 18 #[.agg #[.int .i64 1, .int .i64 2, .int .i64 100, .int .i64 100, .int .i64 200, .int .i64 (F : Int), .int .u64 1000, .slice (some ⟨gv, 0, none⟩) nl nl], .int .u64 (wn : Int)] W fun e w' => ∃ (A : Option Addr) (c : Nat), e = .returned (.agg #[.int .i64 (lvl : Int), .slice A P.xs.length c, .string P.hi, .bool P.la, .int .u64 (P.rt : Int)]) ∧ Rs w' A c P.xs ∧ Kept (fun _ => False) W w' from fun W hW => by
                    refine (tpage_any F h4 h6 gv nl l2 HNL.out H st mm lo pg HT.out lvl jt wn hlt (by rw [HMM.out]; exact hjt) HTJ.out lvl rfl W (hW.blk HBV5.out (fun h => h))).mono ?_
                    rintro e w' ⟨A, c, rfl, hr, -, hk⟩
                    rw [← HPE.out] at hr ⊢
                    exact ⟨A, c, rfl, hr, hk⟩)
                  have HSAME := Lib.hid (show ∀ W A4 c4, Kept (fun _ => False) V9 W → Rs W A4 c4 P.xs → Calls Tryz.prog 23 #[.agg #[.int .i64 (lvl : Int), .slice A6 P.xs.length c6, .string P.hi, .bool P.la, .int .u64 (P.rt : Int)], .agg #[.int .i64 (lvl : Int), .slice A4 P.xs.length c4, .string P.hi, .bool P.la, .int .u64 (P.rt : Int)]] W fun e w' => e = .returned (.bool true) ∧ Kept (fun _ => False) W w' from fun W A4 c4 hW hr => by
                    have := refSame_yes P A6 A4 c6 c4 W (by have := HPLEN.out; omega) (HR6.out.keptF hW (fun _ _ h => h)) hr
                    rw [HPL.out] at this
                    exact this)
                  refine wp_region_held_drew (S := (fun w' => Kept (fun _ => False) V9 w')) (by kernel_rfl) ?_ (fun hHeld => ?_)
                  · exact (Kept.refl _ _).drew
                  have HW := Lib.hid ((Kept.refl (fun _ => False) V9).drew)
                  generalize V9.drew = G at *
                  refine wpAnyH_take (i := 0) (oi := ⟨some 163, _, _, _, _, _⟩) (v := ?_) rfl (by kernel_rfl) (by kernel_rfl) (by kernel_rfl) (fun _ _ _ h => h) (Or.inl ⟨by rfl, ?_⟩) hHeld ?_
                  rotate_left
                  · (intro wq hSw; go_simp; try with_reducible rfl)
                  try simp only [Act.put, List.setIfInBounds_toArray, List.set_cons_zero, List.set_cons_succ]
                  refine wpAnyH_take (i := 1) (oi := ⟨some 164, _, _, _, _, _⟩) (v := ?_) rfl (by kernel_rfl) (by kernel_rfl) (by kernel_rfl) (fun _ _ _ h => h) (Or.inl ⟨by rfl, ?_⟩) hHeld ?_
                  rotate_left
                  · (intro wq hSw; have hb9 := hSw.blk HVX5.out (fun h => h); have x0 := hb9.cell (i := 0) rfl; have x1 := hb9.cell (i := 1) rfl; have x2 := hb9.cell (i := 2) rfl; have x3 := hb9.cell (i := 3) rfl; have x4 := hb9.cell (i := 4) rfl; have x5 := hb9.cell (i := 5) rfl; have x6 := hb9.cell (i := 6) rfl; have x7 := hb9.cell (i := 7) rfl; clear hb9; have hd9 := hSw.blk HHB.out (fun h => h); have u0 := hd9.cell (i := 0) rfl; have u1 := hd9.cell (i := 1) rfl; have u2 := hd9.cell (i := 2) rfl; have u3 := hd9.cell (i := 3) rfl; have u4 := hd9.cell (i := 4) rfl; have u5 := hd9.cell (i := 5) rfl; have u6 := hd9.cell (i := 6) rfl; clear hd9; go_simp; try with_reducible rfl)
                  try simp only [Act.put, List.setIfInBounds_toArray, List.set_cons_zero, List.set_cons_succ]
                  refine wpAnyH_take (i := 2) (oi := ⟨some 165, _, _, _, _, _⟩) (v := ?_) rfl (by kernel_rfl) (by kernel_rfl) (by kernel_rfl) (fun _ _ _ h => h) (Or.inl ⟨by rfl, ?_⟩) hHeld ?_
                  rotate_left
                  · (intro wq hSw; have hb9 := hSw.blk HVX5.out (fun h => h); have x0 := hb9.cell (i := 0) rfl; have x1 := hb9.cell (i := 1) rfl; have x2 := hb9.cell (i := 2) rfl; have x3 := hb9.cell (i := 3) rfl; have x4 := hb9.cell (i := 4) rfl; have x5 := hb9.cell (i := 5) rfl; have x6 := hb9.cell (i := 6) rfl; have x7 := hb9.cell (i := 7) rfl; clear hb9; have hd9 := hSw.blk HHB.out (fun h => h); have u0 := hd9.cell (i := 0) rfl; have u1 := hd9.cell (i := 1) rfl; have u2 := hd9.cell (i := 2) rfl; have u3 := hd9.cell (i := 3) rfl; have u4 := hd9.cell (i := 4) rfl; have u5 := hd9.cell (i := 5) rfl; have u6 := hd9.cell (i := 6) rfl; clear hd9; go_simp; try with_reducible rfl)
                  try simp only [Act.put, List.setIfInBounds_toArray, List.set_cons_zero, List.set_cons_succ]
                  refine wpAnyH_take (i := 3) (oi := ⟨some 166, _, _, _, _, _⟩) (v := ?_) rfl (by kernel_rfl) (by kernel_rfl) (by kernel_rfl) (fun _ _ _ h => h) (Or.inl ⟨by rfl, ?_⟩) hHeld ?_
                  rotate_left
                  · (intro wq hSw; go_simp; try with_reducible rfl)
                  try simp only [Act.put, List.setIfInBounds_toArray, List.set_cons_zero, List.set_cons_succ]
                  refine wpAnyH_ready (rs := [4]) (by kernel_rfl) (by simp) ?_
                  refine AllReadyH.cons (o := ⟨some 167, _, _, _, _, _⟩) rfl (fun KK hK => ?_) (AllReadyH.nil)
                  go_simp
                  go_at_call 21
                  refine (HLAT.out _ (HW.out.blk HBV5.out (fun h => h))).mono ?_; rintro e G ⟨rfl, hK3⟩
                  replace HW := Lib.hid (HW.out.trans hK3 (fun _ _ h => h))
                  clear hK3
                  refine hK.out _ _ ?_ (fun hHeld2 => ?_)
                  · exact HW.out
                  clear hK KK hHeld
                  have hHeld := hHeld2
                  clear hHeld2
                  try simp only [Act.put, List.setIfInBounds_toArray, List.set_cons_zero, List.set_cons_succ]
                  refine wpAnyH_ready (rs := [5]) (by kernel_rfl) (by simp) ?_
                  refine AllReadyH.cons (o := ⟨some 168, _, _, _, _, _⟩) rfl (fun KK hK => ?_) (AllReadyH.nil)
                  go_simp
                  go_at_call 20
                  refine (HLCK.out _).mono ?_; rintro e G8 ⟨rfl, rfl⟩
                  refine hK.out _ _ ?_ (fun hHeld2 => ?_)
                  · exact HW.out
                  clear hK KK hHeld
                  have hHeld := hHeld2
                  clear hHeld2
                  try simp only [Act.put, List.setIfInBounds_toArray, List.set_cons_zero, List.set_cons_succ]
                  refine wpAnyH_take (i := 6) (oi := ⟨some 169, _, _, _, _, _⟩) (v := .bool false) rfl (by kernel_rfl) (by kernel_rfl) (by kernel_rfl) (fun _ _ _ h => h) (Or.inl ⟨by rfl, ?_⟩) hHeld ?_
                  · (intro wq hSw; go_simp; try first | (with_reducible rfl) | (simp; omega) | (intros; omega) | simp [*])
                  try simp only [Act.put, List.setIfInBounds_toArray, List.set_cons_zero, List.set_cons_succ]
                  refine wpAnyH_take (i := 7) (oi := ⟨some 170, _, _, _, _, _⟩) (v := .bool false) rfl (by kernel_rfl) (by kernel_rfl) (by kernel_rfl) (fun _ _ _ h => h) (Or.inl ⟨by rfl, ?_⟩) hHeld ?_
                  · (intro wq hSw; go_simp; try first | (with_reducible rfl) | (simp; omega) | (intros; omega) | simp [*])
                  try simp only [Act.put, List.setIfInBounds_toArray, List.set_cons_zero, List.set_cons_succ]
                  refine wpAnyH_take (i := 8) (oi := ⟨some 171, _, _, _, _, _⟩) (v := ?_) rfl (by kernel_rfl) (by kernel_rfl) (by kernel_rfl) (fun _ _ _ h => h) (Or.inl ⟨by rfl, ?_⟩) hHeld ?_
                  rotate_left
                  · (intro wq hSw; go_simp; try with_reducible rfl)
                  try simp only [Act.put, List.setIfInBounds_toArray, List.set_cons_zero, List.set_cons_succ]
                  refine wpAnyH_take (i := 9) (oi := ⟨some 172, _, _, _, _, _⟩) (v := ?_) rfl (by kernel_rfl) (by kernel_rfl) (by kernel_rfl) (fun _ _ _ h => h) (Or.inl ⟨by rfl, ?_⟩) hHeld ?_
                  rotate_left
                  · (intro wq hSw; have hb9 := hSw.blk HVX5.out (fun h => h); have x0 := hb9.cell (i := 0) rfl; have x1 := hb9.cell (i := 1) rfl; have x2 := hb9.cell (i := 2) rfl; have x3 := hb9.cell (i := 3) rfl; have x4 := hb9.cell (i := 4) rfl; have x5 := hb9.cell (i := 5) rfl; have x6 := hb9.cell (i := 6) rfl; have x7 := hb9.cell (i := 7) rfl; clear hb9; have hd9 := hSw.blk HHB.out (fun h => h); have u0 := hd9.cell (i := 0) rfl; have u1 := hd9.cell (i := 1) rfl; have u2 := hd9.cell (i := 2) rfl; have u3 := hd9.cell (i := 3) rfl; have u4 := hd9.cell (i := 4) rfl; have u5 := hd9.cell (i := 5) rfl; have u6 := hd9.cell (i := 6) rfl; clear hd9; go_simp; try with_reducible rfl)
                  try simp only [Act.put, List.setIfInBounds_toArray, List.set_cons_zero, List.set_cons_succ]
                  refine wpAnyH_take (i := 10) (oi := ⟨some 173, _, _, _, _, _⟩) (v := ?_) rfl (by kernel_rfl) (by kernel_rfl) (by kernel_rfl) (fun _ _ _ h => h) (Or.inl ⟨by rfl, ?_⟩) hHeld ?_
                  rotate_left
                  · (intro wq hSw; have hb9 := hSw.blk HVX5.out (fun h => h); have x0 := hb9.cell (i := 0) rfl; have x1 := hb9.cell (i := 1) rfl; have x2 := hb9.cell (i := 2) rfl; have x3 := hb9.cell (i := 3) rfl; have x4 := hb9.cell (i := 4) rfl; have x5 := hb9.cell (i := 5) rfl; have x6 := hb9.cell (i := 6) rfl; have x7 := hb9.cell (i := 7) rfl; clear hb9; have hd9 := hSw.blk HHB.out (fun h => h); have u0 := hd9.cell (i := 0) rfl; have u1 := hd9.cell (i := 1) rfl; have u2 := hd9.cell (i := 2) rfl; have u3 := hd9.cell (i := 3) rfl; have u4 := hd9.cell (i := 4) rfl; have u5 := hd9.cell (i := 5) rfl; have u6 := hd9.cell (i := 6) rfl; clear hd9; go_simp; try with_reducible rfl)
                  try simp only [Act.put, List.setIfInBounds_toArray, List.set_cons_zero, List.set_cons_succ]
                  refine wpAnyH_take (i := 11) (oi := ⟨some 174, _, _, _, _, _⟩) (v := ?_) rfl (by kernel_rfl) (by kernel_rfl) (by kernel_rfl) (fun _ _ _ h => h) (Or.inl ⟨by rfl, ?_⟩) hHeld ?_
                  rotate_left
                  · (intro wq hSw; go_simp; try with_reducible rfl)
                  try simp only [Act.put, List.setIfInBounds_toArray, List.set_cons_zero, List.set_cons_succ]
                  refine wpAnyH_ready (rs := [12]) (by kernel_rfl) (by simp) ?_
                  refine AllReadyH.cons (o := ⟨some 175, _, _, _, _, _⟩) rfl (fun KK hK => ?_) (AllReadyH.nil)
                  go_simp
                  go_at_call 18
                  refine (HPAGE2.out _ HW.out).mono ?_; rintro e G ⟨A4, c4, rfl, hR4, hK4⟩
                  replace HW := Lib.hid (HW.out.trans hK4 (fun _ _ h => h))
                  have HR4 := Lib.hid hR4
                  clear hR4 hK4
                  refine hK.out _ _ ?_ (fun hHeld2 => ?_)
                  · exact HW.out
                  clear hK KK hHeld
                  have hHeld := hHeld2
                  clear hHeld2
                  try simp only [Act.put, List.setIfInBounds_toArray, List.set_cons_zero, List.set_cons_succ]
                  refine wpAnyH_ready (rs := [13]) (by kernel_rfl) (by simp) ?_
                  refine AllReadyH.cons (o := ⟨some 176, _, _, _, _, _⟩) rfl (fun KK hK => ?_) (AllReadyH.nil)
                  go_simp
                  go_at_call 23
                  refine (HSAME.out _ A4 c4 HW.out HR4.out).mono ?_; rintro e G ⟨rfl, hK5⟩
                  replace HW := Lib.hid (HW.out.trans hK5 (fun _ _ h => h))
                  clear hK5
                  refine hK.out _ _ ?_ (fun hHeld2 => ?_)
                  · exact HW.out
                  clear hK KK hHeld
                  have hHeld := hHeld2
                  clear hHeld2
                  try simp only [Act.put, List.setIfInBounds_toArray, List.set_cons_zero, List.set_cons_succ]
                  refine wpAnyH_take (i := 14) (oi := ⟨some 177, _, _, _, _, _⟩) (v := .bool false) rfl (by kernel_rfl) (by kernel_rfl) (by kernel_rfl) (fun _ _ _ h => h) (Or.inl ⟨by rfl, ?_⟩) hHeld ?_
                  · (intro wq hSw; go_simp; try first | (with_reducible rfl) | (simp; omega) | (intros; omega) | simp [*])
                  try simp only [Act.put, List.setIfInBounds_toArray, List.set_cons_zero, List.set_cons_succ]
                  refine wpAnyH_take (i := 15) (oi := ⟨some 178, _, _, _, _, _⟩) (v := .bool false) rfl (by kernel_rfl) (by kernel_rfl) (by kernel_rfl) (fun _ _ _ h => h) (Or.inl ⟨by rfl, ?_⟩) hHeld ?_
                  · (intro wq hSw; go_simp; try first | (with_reducible rfl) | (simp; omega) | (intros; omega) | simp [*])
                  try simp only [Act.put, List.setIfInBounds_toArray, List.set_cons_zero, List.set_cons_succ]
                  refine wpAnyH_done (by kernel_rfl) ?_ _
                  clear hHeld
                  replace HM5 := Lib.hid (HM5.out.kept HW.out (fun h => h) (fun h => h))
                  replace HVX5 := Lib.hid (HW.out.blk HVX5.out (fun h => h))
                  replace HBV5 := Lib.hid (HW.out.blk HBV5.out (fun h => h))
                  replace H115 := Lib.hid (HW.out.blk H115.out (fun h => h))
                  replace HK5 := Lib.hid (HK5.out.trans HW.out (fun _ _ h => h.elim))
                  replace HHB := Lib.hid (HW.out.blk HHB.out (fun h => h))
                  replace HRW := Lib.hid (HW.out.blk HRW.out (fun h => h))
                  clear HW
                  go_wp2_with fail
                  refine (cells_n b g l5 k1 nl _ HLC.out HM5.out (by omega)).mono ?_; rintro e w14 ⟨rfl, hBc, hKc⟩
                  have HBC := Lib.hid hBc
                  have HRWc := Lib.hid (hKc.blk HRW.out (fun h => h))
                  replace HK5 := Lib.hid (HK5.out.trans hKc (fun _ _ h => h.elim))
                  clear hBc hKc
                  generalize G.heap.size = gc at *
                  go_wp2_with fail
                  refine (same_n gc gq nl cq nl l5 _ HLC.out (fun i u h => HBC.out.cell h) (fun i u h => HRWc.out.cell (by rw [List.getElem?_append_left (List.getElem?_eq_some_iff.1 h).1]; exact h)) (by omega)).mono ?_; rintro e w15 ⟨rfl, q3, rfl⟩
                  replace HK5 := Lib.hid (HK5.out.drewN q3)
                  go_wp2
                  go_ret
                  refine ⟨rfl, ?_⟩
                  have hKz := HK.out.trans (HK5.out.mono (T := fun i => w.heap.size ≤ i) (fun i h => h.1)) (fun _ _ h => h)
                  exact hKz.below (Nat.le_refl _) (fun _ h => h)
            · have hlt : ¬ lvl < H := fun h => by obtain ⟨jt, hjt, htj, -, -, -⟩ := HIN.out h; have := (HT.out.lev lvl h).s1; omega
              have HHD := Lib.hid (held_bad F fb fd _ x key2 lvl w8 HA5.out)
              have HLC := Lib.hid HNL.out
              go_wp2_with fail
              refine HHD.out.mono ?_; rintro e w9 ⟨rfl, hK6⟩
              have hv0 : hval none 0 0 0 cs0 = .agg #[.int .u64 0, .int .u64 0, .int .i64 0, .slice none 0 0, .string ⟨#[]⟩, .bool false, .int .u64 0] := rfl
              rw [hv0]
              replace HM5 := Lib.hid (HM5.out.kept hK6 (fun h => h) (fun h => h))
              replace HVX5 := Lib.hid (hK6.blk HVX5.out (fun h => h))
              replace HBV5 := Lib.hid (hK6.blk HBV5.out (fun h => h))
              replace H115 := Lib.hid (hK6.blk H115.out (fun h => h))
              replace HK5 := Lib.hid (HK5.out.trans hK6 (fun _ _ h => h.elim))
              clear hK6 HHD HA5 e0 hv0
              go_upto_region 16 with fail
              have hal := (Kept.refl (fun _ => False) w9).alloc (.cells #[.int .u64 0, .int .u64 0, .int .i64 0, .slice none 0 0, .string ⟨#[]⟩, .bool false, .int .u64 0] 48)
              have HHB := Lib.hid (Blk.new w9 [.int .u64 0, .int .u64 0, .int .i64 0, .slice none 0 0, .string ⟨#[]⟩, .bool false, .int .u64 0] 48)
              replace HM5 := Lib.hid (HM5.out.kept hal (fun h => h) (fun h => h))
              replace HVX5 := Lib.hid (hal.blk HVX5.out (fun h => h))
              replace HBV5 := Lib.hid (hal.blk HBV5.out (fun h => h))
              replace H115 := Lib.hid (hal.blk H115.out (fun h => h))
              replace HK5 := Lib.hid (HK5.out.trans hal (fun _ _ h => h.elim))
              clear hal
              generalize w9.heap.size = rh at HHB ⊢
              generalize w9.alloc (.cells #[.int .u64 0, .int .u64 0, .int .i64 0, .slice none 0 0, .string ⟨#[]⟩, .bool false, .int .u64 0] 48) = V7 at *
              have hvx9 := HVX5.out
              have v0 := hvx9.cell (i := 0) rfl
              have v1 := hvx9.cell (i := 1) rfl
              have v2 := hvx9.cell (i := 2) rfl
              have v3 := hvx9.cell (i := 3) rfl
              have v4 := hvx9.cell (i := 4) rfl
              have v5 := hvx9.cell (i := 5) rfl
              have v6 := hvx9.cell (i := 6) rfl
              have v7 := hvx9.cell (i := 7) rfl
              clear hvx9
              go_wp2_with fail
              refine (vlevel_out F h4 h6 gv nl l5 HNL.out H st mm lo pg HT.out lvl (by omega) (by omega) _ HBV5.out).mono ?_; rintro e w10 ⟨rfl, hK9⟩
              replace HM5 := Lib.hid (HM5.out.kept hK9 (fun h => h) (fun h => h))
              replace HVX5 := Lib.hid (hK9.blk HVX5.out (fun h => h))
              replace HBV5 := Lib.hid (hK9.blk HBV5.out (fun h => h))
              replace H115 := Lib.hid (hK9.blk H115.out (fun h => h))
              replace HK5 := Lib.hid (HK5.out.trans hK9 (fun _ _ h => h.elim))
              replace HHB := Lib.hid (hK9.blk HHB.out (fun h => h))
              clear hK9 v0 v1 v2 v3 v4 v5 v6 v7
              go_wp2_with fail
              go_loopw [23, 24, 26] (fun wv lv iv wr => iv = .int .i64 0 ∧ wv = .int .u64 0 ∧ lv = .string ⟨#[]⟩ ∧ Kept (fun _ => False) w10 wr) (fun _ _ _ _ => 0)
              case atStart => exact ⟨rfl, rfl, rfl, Kept.refl _ _⟩
              case round =>
                rename World => V3
                obtain ⟨rfl, rfl, rfl, hKr⟩ := hrel
                have hkk : ¬ (k1 : Int) < (k1 : Int) := by omega
                have hk50 : ¬ (5000 : Int) ≤ (k1 : Int) := by omega
                have wku : IntKind.u64.wrap (k1 : Int) = (k1 : Int) := by rw [IntKind.wrap_u64]; omega
                replace HM5 := Lib.hid (HM5.out.kept hKr (fun h => h) (fun h => h))
                replace HVX5 := Lib.hid (hKr.blk HVX5.out (fun h => h))
                replace HBV5 := Lib.hid (hKr.blk HBV5.out (fun h => h))
                replace H115 := Lib.hid (hKr.blk H115.out (fun h => h))
                replace HK5 := Lib.hid (HK5.out.trans hKr (fun _ _ h => h.elim))
                replace HHB := Lib.hid (hKr.blk HHB.out (fun h => h))
                have HHB9 := HHB.out
                have u0 := HHB9.cell (i := 0) rfl
                have u1 := HHB9.cell (i := 1) rfl
                have u2 := HHB9.cell (i := 2) rfl
                have u3 := HHB9.cell (i := 3) rfl
                have u4 := HHB9.cell (i := 4) rfl
                have u5 := HHB9.cell (i := 5) rfl
                have u6 := HHB9.cell (i := 6) rfl
                clear HHB9 hKr
                have hv91 := HVX5.out
                have v7 := hv91.cell (i := 7) rfl
                clear hv91
                go_wp2_with fail
                refine (accesses_any b g l5 k1 _ HM5.out).mono ?_; rintro e w11 ⟨rfl, rfl⟩
                obtain ⟨i0, hi0, hz0, hz1, hz2⟩ := info_parts Tryz.info56
                have hnlp : 0 < nl := by have := HNL.out; have := HLEN.out.2; omega
                go_wp2_with (at_builtin; go_must (refine wpList_append_own _ rfl (.const (.slice none 0 0)) (.tmp 149) 36 rfl V3.heap.size 56 i0 _ 3 32 Tryz.underlying36 hi0 hz0 hz1 hz2 rfl (by decide) _ 0 [] rfl (World.ownsRow_nil _ _ _ _) ⟨gv, 0, none⟩ nl nl (flat3 l5) rfl ?a1 ?b1 ?c1 ?d1 ?e1 ?f1 ?_))
                try case a1 => rw [flat3_length, HNL.out]
                try case b1 => exact fun j u hu => by rw [Addr.add_lit, Nat.zero_add]; exact HBV5.out.cell hu
                try case c1 => exact flat3_one l5
                try case d1 => unfold maxLen; omega
                try case e1 => omega
                try case f1 => exact Nat.le_refl _
                intro v6 w12 hown6 hgr6 _
                have hown7 : w12.ownsRow V3.heap.size 56 3 v6 nl (flat3 l5) := by simpa using hown6
                obtain ⟨gq, cq, restq, rfl, hbq, hBq⟩ := own_blk hown7 hnlp
                have hK6 : Kept (fun _ => False) V3 w12 := (Kept.refl _ _).grown hgr6 (fun k hk => by simp [Value.ownBlock] at hk)
                replace HM5 := Lib.hid (HM5.out.kept hK6 (fun h => h) (fun h => h))
                replace HVX5 := Lib.hid (hK6.blk HVX5.out (fun h => h))
                replace HBV5 := Lib.hid (hK6.blk HBV5.out (fun h => h))
                replace H115 := Lib.hid (hK6.blk H115.out (fun h => h))
                replace HK5 := Lib.hid (HK5.out.trans hK6 (fun _ _ h => h.elim))
                replace HHB := Lib.hid (hK6.blk HHB.out (fun h => h))
                have HRW := Lib.hid hBq
                clear hown6 hown7 hgr6 hbq hBq hK6 u0 u1 u2 u3 u4 u5 u6 v7 hkk hk50 wku hi0 hz0 hz1 hz2
                go_wp2_with fail
                refine (cells_n b g l5 k1 nl _ HLC.out HM5.out (by omega)).mono ?_; rintro e w14 ⟨rfl, hBc, hKc⟩
                have HBC := Lib.hid hBc
                have HRWc := Lib.hid (hKc.blk HRW.out (fun h => h))
                replace HK5 := Lib.hid (HK5.out.trans hKc (fun _ _ h => h.elim))
                clear hBc hKc
                generalize w12.heap.size = gc at *
                go_wp2_with fail
                refine (same_n gc gq nl cq nl l5 _ HLC.out (fun i u h => HBC.out.cell h) (fun i u h => HRWc.out.cell (by rw [List.getElem?_append_left (List.getElem?_eq_some_iff.1 h).1]; exact h)) (by omega)).mono ?_; rintro e w15 ⟨rfl, q3, rfl⟩
                replace HK5 := Lib.hid (HK5.out.drewN q3)
                go_wp2
                go_ret
                refine ⟨rfl, ?_⟩
                have hKz := HK.out.trans (HK5.out.mono (T := fun i => w.heap.size ≤ i) (fun i h => h.1)) (fun _ _ h => h)
                exact hKz.below (Nat.le_refl _) (fun _ h => h)
          | false =>
            have e0 := hf
            go_wp2
            go_roundw
            case rel => exact ⟨k1, m', _, _, _, by omega, by go_num, hf, HWAY.out, HA5.out, HM5.out, HZ5.out, HZL5.out, HK5.out⟩
            case measure => have := HK1.out; simp [intOf]; omega

end Go.Proofs.YtndadgenkmgmaaaGreat
