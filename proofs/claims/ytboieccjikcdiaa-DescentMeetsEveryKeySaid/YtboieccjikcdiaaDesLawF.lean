/-
  DescentFinds, walked. Condition: arguments within the model's reach.
-/
import Derived.Test.YtboieccjikcdiaaDesLawS
import Derived.Test.YtboieccjikcdiaaDesLows
namespace Go.Proofs.Ytboieccjikcdiaa
open Go.RowKit Go.Deep Plain
set_option linter.unusedVariables false

theorem cells_n (b g : Nat) (l : List Cel) (k n : Nat) (w : World) (hl : l.length = n) (h : Mem w b g l k) (hn : n ≤ 1099511627776) :
    Calls Try.prog 18 #[.pointer (some ⟨b, 0, none⟩)] w fun e w' => e = .returned (.slice (some ⟨w.heap.size, 0, none⟩) n n) ∧ Blk w' w.heap.size 49 (flat3 l) ∧ Kept (fun _ => False) w w' := by
  subst hl; exact kitCells_any b g l k w h hn
theorem same_n (g1 g2 c1 c2 n : Nat) (l : List Cel) (w : World) (hl : l.length = n) (h1 : ∀ i u, (flat3 l)[i]? = some u → w.cell? ⟨g1, i, none⟩ = some u) (h2 : ∀ i u, (flat3 l)[i]? = some u → w.cell? ⟨g2, i, none⟩ = some u) (hn : n ≤ 1099511627776) :
    Calls Try.prog 17 #[.slice (some ⟨g1, 0, none⟩) n c1, .slice (some ⟨g2, 0, none⟩) n c2] w fun e w' => e = .returned (.bool true) ∧ ∃ q, w' = w.drewN q := by
  subst hl; exact same_yes g1 g2 c1 c2 l w h1 h2 hn
/-- Low key ≤ key, as the program compares. -/
theorem le_op (a b : ByteArray) : (Op.bytesLess a.toList b.toList || (a.toList == b.toList)) = !kl b a := by
  rw [bytesLess_ltB]
  show _ = !ltB b.toList a.toList
  cases h1 : ltB a.toList b.toList
  · cases h2 : ltB b.toList a.toList
    · rw [ltB_tri _ _ h1 h2]; simp
    · have : (a.toList == b.toList) = false := beq_false_of_ne fun e => by rw [e, ltB_self] at h2; cases h2
      rw [this]; rfl
  · have := ltB_asymm _ _ h1; rw [this]; rfl
/-- A node of a level covers a key: it is the one that does. -/
theorem covers {F : Nat} {l : List Cel} {s m L : Nat} {lo : Nat → ByteArray} {pg : Nat → Pg} (h : Lvl F l s m L lo pg) {i j : Nat} {key : ByteArray} (hi : i < m) (hj : j < m) (hlj : kl key (lo j) = false) (hcj : cov (pg j) key = true) :
    ((Op.bytesLess (lo i).toList key.toList || ((lo i).toList == key.toList)) && ((pg i).la || Op.bytesLess key.toList (pg i).hi.toList)) = true ↔ i = j := by
  rw [le_op, bytesLess_ltB]
  constructor
  · intro e
    rw [Bool.and_eq_true] at e
    refine h.unique hi hj ?_ hlj ?_ hcj
    · have := e.1; simpa using this
    · exact e.2
  · rintro rfl
    rw [hlj]
    exact hcj
set_option maxRecDepth 100000 in
set_option maxHeartbeats 8000000 in
theorem lawFinds (w : World) (AR : Option Addr) (nR cR : Nat) (ss : List ByteArray) (hnR : ss.length = nR) (hrd : Rdv w w.heap.size (.slice AR nR cR) nR (ss.map Value.string)) (hsz : ∀ s ∈ ss, s.size ≤ maxLen) (f : Int) (sh : Int) (hs : 0 ≤ sh) (hide : Bool) (key : ByteArray) (hkey : key.size ≤ maxLen) (at' : Int) (lv' : Int) :
    Calls Try.prog 3 #[.slice AR nR cR, .int .i64 f, .int .u64 sh, .bool hide, .string key, .int .i64 at', .int .i64 lv'] w fun e w' => e = .returned (.bool true) ∧ Below w.heap.size w w' := by
  unfold maxLen at hkey
  obtain ⟨F, hF⟩ : ∃ F : Nat, 4 + f % 3 = (F : Int) := ⟨(4 + f % 3).toNat, by omega⟩
  have h4 : 4 ≤ F := by omega
  have h6 : F ≤ 6 := by omega
  have HF := Lib.hid hF
  have HRD := Lib.hid hrd
  have HSS := Lib.hid hsz
  clear hF hrd hsz
  go_enter Try.func3, Try.ntmps3
  go_wp2_with fail
  refine (tree_any F h4 h6 f HF.out AR nR cR ss hnR sh hs hide w HRD.out HSS.out).mono ?_
  rintro e w1 ⟨b, g, l, fb, fd, A, c, H, n0, rfl, hM, hP, hl2, hD, hbw, hgw, hKr, hA, hK⟩
  obtain ⟨nk, hnk⟩ : ∃ nk, (keysOf ss).length = nk := ⟨_, rfl⟩
  rw [hnk]
  have hnk40 : nk ≤ 40 := by rw [← hnk]; exact keysOf_len ss
  obtain ⟨st, mm, lo, pg, off, hT, hLv, hs0, hFu, hNat, hlen⟩ := hP
  have HM := Lib.hid hM
  have HT := Lib.hid hT
  have HLV := Lib.hid hLv
  have HS0 := Lib.hid hs0
  have HFU := Lib.hid hFu
  have HNAT := Lib.hid hNat
  have HD := Lib.hid hD
  have HKR := Lib.hid hKr
  have HA := Lib.hid hA
  have HK := Lib.hid hK
  have HNK := Lib.hid hnk
  have HBG := Lib.hid (show w.heap.size ≤ b ∧ w.heap.size ≤ g ∧ b < w1.heap.size ∧ g < w1.heap.size from ⟨hbw, hgw, hM.obj.lt, hM.row.lt⟩)
  clear hM hT hLv hs0 hFu hNat hD hKr hA hK hnk hbw hgw hlen HRD HSS HF
  go_wp2_with fail
  have hal := ((Kept.refl (fun _ => False) w1).alloc (.cells #[.int .i64 1, .int .i64 2, .int .i64 100, .int .i64 100, .int .i64 200, .int .i64 (F : Int), .int .u64 1000] 25)).alloc (.cells #[.int .i64 1, .int .i64 2, .int .i64 100, .int .i64 100, .int .i64 200, .int .i64 (F : Int), .int .u64 1000, .int .i64 10, .int .i64 fb, .int .i64 fd] 27)
  have H11 := Lib.hid ((Blk.new w1 [.int .i64 1, .int .i64 2, .int .i64 100, .int .i64 100, .int .i64 200, .int .i64 (F : Int), .int .u64 1000] 25).alloc (.cells #[.int .i64 1, .int .i64 2, .int .i64 100, .int .i64 100, .int .i64 200, .int .i64 (F : Int), .int .u64 1000, .int .i64 10, .int .i64 fb, .int .i64 fd] 27))
  have hNN := Blk.new (w1.alloc (.cells #[.int .i64 1, .int .i64 2, .int .i64 100, .int .i64 100, .int .i64 200, .int .i64 (F : Int), .int .u64 1000] 25)) [.int .i64 1, .int .i64 2, .int .i64 100, .int .i64 100, .int .i64 200, .int .i64 (F : Int), .int .u64 1000, .int .i64 10, .int .i64 fb, .int .i64 fd] 27
  have hsz1 : (w1.alloc (.cells #[.int .i64 1, .int .i64 2, .int .i64 100, .int .i64 100, .int .i64 200, .int .i64 (F : Int), .int .u64 1000] 25)).heap.size = w1.heap.size + 1 := nblk_alloc _ _
  rw [hsz1] at hNN
  have H12 := Lib.hid hNN
  replace HM := Lib.hid (HM.out.kept hal (fun h => h) (fun h => h))
  replace HKR := Lib.hid (HKR.out.kept hal (fun _ _ h => h))
  replace HK := Lib.hid (HK.out.trans hal (fun _ _ h => h))
  clear hal hNN hsz1
  generalize (w1.alloc (.cells #[.int .i64 1, .int .i64 2, .int .i64 100, .int .i64 100, .int .i64 200, .int .i64 (F : Int), .int .u64 1000] 25)).alloc (.cells #[.int .i64 1, .int .i64 2, .int .i64 100, .int .i64 100, .int .i64 200, .int .i64 (F : Int), .int .u64 1000, .int .i64 10, .int .i64 fb, .int .i64 fd] 27) = W at *
  generalize hr12 : w1.heap.size + 1 = r12 at *
  generalize hr11 : w1.heap.size = r11 at *
  have HR := Lib.hid (show w.heap.size ≤ b ∧ w.heap.size ≤ g ∧ b < r11 ∧ g < r11 ∧ r11 < r12 by have := HBG.out; omega)
  clear hr12 hr11 HBG
  refine (awake_any _).mono ?_; rintro e w2 ⟨rfl, hKa⟩
  replace HM := Lib.hid (HM.out.kept hKa (fun h => h) (fun h => h))
  replace HKR := Lib.hid (HKR.out.kept hKa (fun _ _ h => h))
  replace H11 := Lib.hid (hKa.blk H11.out (fun h => h))
  replace H12 := Lib.hid (hKa.blk H12.out (fun h => h))
  replace HK := Lib.hid (HK.out.trans hKa (fun _ _ h => h))
  clear hKa
  by_cases hk100 : 100 < key.size
  · have d0 : (100 : Int) < (key.size : Int) := by omega
    go_wp2_with fail
    refine (awake_any _).mono ?_; rintro e w9 ⟨rfl, hKa⟩
    go_wp2
    go_ret
    exact ⟨rfl, (HK.out.trans hKa (fun _ _ h => h)).below (Nat.le_refl _) (fun _ h => h.elim)⟩
  · have d0 : ¬ (100 : Int) < (key.size : Int) := by omega
    go_upto_region 4 with fail
    go_cut [62] from 55 to 62 (fun v wx => ∃ e : Bool, v = .bool e ∧ (e = true → 0 < nk) ∧ wx = w2)
    case first =>
      by_cases hnk0 : 0 < nk
      · have d1 : (0 : Int) < (nk : Int) := by omega
        go_wp2
        go_meet
        exact ⟨_, rfl, fun _ => hnk0, rfl⟩
      · have d1 : ¬ (0 : Int) < (nk : Int) := by omega
        go_wp2
        go_meet
        exact ⟨false, rfl, (fun e => (by cases e)), rfl⟩
    case rest =>
      obtain ⟨ee, rfl, hee, rfl⟩ := hcut
      rename World => W3
      have HEE := Lib.hid hee
      clear hee
      go_upto_if 62 with fail
      go_cut [4] from 63 to 69 (fun v wx => ∃ k' : ByteArray, v = .string k' ∧ wx = W3)
      case first =>
        cases ee with
        | true =>
          have hnk0 := HEE.out rfl
          obtain ⟨r, hr⟩ : ∃ r : Nat, at' % (nk : Int) = (r : Int) := ⟨(at' % (nk : Int)).toNat, by have := Int.emod_nonneg at' (b := (nk : Int)) (by omega); omega⟩
          have hrl : r < nk := by have := Int.emod_lt_of_pos at' (b := (nk : Int)) (by omega); omega
          have HRM := Lib.hid hr
          clear hr
          obtain ⟨gk, ok, rfl, hgk, hkc⟩ := HKR.out (by rw [HNK.out]; exact hnk0)
          obtain ⟨k', hk'⟩ : ∃ k', (keysOf ss)[r]? = some k' := ⟨_, List.getElem?_eq_getElem (by rw [HNK.out]; exact hrl)⟩
          have hkc1 := hkc r k' hk'
          clear hkc hk'
          go_wp2_with fail
          refine (mod_of at' (nk : Int) r _ (by omega) (by omega) HRM.out).mono ?_; rintro e w9 ⟨rfl, rfl⟩
          go_wp2
          go_meet
          exact ⟨k', rfl, rfl⟩
        | false =>
          go_wp2
          go_meet
          exact ⟨key, rfl, rfl⟩
      case rest =>
        obtain ⟨key2, rfl, rfl⟩ := hcut
        rename World => W3
        clear HEE d0 hk100
        have h11 := H11.out
        have y0 := h11.cell (i := 0) rfl
        have y1 := h11.cell (i := 1) rfl
        have y2 := h11.cell (i := 2) rfl
        have y3 := h11.cell (i := 3) rfl
        have y4 := h11.cell (i := 4) rfl
        have y5 := h11.cell (i := 5) rfl
        have y6 := h11.cell (i := 6) rfl
        clear h11
        obtain ⟨nl, hnl⟩ : ∃ nl, l.length = nl := ⟨_, rfl⟩
        go_wp2_with fail
        refine (view_any F b g l 0 nl hnl (by omega) _ HM.out).mono ?_; rintro e w3 ⟨gv, rfl, hBv, hgv, hKv⟩
        have HNL := Lib.hid hnl
        have HGV := Lib.hid (show r12 < gv by have := H12.out.lt; omega)
        have HBV := Lib.hid hBv
        replace HM := Lib.hid (HM.out.kept hKv (fun h => h) (fun h => h))
        replace HKR := Lib.hid (HKR.out.kept hKv (fun _ _ h => h))
        replace H11 := Lib.hid (hKv.blk H11.out (fun h => h))
        replace H12 := Lib.hid (hKv.blk H12.out (fun h => h))
        replace HK := Lib.hid (HK.out.trans hKv (fun _ _ h => h))
        clear hKv
        clear hBv hgv hnl y0 y1 y2 y3 y4 y5 y6
        go_wp2_with fail
        have HBV0 := Lib.hid (show gv < w3.heap.size from HBV.out.lt)
        have hal := (Kept.refl (fun _ => False) w3).alloc (.cells #[.int .i64 1, .int .i64 2, .int .i64 100, .int .i64 100, .int .i64 200, .int .i64 (F : Int), .int .u64 1000, .slice (some ⟨gv, 0, none⟩) nl nl] 35)
        have HVX := Lib.hid (Blk.new w3 [.int .i64 1, .int .i64 2, .int .i64 100, .int .i64 100, .int .i64 200, .int .i64 (F : Int), .int .u64 1000, .slice (some ⟨gv, 0, none⟩) nl nl] 35)
        replace HBV := Lib.hid (hal.blk HBV.out (fun h => h))
        replace HM := Lib.hid (HM.out.kept hal (fun h => h) (fun h => h))
        replace HKR := Lib.hid (HKR.out.kept hal (fun _ _ h => h))
        replace H11 := Lib.hid (hal.blk H11.out (fun h => h))
        replace H12 := Lib.hid (hal.blk H12.out (fun h => h))
        replace HK := Lib.hid (HK.out.trans hal (fun _ _ h => h))
        clear hal
        have HRV := Lib.hid (show gv < w3.heap.size ∧ r12 < gv from ⟨HBV0.out, HGV.out⟩)
        generalize hrv : w3.heap.size = rv at *
        generalize w3.alloc (.cells #[.int .i64 1, .int .i64 2, .int .i64 100, .int .i64 100, .int .i64 200, .int .i64 (F : Int), .int .u64 1000, .slice (some ⟨gv, 0, none⟩) nl nl] 35) = V0 at *
        clear hrv HBV0
        have hr12v : r12 < V0.heap.size := H12.out.lt
        have hrvv : rv < V0.heap.size := HVX.out.lt
        have hvx := HVX.out
        have v0 := hvx.cell (i := 0) rfl
        have v1 := hvx.cell (i := 1) rfl
        have v2 := hvx.cell (i := 2) rfl
        have v3 := hvx.cell (i := 3) rfl
        have v4 := hvx.cell (i := 4) rfl
        have v5 := hvx.cell (i := 5) rfl
        have v6 := hvx.cell (i := 6) rfl
        have v7 := hvx.cell (i := 7) rfl
        clear hvx
        have V9 := HT.out.lev (H - 1) (by have := HT.out.H1; omega)
        have hone := HT.out.one
        have hnd := V9.nd 0 (by omega)
        rw [Nat.add_zero] at hnd
        have hlv := V9.lv 0 (by omega)
        have hall := HT.out.all (L := H - 1) (i := 0) (by have := HT.out.H1; omega) (by omega)
        have hH1 := HT.out.H1
        have hH100 := HT.out.H100
        have HND := Lib.hid hnd
        clear V9 hnd
        go_wp2_with fail
        refine (height_any F h4 h6 gv nl l HNL.out (st (H - 1)) 0 ⟨#[]⟩ (by omega) (by omega) (pg (H - 1) 0) HND.out.holds HND.out.wf HND.out.len (by omega) _ HBV.out HT.out.root).mono ?_; rintro e V2 ⟨rfl, hK2⟩
        have hHe : ((pg (H - 1) 0).lv : Int) + 1 = (H : Int) := by omega
        rw [hHe]
        replace HM := Lib.hid (HM.out.kept hK2 (fun h => h) (fun h => h))
        replace HKR := Lib.hid (HKR.out.kept hK2 (fun _ _ h => h))
        replace H11 := Lib.hid (hK2.blk H11.out (fun h => h))
        replace H12 := Lib.hid (hK2.blk H12.out (fun h => h))
        replace HVX := Lib.hid (hK2.blk HVX.out (fun h => h))
        replace HBV := Lib.hid (hK2.blk HBV.out (fun h => h))
        replace HK := Lib.hid (HK.out.trans hK2 (fun _ _ h => h))
        clear hK2
        clear v0 v1 v2 v3 v4 v5 v6 v7 hHe hlv hone hall
        obtain ⟨h1, hh1⟩ : ∃ h1, H + 1 = h1 := ⟨_, rfl⟩
        have e7 : (H : Int) + 1 = (h1 : Int) := by omega
        have wh1 : IntKind.i64.wrap (h1 : Int) = (h1 : Int) := by rw [IntKind.wrap_i64]; omega
        obtain ⟨lvl, hlvl⟩ : ∃ r : Nat, lv' % (h1 : Int) = (r : Int) := ⟨(lv' % (h1 : Int)).toNat, by have := Int.emod_nonneg lv' (b := (h1 : Int)) (by omega); omega⟩
        have hlH : lvl ≤ H := by have := Int.emod_lt_of_pos lv' (b := (h1 : Int)) (by omega); omega
        have HLV' := Lib.hid hlvl
        have hh1p : (0 : Int) < (h1 : Int) ∧ (h1 : Int) ≤ 9223372036854775807 := by omega
        clear hlvl hh1
        have h12 := H12.out
        have y0 := h12.cell (i := 0) rfl
        have y1 := h12.cell (i := 1) rfl
        have y2 := h12.cell (i := 2) rfl
        have y3 := h12.cell (i := 3) rfl
        have y4 := h12.cell (i := 4) rfl
        have y5 := h12.cell (i := 5) rfl
        have y6 := h12.cell (i := 6) rfl
        have y7 := h12.cell (i := 7) rfl
        have y8 := h12.cell (i := 8) rfl
        have y9 := h12.cell (i := 9) rfl
        clear h12
        go_wp2_with fail
        refine (mod_of lv' (h1 : Int) lvl _ hh1p.1 hh1p.2 HLV'.out).mono ?_; rintro e w9 ⟨rfl, rfl⟩
        go_wp2_with fail
        refine (newFind_any F fb fd key2 lvl _).mono ?_; rintro e W4 ⟨x, rfl, hx4, hB4, hK4⟩
        clear y0 y1 y2 y3 y4 y5 y6 y7 y8 y9 e7 wh1 hh1p
        obtain ⟨D, t, hpath, hDle, hin, hno⟩ : ∃ D t, WPath F l (nxF key2 lvl) (st (H - 1)) (pg (H - 1) 0) ⟨#[]⟩ D t ⟨#[]⟩ ∧ D ≤ 1111 ∧ (lvl < H → ∃ jt, jt < mm lvl ∧ t = st lvl + jt ∧ kl key2 (lo lvl jt) = false ∧ cov (pg lvl jt) key2 = true) ∧ (¬ lvl < H → t = 0) := by
          by_cases hlt : lvl < H
          · obtain ⟨D, jt, hjt, hpath, hDle, hjlo, hjcov⟩ := HT.out.find_root h6 key2 lvl hlt
            exact ⟨D, _, hpath, hDle, fun _ => ⟨jt, hjt, rfl, hjlo, hjcov⟩, fun h => absurd hlt h⟩
          · obtain ⟨D, hpath, hDle⟩ := HT.out.find_none h6 key2 lvl (by omega)
            exact ⟨D, 0, hpath, hDle, fun h => absurd h hlt, fun _ => rfl⟩
        have HX := Lib.hid (show x ≠ b ∧ x ≠ g ∧ w.heap.size ≤ x ∧ x ≠ r11 ∧ x ≠ r12 ∧ x ≠ rv ∧ x ≠ gv by have h1 := HR.out; have h2 := HRV.out; have h3 := H12.out.lt; have h4 := HK.out.size; have h5 := HVX.out.lt; have h6 := HBV.out.lt; omega)
        have HAT := Lib.hid (show WAt (fun _ => False) W4 F fb fd x 79 (tlF key2 lvl) (nxF key2 lvl) l (D + 1) t ⟨#[]⟩ from WAt.start hB4 HT.out.root hpath)
        have HIN := Lib.hid hin
        have HNO := Lib.hid hno
        replace HM := Lib.hid (HM.out.kept hK4 (fun h => h) (fun h => h))
        replace HKR := Lib.hid (HKR.out.kept hK4 (fun _ _ h => h))
        replace H11 := Lib.hid (hK4.blk H11.out (fun h => h))
        replace H12 := Lib.hid (hK4.blk H12.out (fun h => h))
        replace HVX := Lib.hid (hK4.blk HVX.out (fun h => h))
        replace HBV := Lib.hid (hK4.blk HBV.out (fun h => h))
        replace HK := Lib.hid (HK.out.trans hK4 (fun _ _ h => h))
        clear hK4
        clear hB4 hx4 hpath hin hno
        go_wp2_with fail
        go_loopw [21] (fun kv wr => ∃ (k : Nat) (Z : Nat → Prop), k ≤ D ∧ kv = .int .i64 ((k + 1 : Nat) : Int) ∧ WAt Z wr F fb fd x 79 (tlF key2 lvl) (nxF key2 lvl) l (D + 1 - k) t ⟨#[]⟩ ∧ Mem wr b g l k ∧ (∀ i, Z i → w.heap.size ≤ i ∧ i ≠ b ∧ i ≠ g ∧ i ≠ r11 ∧ i ≠ r12 ∧ i ≠ rv ∧ i ≠ gv) ∧ Kept (fun i => w.heap.size ≤ i ∧ i ≠ r11 ∧ i ≠ r12 ∧ i ≠ rv ∧ i ≠ gv) W4 wr) (fun kv _ => D + 1 - (intOf kv).toNat)
        case atStart => exact ⟨0, _, by omega, rfl, HAT.out, HM.out, fun i h => h.elim, Kept.refl _ _⟩
        case round =>
          obtain ⟨k, Z, hk, rfl, hA, hM, hZ, hK5⟩ := hrel
          obtain ⟨k1, hk1⟩ : ∃ k1, k + 1 = k1 := ⟨_, rfl⟩
          rw [hk1]
          have HAr := Lib.hid hA
          have HMr := Lib.hid hM
          have HZ := Lib.hid hZ
          have HKr := Lib.hid hK5
          have hbl := hM.obj.lt
          have hgl := hM.row.lt
          have hk20 : (k1 : Int) < 5000 := by omega
          clear hA hM hZ hK5
          obtain ⟨d, hd⟩ : ∃ d, D + 1 - k = d + 1 := ⟨D - k, by omega⟩
          have HST := Lib.hid (find_step F h4 h6 fb fd HD.out Z x key2 lvl d t ⟨#[]⟩ wr b g l k HMr.out (by omega) (fun h => (HZ.out b h).2.1 rfl) (fun h => (HZ.out g h).2.2.1 rfl) HX.out.1 HX.out.2.1 HNAT.out (by rw [← hd]; exact HAr.out))
          have HK1 := Lib.hid hk1
          clear hk1
          go_wp2_with fail
          refine HST.out.mono ?_; rintro e w5 ⟨rfl, hM5, Z5, hA5, hK5, hn5⟩
          have HA5 := Lib.hid hA5
          have HM5 := Lib.hid (show Mem w5 b g l k1 from HK1.out ▸ hM5)
          have HZ5 := Lib.hid (show ∀ i, Z5 i → w.heap.size ≤ i ∧ i ≠ b ∧ i ≠ g ∧ i ≠ r11 ∧ i ≠ r12 ∧ i ≠ rv ∧ i ≠ gv from fun i hi => by
            rcases hn5 i hi with h | h
            · exact HZ.out i h
            · have h1 := HKr.out.size
              have h2 := HR.out
              have h3 := HK.out.size
              have h4 := HRV.out
              have h5 := H12.out.lt
              have h6 := HVX.out.lt
              omega)
          have HK5 := Lib.hid (show Kept (fun i => w.heap.size ≤ i ∧ i ≠ r11 ∧ i ≠ r12 ∧ i ≠ rv ∧ i ≠ gv) W4 w5 from HKr.out.trans hK5 (fun i hi h => by
            have h1 := HX.out
            have h2 := HR.out
            have h3 := HRV.out
            rcases h with h | h | h | h
            · omega
            · have := HZ.out i h; omega
            · omega
            · omega))
          clear hA5 hM5 hK5 hn5 HST HAr HMr HZ HKr
          by_cases hd0 : d = 0
          · have e0 : (d == 0) = true := by simp [hd0]
            have HA0 := Lib.hid (show WAt Z5 w5 F fb fd x 79 (tlF key2 lvl) (nxF key2 lvl) l 0 t ⟨#[]⟩ by have := HA5.out; rwa [hd0] at this)
            have hvx5 := HK5.out.blk HVX.out (by have h2 := HR.out; have h3 := HRV.out; omega)
            have hbv5 := HK5.out.blk HBV.out (by have h2 := HR.out; have h3 := HRV.out; omega)
            have HVX5 := Lib.hid hvx5
            have HBV5 := Lib.hid hbv5
            have hk1D : k1 ≤ 1112 := by have := HK1.out; omega
            clear hd0 hd HA5 hvx5 hbv5
            by_cases hlt : lvl < H
            · obtain ⟨jt, hjt, htj, hjl, hjc⟩ := HIN.out hlt
              have hVL := HT.out.lev lvl hlt
              have ht0 : t ≠ 0 := by have := hVL.s1; omega
              have HFN := Lib.hid (find_node F fb fd Z5 x key2 lvl l t ⟨#[]⟩ w5 ht0 h6 HA0.out)
              have HTJ := Lib.hid htj
              have HJL := Lib.hid hjl
              have HJC := Lib.hid hjc
              clear htj hjl hjc hVL
              go_wp2_with fail
              refine HFN.out.mono ?_; rintro e w6 ⟨P, A6, c6, hP, rfl, hR6, -, hK6⟩
              have hPE : P = pg lvl jt := hP.inj (by rw [HTJ.out]; exact (HT.out.lev lvl hlt).nd jt hjt)
              have hPl : P.lv = lvl := by rw [hPE]; exact (HT.out.lev lvl hlt).lv jt hjt
              rw [hPl]
              have HPE := Lib.hid hPE
              have HPL := Lib.hid hPl
              have HPLEN := Lib.hid hP.len
              have HR6 := Lib.hid hR6
              replace HM5 := Lib.hid (HM5.out.kept hK6 (fun h => h) (fun h => h))
              replace HVX5 := Lib.hid (hK6.blk HVX5.out (fun h => h))
              replace HBV5 := Lib.hid (hK6.blk HBV5.out (fun h => h))
              replace HK5 := Lib.hid (HK5.out.trans hK6 (fun _ _ h => h.elim))
              clear hP hPE hPl hR6 hK6 HFN HA0 e0
              go_upto_region 13 with fail
              have hal := (Kept.refl (fun _ => False) w6).alloc (.cells #[.int .i64 (lvl : Int), .slice A6 P.xs.length c6, .string P.hi, .bool P.la, .int .u64 (P.rt : Int)] 43)
              have HPG := Lib.hid (Blk.new w6 [.int .i64 (lvl : Int), .slice A6 P.xs.length c6, .string P.hi, .bool P.la, .int .u64 (P.rt : Int)] 43)
              replace HM5 := Lib.hid (HM5.out.kept hal (fun h => h) (fun h => h))
              replace HVX5 := Lib.hid (hal.blk HVX5.out (fun h => h))
              replace HBV5 := Lib.hid (hal.blk HBV5.out (fun h => h))
              replace HK5 := Lib.hid (HK5.out.trans hal (fun _ _ h => h.elim))
              replace HR6 := Lib.hid (HR6.out.keptF hal (fun _ _ h => h))
              clear hal
              generalize w6.heap.size = rp at HPG ⊢
              generalize w6.alloc (.cells #[.int .i64 (lvl : Int), .slice A6 P.xs.length c6, .string P.hi, .bool P.la, .int .u64 (P.rt : Int)] 43) = V7 at *
              have wku : IntKind.u64.wrap (k1 : Int) = (k1 : Int) := by rw [IntKind.wrap_u64]; omega
              have hkk : ¬ (k1 : Int) < (k1 : Int) := by omega
              have hnl2 : nl ≤ 1048576 := by have := HNL.out; omega
              refine wp_region_held_drew (S := (fun w' => Kept (fun _ => False) V7 w')) (by kernel_rfl) ?_ (fun hHeld => ?_)
              · exact (Kept.refl _ _).drew
              have HW := Lib.hid ((Kept.refl (fun _ => False) V7).drew)
              generalize V7.drew = G at *
              refine wpAnyH_take (i := 0) (oi := ⟨some 97, _, _, _, _, _⟩) (v := ?_) rfl (by kernel_rfl) (by kernel_rfl) (by kernel_rfl) (fun _ _ _ h => h) (Or.inl ⟨by rfl, ?_⟩) hHeld ?_
              rotate_left
              · (intro wq hSw; go_simp; try with_reducible rfl)
              try simp only [Act.put, List.setIfInBounds_toArray, List.set_cons_zero, List.set_cons_succ]
              refine wpAnyH_take (i := 1) (oi := ⟨some 98, _, _, _, _, _⟩) (v := .bool false) rfl (by kernel_rfl) (by kernel_rfl) (by kernel_rfl) (fun _ _ _ h => h) (Or.inl ⟨by rfl, ?_⟩) hHeld ?_
              · (intro wq hSw; go_simp; try first | (with_reducible rfl) | (simp; omega) | (intros; omega) | simp [*])
              try simp only [Act.put, List.setIfInBounds_toArray, List.set_cons_zero, List.set_cons_succ]
              refine wpAnyH_take (i := 2) (oi := ⟨some 99, _, _, _, _, _⟩) (v := ?_) rfl (by kernel_rfl) (by kernel_rfl) (by kernel_rfl) (fun _ _ _ h => h) (Or.inl ⟨by rfl, ?_⟩) hHeld ?_
              rotate_left
              · (intro wq hSw; go_simp; try with_reducible rfl)
              try simp only [Act.put, List.setIfInBounds_toArray, List.set_cons_zero, List.set_cons_succ]
              refine wpAnyH_take (i := 3) (oi := ⟨some 100, _, _, _, _, _⟩) (v := ?_) rfl (by kernel_rfl) (by kernel_rfl) (by kernel_rfl) (fun _ _ _ h => h) (Or.inl ⟨by rfl, ?_⟩) hHeld ?_
              rotate_left
              · (intro wq hSw; go_simp; try with_reducible rfl)
              try simp only [Act.put, List.setIfInBounds_toArray, List.set_cons_zero, List.set_cons_succ]
              refine wpAnyH_take (i := 5) (oi := ⟨some 102, _, _, _, _, _⟩) (v := ?_) rfl (by kernel_rfl) (by kernel_rfl) (by kernel_rfl) (fun _ _ _ h => h) (Or.inl ⟨by rfl, ?_⟩) hHeld ?_
              rotate_left
              · (intro wq hSw; go_simp; try with_reducible rfl)
              try simp only [Act.put, List.setIfInBounds_toArray, List.set_cons_zero, List.set_cons_succ]
              refine wpAnyH_take (i := 6) (oi := ⟨some 103, _, _, _, _, _⟩) (v := .int .u64 (k1 : Int)) rfl (by kernel_rfl) (by kernel_rfl) (by kernel_rfl) (fun _ _ _ h => h) (Or.inl ⟨by rfl, ?_⟩) hHeld ?_
              · (intro wq hSw; go_simp; try first | (with_reducible rfl) | (simp; omega) | (intros; omega) | simp [*])
              try simp only [Act.put, List.setIfInBounds_toArray, List.set_cons_zero, List.set_cons_succ]
              refine wpAnyH_ready (rs := [4]) (by kernel_rfl) (by simp) ?_
              refine AllReadyH.cons (o := ⟨some 101, _, _, _, _, _⟩) rfl (fun KK hK => ?_) (AllReadyH.nil)
              go_simp
              go_at_call 16
              refine (accesses_any b g l k1 _ (HM5.out.kept HW.out (fun h => h) (fun h => h))).mono ?_; rintro e G2 ⟨rfl, rfl⟩
              refine hK.out _ _ ?_ (fun hHeld2 => ?_)
              · exact HW.out
              clear hK KK hHeld
              have hHeld := hHeld2
              clear hHeld2
              try simp only [Act.put, List.setIfInBounds_toArray, List.set_cons_zero, List.set_cons_succ]
              refine wpAnyH_take (i := 7) (oi := ⟨some 104, _, _, _, _, _⟩) (v := .bool false) rfl (by kernel_rfl) (by kernel_rfl) (by kernel_rfl) (fun _ _ _ h => h) (Or.inl ⟨by rfl, ?_⟩) hHeld ?_
              · (intro wq hSw; go_simp; try first | (with_reducible rfl) | (simp; omega) | (intros; omega) | simp [*])
              try simp only [Act.put, List.setIfInBounds_toArray, List.set_cons_zero, List.set_cons_succ]
              refine wpAnyH_take (i := 8) (oi := ⟨some 105, _, _, _, _, _⟩) (v := .bool false) rfl (by kernel_rfl) (by kernel_rfl) (by kernel_rfl) (fun _ _ _ h => h) (Or.inl ⟨by rfl, ?_⟩) hHeld ?_
              · (intro wq hSw; go_simp; try first | (with_reducible rfl) | (simp; omega) | (intros; omega) | simp [*])
              try simp only [Act.put, List.setIfInBounds_toArray, List.set_cons_zero, List.set_cons_succ]
              refine wpAnyH_take (i := 9) (oi := ⟨some 106, _, _, _, _, _⟩) (v := ?_) rfl (by kernel_rfl) (by kernel_rfl) (by kernel_rfl) (fun _ _ _ h => h) (Or.inl ⟨by rfl, ?_⟩) hHeld ?_
              rotate_left
              · (intro wq hSw; go_simp; try with_reducible rfl)
              try simp only [Act.put, List.setIfInBounds_toArray, List.set_cons_zero, List.set_cons_succ]
              refine wpAnyH_take (i := 10) (oi := ⟨some 107, _, _, _, _, _⟩) (v := ?_) rfl (by kernel_rfl) (by kernel_rfl) (by kernel_rfl) (fun _ _ _ h => h) (Or.inl ⟨by rfl, ?_⟩) hHeld ?_
              rotate_left
              · (intro wq hSw; go_simp; try with_reducible rfl)
              try simp only [Act.put, List.setIfInBounds_toArray, List.set_cons_zero, List.set_cons_succ]
              refine wpAnyH_take (i := 12) (oi := ⟨some 109, _, _, _, _, _⟩) (v := ?_) rfl (by kernel_rfl) (by kernel_rfl) (by kernel_rfl) (fun _ _ _ h => h) (Or.inl ⟨by rfl, ?_⟩) hHeld ?_
              rotate_left
              · (intro wq hSw; go_simp; try with_reducible rfl)
              try simp only [Act.put, List.setIfInBounds_toArray, List.set_cons_zero, List.set_cons_succ]
              refine wpAnyH_take (i := 13) (oi := ⟨some 110, _, _, _, _, _⟩) (v := ?_) rfl (by kernel_rfl) (by kernel_rfl) (by kernel_rfl) (fun _ _ _ h => h) (Or.inl ⟨by rfl, ?_⟩) hHeld ?_
              rotate_left
              · (intro wq hSw; have hb9 := hSw.blk HVX5.out (fun h => h); have x0 := hb9.cell (i := 0) rfl; have x1 := hb9.cell (i := 1) rfl; have x2 := hb9.cell (i := 2) rfl; have x3 := hb9.cell (i := 3) rfl; have x4 := hb9.cell (i := 4) rfl; have x5 := hb9.cell (i := 5) rfl; have x6 := hb9.cell (i := 6) rfl; have x7 := hb9.cell (i := 7) rfl; clear hb9; go_simp; try with_reducible rfl)
              try simp only [Act.put, List.setIfInBounds_toArray, List.set_cons_zero, List.set_cons_succ]
              refine wpAnyH_ready (rs := [11]) (by kernel_rfl) (by simp) ?_
              refine AllReadyH.cons (o := ⟨some 108, _, _, _, _, _⟩) rfl (fun KK hK => ?_) (AllReadyH.nil)
              go_simp
              go_at_call 18
              refine (cells_n b g l k1 nl _ HNL.out (HM5.out.kept HW.out (fun h => h) (fun h => h)) (by omega)).mono ?_; rintro e G2 ⟨rfl, hBc, hKc⟩
              have HBC := Lib.hid hBc
              replace HW := Lib.hid (HW.out.trans hKc (fun _ _ h => h))
              clear hBc hKc
              generalize G.heap.size = gc at *
              refine hK.out _ _ ?_ (fun hHeld2 => ?_)
              · exact HW.out
              clear hK KK hHeld
              have hHeld := hHeld2
              clear hHeld2
              try simp only [Act.put, List.setIfInBounds_toArray, List.set_cons_zero, List.set_cons_succ]
              refine wpAnyH_ready (rs := [14]) (by kernel_rfl) (by simp) ?_
              refine AllReadyH.cons (o := ⟨some 111, _, _, _, _, _⟩) rfl (fun KK hK => ?_) (AllReadyH.nil)
              go_simp
              go_at_call 17
              refine (same_n gc gv nl nl nl l _ HNL.out (fun i u h => HBC.out.cell h) (fun i u h => (HW.out.blk HBV5.out (fun h => h)).cell h) (by omega)).mono ?_; rintro e G3 ⟨rfl, q3, rfl⟩
              replace HW := Lib.hid (HW.out.drewN q3)
              generalize G2.drewN q3 = G3 at *
              refine hK.out _ _ ?_ (fun hHeld2 => ?_)
              · exact HW.out
              clear hK KK hHeld
              have hHeld := hHeld2
              clear hHeld2
              try simp only [Act.put, List.setIfInBounds_toArray, List.set_cons_zero, List.set_cons_succ]
              refine wpAnyH_take (i := 15) (oi := ⟨some 112, _, _, _, _, _⟩) (v := .bool false) rfl (by kernel_rfl) (by kernel_rfl) (by kernel_rfl) (fun _ _ _ h => h) (Or.inl ⟨by rfl, ?_⟩) hHeld ?_
              · (intro wq hSw; go_simp; try first | (with_reducible rfl) | (simp; omega) | (intros; omega) | simp [*])
              try simp only [Act.put, List.setIfInBounds_toArray, List.set_cons_zero, List.set_cons_succ]
              refine wpAnyH_take (i := 16) (oi := ⟨some 113, _, _, _, _, _⟩) (v := .bool false) rfl (by kernel_rfl) (by kernel_rfl) (by kernel_rfl) (fun _ _ _ h => h) (Or.inl ⟨by rfl, ?_⟩) hHeld ?_
              · (intro wq hSw; go_simp; try first | (with_reducible rfl) | (simp; omega) | (intros; omega) | simp [*])
              try simp only [Act.put, List.setIfInBounds_toArray, List.set_cons_zero, List.set_cons_succ]
              refine wpAnyH_done (by kernel_rfl) ?_ _
              clear hHeld
              clear hkk wku HM5 HBC
              replace HVX5 := Lib.hid (HW.out.blk HVX5.out (fun h => h))
              replace HBV5 := Lib.hid (HW.out.blk HBV5.out (fun h => h))
              replace HPG := Lib.hid (HW.out.blk HPG.out (fun h => h))
              replace HK5 := Lib.hid (HK5.out.trans HW.out (fun _ _ h => h.elim))
              replace HR6 := Lib.hid (HR6.out.keptF HW.out (fun _ _ h => h))
              clear HW
              have hvx9 := HVX5.out
              have v0 := hvx9.cell (i := 0) rfl
              have v1 := hvx9.cell (i := 1) rfl
              have v2 := hvx9.cell (i := 2) rfl
              have v3 := hvx9.cell (i := 3) rfl
              have v4 := hvx9.cell (i := 4) rfl
              have v5 := hvx9.cell (i := 5) rfl
              have v6 := hvx9.cell (i := 6) rfl
              have v7 := hvx9.cell (i := 7) rfl
              clear hvx9
              have HALL := Lib.hid (HT.out.all (L := lvl) (i := mm lvl - 1) hlt (by omega))
              go_wp2_with fail
              refine (vlevel_in F h4 h6 gv nl l HNL.out H st mm lo pg HT.out lvl hlt _ HBV5.out).mono ?_; rintro e w9 ⟨AL, cL, rfl, hAL, hK9⟩
              obtain ⟨gL, oL, rfl, hgL, -, hcL⟩ := hAL (by omega)
              replace HVX5 := Lib.hid (hK9.blk HVX5.out (fun h => h))
              replace HBV5 := Lib.hid (hK9.blk HBV5.out (fun h => h))
              replace HPG := Lib.hid (hK9.blk HPG.out (fun h => h))
              replace HK5 := Lib.hid (HK5.out.trans hK9 (fun _ _ h => h.elim))
              replace HR6 := Lib.hid (HR6.out.keptF hK9 (fun _ _ h => h))
              clear hK9 v0 v1 v2 v3 v4 v5 v6 v7
              obtain ⟨m, hm⟩ : ∃ m, mm lvl = m := ⟨_, rfl⟩
              rw [hm] at hcL hjt
              rw [hm]
              have HMM := Lib.hid hm
              have hm100 : m ≤ 1000 := by have := HALL.out; omega
              have HCL := Lib.hid (show ∀ i, i < m → w9.cell? ⟨gL, oL + i, none⟩ = some (.int .u64 ((st lvl + i : Nat) : Int)) from fun i hi => hcL i _ (ids_at hi))
              clear hcL hm HALL
              have hvx9 := HVX5.out
              have v0 := hvx9.cell (i := 0) rfl
              have v1 := hvx9.cell (i := 1) rfl
              have v2 := hvx9.cell (i := 2) rfl
              have v3 := hvx9.cell (i := 3) rfl
              have v4 := hvx9.cell (i := 4) rfl
              have v5 := hvx9.cell (i := 5) rfl
              have v6 := hvx9.cell (i := 6) rfl
              have v7 := hvx9.cell (i := 7) rfl
              clear hvx9
              go_wp2_with fail
              refine (lows_any F h4 h6 gv nl l HNL.out H st mm lo pg HT.out lvl m hm100 (some ⟨gL, oL, none⟩) cL _ HBV5.out (fun i hi => ⟨hlt, by rw [HMM.out]; exact hi⟩) (fun _ => ⟨gL, oL, rfl, hgL, HCL.out⟩)).mono ?_; rintro e w10 ⟨gO, cO, rfl, hgO, -, hcO, hK10⟩
              replace HVX5 := Lib.hid (hK10.blk HVX5.out (fun h => h))
              replace HBV5 := Lib.hid (hK10.blk HBV5.out (fun h => h))
              replace HPG := Lib.hid (hK10.blk HPG.out (fun h => h))
              replace HK5 := Lib.hid (HK5.out.trans hK10 (fun _ _ h => h.elim))
              replace HR6 := Lib.hid (HR6.out.keptF hK10 (fun _ _ h => h))
              have HCL2 := Lib.hid (show ∀ i, i < m → w10.cell? ⟨gL, oL + i, none⟩ = some (.int .u64 ((st lvl + i : Nat) : Int)) from fun i hi => (hK10.cell (p := ⟨gL, oL + i, none⟩) hgL (fun h => h)).trans (HCL.out i hi))
              have hgL2 : gL < w10.heap.size := Nat.lt_of_lt_of_le hgL hK10.size
              have HCO := Lib.hid hcO
              clear hcO hK10 HCL hgL v0 v1 v2 v3 v4 v5 v6 v7
              go_wp2_with fail
              go_loopw [26, 27, 28] (fun wv iv _ wr => ∃ i wn : Nat, i ≤ m ∧ iv = .int .i64 (i : Int) ∧ wv = .int .u64 (wn : Int) ∧ (jt < i → wn = t) ∧ (i ≤ jt → wn = 0) ∧ Kept (fun _ => False) w10 wr) (fun _ iv _ _ => m - (intOf iv).toNat)
              case atStart => exact ⟨0, 0, by omega, rfl, rfl, by omega, by omega, Kept.refl _ _⟩
              case round =>
                obtain ⟨i, wn, him, rfl, rfl, hwn1, hwn2, hKr⟩ := hrel
                have HKr := Lib.hid hKr
                have HVXr := Lib.hid (hKr.blk HVX5.out (fun h => h))
                have HBVr := Lib.hid (hKr.blk HBV5.out (fun h => h))
                have HPGr := Lib.hid (hKr.blk HPG.out (fun h => h))
                have HR6r := Lib.hid (HR6.out.keptF hKr (fun _ _ h => h))
                have hgLr : gL < wr.heap.size := Nat.lt_of_lt_of_le hgL2 hKr.size
                have hgOr : gO < wr.heap.size := Nat.lt_of_lt_of_le hgO hKr.size
                by_cases him2 : i < m
                · obtain ⟨nid, hnid⟩ : ∃ nid, st lvl + i = nid := ⟨_, rfl⟩
                  obtain ⟨lw, hlw⟩ : ∃ lw, lo lvl i = lw := ⟨_, rfl⟩
                  obtain ⟨la3, hla3⟩ : ∃ x, (pg lvl i).la = x := ⟨_, rfl⟩
                  obtain ⟨hi3, hhi3⟩ : ∃ x, (pg lvl i).hi = x := ⟨_, rfl⟩
                  obtain ⟨n3, hn3⟩ : ∃ x, (pg lvl i).xs.length = x := ⟨_, rfl⟩
                  obtain ⟨rt3, hrt3⟩ : ∃ x, (pg lvl i).rt = x := ⟨_, rfl⟩
                  have hcl1 := HCL2.out i him2
                  rw [hnid] at hcl1
                  have HCLr := Lib.hid ((hKr.cell (p := ⟨gL, oL + i, none⟩) hgL2 (fun h => h)).trans hcl1)
                  have hlw1 := HCO.out i him2
                  rw [hlw] at hlw1
                  have HLWr := Lib.hid ((hKr.cell (p := ⟨gO, i, none⟩) hgO (fun h => h)).trans hlw1)
                  have HNI := Lib.hid hnid
                  have HPAGE := Lib.hid (show ∀ W, Kept (fun _ => False) wr W → Calls Try.prog 21 #[.agg #[.int .i64 1, .int .i64 2, .int .i64 100, .int .i64 100, .int .i64 200, .int .i64 (F : Int), .int .u64 1000, .slice (some ⟨gv, 0, none⟩) nl nl], .int .u64 (nid : Int)] W fun e w' => ∃ (A : Option Addr) (c : Nat), e = .returned (.agg #[.int .i64 (lvl : Int), .slice A n3 c, .string hi3, .bool la3, .int .u64 (rt3 : Int)]) ∧ Kept (fun _ => False) W w' from fun W hW => by
                    refine (tpage_any F h4 h6 gv nl l HNL.out H st mm lo pg HT.out lvl i nid hlt (by rw [HMM.out]; exact him2) HNI.out.symm lvl rfl W (hW.blk HBVr.out (fun h => h))).mono ?_
                    rintro e w' ⟨A, c, rfl, -, -, hk⟩
                    rw [hhi3, hla3, hn3, hrt3]
                    exact ⟨A, c, rfl, hk⟩)
                  have HCOV := Lib.hid (show ((Op.bytesLess lw.toList key2.toList || (lw.toList == key2.toList)) && (la3 || Op.bytesLess key2.toList hi3.toList)) = true ↔ i = jt from by
                    rw [← hlw, ← hla3, ← hhi3]
                    exact covers (HT.out.lev lvl hlt) (by rw [HMM.out]; exact him2) (by rw [HMM.out]; exact hjt) HJL.out HJC.out)
                  have himI : (i : Int) < (m : Int) := by omega
                  clear hKr hcl1 hlw1 hnid hlw hla3 hhi3 hn3 hrt3
                  go_upto_region 21 with fail
                  refine wp_region_held_drew (S := (fun w' => Kept (fun _ => False) wr w')) (by kernel_rfl) ?_ (fun hHeld => ?_)
                  · exact (Kept.refl _ _).drew
                  have HW := Lib.hid ((Kept.refl (fun _ => False) wr).drew)
                  generalize wr.drew = G at *
                  refine wpAnyH_take (i := 0) (oi := ⟨some 126, _, _, _, _, _⟩) (v := ?_) rfl (by kernel_rfl) (by kernel_rfl) (by kernel_rfl) (fun _ _ _ h => h) (Or.inl ⟨by rfl, ?_⟩) hHeld ?_
                  rotate_left
                  · (intro wq hSw; have hb9 := hSw.blk HVXr.out (fun h => h); have x0 := hb9.cell (i := 0) rfl; have x1 := hb9.cell (i := 1) rfl; have x2 := hb9.cell (i := 2) rfl; have x3 := hb9.cell (i := 3) rfl; have x4 := hb9.cell (i := 4) rfl; have x5 := hb9.cell (i := 5) rfl; have x6 := hb9.cell (i := 6) rfl; have x7 := hb9.cell (i := 7) rfl; clear hb9; have hc9 := (hSw.cell (p := ⟨gL, oL + i, none⟩) hgLr (fun h => h)).trans HCLr.out; go_simp; try with_reducible rfl)
                  try simp only [Act.put, List.setIfInBounds_toArray, List.set_cons_zero, List.set_cons_succ]
                  refine wpAnyH_take (i := 1) (oi := ⟨some 127, _, _, _, _, _⟩) (v := ?_) rfl (by kernel_rfl) (by kernel_rfl) (by kernel_rfl) (fun _ _ _ h => h) (Or.inl ⟨by rfl, ?_⟩) hHeld ?_
                  rotate_left
                  · (intro wq hSw; go_simp; try with_reducible rfl)
                  try simp only [Act.put, List.setIfInBounds_toArray, List.set_cons_zero, List.set_cons_succ]
                  refine wpAnyH_take (i := 2) (oi := ⟨some 128, _, _, _, _, _⟩) (v := ?_) rfl (by kernel_rfl) (by kernel_rfl) (by kernel_rfl) (fun _ _ _ h => h) (Or.inl ⟨by rfl, ?_⟩) hHeld ?_
                  rotate_left
                  · (intro wq hSw; go_simp; try with_reducible rfl)
                  try simp only [Act.put, List.setIfInBounds_toArray, List.set_cons_zero, List.set_cons_succ]
                  refine wpAnyH_take (i := 3) (oi := ⟨some 129, _, _, _, _, _⟩) (v := ?_) rfl (by kernel_rfl) (by kernel_rfl) (by kernel_rfl) (fun _ _ _ h => h) (Or.inl ⟨by rfl, ?_⟩) hHeld ?_
                  rotate_left
                  · (intro wq hSw; go_simp; try with_reducible rfl)
                  try simp only [Act.put, List.setIfInBounds_toArray, List.set_cons_zero, List.set_cons_succ]
                  refine wpAnyH_take (i := 4) (oi := ⟨some 130, _, _, _, _, _⟩) (v := ?_) rfl (by kernel_rfl) (by kernel_rfl) (by kernel_rfl) (fun _ _ _ h => h) (Or.inl ⟨by rfl, ?_⟩) hHeld ?_
                  rotate_left
                  · (intro wq hSw; have hb9 := hSw.blk HVXr.out (fun h => h); have x0 := hb9.cell (i := 0) rfl; have x1 := hb9.cell (i := 1) rfl; have x2 := hb9.cell (i := 2) rfl; have x3 := hb9.cell (i := 3) rfl; have x4 := hb9.cell (i := 4) rfl; have x5 := hb9.cell (i := 5) rfl; have x6 := hb9.cell (i := 6) rfl; have x7 := hb9.cell (i := 7) rfl; clear hb9; have hc9 := (hSw.cell (p := ⟨gL, oL + i, none⟩) hgLr (fun h => h)).trans HCLr.out; go_simp; try with_reducible rfl)
                  try simp only [Act.put, List.setIfInBounds_toArray, List.set_cons_zero, List.set_cons_succ]
                  refine wpAnyH_ready (rs := [5, 6]) (by kernel_rfl) (by simp) ?_
                  refine AllReadyH.cons (o := ⟨some 131, _, _, _, _, _⟩) rfl (fun KK hK => ?_) (AllReadyH.cons (o := ⟨some 28, _, _, _, _, _⟩) rfl (fun KK hK => ?_) (AllReadyH.nil))
                  · go_simp
                    go_at_call 21
                    refine (HPAGE.out _ HW.out).mono ?_; rintro e G ⟨A3, c3, rfl, hK3⟩
                    replace HW := Lib.hid (HW.out.trans hK3 (fun _ _ h => h))
                    try replace HSL := Lib.hid (hK3.blk HSL.out (fun h => h))
                    clear hK3
                    refine hK.out _ _ ?_ (fun hHeld2 => ?_)
                    · exact HW.out
                    clear hK KK hHeld
                    have hHeld := hHeld2
                    clear hHeld2
                    try simp only [Act.put, List.setIfInBounds_toArray, List.set_cons_zero, List.set_cons_succ]
                    refine wpAnyH_ready (rs := [6]) (by kernel_rfl) (by simp) ?_
                    refine AllReadyH.cons (o := ⟨some 28, _, _, _, _, _⟩) rfl (fun KK hK => ?_) (AllReadyH.nil)
                    go_simp
                    have hr1 : wr.heap.size ≤ G.heap.size := HW.out.size
                    replace HW := Lib.hid (HW.out.alloc (.cells #[.int .i64 0, .slice none 0 0, .string ⟨#[]⟩, .bool false, .int .u64 0] 43))
                    have HSL := Lib.hid (Blk.new G [.int .i64 0, .slice none 0 0, .string ⟨#[]⟩, .bool false, .int .u64 0] 43)
                    generalize G.heap.size = rq at *
                    have HR1 := Lib.hid hr1
                    clear hr1
                    generalize G.alloc (.cells #[.int .i64 0, .slice none 0 0, .string ⟨#[]⟩, .bool false, .int .u64 0] 43) = G at *
                    refine hK.out _ _ ?_ (fun hHeld2 => ?_)
                    · exact HW.out
                    clear hK KK hHeld
                    have hHeld := hHeld2
                    clear hHeld2
                    try simp only [Act.put, List.setIfInBounds_toArray, List.set_cons_zero, List.set_cons_succ]
                    refine wpAnyH_ready (rs := [7]) (by kernel_rfl) (by simp) ?_
                    refine AllReadyH.cons (o := ⟨none, _, _, _, _, _⟩) rfl (fun KK hK => ?_) (AllReadyH.nil)
                    have hs9 := HSL.out
                    have s0 := hs9.cell (i := 0) rfl
                    have s1 := hs9.cell (i := 1) rfl
                    have s2 := hs9.cell (i := 2) rfl
                    have s3 := hs9.cell (i := 3) rfl
                    have s4 := hs9.cell (i := 4) rfl
                    have z0 := hs9.frozen 0
                    have z1 := hs9.frozen 1
                    have z2 := hs9.frozen 2
                    have z3 := hs9.frozen 3
                    have z4 := hs9.frozen 4
                    clear hs9
                    go_simp
                    replace HW := Lib.hid ((((((HW.out).setNew HR1.out 0 (.int .i64 (lvl : Int))).setNew HR1.out 1 (.slice A3 n3 c3)).setNew HR1.out 2 (.string hi3)).setNew HR1.out 3 (.bool la3)).setNew HR1.out 4 (.int .u64 (rt3 : Int)))
                    replace HSL := Lib.hid ((((((HSL.out).set 0 (.int .i64 (lvl : Int))).set 1 (.slice A3 n3 c3)).set 2 (.string hi3)).set 3 (.bool la3)).set 4 (.int .u64 (rt3 : Int)))
                    clear s0 s1 s2 s3 s4 z0 z1 z2 z3 z4
                    generalize (((((G).setCell ⟨rq, 0, none⟩ (.int .i64 (lvl : Int))).setCell ⟨rq, 1, none⟩ (.slice A3 n3 c3)).setCell ⟨rq, 2, none⟩ (.string hi3)).setCell ⟨rq, 3, none⟩ (.bool la3)).setCell ⟨rq, 4, none⟩ (.int .u64 (rt3 : Int)) = G at *
                    refine hK.out _ _ ?_ (fun hHeld2 => ?_)
                    · exact HW.out
                    clear hK KK hHeld
                    have hHeld := hHeld2
                    clear hHeld2
                    try simp only [Act.put, List.setIfInBounds_toArray, List.set_cons_zero, List.set_cons_succ]
                    refine wpAnyH_done (by kernel_rfl) ?_ _
                    clear hHeld
                    have hsl := HSL.out
                    have s0 := hsl.cell (i := 0) rfl
                    have s1 := hsl.cell (i := 1) rfl
                    have s2 := hsl.cell (i := 2) rfl
                    have s3 := hsl.cell (i := 3) rfl
                    have s4 := hsl.cell (i := 4) rfl
                    have hlw := (HW.out.cell (p := ⟨gO, i, none⟩) hgOr (fun h => h)).trans HLWr.out
                    have hcl := (HW.out.cell (p := ⟨gL, oL + i, none⟩) hgLr (fun h => h)).trans HCLr.out
                    replace HKr := Lib.hid (HKr.out.trans HW.out (fun _ _ h => h))
                    have hcov := HCOV.out
                    have hlt9 := HSL.out.lt
                    clear hsl HW HSL
                    go_upto_region 22 with fail
                    go_cut [147] from 132 to 147 (fun v wx => ∃ e : Bool, v = .bool e ∧ (e = true ↔ i = jt) ∧ wx = G)
                    case first =>
                      cases hb1 : Op.bytesLess lw.toList key2.toList <;> cases hb2 : (lw.toList == key2.toList) <;> cases la3 <;> cases hb4 : Op.bytesLess key2.toList hi3.toList <;> rw [hb1, hb2, hb4] at hcov <;> (go_wp2; go_meet; exact ⟨_, rfl, by simpa using hcov, rfl⟩)
                    case rest =>
                      obtain ⟨ee, rfl, hee, rfl⟩ := hcut
                      rename World => G9
                      cases ee with
                      | true =>
                        have HIJ := Lib.hid (hee.1 rfl)
                        clear hee hcov
                        go_wp2
                        go_roundw
                        case rel => exact ⟨i + 1, nid, by omega, by go_num, rfl, by have := HNI.out; have := HTJ.out; have := HIJ.out; omega, by have := HIJ.out; omega, HKr.out⟩
                        case measure => simp [intOf]; omega
                      | false =>
                        have hij : ¬ i = jt := fun h => by have := hee.2 h; cases this
                        clear hee hcov
                        go_wp2
                        go_roundw
                        case rel => exact ⟨i + 1, wn, by omega, by go_num, rfl, by omega, by omega, HKr.out⟩
                        case measure => simp [intOf]; omega
                  · go_simp
                    have hr1 : wr.heap.size ≤ G.heap.size := HW.out.size
                    replace HW := Lib.hid (HW.out.alloc (.cells #[.int .i64 0, .slice none 0 0, .string ⟨#[]⟩, .bool false, .int .u64 0] 43))
                    have HSL := Lib.hid (Blk.new G [.int .i64 0, .slice none 0 0, .string ⟨#[]⟩, .bool false, .int .u64 0] 43)
                    generalize G.heap.size = rq at *
                    have HR1 := Lib.hid hr1
                    clear hr1
                    generalize G.alloc (.cells #[.int .i64 0, .slice none 0 0, .string ⟨#[]⟩, .bool false, .int .u64 0] 43) = G at *
                    refine hK.out _ _ ?_ (fun hHeld2 => ?_)
                    · exact HW.out
                    clear hK KK hHeld
                    have hHeld := hHeld2
                    clear hHeld2
                    try simp only [Act.put, List.setIfInBounds_toArray, List.set_cons_zero, List.set_cons_succ]
                    refine wpAnyH_ready (rs := [5]) (by kernel_rfl) (by simp) ?_
                    refine AllReadyH.cons (o := ⟨some 131, _, _, _, _, _⟩) rfl (fun KK hK => ?_) (AllReadyH.nil)
                    go_simp
                    go_at_call 21
                    refine (HPAGE.out _ HW.out).mono ?_; rintro e G ⟨A3, c3, rfl, hK3⟩
                    replace HW := Lib.hid (HW.out.trans hK3 (fun _ _ h => h))
                    try replace HSL := Lib.hid (hK3.blk HSL.out (fun h => h))
                    clear hK3
                    refine hK.out _ _ ?_ (fun hHeld2 => ?_)
                    · exact HW.out
                    clear hK KK hHeld
                    have hHeld := hHeld2
                    clear hHeld2
                    try simp only [Act.put, List.setIfInBounds_toArray, List.set_cons_zero, List.set_cons_succ]
                    refine wpAnyH_ready (rs := [7]) (by kernel_rfl) (by simp) ?_
                    refine AllReadyH.cons (o := ⟨none, _, _, _, _, _⟩) rfl (fun KK hK => ?_) (AllReadyH.nil)
                    have hs9 := HSL.out
                    have s0 := hs9.cell (i := 0) rfl
                    have s1 := hs9.cell (i := 1) rfl
                    have s2 := hs9.cell (i := 2) rfl
                    have s3 := hs9.cell (i := 3) rfl
                    have s4 := hs9.cell (i := 4) rfl
                    have z0 := hs9.frozen 0
                    have z1 := hs9.frozen 1
                    have z2 := hs9.frozen 2
                    have z3 := hs9.frozen 3
                    have z4 := hs9.frozen 4
                    clear hs9
                    go_simp
                    replace HW := Lib.hid ((((((HW.out).setNew HR1.out 0 (.int .i64 (lvl : Int))).setNew HR1.out 1 (.slice A3 n3 c3)).setNew HR1.out 2 (.string hi3)).setNew HR1.out 3 (.bool la3)).setNew HR1.out 4 (.int .u64 (rt3 : Int)))
                    replace HSL := Lib.hid ((((((HSL.out).set 0 (.int .i64 (lvl : Int))).set 1 (.slice A3 n3 c3)).set 2 (.string hi3)).set 3 (.bool la3)).set 4 (.int .u64 (rt3 : Int)))
                    clear s0 s1 s2 s3 s4 z0 z1 z2 z3 z4
                    generalize (((((G).setCell ⟨rq, 0, none⟩ (.int .i64 (lvl : Int))).setCell ⟨rq, 1, none⟩ (.slice A3 n3 c3)).setCell ⟨rq, 2, none⟩ (.string hi3)).setCell ⟨rq, 3, none⟩ (.bool la3)).setCell ⟨rq, 4, none⟩ (.int .u64 (rt3 : Int)) = G at *
                    refine hK.out _ _ ?_ (fun hHeld2 => ?_)
                    · exact HW.out
                    clear hK KK hHeld
                    have hHeld := hHeld2
                    clear hHeld2
                    try simp only [Act.put, List.setIfInBounds_toArray, List.set_cons_zero, List.set_cons_succ]
                    refine wpAnyH_done (by kernel_rfl) ?_ _
                    clear hHeld
                    have hsl := HSL.out
                    have s0 := hsl.cell (i := 0) rfl
                    have s1 := hsl.cell (i := 1) rfl
                    have s2 := hsl.cell (i := 2) rfl
                    have s3 := hsl.cell (i := 3) rfl
                    have s4 := hsl.cell (i := 4) rfl
                    have hlw := (HW.out.cell (p := ⟨gO, i, none⟩) hgOr (fun h => h)).trans HLWr.out
                    have hcl := (HW.out.cell (p := ⟨gL, oL + i, none⟩) hgLr (fun h => h)).trans HCLr.out
                    replace HKr := Lib.hid (HKr.out.trans HW.out (fun _ _ h => h))
                    have hcov := HCOV.out
                    have hlt9 := HSL.out.lt
                    clear hsl HW HSL
                    go_upto_region 22 with fail
                    go_cut [147] from 132 to 147 (fun v wx => ∃ e : Bool, v = .bool e ∧ (e = true ↔ i = jt) ∧ wx = G)
                    case first =>
                      cases hb1 : Op.bytesLess lw.toList key2.toList <;> cases hb2 : (lw.toList == key2.toList) <;> cases la3 <;> cases hb4 : Op.bytesLess key2.toList hi3.toList <;> rw [hb1, hb2, hb4] at hcov <;> (go_wp2; go_meet; exact ⟨_, rfl, by simpa using hcov, rfl⟩)
                    case rest =>
                      obtain ⟨ee, rfl, hee, rfl⟩ := hcut
                      rename World => G9
                      cases ee with
                      | true =>
                        have HIJ := Lib.hid (hee.1 rfl)
                        clear hee hcov
                        go_wp2
                        go_roundw
                        case rel => exact ⟨i + 1, nid, by omega, by go_num, rfl, by have := HNI.out; have := HTJ.out; have := HIJ.out; omega, by have := HIJ.out; omega, HKr.out⟩
                        case measure => simp [intOf]; omega
                      | false =>
                        have hij : ¬ i = jt := fun h => by have := hee.2 h; cases this
                        clear hee hcov
                        go_wp2
                        go_roundw
                        case rel => exact ⟨i + 1, wn, by omega, by go_num, rfl, by omega, by omega, HKr.out⟩
                        case measure => simp [intOf]; omega
                · obtain rfl : wn = t := hwn1 (by omega)
                  have himI : ¬ (i : Int) < (m : Int) := by omega
                  have htn0 : ((wn : Int) == 0) = false := beq_false_of_ne (by omega)
                  have htn1 : ¬ (wn : Int) = 0 := by omega
                  have HPAGE2 := Lib.hid (show ∀ W, Kept (fun _ => False) wr W → Calls Try.prog 21 #[.agg #[.int .i64 1, .int .i64 2, .int .i64 100, .int .i64 100, .int .i64 200, .int .i64 (F : Int), .int .u64 1000, .slice (some ⟨gv, 0, none⟩) nl nl], .int .u64 (wn : Int)] W fun e w' => ∃ (A : Option Addr) (c : Nat), e = .returned (.agg #[.int .i64 (lvl : Int), .slice A P.xs.length c, .string P.hi, .bool P.la, .int .u64 (P.rt : Int)]) ∧ Rs w' A c P.xs ∧ Kept (fun _ => False) W w' from fun W hW => by
                    refine (tpage_any F h4 h6 gv nl l HNL.out H st mm lo pg HT.out lvl jt wn hlt (by rw [HMM.out]; exact hjt) HTJ.out lvl rfl W (hW.blk HBVr.out (fun h => h))).mono ?_
                    rintro e w' ⟨A, c, rfl, hr, -, hk⟩
                    rw [← HPE.out] at hr ⊢
                    exact ⟨A, c, rfl, hr, hk⟩)
                  have HSAME := Lib.hid (show ∀ W A4 c4, Kept (fun _ => False) wr W → Rs W A4 c4 P.xs → Calls Try.prog 22 #[.agg #[.int .i64 (lvl : Int), .slice A6 P.xs.length c6, .string P.hi, .bool P.la, .int .u64 (P.rt : Int)], .agg #[.int .i64 (lvl : Int), .slice A4 P.xs.length c4, .string P.hi, .bool P.la, .int .u64 (P.rt : Int)]] W fun e w' => e = .returned (.bool true) ∧ Kept (fun _ => False) W w' from fun W A4 c4 hW hr => by
                    have := refSame_yes P A6 A4 c6 c4 W (by have := HPLEN.out; omega) (HR6r.out.keptF hW (fun _ _ h => h)) hr
                    rw [HPL.out] at this
                    exact this)
                  clear hKr hwn1 hwn2
                  go_upto_region 24 with fail
                  refine wp_region_held_drew (S := (fun w' => Kept (fun _ => False) wr w')) (by kernel_rfl) ?_ (fun hHeld => ?_)
                  · exact (Kept.refl _ _).drew
                  have HW := Lib.hid ((Kept.refl (fun _ => False) wr).drew)
                  generalize wr.drew = G at *
                  refine wpAnyH_take (i := 0) (oi := ⟨some 152, _, _, _, _, _⟩) (v := ?_) rfl (by kernel_rfl) (by kernel_rfl) (by kernel_rfl) (fun _ _ _ h => h) (Or.inl ⟨by rfl, ?_⟩) hHeld ?_
                  rotate_left
                  · (intro wq hSw; go_simp; try with_reducible rfl)
                  try simp only [Act.put, List.setIfInBounds_toArray, List.set_cons_zero, List.set_cons_succ]
                  refine wpAnyH_take (i := 1) (oi := ⟨some 153, _, _, _, _, _⟩) (v := ?_) rfl (by kernel_rfl) (by kernel_rfl) (by kernel_rfl) (fun _ _ _ h => h) (Or.inl ⟨by rfl, ?_⟩) hHeld ?_
                  rotate_left
                  · (intro wq hSw; go_simp; try with_reducible rfl)
                  try simp only [Act.put, List.setIfInBounds_toArray, List.set_cons_zero, List.set_cons_succ]
                  refine wpAnyH_take (i := 2) (oi := ⟨some 154, _, _, _, _, _⟩) (v := .bool true) rfl (by kernel_rfl) (by kernel_rfl) (by kernel_rfl) (fun _ _ _ h => h) (Or.inl ⟨by rfl, ?_⟩) hHeld ?_
                  · (intro wq hSw; go_simp; try first | (with_reducible rfl) | (simp; omega) | (intros; omega) | simp [*])
                  try simp only [Act.put, List.setIfInBounds_toArray, List.set_cons_zero, List.set_cons_succ]
                  refine wpAnyH_take (i := 3) (oi := ⟨some 155, _, _, _, _, _⟩) (v := .bool true) rfl (by kernel_rfl) (by kernel_rfl) (by kernel_rfl) (fun _ _ _ h => h) (Or.inl ⟨by rfl, ?_⟩) hHeld ?_
                  · (intro wq hSw; go_simp; try first | (with_reducible rfl) | (simp; omega) | (intros; omega) | simp [*])
                  try simp only [Act.put, List.setIfInBounds_toArray, List.set_cons_zero, List.set_cons_succ]
                  refine wpAnyH_take (i := 4) (oi := ⟨some 156, _, _, _, _, _⟩) (v := ?_) rfl (by kernel_rfl) (by kernel_rfl) (by kernel_rfl) (fun _ _ _ h => h) (Or.inl ⟨by rfl, ?_⟩) hHeld ?_
                  rotate_left
                  · (intro wq hSw; go_simp; try with_reducible rfl)
                  try simp only [Act.put, List.setIfInBounds_toArray, List.set_cons_zero, List.set_cons_succ]
                  refine wpAnyH_take (i := 5) (oi := ⟨some 157, _, _, _, _, _⟩) (v := .bool false) rfl (by kernel_rfl) (by kernel_rfl) (by kernel_rfl) (fun _ _ _ h => h) (Or.inl ⟨by rfl, ?_⟩) hHeld ?_
                  · (intro wq hSw; go_simp; try first | (with_reducible rfl) | (simp; omega) | (intros; omega) | simp [*])
                  try simp only [Act.put, List.setIfInBounds_toArray, List.set_cons_zero, List.set_cons_succ]
                  refine wpAnyH_take (i := 6) (oi := ⟨some 158, _, _, _, _, _⟩) (v := .bool false) rfl (by kernel_rfl) (by kernel_rfl) (by kernel_rfl) (fun _ _ _ h => h) (Or.inl ⟨by rfl, ?_⟩) hHeld ?_
                  · (intro wq hSw; go_simp; try first | (with_reducible rfl) | (simp; omega) | (intros; omega) | simp [*])
                  try simp only [Act.put, List.setIfInBounds_toArray, List.set_cons_zero, List.set_cons_succ]
                  refine wpAnyH_take (i := 7) (oi := ⟨some 159, _, _, _, _, _⟩) (v := ?_) rfl (by kernel_rfl) (by kernel_rfl) (by kernel_rfl) (fun _ _ _ h => h) (Or.inl ⟨by rfl, ?_⟩) hHeld ?_
                  rotate_left
                  · (intro wq hSw; have hb9 := hSw.blk HVXr.out (fun h => h); have x0 := hb9.cell (i := 0) rfl; have x1 := hb9.cell (i := 1) rfl; have x2 := hb9.cell (i := 2) rfl; have x3 := hb9.cell (i := 3) rfl; have x4 := hb9.cell (i := 4) rfl; have x5 := hb9.cell (i := 5) rfl; have x6 := hb9.cell (i := 6) rfl; have x7 := hb9.cell (i := 7) rfl; clear hb9; have hp9 := hSw.blk HPGr.out (fun h => h); have p0 := hp9.cell (i := 0) rfl; have p1 := hp9.cell (i := 1) rfl; have p2 := hp9.cell (i := 2) rfl; have p3 := hp9.cell (i := 3) rfl; have p4 := hp9.cell (i := 4) rfl; clear hp9; go_simp; try with_reducible rfl)
                  try simp only [Act.put, List.setIfInBounds_toArray, List.set_cons_zero, List.set_cons_succ]
                  refine wpAnyH_take (i := 8) (oi := ⟨some 160, _, _, _, _, _⟩) (v := ?_) rfl (by kernel_rfl) (by kernel_rfl) (by kernel_rfl) (fun _ _ _ h => h) (Or.inl ⟨by rfl, ?_⟩) hHeld ?_
                  rotate_left
                  · (intro wq hSw; have hb9 := hSw.blk HVXr.out (fun h => h); have x0 := hb9.cell (i := 0) rfl; have x1 := hb9.cell (i := 1) rfl; have x2 := hb9.cell (i := 2) rfl; have x3 := hb9.cell (i := 3) rfl; have x4 := hb9.cell (i := 4) rfl; have x5 := hb9.cell (i := 5) rfl; have x6 := hb9.cell (i := 6) rfl; have x7 := hb9.cell (i := 7) rfl; clear hb9; have hp9 := hSw.blk HPGr.out (fun h => h); have p0 := hp9.cell (i := 0) rfl; have p1 := hp9.cell (i := 1) rfl; have p2 := hp9.cell (i := 2) rfl; have p3 := hp9.cell (i := 3) rfl; have p4 := hp9.cell (i := 4) rfl; clear hp9; go_simp; try with_reducible rfl)
                  try simp only [Act.put, List.setIfInBounds_toArray, List.set_cons_zero, List.set_cons_succ]
                  refine wpAnyH_take (i := 9) (oi := ⟨some 161, _, _, _, _, _⟩) (v := ?_) rfl (by kernel_rfl) (by kernel_rfl) (by kernel_rfl) (fun _ _ _ h => h) (Or.inl ⟨by rfl, ?_⟩) hHeld ?_
                  rotate_left
                  · (intro wq hSw; go_simp; try with_reducible rfl)
                  try simp only [Act.put, List.setIfInBounds_toArray, List.set_cons_zero, List.set_cons_succ]
                  refine wpAnyH_ready (rs := [10]) (by kernel_rfl) (by simp) ?_
                  refine AllReadyH.cons (o := ⟨some 162, _, _, _, _, _⟩) rfl (fun KK hK => ?_) (AllReadyH.nil)
                  go_simp
                  go_at_call 21
                  refine (HPAGE2.out _ HW.out).mono ?_; rintro e G ⟨A4, c4, rfl, hR4, hK4⟩
                  replace HW := Lib.hid (HW.out.trans hK4 (fun _ _ h => h))
                  have HR4 := Lib.hid hR4
                  clear hR4 hK4
                  refine hK.out _ _ ?_ (fun hHeld2 => ?_)
                  · exact HW.out
                  clear hK KK hHeld
                  have hHeld := hHeld2
                  clear hHeld2
                  try simp only [Act.put, List.setIfInBounds_toArray, List.set_cons_zero, List.set_cons_succ]
                  refine wpAnyH_ready (rs := [11]) (by kernel_rfl) (by simp) ?_
                  refine AllReadyH.cons (o := ⟨some 163, _, _, _, _, _⟩) rfl (fun KK hK => ?_) (AllReadyH.nil)
                  go_simp
                  go_at_call 22
                  refine (HSAME.out _ A4 c4 HW.out HR4.out).mono ?_; rintro e G ⟨rfl, hK5⟩
                  replace HW := Lib.hid (HW.out.trans hK5 (fun _ _ h => h))
                  clear hK5
                  refine hK.out _ _ ?_ (fun hHeld2 => ?_)
                  · exact HW.out
                  clear hK KK hHeld
                  have hHeld := hHeld2
                  clear hHeld2
                  try simp only [Act.put, List.setIfInBounds_toArray, List.set_cons_zero, List.set_cons_succ]
                  refine wpAnyH_take (i := 12) (oi := ⟨some 164, _, _, _, _, _⟩) (v := .bool true) rfl (by kernel_rfl) (by kernel_rfl) (by kernel_rfl) (fun _ _ _ h => h) (Or.inl ⟨by rfl, ?_⟩) hHeld ?_
                  · (intro wq hSw; go_simp; try first | (with_reducible rfl) | (simp; omega) | (intros; omega) | simp [*])
                  try simp only [Act.put, List.setIfInBounds_toArray, List.set_cons_zero, List.set_cons_succ]
                  refine wpAnyH_take (i := 13) (oi := ⟨some 165, _, _, _, _, _⟩) (v := .bool true) rfl (by kernel_rfl) (by kernel_rfl) (by kernel_rfl) (fun _ _ _ h => h) (Or.inl ⟨by rfl, ?_⟩) hHeld ?_
                  · (intro wq hSw; go_simp; try first | (with_reducible rfl) | (simp; omega) | (intros; omega) | simp [*])
                  try simp only [Act.put, List.setIfInBounds_toArray, List.set_cons_zero, List.set_cons_succ]
                  refine wpAnyH_take (i := 14) (oi := ⟨some 14, _, _, _, _, _⟩) (v := ?_) rfl (by kernel_rfl) (by kernel_rfl) (by kernel_rfl) (fun _ _ _ h => h) (Or.inl ⟨by rfl, ?_⟩) hHeld ?_
                  rotate_left
                  · (intro wq hSw; go_simp; try with_reducible rfl)
                  try simp only [Act.put, List.setIfInBounds_toArray, List.set_cons_zero, List.set_cons_succ]
                  refine wpAnyH_done (by kernel_rfl) ?_ _
                  clear hHeld
                  replace HKr := Lib.hid (HKr.out.trans HW.out (fun _ _ h => h))
                  replace HK5 := Lib.hid (HK5.out.trans HKr.out (fun _ _ h => h.elim))
                  clear HW HKr
                  go_wp2
                  go_ret
                  refine ⟨rfl, ?_⟩
                  have hKz := (HK.out.mono (T := fun i => w.heap.size ≤ i) (fun _ h => h.elim)).trans (HK5.out.mono (T := fun i => w.heap.size ≤ i) (fun i h => h.1)) (fun _ _ h => h)
                  exact hKz.below (Nat.le_refl _) (fun _ h => h)
            · obtain rfl : t = 0 := HNO.out hlt
              have HFN := Lib.hid (find_nowhere F fb fd Z5 x key2 lvl l ⟨#[]⟩ w5 HA0.out)
              go_wp2_with fail
              refine HFN.out.mono ?_; rintro e w6 ⟨rfl, hK6⟩
              replace HM5 := Lib.hid (HM5.out.kept hK6 (fun h => h) (fun h => h))
              replace HVX5 := Lib.hid (hK6.blk HVX5.out (fun h => h))
              replace HBV5 := Lib.hid (hK6.blk HBV5.out (fun h => h))
              replace HK5 := Lib.hid (HK5.out.trans hK6 (fun _ _ h => h.elim))
              clear hK6 HFN HA0 e0
              go_upto_region 13 with fail
              have hal := (Kept.refl (fun _ => False) w6).alloc (.cells #[.int .i64 0, .slice none 0 0, .string ⟨#[]⟩, .bool false, .int .u64 0] 43)
              have HPG := Lib.hid (Blk.new w6 [.int .i64 0, .slice none 0 0, .string ⟨#[]⟩, .bool false, .int .u64 0] 43)
              replace HM5 := Lib.hid (HM5.out.kept hal (fun h => h) (fun h => h))
              replace HVX5 := Lib.hid (hal.blk HVX5.out (fun h => h))
              replace HBV5 := Lib.hid (hal.blk HBV5.out (fun h => h))
              replace HK5 := Lib.hid (HK5.out.trans hal (fun _ _ h => h.elim))
              clear hal
              generalize w6.heap.size = rp at HPG ⊢
              generalize w6.alloc (.cells #[.int .i64 0, .slice none 0 0, .string ⟨#[]⟩, .bool false, .int .u64 0] 43) = V7 at *
              have wku : IntKind.u64.wrap (k1 : Int) = (k1 : Int) := by rw [IntKind.wrap_u64]; omega
              have hkk : ¬ (k1 : Int) < (k1 : Int) := by omega
              have hnl2 : nl ≤ 1048576 := by have := HNL.out; omega
              refine wp_region_held_drew (S := (fun w' => Kept (fun _ => False) V7 w')) (by kernel_rfl) ?_ (fun hHeld => ?_)
              · exact (Kept.refl _ _).drew
              have HW := Lib.hid ((Kept.refl (fun _ => False) V7).drew)
              generalize V7.drew = G at *
              refine wpAnyH_take (i := 0) (oi := ⟨some 97, _, _, _, _, _⟩) (v := ?_) rfl (by kernel_rfl) (by kernel_rfl) (by kernel_rfl) (fun _ _ _ h => h) (Or.inl ⟨by rfl, ?_⟩) hHeld ?_
              rotate_left
              · (intro wq hSw; go_simp; try with_reducible rfl)
              try simp only [Act.put, List.setIfInBounds_toArray, List.set_cons_zero, List.set_cons_succ]
              refine wpAnyH_take (i := 1) (oi := ⟨some 98, _, _, _, _, _⟩) (v := .bool false) rfl (by kernel_rfl) (by kernel_rfl) (by kernel_rfl) (fun _ _ _ h => h) (Or.inl ⟨by rfl, ?_⟩) hHeld ?_
              · (intro wq hSw; go_simp; try first | (with_reducible rfl) | (simp; omega) | (intros; omega) | simp [*])
              try simp only [Act.put, List.setIfInBounds_toArray, List.set_cons_zero, List.set_cons_succ]
              refine wpAnyH_take (i := 2) (oi := ⟨some 99, _, _, _, _, _⟩) (v := ?_) rfl (by kernel_rfl) (by kernel_rfl) (by kernel_rfl) (fun _ _ _ h => h) (Or.inl ⟨by rfl, ?_⟩) hHeld ?_
              rotate_left
              · (intro wq hSw; go_simp; try with_reducible rfl)
              try simp only [Act.put, List.setIfInBounds_toArray, List.set_cons_zero, List.set_cons_succ]
              refine wpAnyH_take (i := 3) (oi := ⟨some 100, _, _, _, _, _⟩) (v := ?_) rfl (by kernel_rfl) (by kernel_rfl) (by kernel_rfl) (fun _ _ _ h => h) (Or.inl ⟨by rfl, ?_⟩) hHeld ?_
              rotate_left
              · (intro wq hSw; go_simp; try with_reducible rfl)
              try simp only [Act.put, List.setIfInBounds_toArray, List.set_cons_zero, List.set_cons_succ]
              refine wpAnyH_take (i := 5) (oi := ⟨some 102, _, _, _, _, _⟩) (v := ?_) rfl (by kernel_rfl) (by kernel_rfl) (by kernel_rfl) (fun _ _ _ h => h) (Or.inl ⟨by rfl, ?_⟩) hHeld ?_
              rotate_left
              · (intro wq hSw; go_simp; try with_reducible rfl)
              try simp only [Act.put, List.setIfInBounds_toArray, List.set_cons_zero, List.set_cons_succ]
              refine wpAnyH_take (i := 6) (oi := ⟨some 103, _, _, _, _, _⟩) (v := .int .u64 (k1 : Int)) rfl (by kernel_rfl) (by kernel_rfl) (by kernel_rfl) (fun _ _ _ h => h) (Or.inl ⟨by rfl, ?_⟩) hHeld ?_
              · (intro wq hSw; go_simp; try first | (with_reducible rfl) | (simp; omega) | (intros; omega) | simp [*])
              try simp only [Act.put, List.setIfInBounds_toArray, List.set_cons_zero, List.set_cons_succ]
              refine wpAnyH_ready (rs := [4]) (by kernel_rfl) (by simp) ?_
              refine AllReadyH.cons (o := ⟨some 101, _, _, _, _, _⟩) rfl (fun KK hK => ?_) (AllReadyH.nil)
              go_simp
              go_at_call 16
              refine (accesses_any b g l k1 _ (HM5.out.kept HW.out (fun h => h) (fun h => h))).mono ?_; rintro e G2 ⟨rfl, rfl⟩
              refine hK.out _ _ ?_ (fun hHeld2 => ?_)
              · exact HW.out
              clear hK KK hHeld
              have hHeld := hHeld2
              clear hHeld2
              try simp only [Act.put, List.setIfInBounds_toArray, List.set_cons_zero, List.set_cons_succ]
              refine wpAnyH_take (i := 7) (oi := ⟨some 104, _, _, _, _, _⟩) (v := .bool false) rfl (by kernel_rfl) (by kernel_rfl) (by kernel_rfl) (fun _ _ _ h => h) (Or.inl ⟨by rfl, ?_⟩) hHeld ?_
              · (intro wq hSw; go_simp; try first | (with_reducible rfl) | (simp; omega) | (intros; omega) | simp [*])
              try simp only [Act.put, List.setIfInBounds_toArray, List.set_cons_zero, List.set_cons_succ]
              refine wpAnyH_take (i := 8) (oi := ⟨some 105, _, _, _, _, _⟩) (v := .bool false) rfl (by kernel_rfl) (by kernel_rfl) (by kernel_rfl) (fun _ _ _ h => h) (Or.inl ⟨by rfl, ?_⟩) hHeld ?_
              · (intro wq hSw; go_simp; try first | (with_reducible rfl) | (simp; omega) | (intros; omega) | simp [*])
              try simp only [Act.put, List.setIfInBounds_toArray, List.set_cons_zero, List.set_cons_succ]
              refine wpAnyH_take (i := 9) (oi := ⟨some 106, _, _, _, _, _⟩) (v := ?_) rfl (by kernel_rfl) (by kernel_rfl) (by kernel_rfl) (fun _ _ _ h => h) (Or.inl ⟨by rfl, ?_⟩) hHeld ?_
              rotate_left
              · (intro wq hSw; go_simp; try with_reducible rfl)
              try simp only [Act.put, List.setIfInBounds_toArray, List.set_cons_zero, List.set_cons_succ]
              refine wpAnyH_take (i := 10) (oi := ⟨some 107, _, _, _, _, _⟩) (v := ?_) rfl (by kernel_rfl) (by kernel_rfl) (by kernel_rfl) (fun _ _ _ h => h) (Or.inl ⟨by rfl, ?_⟩) hHeld ?_
              rotate_left
              · (intro wq hSw; go_simp; try with_reducible rfl)
              try simp only [Act.put, List.setIfInBounds_toArray, List.set_cons_zero, List.set_cons_succ]
              refine wpAnyH_take (i := 12) (oi := ⟨some 109, _, _, _, _, _⟩) (v := ?_) rfl (by kernel_rfl) (by kernel_rfl) (by kernel_rfl) (fun _ _ _ h => h) (Or.inl ⟨by rfl, ?_⟩) hHeld ?_
              rotate_left
              · (intro wq hSw; go_simp; try with_reducible rfl)
              try simp only [Act.put, List.setIfInBounds_toArray, List.set_cons_zero, List.set_cons_succ]
              refine wpAnyH_take (i := 13) (oi := ⟨some 110, _, _, _, _, _⟩) (v := ?_) rfl (by kernel_rfl) (by kernel_rfl) (by kernel_rfl) (fun _ _ _ h => h) (Or.inl ⟨by rfl, ?_⟩) hHeld ?_
              rotate_left
              · (intro wq hSw; have hb9 := hSw.blk HVX5.out (fun h => h); have x0 := hb9.cell (i := 0) rfl; have x1 := hb9.cell (i := 1) rfl; have x2 := hb9.cell (i := 2) rfl; have x3 := hb9.cell (i := 3) rfl; have x4 := hb9.cell (i := 4) rfl; have x5 := hb9.cell (i := 5) rfl; have x6 := hb9.cell (i := 6) rfl; have x7 := hb9.cell (i := 7) rfl; clear hb9; go_simp; try with_reducible rfl)
              try simp only [Act.put, List.setIfInBounds_toArray, List.set_cons_zero, List.set_cons_succ]
              refine wpAnyH_ready (rs := [11]) (by kernel_rfl) (by simp) ?_
              refine AllReadyH.cons (o := ⟨some 108, _, _, _, _, _⟩) rfl (fun KK hK => ?_) (AllReadyH.nil)
              go_simp
              go_at_call 18
              refine (cells_n b g l k1 nl _ HNL.out (HM5.out.kept HW.out (fun h => h) (fun h => h)) (by omega)).mono ?_; rintro e G2 ⟨rfl, hBc, hKc⟩
              have HBC := Lib.hid hBc
              replace HW := Lib.hid (HW.out.trans hKc (fun _ _ h => h))
              clear hBc hKc
              generalize G.heap.size = gc at *
              refine hK.out _ _ ?_ (fun hHeld2 => ?_)
              · exact HW.out
              clear hK KK hHeld
              have hHeld := hHeld2
              clear hHeld2
              try simp only [Act.put, List.setIfInBounds_toArray, List.set_cons_zero, List.set_cons_succ]
              refine wpAnyH_ready (rs := [14]) (by kernel_rfl) (by simp) ?_
              refine AllReadyH.cons (o := ⟨some 111, _, _, _, _, _⟩) rfl (fun KK hK => ?_) (AllReadyH.nil)
              go_simp
              go_at_call 17
              refine (same_n gc gv nl nl nl l _ HNL.out (fun i u h => HBC.out.cell h) (fun i u h => (HW.out.blk HBV5.out (fun h => h)).cell h) (by omega)).mono ?_; rintro e G3 ⟨rfl, q3, rfl⟩
              replace HW := Lib.hid (HW.out.drewN q3)
              generalize G2.drewN q3 = G3 at *
              refine hK.out _ _ ?_ (fun hHeld2 => ?_)
              · exact HW.out
              clear hK KK hHeld
              have hHeld := hHeld2
              clear hHeld2
              try simp only [Act.put, List.setIfInBounds_toArray, List.set_cons_zero, List.set_cons_succ]
              refine wpAnyH_take (i := 15) (oi := ⟨some 112, _, _, _, _, _⟩) (v := .bool false) rfl (by kernel_rfl) (by kernel_rfl) (by kernel_rfl) (fun _ _ _ h => h) (Or.inl ⟨by rfl, ?_⟩) hHeld ?_
              · (intro wq hSw; go_simp; try first | (with_reducible rfl) | (simp; omega) | (intros; omega) | simp [*])
              try simp only [Act.put, List.setIfInBounds_toArray, List.set_cons_zero, List.set_cons_succ]
              refine wpAnyH_take (i := 16) (oi := ⟨some 113, _, _, _, _, _⟩) (v := .bool false) rfl (by kernel_rfl) (by kernel_rfl) (by kernel_rfl) (fun _ _ _ h => h) (Or.inl ⟨by rfl, ?_⟩) hHeld ?_
              · (intro wq hSw; go_simp; try first | (with_reducible rfl) | (simp; omega) | (intros; omega) | simp [*])
              try simp only [Act.put, List.setIfInBounds_toArray, List.set_cons_zero, List.set_cons_succ]
              refine wpAnyH_done (by kernel_rfl) ?_ _
              clear hHeld
              clear hkk wku HM5 HBC
              replace HVX5 := Lib.hid (HW.out.blk HVX5.out (fun h => h))
              replace HBV5 := Lib.hid (HW.out.blk HBV5.out (fun h => h))
              replace HPG := Lib.hid (HW.out.blk HPG.out (fun h => h))
              replace HK5 := Lib.hid (HK5.out.trans HW.out (fun _ _ h => h.elim))
              clear HW
              have hvx9 := HVX5.out
              have v0 := hvx9.cell (i := 0) rfl
              have v1 := hvx9.cell (i := 1) rfl
              have v2 := hvx9.cell (i := 2) rfl
              have v3 := hvx9.cell (i := 3) rfl
              have v4 := hvx9.cell (i := 4) rfl
              have v5 := hvx9.cell (i := 5) rfl
              have v6 := hvx9.cell (i := 6) rfl
              have v7 := hvx9.cell (i := 7) rfl
              clear hvx9
              go_wp2_with fail
              refine (vlevel_out F h4 h6 gv nl l HNL.out H st mm lo pg HT.out lvl (by omega) (by omega) _ HBV5.out).mono ?_; rintro e w9 ⟨rfl, hK9⟩
              replace HVX5 := Lib.hid (hK9.blk HVX5.out (fun h => h))
              replace HBV5 := Lib.hid (hK9.blk HBV5.out (fun h => h))
              replace HPG := Lib.hid (hK9.blk HPG.out (fun h => h))
              replace HK5 := Lib.hid (HK5.out.trans hK9 (fun _ _ h => h.elim))
              clear hK9 v0 v1 v2 v3 v4 v5 v6 v7
              have hvx9 := HVX5.out
              have v0 := hvx9.cell (i := 0) rfl
              have v1 := hvx9.cell (i := 1) rfl
              have v2 := hvx9.cell (i := 2) rfl
              have v3 := hvx9.cell (i := 3) rfl
              have v4 := hvx9.cell (i := 4) rfl
              have v5 := hvx9.cell (i := 5) rfl
              have v6 := hvx9.cell (i := 6) rfl
              have v7 := hvx9.cell (i := 7) rfl
              clear hvx9
              go_wp2_with fail
              refine (lows_any F h4 h6 gv nl l HNL.out H st mm lo pg HT.out lvl 0 (by omega) none 0 _ HBV5.out (fun i hi => absurd hi (by omega)) (fun h => absurd h (by omega))).mono ?_; rintro e w10 ⟨gO, cO, rfl, -, -, -, hK10⟩
              replace HVX5 := Lib.hid (hK10.blk HVX5.out (fun h => h))
              replace HBV5 := Lib.hid (hK10.blk HBV5.out (fun h => h))
              replace HPG := Lib.hid (hK10.blk HPG.out (fun h => h))
              replace HK5 := Lib.hid (HK5.out.trans hK10 (fun _ _ h => h.elim))
              clear hK10 v0 v1 v2 v3 v4 v5 v6 v7
              go_wp2_with fail
              go_loopw [26, 27, 28] (fun wv iv _ wr => iv = .int .i64 0 ∧ wv = .int .u64 0 ∧ Kept (fun _ => False) w10 wr) (fun _ _ _ _ => 0)
              case atStart => exact ⟨rfl, rfl, Kept.refl _ _⟩
              case round =>
                obtain ⟨rfl, rfl, hKr⟩ := hrel
                have HKr := Lib.hid hKr
                clear hKr
                go_upto_region 24 with fail
                refine qregion (fun w' => Kept (fun _ => False) wr w') (by kernel_rfl) (by kernel_rfl) (Kept.refl _ _).drew ?_
                refine qstep (o := ⟨some 152, _, _, _, _, _⟩) (v := ?_) (by rfl) (fun wq hSw => ?_) ?_
                rotate_left
                · (go_simp; try with_reducible rfl)
                try simp only [Act.put, List.setIfInBounds_toArray, List.set_cons_zero, List.set_cons_succ]
                refine qstep (o := ⟨some 153, _, _, _, _, _⟩) (v := ?_) (by rfl) (fun wq hSw => ?_) ?_
                rotate_left
                · (go_simp; try with_reducible rfl)
                try simp only [Act.put, List.setIfInBounds_toArray, List.set_cons_zero, List.set_cons_succ]
                refine qstep (o := ⟨some 154, _, _, _, _, _⟩) (v := .bool true) (by rfl) (fun wq hSw => ?_) ?_
                · (go_simp; try first | (with_reducible rfl) | (simp; omega) | (intros; omega) | simp [*])
                try simp only [Act.put, List.setIfInBounds_toArray, List.set_cons_zero, List.set_cons_succ]
                refine qstep (o := ⟨some 155, _, _, _, _, _⟩) (v := .bool true) (by rfl) (fun wq hSw => ?_) ?_
                · (go_simp; try first | (with_reducible rfl) | (simp; omega) | (intros; omega) | simp [*])
                try simp only [Act.put, List.setIfInBounds_toArray, List.set_cons_zero, List.set_cons_succ]
                refine qstep (o := ⟨some 156, _, _, _, _, _⟩) (v := ?_) (by rfl) (fun wq hSw => ?_) ?_
                rotate_left
                · (go_simp; try with_reducible rfl)
                try simp only [Act.put, List.setIfInBounds_toArray, List.set_cons_zero, List.set_cons_succ]
                refine qstep (o := ⟨some 157, _, _, _, _, _⟩) (v := .bool true) (by rfl) (fun wq hSw => ?_) ?_
                · (go_simp; try first | (with_reducible rfl) | (simp; omega) | (intros; omega) | simp [*])
                try simp only [Act.put, List.setIfInBounds_toArray, List.set_cons_zero, List.set_cons_succ]
                refine qstep (o := ⟨some 158, _, _, _, _, _⟩) (v := .bool true) (by rfl) (fun wq hSw => ?_) ?_
                · (go_simp; try first | (with_reducible rfl) | (simp; omega) | (intros; omega) | simp [*])
                try simp only [Act.put, List.setIfInBounds_toArray, List.set_cons_zero, List.set_cons_succ]
                go_big_quiet_skip
                try simp only [Act.put, List.setIfInBounds_toArray, List.set_cons_zero, List.set_cons_succ]
                go_big_quiet_skip
                try simp only [Act.put, List.setIfInBounds_toArray, List.set_cons_zero, List.set_cons_succ]
                go_big_quiet_skip
                try simp only [Act.put, List.setIfInBounds_toArray, List.set_cons_zero, List.set_cons_succ]
                go_big_quiet_skip
                try simp only [Act.put, List.setIfInBounds_toArray, List.set_cons_zero, List.set_cons_succ]
                go_big_quiet_skip
                try simp only [Act.put, List.setIfInBounds_toArray, List.set_cons_zero, List.set_cons_succ]
                refine qstep (o := ⟨some 164, _, _, _, _, _⟩) (v := .bool true) (by rfl) (fun wq hSw => ?_) ?_
                · (go_simp; try first | (with_reducible rfl) | (simp; omega) | (intros; omega) | simp [*])
                try simp only [Act.put, List.setIfInBounds_toArray, List.set_cons_zero, List.set_cons_succ]
                refine qstep (o := ⟨some 165, _, _, _, _, _⟩) (v := .bool true) (by rfl) (fun wq hSw => ?_) ?_
                · (go_simp; try first | (with_reducible rfl) | (simp; omega) | (intros; omega) | simp [*])
                try simp only [Act.put, List.setIfInBounds_toArray, List.set_cons_zero, List.set_cons_succ]
                refine qstep (o := ⟨some 14, _, _, _, _, _⟩) (v := ?_) (by rfl) (fun wq hSw => ?_) ?_
                rotate_left
                · (go_simp; try with_reducible rfl)
                try simp only [Act.put, List.setIfInBounds_toArray, List.set_cons_zero, List.set_cons_succ]
                refine wpQuiet_nil ?_
                intro wz hHeld
                replace HKr := Lib.hid (HKr.out.trans hHeld (fun _ _ h => h))
                replace HK5 := Lib.hid (HK5.out.trans HKr.out (fun _ _ h => h.elim))
                clear hHeld HKr
                go_wp2
                go_ret
                refine ⟨rfl, ?_⟩
                have hKz := (HK.out.mono (T := fun i => w.heap.size ≤ i) (fun _ h => h.elim)).trans (HK5.out.mono (T := fun i => w.heap.size ≤ i) (fun i h => h.1)) (fun _ _ h => h)
                exact hKz.below (Nat.le_refl _) (fun _ h => h)
          · have e0 : (d == 0) = false := by simp [hd0]
            have hd1 : 1 ≤ d := by omega
            have HDK := Lib.hid hd
            have hk4 : k + 1 ≤ D := by omega
            clear hd0 hd
            go_wp2
            go_roundw
            case rel => exact ⟨k1, Z5, by have := HK1.out; omega, by go_num, by have := HA5.out; have e := HDK.out; rwa [show d = D + 1 - k1 by have := HK1.out; omega] at this, HM5.out, HZ5.out, HK5.out⟩
            case measure => have := HK1.out; simp [intOf]; omega

end Go.Proofs.Ytboieccjikcdiaa
