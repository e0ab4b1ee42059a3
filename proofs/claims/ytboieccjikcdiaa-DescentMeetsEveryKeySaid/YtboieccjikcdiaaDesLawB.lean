/-
  DescentBelow, walked. Condition: arguments within the model's reach.
-/
import Derived.Test.YtboieccjikcdiaaDesLawF
namespace Go.Proofs.Ytboieccjikcdiaa
open Go.RowKit Go.Deep Plain
set_option linter.unusedVariables false

theorem newBelow_any (F : Nat) (fb fd : Int) (key : ByteArray) (last : Bool) (hk : last = true ∨ ¬ key.toList = []) (w : World) :
    Calls Try.prog 23 #[.agg #[.int .i64 1, .int .i64 2, .int .i64 100, .int .i64 100, .int .i64 200, .int .i64 (F : Int), .int .u64 1000, .int .i64 10, .int .i64 fb, .int .i64 fd], .string key, .bool last] w fun e w' => ∃ x, e = .returned (.pointer (some ⟨x, 0, none⟩)) ∧ w.heap.size ≤ x ∧ Blk w' x 88 (wkv F fb fd 0 (.pointer none) 0 (tlB key last ⟨#[]⟩)) ∧ Kept (fun _ => False) w w' := by
  rcases hk with rfl | h
  · exact newBelow_last F fb fd key w
  · exact newBelow_key F fb fd key last h w
/-- What a Below at its end answers. -/
theorem below_node (F : Nat) (fb fd : Int) (Z : Nat → Prop) (x : Nat) (key : ByteArray) (last : Bool) (l : List Cel) (t : Nat) (lo : ByteArray) (w : World) (ht : t ≠ 0) (hF : F ≤ 6) (h : WAt Z w F fb fd x 88 (tlB key last) (nxB key last) l 0 t lo) :
    Calls Try.prog 25 #[.pointer (some ⟨x, 0, none⟩)] w fun e w' => ∃ (P : Pg) (A : Option Addr) (c : Nat), Nd F l t P ∧ e = .returned (.tuple #[.int .u64 (t : Int), .agg #[.int .i64 (P.lv : Int), .slice A P.xs.length c, .string P.hi, .bool P.la, .int .u64 (P.rt : Int)], .string lo]) ∧ Rs w' A c P.xs ∧ (∀ a, A = some a → w.heap.size ≤ a.block) ∧ Kept (fun _ => False) w w' := by
  generalize hD : 0 = D at h
  cases h with
  | fail h => exact absurd rfl ht
  | start hB hc p => omega
  | read p hj hW => have := p.len; omega
  | done hp hy hs hW =>
    rename_i P y
    obtain ⟨q, h1, h2, h3⟩ := hW
    subst hs
    have hl := hp.len
    refine (bnode_got Z F fb fd x t q key lo last w h1 y h2 hy (Nat.le_trans hl (by omega)) ht).mono ?_
    rintro e w' ⟨A, c, rfl, hR, hA, hK⟩
    exact ⟨y.s.pg, A, c, hp, rfl, hR, hA, hK⟩
/-- The leaves whose low keys lie below a key. -/
theorem bcovers {F : Nat} {l : List Cel} {s m L : Nat} {lo : Nat → ByteArray} {pg : Nat → Pg} (h : Lvl F l s m L lo pg) {i j : Nat} {key : ByteArray} {last : Bool} (hi : i < m) (hj : j < m) (hlj : last = true ∨ kl (lo j) key = true) (hcj : (!(pg j).la && (last || kl (pg j).hi key)) = false) :
    (last || Op.bytesLess (lo i).toList key.toList) = true ↔ i ≤ j := by
  rw [bytesLess_ltB]
  show (last || kl (lo i) key) = true ↔ _
  constructor
  · intro e
    refine Classical.byContradiction fun hij => ?_
    obtain ⟨hla, -, hhi⟩ := h.next j (by omega)
    rw [hla, hhi, Bool.not_false, Bool.true_and, Bool.or_eq_false_iff] at hcj
    rw [hcj.1, Bool.false_or] at e
    have := kl_le_lt (h.mono_le (i := j + 1) (j := i) (by omega) hi) e
    rw [hcj.2] at this; cases this
  · intro hij
    rcases hlj with rfl | h2
    · rfl
    · rw [kl_le_lt (h.mono_le hij hj) h2, Bool.or_true]
set_option maxRecDepth 100000 in
set_option maxHeartbeats 8000000 in
theorem lawBelow (w : World) (AR : Option Addr) (nR cR : Nat) (ss : List ByteArray) (hnR : ss.length = nR) (hrd : Rdv w w.heap.size (.slice AR nR cR) nR (ss.map Value.string)) (hsz : ∀ s ∈ ss, s.size ≤ maxLen) (f : Int) (sh : Int) (hs : 0 ≤ sh) (hide : Bool) (key : ByteArray) (hkey : key.size ≤ maxLen) (at' : Int) (last : Bool) :
    Calls Try.prog 4 #[.slice AR nR cR, .int .i64 f, .int .u64 sh, .bool hide, .string key, .int .i64 at', .bool last] w fun e w' => e = .returned (.bool true) ∧ Below w.heap.size w w' := by
  unfold maxLen at hkey
  obtain ⟨F, hF⟩ : ∃ F : Nat, 4 + f % 3 = (F : Int) := ⟨(4 + f % 3).toNat, by omega⟩
  have h4 : 4 ≤ F := by omega
  have h6 : F ≤ 6 := by omega
  have HF := Lib.hid hF
  have HRD := Lib.hid hrd
  have HSS := Lib.hid hsz
  clear hF hrd hsz
  go_enter Try.func4, Try.ntmps4
  go_wp2_with fail
  refine (tree_any F h4 h6 f HF.out AR nR cR ss hnR sh hs hide w HRD.out HSS.out).mono ?_
  rintro e w1 ⟨b, g, l, fb, fd, A, c, H, n0, rfl, hM, hP, hl2, hD, hbw, hgw, hKr, hA, hK⟩
  obtain ⟨nk, hnk⟩ : ∃ nk, (keysOf ss).length = nk := ⟨_, rfl⟩
  rw [hnk]
  have hnk40 : nk ≤ 40 := by rw [← hnk]; exact keysOf_len ss
  obtain ⟨st, mm, lo, pg, off, hT, hLv, hs0, hFu, hNat, hlen⟩ := hP
  have HM := Lib.hid hM
  have HT := Lib.hid hT
  have HLV := Lib.hid hLv
  have HS0 := Lib.hid hs0
  have HFU := Lib.hid hFu
  have HNAT := Lib.hid hNat
  have HD := Lib.hid hD
  have HKR := Lib.hid hKr
  have HA := Lib.hid hA
  have HK := Lib.hid hK
  have HNK := Lib.hid hnk
  have HBG := Lib.hid (show w.heap.size ≤ b ∧ w.heap.size ≤ g ∧ b < w1.heap.size ∧ g < w1.heap.size from ⟨hbw, hgw, hM.obj.lt, hM.row.lt⟩)
  clear hM hT hLv hs0 hFu hNat hD hKr hA hK hnk hbw hgw hlen HRD HSS HF
  go_wp2_with fail
  have hal := ((Kept.refl (fun _ => False) w1).alloc (.cells #[.int .i64 1, .int .i64 2, .int .i64 100, .int .i64 100, .int .i64 200, .int .i64 (F : Int), .int .u64 1000] 25)).alloc (.cells #[.int .i64 1, .int .i64 2, .int .i64 100, .int .i64 100, .int .i64 200, .int .i64 (F : Int), .int .u64 1000, .int .i64 10, .int .i64 fb, .int .i64 fd] 27)
  have H11 := Lib.hid ((Blk.new w1 [.int .i64 1, .int .i64 2, .int .i64 100, .int .i64 100, .int .i64 200, .int .i64 (F : Int), .int .u64 1000] 25).alloc (.cells #[.int .i64 1, .int .i64 2, .int .i64 100, .int .i64 100, .int .i64 200, .int .i64 (F : Int), .int .u64 1000, .int .i64 10, .int .i64 fb, .int .i64 fd] 27))
  have hNN := Blk.new (w1.alloc (.cells #[.int .i64 1, .int .i64 2, .int .i64 100, .int .i64 100, .int .i64 200, .int .i64 (F : Int), .int .u64 1000] 25)) [.int .i64 1, .int .i64 2, .int .i64 100, .int .i64 100, .int .i64 200, .int .i64 (F : Int), .int .u64 1000, .int .i64 10, .int .i64 fb, .int .i64 fd] 27
  have hsz1 : (w1.alloc (.cells #[.int .i64 1, .int .i64 2, .int .i64 100, .int .i64 100, .int .i64 200, .int .i64 (F : Int), .int .u64 1000] 25)).heap.size = w1.heap.size + 1 := nblk_alloc _ _
  rw [hsz1] at hNN
  have H12 := Lib.hid hNN
  replace HM := Lib.hid (HM.out.kept hal (fun h => h) (fun h => h))
  replace HKR := Lib.hid (HKR.out.kept hal (fun _ _ h => h))
  replace HK := Lib.hid (HK.out.trans hal (fun _ _ h => h))
  clear hal hNN hsz1
  generalize (w1.alloc (.cells #[.int .i64 1, .int .i64 2, .int .i64 100, .int .i64 100, .int .i64 200, .int .i64 (F : Int), .int .u64 1000] 25)).alloc (.cells #[.int .i64 1, .int .i64 2, .int .i64 100, .int .i64 100, .int .i64 200, .int .i64 (F : Int), .int .u64 1000, .int .i64 10, .int .i64 fb, .int .i64 fd] 27) = W at *
  generalize hr12 : w1.heap.size + 1 = r12 at *
  generalize hr11 : w1.heap.size = r11 at *
  have HR := Lib.hid (show w.heap.size ≤ b ∧ w.heap.size ≤ g ∧ b < r11 ∧ g < r11 ∧ r11 < r12 by have := HBG.out; omega)
  clear hr12 hr11 HBG
  refine (awake_any _).mono ?_; rintro e w2 ⟨rfl, hKa⟩
  replace HM := Lib.hid (HM.out.kept hKa (fun h => h) (fun h => h))
  replace HKR := Lib.hid (HKR.out.kept hKa (fun _ _ h => h))
  replace H11 := Lib.hid (hKa.blk H11.out (fun h => h))
  replace H12 := Lib.hid (hKa.blk H12.out (fun h => h))
  replace HK := Lib.hid (HK.out.trans hKa (fun _ _ h => h))
  clear hKa
  by_cases hk100 : 100 < key.size
  · have d0 : (100 : Int) < (key.size : Int) := by omega
    go_wp2_with fail
    refine (awake_any _).mono ?_; rintro e w9 ⟨rfl, hKa⟩
    go_wp2
    go_ret
    exact ⟨rfl, (HK.out.trans hKa (fun _ _ h => h)).below (Nat.le_refl _) (fun _ h => h.elim)⟩
  · have d0 : ¬ (100 : Int) < (key.size : Int) := by omega
    go_upto_region 4 with fail
    go_cut [62] from 55 to 62 (fun v wx => ∃ e : Bool, v = .bool e ∧ (e = true → 0 < nk) ∧ wx = w2)
    case first =>
      by_cases hnk0 : 0 < nk
      · have d1 : (0 : Int) < (nk : Int) := by omega
        go_wp2
        go_meet
        exact ⟨_, rfl, fun _ => hnk0, rfl⟩
      · have d1 : ¬ (0 : Int) < (nk : Int) := by omega
        go_wp2
        go_meet
        exact ⟨false, rfl, (fun e => (by cases e)), rfl⟩
    case rest =>
      obtain ⟨ee, rfl, hee, rfl⟩ := hcut
      rename World => W3
      have HEE := Lib.hid hee
      clear hee
      go_upto_if 62 with fail
      go_cut [4] from 63 to 69 (fun v wx => ∃ k' : ByteArray, v = .string k' ∧ wx = W3)
      case first =>
        cases ee with
        | true =>
          have hnk0 := HEE.out rfl
          obtain ⟨r, hr⟩ : ∃ r : Nat, at' % (nk : Int) = (r : Int) := ⟨(at' % (nk : Int)).toNat, by have := Int.emod_nonneg at' (b := (nk : Int)) (by omega); omega⟩
          have hrl : r < nk := by have := Int.emod_lt_of_pos at' (b := (nk : Int)) (by omega); omega
          have HRM := Lib.hid hr
          clear hr
          obtain ⟨gk, ok, rfl, hgk, hkc⟩ := HKR.out (by rw [HNK.out]; exact hnk0)
          obtain ⟨k', hk'⟩ : ∃ k', (keysOf ss)[r]? = some k' := ⟨_, List.getElem?_eq_getElem (by rw [HNK.out]; exact hrl)⟩
          have hkc1 := hkc r k' hk'
          clear hkc hk'
          go_wp2_with fail
          refine (mod_of at' (nk : Int) r _ (by omega) (by omega) HRM.out).mono ?_; rintro e w9 ⟨rfl, rfl⟩
          go_wp2
          go_meet
          exact ⟨k', rfl, rfl⟩
        | false =>
          go_wp2
          go_meet
          exact ⟨key, rfl, rfl⟩
      case rest =>
        obtain ⟨key2, rfl, rfl⟩ := hcut
        rename World => W3
        clear HEE d0 hk100
        have h11 := H11.out
        have y0 := h11.cell (i := 0) rfl
        have y1 := h11.cell (i := 1) rfl
        have y2 := h11.cell (i := 2) rfl
        have y3 := h11.cell (i := 3) rfl
        have y4 := h11.cell (i := 4) rfl
        have y5 := h11.cell (i := 5) rfl
        have y6 := h11.cell (i := 6) rfl
        clear h11
        obtain ⟨nl, hnl⟩ : ∃ nl, l.length = nl := ⟨_, rfl⟩
        go_wp2_with fail
        refine (view_any F b g l 0 nl hnl (by omega) _ HM.out).mono ?_; rintro e w3 ⟨gv, rfl, hBv, hgv, hKv⟩
        have HNL := Lib.hid hnl
        have HGV := Lib.hid (show r12 < gv by have := H12.out.lt; omega)
        have HBV := Lib.hid hBv
        replace HM := Lib.hid (HM.out.kept hKv (fun h => h) (fun h => h))
        replace HKR := Lib.hid (HKR.out.kept hKv (fun _ _ h => h))
        replace H11 := Lib.hid (hKv.blk H11.out (fun h => h))
        replace H12 := Lib.hid (hKv.blk H12.out (fun h => h))
        replace HK := Lib.hid (HK.out.trans hKv (fun _ _ h => h))
        clear hKv
        clear hBv hgv hnl y0 y1 y2 y3 y4 y5 y6
        go_upto_region 7 with fail
        have HBV0 := Lib.hid (show gv < w3.heap.size from HBV.out.lt)
        have hal := (Kept.refl (fun _ => False) w3).alloc (.cells #[.int .i64 1, .int .i64 2, .int .i64 100, .int .i64 100, .int .i64 200, .int .i64 (F : Int), .int .u64 1000, .slice (some ⟨gv, 0, none⟩) nl nl] 35)
        have HVX := Lib.hid (Blk.new w3 [.int .i64 1, .int .i64 2, .int .i64 100, .int .i64 100, .int .i64 200, .int .i64 (F : Int), .int .u64 1000, .slice (some ⟨gv, 0, none⟩) nl nl] 35)
        replace HBV := Lib.hid (hal.blk HBV.out (fun h => h))
        replace HM := Lib.hid (HM.out.kept hal (fun h => h) (fun h => h))
        replace HKR := Lib.hid (HKR.out.kept hal (fun _ _ h => h))
        replace H11 := Lib.hid (hal.blk H11.out (fun h => h))
        replace H12 := Lib.hid (hal.blk H12.out (fun h => h))
        replace HK := Lib.hid (HK.out.trans hal (fun _ _ h => h))
        clear hal
        have HRV := Lib.hid (show gv < w3.heap.size ∧ r12 < gv from ⟨HBV0.out, HGV.out⟩)
        generalize hrv : w3.heap.size = rv at *
        generalize w3.alloc (.cells #[.int .i64 1, .int .i64 2, .int .i64 100, .int .i64 100, .int .i64 200, .int .i64 (F : Int), .int .u64 1000, .slice (some ⟨gv, 0, none⟩) nl nl] 35) = V0 at *
        clear hrv HBV0
        have hr12v : r12 < V0.heap.size := H12.out.lt
        have hrvv : rv < V0.heap.size := HVX.out.lt
        by_cases hkl : last = true ∨ ¬ key2.toList = []
        · obtain ⟨D, jt, hjt, hpath, hDle, hjl, hjc⟩ := HT.out.below_root h6 key2 last hkl
          have hlt : 0 < H := HT.out.H1
          obtain ⟨t, htj⟩ : ∃ t, t = st 0 + jt := ⟨_, rfl⟩
          obtain ⟨lw, hlw⟩ : ∃ lw, lw = lo 0 jt := ⟨_, rfl⟩
          rw [← htj, ← hlw] at hpath
          have HTJ := Lib.hid htj
          have HLW := Lib.hid hlw
          have HJL := Lib.hid hjl
          have HJC := Lib.hid hjc
          have HKL := Lib.hid hkl
          clear htj hlw hjl hjc
          have h12 := H12.out
          have y0 := h12.cell (i := 0) rfl
          have y1 := h12.cell (i := 1) rfl
          have y2 := h12.cell (i := 2) rfl
          have y3 := h12.cell (i := 3) rfl
          have y4 := h12.cell (i := 4) rfl
          have y5 := h12.cell (i := 5) rfl
          have y6 := h12.cell (i := 6) rfl
          have y7 := h12.cell (i := 7) rfl
          have y8 := h12.cell (i := 8) rfl
          have y9 := h12.cell (i := 9) rfl
          clear h12
          go_wp2_with fail
          refine (newBelow_any F fb fd key2 last HKL.out _).mono ?_; rintro e W4 ⟨x, rfl, hx4, hB4, hK4⟩
          clear y0 y1 y2 y3 y4 y5 y6 y7 y8 y9 hkl
          have HX := Lib.hid (show x ≠ b ∧ x ≠ g ∧ w.heap.size ≤ x ∧ x ≠ r11 ∧ x ≠ r12 ∧ x ≠ rv ∧ x ≠ gv by have h1 := HR.out; have h2 := HRV.out; have h3 := H12.out.lt; have h4 := HK.out.size; have h5 := HVX.out.lt; have h6 := HBV.out.lt; omega)
          have HAT := Lib.hid (show WAt (fun _ => False) W4 F fb fd x 88 (tlB key2 last) (nxB key2 last) l (D + 1) t lw from WAt.start hB4 HT.out.root hpath)
          replace HM := Lib.hid (HM.out.kept hK4 (fun h => h) (fun h => h))
          replace HKR := Lib.hid (HKR.out.kept hK4 (fun _ _ h => h))
          replace H11 := Lib.hid (hK4.blk H11.out (fun h => h))
          replace H12 := Lib.hid (hK4.blk H12.out (fun h => h))
          replace HVX := Lib.hid (hK4.blk HVX.out (fun h => h))
          replace HBV := Lib.hid (hK4.blk HBV.out (fun h => h))
          replace HK := Lib.hid (HK.out.trans hK4 (fun _ _ h => h))
          clear hK4
          clear hB4 hx4 hpath
          go_wp2_with fail
          go_loopw [21] (fun kv wr => ∃ (k : Nat) (Z : Nat → Prop), k ≤ D ∧ kv = .int .i64 ((k + 1 : Nat) : Int) ∧ WAt Z wr F fb fd x 88 (tlB key2 last) (nxB key2 last) l (D + 1 - k) t lw ∧ Mem wr b g l k ∧ (∀ i, Z i → w.heap.size ≤ i ∧ i ≠ b ∧ i ≠ g ∧ i ≠ r11 ∧ i ≠ r12 ∧ i ≠ rv ∧ i ≠ gv) ∧ Kept (fun i => w.heap.size ≤ i ∧ i ≠ r11 ∧ i ≠ r12 ∧ i ≠ rv ∧ i ≠ gv) W4 wr) (fun kv _ => D + 1 - (intOf kv).toNat)
          case atStart => exact ⟨0, _, by omega, rfl, HAT.out, HM.out, fun i h => h.elim, Kept.refl _ _⟩
          case round =>
            obtain ⟨k, Z, hk, rfl, hA, hM, hZ, hK5⟩ := hrel
            obtain ⟨k1, hk1⟩ : ∃ k1, k + 1 = k1 := ⟨_, rfl⟩
            rw [hk1]
            have HAr := Lib.hid hA
            have HMr := Lib.hid hM
            have HZ := Lib.hid hZ
            have HKr := Lib.hid hK5
            have hbl := hM.obj.lt
            have hgl := hM.row.lt
            have hk20 : (k1 : Int) < 5000 := by omega
            clear hA hM hZ hK5
            obtain ⟨d, hd⟩ : ∃ d, D + 1 - k = d + 1 := ⟨D - k, by omega⟩
            have HST := Lib.hid (below_step F h4 h6 fb fd HD.out Z x key2 last d t lw wr b g l k HMr.out (by omega) (fun h => (HZ.out b h).2.1 rfl) (fun h => (HZ.out g h).2.2.1 rfl) HX.out.1 HX.out.2.1 HNAT.out (by rw [← hd]; exact HAr.out))
            have HK1 := Lib.hid hk1
            clear hk1
            go_wp2_with fail
            refine HST.out.mono ?_; rintro e w5 ⟨rfl, hM5, Z5, hA5, hK5, hn5⟩
            have HA5 := Lib.hid hA5
            have HM5 := Lib.hid (show Mem w5 b g l k1 from HK1.out ▸ hM5)
            have HZ5 := Lib.hid (show ∀ i, Z5 i → w.heap.size ≤ i ∧ i ≠ b ∧ i ≠ g ∧ i ≠ r11 ∧ i ≠ r12 ∧ i ≠ rv ∧ i ≠ gv from fun i hi => by
              rcases hn5 i hi with h | h
              · exact HZ.out i h
              · have h1 := HKr.out.size
                have h2 := HR.out
                have h3 := HK.out.size
                have h4 := HRV.out
                have h5 := H12.out.lt
                have h6 := HVX.out.lt
                omega)
            have HK5 := Lib.hid (show Kept (fun i => w.heap.size ≤ i ∧ i ≠ r11 ∧ i ≠ r12 ∧ i ≠ rv ∧ i ≠ gv) W4 w5 from HKr.out.trans hK5 (fun i hi h => by
              have h1 := HX.out
              have h2 := HR.out
              have h3 := HRV.out
              rcases h with h | h | h | h
              · omega
              · have := HZ.out i h; omega
              · omega
              · omega))
            clear hA5 hM5 hK5 hn5 HST HAr HMr HZ HKr
            by_cases hd0 : d = 0
            · have e0 : (d == 0) = true := by simp [hd0]
              have HA0 := Lib.hid (show WAt Z5 w5 F fb fd x 88 (tlB key2 last) (nxB key2 last) l 0 t lw by have := HA5.out; rwa [hd0] at this)
              have hvx5 := HK5.out.blk HVX.out (by have h2 := HR.out; have h3 := HRV.out; omega)
              have hbv5 := HK5.out.blk HBV.out (by have h2 := HR.out; have h3 := HRV.out; omega)
              have HVX5 := Lib.hid hvx5
              have HBV5 := Lib.hid hbv5
              have hk1D : k1 ≤ 1112 := by have := HK1.out; omega
              clear hd0 hd HA5 hvx5 hbv5
              have hVL := HT.out.lev 0 hlt
              have ht0 : t ≠ 0 := by have := hVL.s1; have := HTJ.out; omega
              have HFN := Lib.hid (below_node F fb fd Z5 x key2 last l t lw w5 ht0 h6 HA0.out)
              clear hVL
              go_wp2_with fail
              refine HFN.out.mono ?_; rintro e w6 ⟨P, A6, c6, hP, rfl, hR6, -, hK6⟩
              have hPE : P = pg 0 jt := hP.inj (by rw [HTJ.out]; exact (HT.out.lev 0 hlt).nd jt hjt)
              have hPl : P.lv = 0 := by rw [hPE]; exact (HT.out.lev 0 hlt).lv jt hjt
              have hPi : (P.lv : Int) = 0 := by rw [hPl]; rfl
              rw [hPi]
              have HPE := Lib.hid hPE
              have HPL := Lib.hid hPi
              have HPLEN := Lib.hid hP.len
              have HR6 := Lib.hid hR6
              replace HM5 := Lib.hid (HM5.out.kept hK6 (fun h => h) (fun h => h))
              replace HVX5 := Lib.hid (hK6.blk HVX5.out (fun h => h))
              replace HBV5 := Lib.hid (hK6.blk HBV5.out (fun h => h))
              replace HK5 := Lib.hid (HK5.out.trans hK6 (fun _ _ h => h.elim))
              clear hP hPE hPl hPi hR6 hK6 HFN HA0 e0
              go_upto_region 12 with fail
              have hal := (Kept.refl (fun _ => False) w6).alloc (.cells #[.int .i64 (0 : Int), .slice A6 P.xs.length c6, .string P.hi, .bool P.la, .int .u64 (P.rt : Int)] 43)
              have HPG := Lib.hid (Blk.new w6 [.int .i64 (0 : Int), .slice A6 P.xs.length c6, .string P.hi, .bool P.la, .int .u64 (P.rt : Int)] 43)
              replace HM5 := Lib.hid (HM5.out.kept hal (fun h => h) (fun h => h))
              replace HVX5 := Lib.hid (hal.blk HVX5.out (fun h => h))
              replace HBV5 := Lib.hid (hal.blk HBV5.out (fun h => h))
              replace HK5 := Lib.hid (HK5.out.trans hal (fun _ _ h => h.elim))
              replace HR6 := Lib.hid (HR6.out.keptF hal (fun _ _ h => h))
              clear hal
              generalize w6.heap.size = rp at HPG ⊢
              generalize w6.alloc (.cells #[.int .i64 (0 : Int), .slice A6 P.xs.length c6, .string P.hi, .bool P.la, .int .u64 (P.rt : Int)] 43) = V7 at *
              have wku : IntKind.u64.wrap (k1 : Int) = (k1 : Int) := by rw [IntKind.wrap_u64]; omega
              have hkk : ¬ (k1 : Int) < (k1 : Int) := by omega
              have hnl2 : nl ≤ 1048576 := by have := HNL.out; omega
              refine wp_region_held_drew (S := (fun w' => Kept (fun _ => False) V7 w')) (by kernel_rfl) ?_ (fun hHeld => ?_)
              · exact (Kept.refl _ _).drew
              have HW := Lib.hid ((Kept.refl (fun _ => False) V7).drew)
              generalize V7.drew = G at *
              refine wpAnyH_take (i := 0) (oi := ⟨some 93, _, _, _, _, _⟩) (v := ?_) rfl (by kernel_rfl) (by kernel_rfl) (by kernel_rfl) (fun _ _ _ h => h) (Or.inl ⟨by rfl, ?_⟩) hHeld ?_
              rotate_left
              · (intro wq hSw; go_simp; try with_reducible rfl)
              try simp only [Act.put, List.setIfInBounds_toArray, List.set_cons_zero, List.set_cons_succ]
              refine wpAnyH_take (i := 1) (oi := ⟨some 94, _, _, _, _, _⟩) (v := .bool false) rfl (by kernel_rfl) (by kernel_rfl) (by kernel_rfl) (fun _ _ _ h => h) (Or.inl ⟨by rfl, ?_⟩) hHeld ?_
              · (intro wq hSw; go_simp; try first | (with_reducible rfl) | (simp; omega) | (intros; omega) | simp [*])
              try simp only [Act.put, List.setIfInBounds_toArray, List.set_cons_zero, List.set_cons_succ]
              refine wpAnyH_take (i := 2) (oi := ⟨some 95, _, _, _, _, _⟩) (v := ?_) rfl (by kernel_rfl) (by kernel_rfl) (by kernel_rfl) (fun _ _ _ h => h) (Or.inl ⟨by rfl, ?_⟩) hHeld ?_
              rotate_left
              · (intro wq hSw; go_simp; try with_reducible rfl)
              try simp only [Act.put, List.setIfInBounds_toArray, List.set_cons_zero, List.set_cons_succ]
              refine wpAnyH_take (i := 3) (oi := ⟨some 96, _, _, _, _, _⟩) (v := ?_) rfl (by kernel_rfl) (by kernel_rfl) (by kernel_rfl) (fun _ _ _ h => h) (Or.inl ⟨by rfl, ?_⟩) hHeld ?_
              rotate_left
              · (intro wq hSw; go_simp; try with_reducible rfl)
              try simp only [Act.put, List.setIfInBounds_toArray, List.set_cons_zero, List.set_cons_succ]
              refine wpAnyH_take (i := 5) (oi := ⟨some 98, _, _, _, _, _⟩) (v := ?_) rfl (by kernel_rfl) (by kernel_rfl) (by kernel_rfl) (fun _ _ _ h => h) (Or.inl ⟨by rfl, ?_⟩) hHeld ?_
              rotate_left
              · (intro wq hSw; go_simp; try with_reducible rfl)
              try simp only [Act.put, List.setIfInBounds_toArray, List.set_cons_zero, List.set_cons_succ]
              refine wpAnyH_take (i := 6) (oi := ⟨some 99, _, _, _, _, _⟩) (v := .int .u64 (k1 : Int)) rfl (by kernel_rfl) (by kernel_rfl) (by kernel_rfl) (fun _ _ _ h => h) (Or.inl ⟨by rfl, ?_⟩) hHeld ?_
              · (intro wq hSw; go_simp; try first | (with_reducible rfl) | (simp; omega) | (intros; omega) | simp [*])
              try simp only [Act.put, List.setIfInBounds_toArray, List.set_cons_zero, List.set_cons_succ]
              refine wpAnyH_ready (rs := [4]) (by kernel_rfl) (by simp) ?_
              refine AllReadyH.cons (o := ⟨some 97, _, _, _, _, _⟩) rfl (fun KK hK => ?_) (AllReadyH.nil)
              go_simp
              go_at_call 16
              refine (accesses_any b g l k1 _ (HM5.out.kept HW.out (fun h => h) (fun h => h))).mono ?_; rintro e G2 ⟨rfl, rfl⟩
              refine hK.out _ _ ?_ (fun hHeld2 => ?_)
              · exact HW.out
              clear hK KK hHeld
              have hHeld := hHeld2
              clear hHeld2
              try simp only [Act.put, List.setIfInBounds_toArray, List.set_cons_zero, List.set_cons_succ]
              refine wpAnyH_take (i := 7) (oi := ⟨some 100, _, _, _, _, _⟩) (v := .bool false) rfl (by kernel_rfl) (by kernel_rfl) (by kernel_rfl) (fun _ _ _ h => h) (Or.inl ⟨by rfl, ?_⟩) hHeld ?_
              · (intro wq hSw; go_simp; try first | (with_reducible rfl) | (simp; omega) | (intros; omega) | simp [*])
              try simp only [Act.put, List.setIfInBounds_toArray, List.set_cons_zero, List.set_cons_succ]
              refine wpAnyH_take (i := 8) (oi := ⟨some 101, _, _, _, _, _⟩) (v := .bool false) rfl (by kernel_rfl) (by kernel_rfl) (by kernel_rfl) (fun _ _ _ h => h) (Or.inl ⟨by rfl, ?_⟩) hHeld ?_
              · (intro wq hSw; go_simp; try first | (with_reducible rfl) | (simp; omega) | (intros; omega) | simp [*])
              try simp only [Act.put, List.setIfInBounds_toArray, List.set_cons_zero, List.set_cons_succ]
              refine wpAnyH_take (i := 9) (oi := ⟨some 102, _, _, _, _, _⟩) (v := ?_) rfl (by kernel_rfl) (by kernel_rfl) (by kernel_rfl) (fun _ _ _ h => h) (Or.inl ⟨by rfl, ?_⟩) hHeld ?_
              rotate_left
              · (intro wq hSw; go_simp; try with_reducible rfl)
              try simp only [Act.put, List.setIfInBounds_toArray, List.set_cons_zero, List.set_cons_succ]
              refine wpAnyH_take (i := 10) (oi := ⟨some 103, _, _, _, _, _⟩) (v := ?_) rfl (by kernel_rfl) (by kernel_rfl) (by kernel_rfl) (fun _ _ _ h => h) (Or.inl ⟨by rfl, ?_⟩) hHeld ?_
              rotate_left
              · (intro wq hSw; go_simp; try with_reducible rfl)
              try simp only [Act.put, List.setIfInBounds_toArray, List.set_cons_zero, List.set_cons_succ]
              refine wpAnyH_take (i := 12) (oi := ⟨some 105, _, _, _, _, _⟩) (v := ?_) rfl (by kernel_rfl) (by kernel_rfl) (by kernel_rfl) (fun _ _ _ h => h) (Or.inl ⟨by rfl, ?_⟩) hHeld ?_
              rotate_left
              · (intro wq hSw; go_simp; try with_reducible rfl)
              try simp only [Act.put, List.setIfInBounds_toArray, List.set_cons_zero, List.set_cons_succ]
              refine wpAnyH_take (i := 13) (oi := ⟨some 106, _, _, _, _, _⟩) (v := ?_) rfl (by kernel_rfl) (by kernel_rfl) (by kernel_rfl) (fun _ _ _ h => h) (Or.inl ⟨by rfl, ?_⟩) hHeld ?_
              rotate_left
              · (intro wq hSw; have hb9 := hSw.blk HVX5.out (fun h => h); have x0 := hb9.cell (i := 0) rfl; have x1 := hb9.cell (i := 1) rfl; have x2 := hb9.cell (i := 2) rfl; have x3 := hb9.cell (i := 3) rfl; have x4 := hb9.cell (i := 4) rfl; have x5 := hb9.cell (i := 5) rfl; have x6 := hb9.cell (i := 6) rfl; have x7 := hb9.cell (i := 7) rfl; clear hb9; go_simp; try with_reducible rfl)
              try simp only [Act.put, List.setIfInBounds_toArray, List.set_cons_zero, List.set_cons_succ]
              refine wpAnyH_ready (rs := [11]) (by kernel_rfl) (by simp) ?_
              refine AllReadyH.cons (o := ⟨some 104, _, _, _, _, _⟩) rfl (fun KK hK => ?_) (AllReadyH.nil)
              go_simp
              go_at_call 18
              refine (cells_n b g l k1 nl _ HNL.out (HM5.out.kept HW.out (fun h => h) (fun h => h)) (by omega)).mono ?_; rintro e G2 ⟨rfl, hBc, hKc⟩
              have HBC := Lib.hid hBc
              replace HW := Lib.hid (HW.out.trans hKc (fun _ _ h => h))
              clear hBc hKc
              generalize G.heap.size = gc at *
              refine hK.out _ _ ?_ (fun hHeld2 => ?_)
              · exact HW.out
              clear hK KK hHeld
              have hHeld := hHeld2
              clear hHeld2
              try simp only [Act.put, List.setIfInBounds_toArray, List.set_cons_zero, List.set_cons_succ]
              refine wpAnyH_ready (rs := [14]) (by kernel_rfl) (by simp) ?_
              refine AllReadyH.cons (o := ⟨some 107, _, _, _, _, _⟩) rfl (fun KK hK => ?_) (AllReadyH.nil)
              go_simp
              go_at_call 17
              refine (same_n gc gv nl nl nl l _ HNL.out (fun i u h => HBC.out.cell h) (fun i u h => (HW.out.blk HBV5.out (fun h => h)).cell h) (by omega)).mono ?_; rintro e G3 ⟨rfl, q3, rfl⟩
              replace HW := Lib.hid (HW.out.drewN q3)
              generalize G2.drewN q3 = G3 at *
              refine hK.out _ _ ?_ (fun hHeld2 => ?_)
              · exact HW.out
              clear hK KK hHeld
              have hHeld := hHeld2
              clear hHeld2
              try simp only [Act.put, List.setIfInBounds_toArray, List.set_cons_zero, List.set_cons_succ]
              refine wpAnyH_take (i := 15) (oi := ⟨some 108, _, _, _, _, _⟩) (v := .bool false) rfl (by kernel_rfl) (by kernel_rfl) (by kernel_rfl) (fun _ _ _ h => h) (Or.inl ⟨by rfl, ?_⟩) hHeld ?_
              · (intro wq hSw; go_simp; try first | (with_reducible rfl) | (simp; omega) | (intros; omega) | simp [*])
              try simp only [Act.put, List.setIfInBounds_toArray, List.set_cons_zero, List.set_cons_succ]
              refine wpAnyH_take (i := 16) (oi := ⟨some 109, _, _, _, _, _⟩) (v := .bool false) rfl (by kernel_rfl) (by kernel_rfl) (by kernel_rfl) (fun _ _ _ h => h) (Or.inl ⟨by rfl, ?_⟩) hHeld ?_
              · (intro wq hSw; go_simp; try first | (with_reducible rfl) | (simp; omega) | (intros; omega) | simp [*])
              try simp only [Act.put, List.setIfInBounds_toArray, List.set_cons_zero, List.set_cons_succ]
              refine wpAnyH_done (by kernel_rfl) ?_ _
              clear hHeld
              clear hkk wku HM5 HBC
              replace HVX5 := Lib.hid (HW.out.blk HVX5.out (fun h => h))
              replace HBV5 := Lib.hid (HW.out.blk HBV5.out (fun h => h))
              replace HPG := Lib.hid (HW.out.blk HPG.out (fun h => h))
              replace HK5 := Lib.hid (HK5.out.trans HW.out (fun _ _ h => h.elim))
              replace HR6 := Lib.hid (HR6.out.keptF HW.out (fun _ _ h => h))
              clear HW
              have hvx9 := HVX5.out
              have v0 := hvx9.cell (i := 0) rfl
              have v1 := hvx9.cell (i := 1) rfl
              have v2 := hvx9.cell (i := 2) rfl
              have v3 := hvx9.cell (i := 3) rfl
              have v4 := hvx9.cell (i := 4) rfl
              have v5 := hvx9.cell (i := 5) rfl
              have v6 := hvx9.cell (i := 6) rfl
              have v7 := hvx9.cell (i := 7) rfl
              clear hvx9
              have HALL := Lib.hid (HT.out.all (L := 0) (i := mm 0 - 1) hlt (by omega))
              go_upto_region 14 with fail
              go_cut [115] from 110 to 115 (fun v wx => v = .bool false ∧ wx = G3)
              case first =>
                by_cases p0 : key2.toList = []
                · obtain rfl : last = true := by
                    rcases HKL.out with h | h
                    · exact h
                    · exact absurd p0 h
                  go_wp2
                  go_meet
                  exact ⟨rfl, rfl⟩
                · go_wp2
                  go_meet
                  exact ⟨rfl, rfl⟩
              case rest =>
                obtain ⟨rfl, rfl⟩ := hcut
                rename World => G9
                go_wp2_with fail
                refine (vlevel_in F h4 h6 gv nl l HNL.out H st mm lo pg HT.out 0 hlt _ HBV5.out).mono ?_; rintro e w9 ⟨AL, cL, rfl, hAL, hK9⟩
                obtain ⟨gL, oL, rfl, hgL, -, hcL⟩ := hAL (by omega)
                replace HVX5 := Lib.hid (hK9.blk HVX5.out (fun h => h))
                replace HBV5 := Lib.hid (hK9.blk HBV5.out (fun h => h))
                replace HPG := Lib.hid (hK9.blk HPG.out (fun h => h))
                replace HK5 := Lib.hid (HK5.out.trans hK9 (fun _ _ h => h.elim))
                replace HR6 := Lib.hid (HR6.out.keptF hK9 (fun _ _ h => h))
                clear hK9 v0 v1 v2 v3 v4 v5 v6 v7
                obtain ⟨m, hm⟩ : ∃ m, mm 0 = m := ⟨_, rfl⟩
                rw [hm] at hcL hjt
                rw [hm]
                have HMM := Lib.hid hm
                have hm100 : m ≤ 1000 := by have := HALL.out; omega
                have HCL := Lib.hid (show ∀ i, i < m → w9.cell? ⟨gL, oL + i, none⟩ = some (.int .u64 ((st 0 + i : Nat) : Int)) from fun i hi => hcL i _ (ids_at hi))
                clear hcL hm HALL
                have hvx9 := HVX5.out
                have v0 := hvx9.cell (i := 0) rfl
                have v1 := hvx9.cell (i := 1) rfl
                have v2 := hvx9.cell (i := 2) rfl
                have v3 := hvx9.cell (i := 3) rfl
                have v4 := hvx9.cell (i := 4) rfl
                have v5 := hvx9.cell (i := 5) rfl
                have v6 := hvx9.cell (i := 6) rfl
                have v7 := hvx9.cell (i := 7) rfl
                clear hvx9
                go_wp2_with fail
                refine (lows_any F h4 h6 gv nl l HNL.out H st mm lo pg HT.out 0 m hm100 (some ⟨gL, oL, none⟩) cL _ HBV5.out (fun i hi => ⟨hlt, by rw [HMM.out]; exact hi⟩) (fun _ => ⟨gL, oL, rfl, hgL, HCL.out⟩)).mono ?_; rintro e w10 ⟨gO, cO, rfl, hgO, -, hcO, hK10⟩
                replace HVX5 := Lib.hid (hK10.blk HVX5.out (fun h => h))
                replace HBV5 := Lib.hid (hK10.blk HBV5.out (fun h => h))
                replace HPG := Lib.hid (hK10.blk HPG.out (fun h => h))
                replace HK5 := Lib.hid (HK5.out.trans hK10 (fun _ _ h => h.elim))
                replace HR6 := Lib.hid (HR6.out.keptF hK10 (fun _ _ h => h))
                have HCL2 := Lib.hid (show ∀ i, i < m → w10.cell? ⟨gL, oL + i, none⟩ = some (.int .u64 ((st 0 + i : Nat) : Int)) from fun i hi => (hK10.cell (p := ⟨gL, oL + i, none⟩) hgL (fun h => h)).trans (HCL.out i hi))
                have hgL2 : gL < w10.heap.size := Nat.lt_of_lt_of_le hgL hK10.size
                have HCO := Lib.hid hcO
                clear hcO hK10 HCL hgL v0 v1 v2 v3 v4 v5 v6 v7
                go_wp2_with fail
                go_loopw [27, 28] (fun wv iv wr => ∃ i wn : Nat, i ≤ m ∧ iv = .int .i64 (i : Int) ∧ wv = .int .i64 (wn : Int) ∧ wn = min (i - 1) jt ∧ Kept (fun _ => False) w10 wr) (fun _ iv _ => m - (intOf iv).toNat)
                case atStart => exact ⟨0, 0, by omega, rfl, rfl, by omega, Kept.refl _ _⟩
                case round =>
                  obtain ⟨i, wn, him, rfl, rfl, hwn, hKr⟩ := hrel
                  have HKr := Lib.hid hKr
                  have HWN := Lib.hid hwn
                  have HVXr := Lib.hid (hKr.blk HVX5.out (fun h => h))
                  have HBVr := Lib.hid (hKr.blk HBV5.out (fun h => h))
                  have HPGr := Lib.hid (hKr.blk HPG.out (fun h => h))
                  have HR6r := Lib.hid (HR6.out.keptF hKr (fun _ _ h => h))
                  have hgLr : gL < wr.heap.size := Nat.lt_of_lt_of_le hgL2 hKr.size
                  have hgOr : gO < wr.heap.size := Nat.lt_of_lt_of_le hgO hKr.size
                  by_cases him2 : i < m
                  · obtain ⟨li, hli⟩ : ∃ li, lo 0 i = li := ⟨_, rfl⟩
                    have hlw1 := HCO.out i him2
                    rw [hli] at hlw1
                    have HLWr := Lib.hid ((hKr.cell (p := ⟨gO, i, none⟩) hgO (fun h => h)).trans hlw1)
                    have HCOV := Lib.hid (show (last || Op.bytesLess li.toList key2.toList) = true ↔ i ≤ jt from by
                      rw [← hli]
                      exact bcovers (HT.out.lev 0 hlt) (by rw [HMM.out]; exact him2) (by rw [HMM.out]; exact hjt) HJL.out HJC.out)
                    have himI : (i : Int) < (m : Int) := by omega
                    clear hKr hlw1 hli hwn
                    go_upto_region 22 with fail
                    have hlw := HLWr.out
                    have hcov := HCOV.out
                    go_cut [150] from 142 to 150 (fun v wx => ∃ e : Bool, v = .bool e ∧ (e = true ↔ i ≤ jt) ∧ wx = wr)
                    case first =>
                      cases last <;> cases hb1 : Op.bytesLess li.toList key2.toList <;> rw [hb1] at hcov <;> (go_wp2; go_meet; exact ⟨_, rfl, by simpa using hcov, rfl⟩)
                    case rest =>
                      obtain ⟨ee, rfl, hee, rfl⟩ := hcut
                      rename World => G9
                      cases ee with
                      | true =>
                        have HIJ := Lib.hid (hee.1 rfl)
                        clear hee hcov
                        go_wp2
                        go_roundw
                        case rel => exact ⟨i + 1, i, by omega, by go_num, rfl, by have := HIJ.out; omega, HKr.out⟩
                        case measure => simp [intOf]; omega
                      | false =>
                        have HIJ := Lib.hid (show ¬ i ≤ jt from fun h => by have := hee.2 h; cases this)
                        clear hee hcov
                        go_wp2
                        go_roundw
                        case rel => exact ⟨i + 1, wn, by omega, by go_num, rfl, by have := HIJ.out; have := HWN.out; omega, HKr.out⟩
                        case measure => simp [intOf]; omega
                  · obtain rfl : wn = jt := by omega
                    have himI : ¬ (i : Int) < (m : Int) := by omega
                    have hmI : (0 : Int) < (m : Int) := by omega
                    have hwm : (wn : Int) < (m : Int) := by omega
                    have hwm1 : (wn : Int) < (m : Int) + 1 := by omega
                    have hcl1 := HCL2.out wn hjt
                    rw [← HTJ.out] at hcl1
                    have HCLr := Lib.hid ((hKr.cell (p := ⟨gL, oL + wn, none⟩) hgL2 (fun h => h)).trans hcl1)
                    have hlw1 := HCO.out wn hjt
                    rw [← HLW.out] at hlw1
                    have HLWr := Lib.hid ((hKr.cell (p := ⟨gO, wn, none⟩) hgO (fun h => h)).trans hlw1)
                    have HPAGE2 := Lib.hid (show ∀ W, Kept (fun _ => False) wr W → Calls Try.prog 21 #[.agg #[.int .i64 1, .int .i64 2, .int .i64 100, .int .i64 100, .int .i64 200, .int .i64 (F : Int), .int .u64 1000, .slice (some ⟨gv, 0, none⟩) nl nl], .int .u64 (t : Int)] W fun e w' => ∃ (A : Option Addr) (c : Nat), e = .returned (.agg #[.int .i64 (0 : Int), .slice A P.xs.length c, .string P.hi, .bool P.la, .int .u64 (P.rt : Int)]) ∧ Rs w' A c P.xs ∧ Kept (fun _ => False) W w' from fun W hW => by
                      refine (tpage_any F h4 h6 gv nl l HNL.out H st mm lo pg HT.out 0 wn t hlt (by rw [HMM.out]; exact hjt) HTJ.out 0 rfl W (hW.blk HBVr.out (fun h => h))).mono ?_
                      rintro e w' ⟨A, c, rfl, hr, -, hk⟩
                      rw [← HPE.out] at hr ⊢
                      exact ⟨A, c, rfl, hr, hk⟩)
                    have HSAME := Lib.hid (show ∀ W A4 c4, Kept (fun _ => False) wr W → Rs W A4 c4 P.xs → Calls Try.prog 22 #[.agg #[.int .i64 (0 : Int), .slice A6 P.xs.length c6, .string P.hi, .bool P.la, .int .u64 (P.rt : Int)], .agg #[.int .i64 (0 : Int), .slice A4 P.xs.length c4, .string P.hi, .bool P.la, .int .u64 (P.rt : Int)]] W fun e w' => e = .returned (.bool true) ∧ Kept (fun _ => False) W w' from fun W A4 c4 hW hr => by
                      have := refSame_yes P A6 A4 c6 c4 W (by have := HPLEN.out; omega) (HR6r.out.keptF hW (fun _ _ h => h)) hr
                      rw [HPL.out] at this
                      exact this)
                    clear hKr hwn HWN hcl1 hlw1
                    go_upto_region 24 with fail
                    refine wp_region_held_drew (S := (fun w' => Kept (fun _ => False) wr w')) (by kernel_rfl) ?_ (fun hHeld => ?_)
                    · exact (Kept.refl _ _).drew
                    have HW := Lib.hid ((Kept.refl (fun _ => False) wr).drew)
                    generalize wr.drew = G at *
                    refine wpAnyH_take (i := 0) (oi := ⟨some 152, _, _, _, _, _⟩) (v := ?_) rfl (by kernel_rfl) (by kernel_rfl) (by kernel_rfl) (fun _ _ _ h => h) (Or.inl ⟨by rfl, ?_⟩) hHeld ?_
                    rotate_left
                    · (intro wq hSw; go_simp; try with_reducible rfl)
                    try simp only [Act.put, List.setIfInBounds_toArray, List.set_cons_zero, List.set_cons_succ]
                    refine wpAnyH_ready (rs := [1]) (by kernel_rfl) (by simp) ?_
                    refine AllReadyH.cons (o := ⟨some 153, _, _, _, _, _⟩) rfl (fun KK hK => ?_) (AllReadyH.nil)
                    go_simp
                    refine hK.out _ _ ?_ (fun hHeld2 => ?_)
                    · exact HW.out
                    clear hK KK hHeld
                    have hHeld := hHeld2
                    clear hHeld2
                    try simp only [Act.put, List.setIfInBounds_toArray, List.set_cons_zero, List.set_cons_succ]
                    refine wpAnyH_take (i := 2) (oi := ⟨some 154, _, _, _, _, _⟩) (v := .bool true) rfl (by kernel_rfl) (by kernel_rfl) (by kernel_rfl) (fun _ _ _ h => h) (Or.inl ⟨by rfl, ?_⟩) hHeld ?_
                    · (intro wq hSw; go_simp; try first | (with_reducible rfl) | (simp; omega) | (intros; omega) | simp [*])
                    try simp only [Act.put, List.setIfInBounds_toArray, List.set_cons_zero, List.set_cons_succ]
                    refine wpAnyH_take (i := 3) (oi := ⟨some 155, _, _, _, _, _⟩) (v := .bool true) rfl (by kernel_rfl) (by kernel_rfl) (by kernel_rfl) (fun _ _ _ h => h) (Or.inl ⟨by rfl, ?_⟩) hHeld ?_
                    · (intro wq hSw; go_simp; try first | (with_reducible rfl) | (simp; omega) | (intros; omega) | simp [*])
                    try simp only [Act.put, List.setIfInBounds_toArray, List.set_cons_zero, List.set_cons_succ]
                    refine wpAnyH_take (i := 4) (oi := ⟨some 156, _, _, _, _, _⟩) (v := ?_) rfl (by kernel_rfl) (by kernel_rfl) (by kernel_rfl) (fun _ _ _ h => h) (Or.inl ⟨by rfl, ?_⟩) hHeld ?_
                    rotate_left
                    · (intro wq hSw; go_simp; try with_reducible rfl)
                    try simp only [Act.put, List.setIfInBounds_toArray, List.set_cons_zero, List.set_cons_succ]
                    refine wpAnyH_take (i := 5) (oi := ⟨some 157, _, _, _, _, _⟩) (v := ?_) rfl (by kernel_rfl) (by kernel_rfl) (by kernel_rfl) (fun _ _ _ h => h) (Or.inl ⟨by rfl, ?_⟩) hHeld ?_
                    rotate_left
                    · (intro wq hSw; go_simp; try with_reducible rfl)
                    try simp only [Act.put, List.setIfInBounds_toArray, List.set_cons_zero, List.set_cons_succ]
                    refine wpAnyH_take (i := 6) (oi := ⟨some 158, _, _, _, _, _⟩) (v := ?_) rfl (by kernel_rfl) (by kernel_rfl) (by kernel_rfl) (fun _ _ _ h => h) (Or.inl ⟨by rfl, ?_⟩) hHeld ?_
                    rotate_left
                    · (intro wq hSw; go_simp; try with_reducible rfl)
                    try simp only [Act.put, List.setIfInBounds_toArray, List.set_cons_zero, List.set_cons_succ]
                    refine wpAnyH_take (i := 7) (oi := ⟨some 159, _, _, _, _, _⟩) (v := ?_) rfl (by kernel_rfl) (by kernel_rfl) (by kernel_rfl) (fun _ _ _ h => h) (Or.inl ⟨by rfl, ?_⟩) hHeld ?_
                    rotate_left
                    · (intro wq hSw; go_simp; try with_reducible rfl)
                    try simp only [Act.put, List.setIfInBounds_toArray, List.set_cons_zero, List.set_cons_succ]
                    refine wpAnyH_take (i := 8) (oi := ⟨some 160, _, _, _, _, _⟩) (v := .int .u64 (t : Int)) rfl (by kernel_rfl) (by kernel_rfl) (by kernel_rfl) (fun _ _ _ h => h) (Or.inl ⟨by rfl, ?_⟩) hHeld ?_
                    · (intro wq hSw; have hb9 := hSw.blk HVXr.out (fun h => h); have x0 := hb9.cell (i := 0) rfl; have x1 := hb9.cell (i := 1) rfl; have x2 := hb9.cell (i := 2) rfl; have x3 := hb9.cell (i := 3) rfl; have x4 := hb9.cell (i := 4) rfl; have x5 := hb9.cell (i := 5) rfl; have x6 := hb9.cell (i := 6) rfl; have x7 := hb9.cell (i := 7) rfl; clear hb9; have hp9 := hSw.blk HPGr.out (fun h => h); have p0 := hp9.cell (i := 0) rfl; have p1 := hp9.cell (i := 1) rfl; have p2 := hp9.cell (i := 2) rfl; have p3 := hp9.cell (i := 3) rfl; have p4 := hp9.cell (i := 4) rfl; clear hp9; have hc9 := (hSw.cell (p := ⟨gL, oL + wn, none⟩) hgLr (fun h => h)).trans HCLr.out; have hc8 := (hSw.cell (p := ⟨gO, wn, none⟩) hgOr (fun h => h)).trans HLWr.out; go_simp; try first | (with_reducible rfl) | (simp; omega) | (intros; omega) | simp [*])
                    try simp only [Act.put, List.setIfInBounds_toArray, List.set_cons_zero, List.set_cons_succ]
                    refine wpAnyH_take (i := 9) (oi := ⟨some 161, _, _, _, _, _⟩) (v := .bool true) rfl (by kernel_rfl) (by kernel_rfl) (by kernel_rfl) (fun _ _ _ h => h) (Or.inl ⟨by rfl, ?_⟩) hHeld ?_
                    · (intro wq hSw; go_simp; try first | (with_reducible rfl) | (simp; omega) | (intros; omega) | simp [*])
                    try simp only [Act.put, List.setIfInBounds_toArray, List.set_cons_zero, List.set_cons_succ]
                    refine wpAnyH_take (i := 10) (oi := ⟨some 162, _, _, _, _, _⟩) (v := .bool true) rfl (by kernel_rfl) (by kernel_rfl) (by kernel_rfl) (fun _ _ _ h => h) (Or.inl ⟨by rfl, ?_⟩) hHeld ?_
                    · (intro wq hSw; go_simp; try first | (with_reducible rfl) | (simp; omega) | (intros; omega) | simp [*])
                    try simp only [Act.put, List.setIfInBounds_toArray, List.set_cons_zero, List.set_cons_succ]
                    refine wpAnyH_take (i := 11) (oi := ⟨some 163, _, _, _, _, _⟩) (v := .bool true) rfl (by kernel_rfl) (by kernel_rfl) (by kernel_rfl) (fun _ _ _ h => h) (Or.inl ⟨by rfl, ?_⟩) hHeld ?_
                    · (intro wq hSw; go_simp; try first | (with_reducible rfl) | (simp; omega) | (intros; omega) | simp [*])
                    try simp only [Act.put, List.setIfInBounds_toArray, List.set_cons_zero, List.set_cons_succ]
                    refine wpAnyH_take (i := 12) (oi := ⟨some 164, _, _, _, _, _⟩) (v := ?_) rfl (by kernel_rfl) (by kernel_rfl) (by kernel_rfl) (fun _ _ _ h => h) (Or.inl ⟨by rfl, ?_⟩) hHeld ?_
                    rotate_left
                    · (intro wq hSw; go_simp; try with_reducible rfl)
                    try simp only [Act.put, List.setIfInBounds_toArray, List.set_cons_zero, List.set_cons_succ]
                    refine wpAnyH_take (i := 13) (oi := ⟨some 165, _, _, _, _, _⟩) (v := ?_) rfl (by kernel_rfl) (by kernel_rfl) (by kernel_rfl) (fun _ _ _ h => h) (Or.inl ⟨by rfl, ?_⟩) hHeld ?_
                    rotate_left
                    · (intro wq hSw; go_simp; try with_reducible rfl)
                    try simp only [Act.put, List.setIfInBounds_toArray, List.set_cons_zero, List.set_cons_succ]
                    refine wpAnyH_take (i := 14) (oi := ⟨some 166, _, _, _, _, _⟩) (v := ?_) rfl (by kernel_rfl) (by kernel_rfl) (by kernel_rfl) (fun _ _ _ h => h) (Or.inl ⟨by rfl, ?_⟩) hHeld ?_
                    rotate_left
                    · (intro wq hSw; go_simp; try with_reducible rfl)
                    try simp only [Act.put, List.setIfInBounds_toArray, List.set_cons_zero, List.set_cons_succ]
                    refine wpAnyH_take (i := 15) (oi := ⟨some 167, _, _, _, _, _⟩) (v := ?_) rfl (by kernel_rfl) (by kernel_rfl) (by kernel_rfl) (fun _ _ _ h => h) (Or.inl ⟨by rfl, ?_⟩) hHeld ?_
                    rotate_left
                    · (intro wq hSw; go_simp; try with_reducible rfl)
                    try simp only [Act.put, List.setIfInBounds_toArray, List.set_cons_zero, List.set_cons_succ]
                    refine wpAnyH_take (i := 16) (oi := ⟨some 168, _, _, _, _, _⟩) (v := .string lw) rfl (by kernel_rfl) (by kernel_rfl) (by kernel_rfl) (fun _ _ _ h => h) (Or.inl ⟨by rfl, ?_⟩) hHeld ?_
                    · (intro wq hSw; have hb9 := hSw.blk HVXr.out (fun h => h); have x0 := hb9.cell (i := 0) rfl; have x1 := hb9.cell (i := 1) rfl; have x2 := hb9.cell (i := 2) rfl; have x3 := hb9.cell (i := 3) rfl; have x4 := hb9.cell (i := 4) rfl; have x5 := hb9.cell (i := 5) rfl; have x6 := hb9.cell (i := 6) rfl; have x7 := hb9.cell (i := 7) rfl; clear hb9; have hp9 := hSw.blk HPGr.out (fun h => h); have p0 := hp9.cell (i := 0) rfl; have p1 := hp9.cell (i := 1) rfl; have p2 := hp9.cell (i := 2) rfl; have p3 := hp9.cell (i := 3) rfl; have p4 := hp9.cell (i := 4) rfl; clear hp9; have hc9 := (hSw.cell (p := ⟨gL, oL + wn, none⟩) hgLr (fun h => h)).trans HCLr.out; have hc8 := (hSw.cell (p := ⟨gO, wn, none⟩) hgOr (fun h => h)).trans HLWr.out; go_simp; try first | (with_reducible rfl) | (simp; omega) | (intros; omega) | simp [*])
                    try simp only [Act.put, List.setIfInBounds_toArray, List.set_cons_zero, List.set_cons_succ]
                    refine wpAnyH_take (i := 17) (oi := ⟨some 169, _, _, _, _, _⟩) (v := .bool true) rfl (by kernel_rfl) (by kernel_rfl) (by kernel_rfl) (fun _ _ _ h => h) (Or.inl ⟨by rfl, ?_⟩) hHeld ?_
                    · (intro wq hSw; go_simp; try first | (with_reducible rfl) | (simp; omega) | (intros; omega) | simp [*])
                    try simp only [Act.put, List.setIfInBounds_toArray, List.set_cons_zero, List.set_cons_succ]
                    refine wpAnyH_take (i := 18) (oi := ⟨some 170, _, _, _, _, _⟩) (v := .bool true) rfl (by kernel_rfl) (by kernel_rfl) (by kernel_rfl) (fun _ _ _ h => h) (Or.inl ⟨by rfl, ?_⟩) hHeld ?_
                    · (intro wq hSw; go_simp; try first | (with_reducible rfl) | (simp; omega) | (intros; omega) | simp [*])
                    try simp only [Act.put, List.setIfInBounds_toArray, List.set_cons_zero, List.set_cons_succ]
                    refine wpAnyH_take (i := 19) (oi := ⟨some 171, _, _, _, _, _⟩) (v := .bool true) rfl (by kernel_rfl) (by kernel_rfl) (by kernel_rfl) (fun _ _ _ h => h) (Or.inl ⟨by rfl, ?_⟩) hHeld ?_
                    · (intro wq hSw; go_simp; try first | (with_reducible rfl) | (simp; omega) | (intros; omega) | simp [*])
                    try simp only [Act.put, List.setIfInBounds_toArray, List.set_cons_zero, List.set_cons_succ]
                    refine wpAnyH_take (i := 20) (oi := ⟨some 172, _, _, _, _, _⟩) (v := ?_) rfl (by kernel_rfl) (by kernel_rfl) (by kernel_rfl) (fun _ _ _ h => h) (Or.inl ⟨by rfl, ?_⟩) hHeld ?_
                    rotate_left
                    · (intro wq hSw; have hb9 := hSw.blk HVXr.out (fun h => h); have x0 := hb9.cell (i := 0) rfl; have x1 := hb9.cell (i := 1) rfl; have x2 := hb9.cell (i := 2) rfl; have x3 := hb9.cell (i := 3) rfl; have x4 := hb9.cell (i := 4) rfl; have x5 := hb9.cell (i := 5) rfl; have x6 := hb9.cell (i := 6) rfl; have x7 := hb9.cell (i := 7) rfl; clear hb9; have hp9 := hSw.blk HPGr.out (fun h => h); have p0 := hp9.cell (i := 0) rfl; have p1 := hp9.cell (i := 1) rfl; have p2 := hp9.cell (i := 2) rfl; have p3 := hp9.cell (i := 3) rfl; have p4 := hp9.cell (i := 4) rfl; clear hp9; have hc9 := (hSw.cell (p := ⟨gL, oL + wn, none⟩) hgLr (fun h => h)).trans HCLr.out; have hc8 := (hSw.cell (p := ⟨gO, wn, none⟩) hgOr (fun h => h)).trans HLWr.out; go_simp; try with_reducible rfl)
                    try simp only [Act.put, List.setIfInBounds_toArray, List.set_cons_zero, List.set_cons_succ]
                    refine wpAnyH_take (i := 21) (oi := ⟨some 173, _, _, _, _, _⟩) (v := ?_) rfl (by kernel_rfl) (by kernel_rfl) (by kernel_rfl) (fun _ _ _ h => h) (Or.inl ⟨by rfl, ?_⟩) hHeld ?_
                    rotate_left
                    · (intro wq hSw; have hb9 := hSw.blk HVXr.out (fun h => h); have x0 := hb9.cell (i := 0) rfl; have x1 := hb9.cell (i := 1) rfl; have x2 := hb9.cell (i := 2) rfl; have x3 := hb9.cell (i := 3) rfl; have x4 := hb9.cell (i := 4) rfl; have x5 := hb9.cell (i := 5) rfl; have x6 := hb9.cell (i := 6) rfl; have x7 := hb9.cell (i := 7) rfl; clear hb9; have hp9 := hSw.blk HPGr.out (fun h => h); have p0 := hp9.cell (i := 0) rfl; have p1 := hp9.cell (i := 1) rfl; have p2 := hp9.cell (i := 2) rfl; have p3 := hp9.cell (i := 3) rfl; have p4 := hp9.cell (i := 4) rfl; clear hp9; have hc9 := (hSw.cell (p := ⟨gL, oL + wn, none⟩) hgLr (fun h => h)).trans HCLr.out; have hc8 := (hSw.cell (p := ⟨gO, wn, none⟩) hgOr (fun h => h)).trans HLWr.out; go_simp; try with_reducible rfl)
                    try simp only [Act.put, List.setIfInBounds_toArray, List.set_cons_zero, List.set_cons_succ]
                    refine wpAnyH_take (i := 22) (oi := ⟨some 174, _, _, _, _, _⟩) (v := ?_) rfl (by kernel_rfl) (by kernel_rfl) (by kernel_rfl) (fun _ _ _ h => h) (Or.inl ⟨by rfl, ?_⟩) hHeld ?_
                    rotate_left
                    · (intro wq hSw; go_simp; try with_reducible rfl)
                    try simp only [Act.put, List.setIfInBounds_toArray, List.set_cons_zero, List.set_cons_succ]
                    refine wpAnyH_ready (rs := [23]) (by kernel_rfl) (by simp) ?_
                    refine AllReadyH.cons (o := ⟨some 175, _, _, _, _, _⟩) rfl (fun KK hK => ?_) (AllReadyH.nil)
                    go_simp
                    go_at_call 21
                    refine (HPAGE2.out _ HW.out).mono ?_; rintro e G ⟨A4, c4, rfl, hR4, hK4⟩
                    replace HW := Lib.hid (HW.out.trans hK4 (fun _ _ h => h))
                    have HR4 := Lib.hid hR4
                    clear hR4 hK4
                    refine hK.out _ _ ?_ (fun hHeld2 => ?_)
                    · exact HW.out
                    clear hK KK hHeld
                    have hHeld := hHeld2
                    clear hHeld2
                    try simp only [Act.put, List.setIfInBounds_toArray, List.set_cons_zero, List.set_cons_succ]
                    refine wpAnyH_ready (rs := [24]) (by kernel_rfl) (by simp) ?_
                    refine AllReadyH.cons (o := ⟨some 176, _, _, _, _, _⟩) rfl (fun KK hK => ?_) (AllReadyH.nil)
                    go_simp
                    go_at_call 22
                    refine (HSAME.out _ A4 c4 HW.out HR4.out).mono ?_; rintro e G ⟨rfl, hK5⟩
                    replace HW := Lib.hid (HW.out.trans hK5 (fun _ _ h => h))
                    clear hK5
                    refine hK.out _ _ ?_ (fun hHeld2 => ?_)
                    · exact HW.out
                    clear hK KK hHeld
                    have hHeld := hHeld2
                    clear hHeld2
                    try simp only [Act.put, List.setIfInBounds_toArray, List.set_cons_zero, List.set_cons_succ]
                    refine wpAnyH_take (i := 25) (oi := ⟨some 177, _, _, _, _, _⟩) (v := .bool true) rfl (by kernel_rfl) (by kernel_rfl) (by kernel_rfl) (fun _ _ _ h => h) (Or.inl ⟨by rfl, ?_⟩) hHeld ?_
                    · (intro wq hSw; go_simp; try first | (with_reducible rfl) | (simp; omega) | (intros; omega) | simp [*])
                    try simp only [Act.put, List.setIfInBounds_toArray, List.set_cons_zero, List.set_cons_succ]
                    refine wpAnyH_take (i := 26) (oi := ⟨some 14, _, _, _, _, _⟩) (v := ?_) rfl (by kernel_rfl) (by kernel_rfl) (by kernel_rfl) (fun _ _ _ h => h) (Or.inl ⟨by rfl, ?_⟩) hHeld ?_
                    rotate_left
                    · (intro wq hSw; go_simp; try with_reducible rfl)
                    try simp only [Act.put, List.setIfInBounds_toArray, List.set_cons_zero, List.set_cons_succ]
                    refine wpAnyH_done (by kernel_rfl) ?_ _
                    clear hHeld
                    replace HKr := Lib.hid (HKr.out.trans HW.out (fun _ _ h => h))
                    replace HK5 := Lib.hid (HK5.out.trans HKr.out (fun _ _ h => h.elim))
                    clear HW HKr
                    go_wp2
                    go_ret
                    refine ⟨rfl, ?_⟩
                    have hKz := (HK.out.mono (T := fun i => w.heap.size ≤ i) (fun _ h => h.elim)).trans (HK5.out.mono (T := fun i => w.heap.size ≤ i) (fun i h => h.1)) (fun _ _ h => h)
                    exact hKz.below (Nat.le_refl _) (fun _ h => h)
            · have e0 : (d == 0) = false := by simp [hd0]
              have hd1 : 1 ≤ d := by omega
              have HDK := Lib.hid hd
              have hk4 : k + 1 ≤ D := by omega
              clear hd0 hd
              go_wp2
              go_roundw
              case rel => exact ⟨k1, Z5, by have := HK1.out; omega, by go_num, by have := HA5.out; have e := HDK.out; rwa [show d = D + 1 - k1 by have := HK1.out; omega] at this, HM5.out, HZ5.out, HK5.out⟩
              case measure => have := HK1.out; simp [intOf]; omega
        · have hkn : key2.toList = [] := Classical.byContradiction fun h => hkl (.inr h)
          obtain rfl : key2 = ⟨#[]⟩ := data_inj (by rw [hkn, Lib.toList_data])
          obtain rfl : last = false := by cases last; rfl; exact absurd (.inl rfl) hkl
          have e00 : (⟨#[]⟩ : ByteArray).toList = [] := by rw [Lib.toList_data]
          clear hkn hkl
          have h12 := H12.out
          have y0 := h12.cell (i := 0) rfl
          have y1 := h12.cell (i := 1) rfl
          have y2 := h12.cell (i := 2) rfl
          have y3 := h12.cell (i := 3) rfl
          have y4 := h12.cell (i := 4) rfl
          have y5 := h12.cell (i := 5) rfl
          have y6 := h12.cell (i := 6) rfl
          have y7 := h12.cell (i := 7) rfl
          have y8 := h12.cell (i := 8) rfl
          have y9 := h12.cell (i := 9) rfl
          clear h12
          go_wp2_with fail
          refine (newBelow_none F fb fd _).mono ?_; rintro e W4 ⟨x, rfl, hx4, hB4, hK4⟩
          clear y0 y1 y2 y3 y4 y5 y6 y7 y8 y9
          have HBX := Lib.hid hB4
          replace HM := Lib.hid (HM.out.kept hK4 (fun h => h) (fun h => h))
          replace HKR := Lib.hid (HKR.out.kept hK4 (fun _ _ h => h))
          replace H11 := Lib.hid (hK4.blk H11.out (fun h => h))
          replace H12 := Lib.hid (hK4.blk H12.out (fun h => h))
          replace HVX := Lib.hid (hK4.blk HVX.out (fun h => h))
          replace HBV := Lib.hid (hK4.blk HBV.out (fun h => h))
          replace HK := Lib.hid (HK.out.trans hK4 (fun _ _ h => h))
          clear hK4
          clear hB4 hx4
          go_wp2_with fail
          go_loopw [21] (fun kv wr => kv = .int .i64 1 ∧ wr = W4) (fun _ _ => 0)
          case atStart => exact ⟨rfl, rfl⟩
          case round =>
            obtain ⟨rfl, rfl⟩ := hrel
            rename World => w5
            go_wp2_with fail
            refine (below_failed F fb fd x _ _ b _ _ HBX.out).mono ?_; rintro e w9 ⟨rfl, rfl⟩
            go_wp2_with fail
            refine (bnode_failed F fb fd x _ _ _ _ HBX.out).mono ?_; rintro e w6 ⟨rfl, hK6⟩
            have HM5 := Lib.hid (HM.out.kept hK6 (fun h => h) (fun h => h))
            have HVX5 := Lib.hid (hK6.blk HVX.out (fun h => h))
            have HBV5 := Lib.hid (hK6.blk HBV.out (fun h => h))
            have HK5 := Lib.hid ((Kept.refl (fun i => w.heap.size ≤ i ∧ i ≠ r11 ∧ i ≠ r12 ∧ i ≠ rv ∧ i ≠ gv) w5).trans hK6 (fun _ _ h => h.elim))
            clear hK6 HBX
            go_upto_region 12 with fail
            have hal := (Kept.refl (fun _ => False) w6).alloc (.cells #[.int .i64 0, .slice none 0 0, .string ⟨#[]⟩, .bool false, .int .u64 0] 43)
            have HPG := Lib.hid (Blk.new w6 [.int .i64 0, .slice none 0 0, .string ⟨#[]⟩, .bool false, .int .u64 0] 43)
            replace HM5 := Lib.hid (HM5.out.kept hal (fun h => h) (fun h => h))
            replace HVX5 := Lib.hid (hal.blk HVX5.out (fun h => h))
            replace HBV5 := Lib.hid (hal.blk HBV5.out (fun h => h))
            replace HK5 := Lib.hid (HK5.out.trans hal (fun _ _ h => h.elim))
            clear hal
            generalize w6.heap.size = rp at HPG ⊢
            generalize w6.alloc (.cells #[.int .i64 0, .slice none 0 0, .string ⟨#[]⟩, .bool false, .int .u64 0] 43) = V7 at *
            have hnl2 : nl ≤ 1048576 := by have := HNL.out; omega
            have wku1 : IntKind.u64.wrap 1 = 1 := by rw [IntKind.wrap_u64]; omega
            refine wp_region_held_drew (S := (fun w' => Kept (fun _ => False) V7 w')) (by kernel_rfl) ?_ (fun hHeld => ?_)
            · exact (Kept.refl _ _).drew
            have HW := Lib.hid ((Kept.refl (fun _ => False) V7).drew)
            generalize V7.drew = G at *
            refine wpAnyH_take (i := 0) (oi := ⟨some 93, _, _, _, _, _⟩) (v := ?_) rfl (by kernel_rfl) (by kernel_rfl) (by kernel_rfl) (fun _ _ _ h => h) (Or.inl ⟨by rfl, ?_⟩) hHeld ?_
            rotate_left
            · (intro wq hSw; go_simp; try with_reducible rfl)
            try simp only [Act.put, List.setIfInBounds_toArray, List.set_cons_zero, List.set_cons_succ]
            refine wpAnyH_take (i := 1) (oi := ⟨some 94, _, _, _, _, _⟩) (v := .bool false) rfl (by kernel_rfl) (by kernel_rfl) (by kernel_rfl) (fun _ _ _ h => h) (Or.inl ⟨by rfl, ?_⟩) hHeld ?_
            · (intro wq hSw; go_simp; try first | (with_reducible rfl) | (simp; omega) | (intros; omega) | simp [*])
            try simp only [Act.put, List.setIfInBounds_toArray, List.set_cons_zero, List.set_cons_succ]
            refine wpAnyH_take (i := 2) (oi := ⟨some 95, _, _, _, _, _⟩) (v := ?_) rfl (by kernel_rfl) (by kernel_rfl) (by kernel_rfl) (fun _ _ _ h => h) (Or.inl ⟨by rfl, ?_⟩) hHeld ?_
            rotate_left
            · (intro wq hSw; go_simp; try with_reducible rfl)
            try simp only [Act.put, List.setIfInBounds_toArray, List.set_cons_zero, List.set_cons_succ]
            refine wpAnyH_take (i := 3) (oi := ⟨some 96, _, _, _, _, _⟩) (v := ?_) rfl (by kernel_rfl) (by kernel_rfl) (by kernel_rfl) (fun _ _ _ h => h) (Or.inl ⟨by rfl, ?_⟩) hHeld ?_
            rotate_left
            · (intro wq hSw; go_simp; try with_reducible rfl)
            try simp only [Act.put, List.setIfInBounds_toArray, List.set_cons_zero, List.set_cons_succ]
            refine wpAnyH_take (i := 5) (oi := ⟨some 98, _, _, _, _, _⟩) (v := ?_) rfl (by kernel_rfl) (by kernel_rfl) (by kernel_rfl) (fun _ _ _ h => h) (Or.inl ⟨by rfl, ?_⟩) hHeld ?_
            rotate_left
            · (intro wq hSw; go_simp; try with_reducible rfl)
            try simp only [Act.put, List.setIfInBounds_toArray, List.set_cons_zero, List.set_cons_succ]
            refine wpAnyH_take (i := 6) (oi := ⟨some 99, _, _, _, _, _⟩) (v := .int .u64 1) rfl (by kernel_rfl) (by kernel_rfl) (by kernel_rfl) (fun _ _ _ h => h) (Or.inl ⟨by rfl, ?_⟩) hHeld ?_
            · (intro wq hSw; go_simp; try first | (with_reducible rfl) | (simp; omega) | (intros; omega) | simp [*])
            try simp only [Act.put, List.setIfInBounds_toArray, List.set_cons_zero, List.set_cons_succ]
            refine wpAnyH_ready (rs := [4]) (by kernel_rfl) (by simp) ?_
            refine AllReadyH.cons (o := ⟨some 97, _, _, _, _, _⟩) rfl (fun KK hK => ?_) (AllReadyH.nil)
            go_simp
            go_at_call 16
            refine (accesses_any b g l 0 _ (HM5.out.kept HW.out (fun h => h) (fun h => h))).mono ?_; rintro e G2 ⟨rfl, rfl⟩
            refine hK.out _ _ ?_ (fun hHeld2 => ?_)
            · exact HW.out
            clear hK KK hHeld
            have hHeld := hHeld2
            clear hHeld2
            try simp only [Act.put, List.setIfInBounds_toArray, List.set_cons_zero, List.set_cons_succ]
            refine wpAnyH_take (i := 7) (oi := ⟨some 100, _, _, _, _, _⟩) (v := .bool false) rfl (by kernel_rfl) (by kernel_rfl) (by kernel_rfl) (fun _ _ _ h => h) (Or.inl ⟨by rfl, ?_⟩) hHeld ?_
            · (intro wq hSw; go_simp; try first | (with_reducible rfl) | (simp; omega) | (intros; omega) | simp [*])
            try simp only [Act.put, List.setIfInBounds_toArray, List.set_cons_zero, List.set_cons_succ]
            refine wpAnyH_take (i := 8) (oi := ⟨some 101, _, _, _, _, _⟩) (v := .bool false) rfl (by kernel_rfl) (by kernel_rfl) (by kernel_rfl) (fun _ _ _ h => h) (Or.inl ⟨by rfl, ?_⟩) hHeld ?_
            · (intro wq hSw; go_simp; try first | (with_reducible rfl) | (simp; omega) | (intros; omega) | simp [*])
            try simp only [Act.put, List.setIfInBounds_toArray, List.set_cons_zero, List.set_cons_succ]
            refine wpAnyH_take (i := 9) (oi := ⟨some 102, _, _, _, _, _⟩) (v := ?_) rfl (by kernel_rfl) (by kernel_rfl) (by kernel_rfl) (fun _ _ _ h => h) (Or.inl ⟨by rfl, ?_⟩) hHeld ?_
            rotate_left
            · (intro wq hSw; go_simp; try with_reducible rfl)
            try simp only [Act.put, List.setIfInBounds_toArray, List.set_cons_zero, List.set_cons_succ]
            refine wpAnyH_take (i := 10) (oi := ⟨some 103, _, _, _, _, _⟩) (v := ?_) rfl (by kernel_rfl) (by kernel_rfl) (by kernel_rfl) (fun _ _ _ h => h) (Or.inl ⟨by rfl, ?_⟩) hHeld ?_
            rotate_left
            · (intro wq hSw; go_simp; try with_reducible rfl)
            try simp only [Act.put, List.setIfInBounds_toArray, List.set_cons_zero, List.set_cons_succ]
            refine wpAnyH_take (i := 12) (oi := ⟨some 105, _, _, _, _, _⟩) (v := ?_) rfl (by kernel_rfl) (by kernel_rfl) (by kernel_rfl) (fun _ _ _ h => h) (Or.inl ⟨by rfl, ?_⟩) hHeld ?_
            rotate_left
            · (intro wq hSw; go_simp; try with_reducible rfl)
            try simp only [Act.put, List.setIfInBounds_toArray, List.set_cons_zero, List.set_cons_succ]
            refine wpAnyH_take (i := 13) (oi := ⟨some 106, _, _, _, _, _⟩) (v := ?_) rfl (by kernel_rfl) (by kernel_rfl) (by kernel_rfl) (fun _ _ _ h => h) (Or.inl ⟨by rfl, ?_⟩) hHeld ?_
            rotate_left
            · (intro wq hSw; have hb9 := hSw.blk HVX5.out (fun h => h); have x0 := hb9.cell (i := 0) rfl; have x1 := hb9.cell (i := 1) rfl; have x2 := hb9.cell (i := 2) rfl; have x3 := hb9.cell (i := 3) rfl; have x4 := hb9.cell (i := 4) rfl; have x5 := hb9.cell (i := 5) rfl; have x6 := hb9.cell (i := 6) rfl; have x7 := hb9.cell (i := 7) rfl; clear hb9; go_simp; try with_reducible rfl)
            try simp only [Act.put, List.setIfInBounds_toArray, List.set_cons_zero, List.set_cons_succ]
            refine wpAnyH_ready (rs := [11]) (by kernel_rfl) (by simp) ?_
            refine AllReadyH.cons (o := ⟨some 104, _, _, _, _, _⟩) rfl (fun KK hK => ?_) (AllReadyH.nil)
            go_simp
            go_at_call 18
            refine (cells_n b g l 0 nl _ HNL.out (HM5.out.kept HW.out (fun h => h) (fun h => h)) (by omega)).mono ?_; rintro e G2 ⟨rfl, hBc, hKc⟩
            have HBC := Lib.hid hBc
            replace HW := Lib.hid (HW.out.trans hKc (fun _ _ h => h))
            clear hBc hKc
            generalize G.heap.size = gc at *
            refine hK.out _ _ ?_ (fun hHeld2 => ?_)
            · exact HW.out
            clear hK KK hHeld
            have hHeld := hHeld2
            clear hHeld2
            try simp only [Act.put, List.setIfInBounds_toArray, List.set_cons_zero, List.set_cons_succ]
            refine wpAnyH_ready (rs := [14]) (by kernel_rfl) (by simp) ?_
            refine AllReadyH.cons (o := ⟨some 107, _, _, _, _, _⟩) rfl (fun KK hK => ?_) (AllReadyH.nil)
            go_simp
            go_at_call 17
            refine (same_n gc gv nl nl nl l _ HNL.out (fun i u h => HBC.out.cell h) (fun i u h => (HW.out.blk HBV5.out (fun h => h)).cell h) (by omega)).mono ?_; rintro e G3 ⟨rfl, q3, rfl⟩
            replace HW := Lib.hid (HW.out.drewN q3)
            generalize G2.drewN q3 = G3 at *
            refine hK.out _ _ ?_ (fun hHeld2 => ?_)
            · exact HW.out
            clear hK KK hHeld
            have hHeld := hHeld2
            clear hHeld2
            try simp only [Act.put, List.setIfInBounds_toArray, List.set_cons_zero, List.set_cons_succ]
            refine wpAnyH_take (i := 15) (oi := ⟨some 108, _, _, _, _, _⟩) (v := .bool false) rfl (by kernel_rfl) (by kernel_rfl) (by kernel_rfl) (fun _ _ _ h => h) (Or.inl ⟨by rfl, ?_⟩) hHeld ?_
            · (intro wq hSw; go_simp; try first | (with_reducible rfl) | (simp; omega) | (intros; omega) | simp [*])
            try simp only [Act.put, List.setIfInBounds_toArray, List.set_cons_zero, List.set_cons_succ]
            refine wpAnyH_take (i := 16) (oi := ⟨some 109, _, _, _, _, _⟩) (v := .bool false) rfl (by kernel_rfl) (by kernel_rfl) (by kernel_rfl) (fun _ _ _ h => h) (Or.inl ⟨by rfl, ?_⟩) hHeld ?_
            · (intro wq hSw; go_simp; try first | (with_reducible rfl) | (simp; omega) | (intros; omega) | simp [*])
            try simp only [Act.put, List.setIfInBounds_toArray, List.set_cons_zero, List.set_cons_succ]
            refine wpAnyH_done (by kernel_rfl) ?_ _
            clear hHeld
            replace HM5 := Lib.hid (HM5.out.kept HW.out (fun h => h) (fun h => h))
            clear HBC
            replace HVX5 := Lib.hid (HW.out.blk HVX5.out (fun h => h))
            replace HBV5 := Lib.hid (HW.out.blk HBV5.out (fun h => h))
            replace HPG := Lib.hid (HW.out.blk HPG.out (fun h => h))
            replace HK5 := Lib.hid (HK5.out.trans HW.out (fun _ _ h => h.elim))
            clear HW
            go_wp2_with fail
            refine (accesses_any b g l 0 _ HM5.out).mono ?_; rintro e w9 ⟨rfl, rfl⟩
            go_wp2
            go_ret
            refine ⟨rfl, ?_⟩
            have hKz := (HK.out.mono (T := fun i => w.heap.size ≤ i) (fun _ h => h.elim)).trans (HK5.out.mono (T := fun i => w.heap.size ≤ i) (fun i h => h.1)) (fun _ _ h => h)
            exact hKz.below (Nat.le_refl _) (fun _ h => h)

end Go.Proofs.Ytboieccjikcdiaa
