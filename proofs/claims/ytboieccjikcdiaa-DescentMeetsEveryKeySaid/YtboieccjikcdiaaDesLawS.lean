/-
  DescentIsShort, walked. Condition: arguments within the model's reach.
-/
import Derived.Test.YtboieccjikcdiaaDesLawT
import Derived.Test.YtboieccjikcdiaaQuietTail
namespace Go.Proofs.Ytboieccjikcdiaa
open Go.RowKit Go.Deep Plain
set_option linter.unusedVariables false

theorem Holds.inj {ad : Nat → Int} {l : List Cel} {P Q : Pg} (hP : Holds ad l P) (hQ : Holds ad l Q) (wP : Wf P) (wQ : Wf Q) : P = Q := by
  obtain ⟨lv, hi, la, rt, xs⟩ := P
  obtain ⟨lv2, hi2, la2, rt2, xs2⟩ := Q
  have h0 : ((xs.length : Int), (⟨#[]⟩ : ByteArray), (lv : Int)) = ((xs2.length : Int), (⟨#[]⟩ : ByteArray), (lv2 : Int)) := (hP 0 (by omega)).symm.trans (hQ 0 (by omega))
  have h1 : hiCel hi la = hiCel hi2 la2 := (hP 1 (by omega)).symm.trans (hQ 1 (by omega))
  have h2 : ((rt : Int), (⟨#[]⟩ : ByteArray), (0 : Int)) = ((rt2 : Int), (⟨#[]⟩ : ByteArray), (0 : Int)) := (hP 2 (by omega)).symm.trans (hQ 2 (by omega))
  have e0 : xs.length = xs2.length ∧ lv = lv2 := by injection h0 with a b; injection b with _ b; omega
  have e2 : rt = rt2 := by injection h2 with a _; omega
  have e1 : la = la2 ∧ hi = hi2 := by
    unfold hiCel at h1
    cases la <;> cases la2 <;> simp at h1
    · exact ⟨rfl, h1⟩
    · exact ⟨rfl, (wP rfl).trans (wQ rfl).symm⟩
  obtain ⟨rfl, rfl⟩ := e1
  obtain ⟨e3, rfl⟩ := e0
  subst e2
  have e4 : xs = xs2 := by
    apply List.ext_getElem e3
    intro i h1 h2
    have a := (hP (i + 3) (by show i + 3 < xs.length + 3; omega)).symm.trans (hQ (i + 3) (by show i + 3 < xs2.length + 3; omega))
    rw [pc_slot (j := i) (List.getElem?_eq_getElem h1), pc_slot (j := i) (List.getElem?_eq_getElem h2)] at a
    unfold slCel at a
    injection a with a b
    injection b with b _
    exact Prod.ext b (by omega)
  rw [e4]
theorem Nd.inj {F n : Nat} {l : List Cel} {P Q : Pg} (h : Nd F l n P) (k : Nd F l n Q) : P = Q := h.holds.inj k.holds h.wf k.wf
/-- A node on a level and the one that covers the same key on the level above. -/
theorem Tr.nested {F H : Nat} {l : List Cel} {st mm : Nat → Nat} {lo : Nat → Nat → ByteArray} {pg : Nat → Nat → Pg} (T : Tr F l H st mm lo pg) {L i j : Nat} {key : ByteArray} (hL : L + 1 < H) (hi : i < mm (L + 1)) (hj : j < mm L) (hli : kl key (lo (L + 1) i) = false) (hci : cov (pg (L + 1) i) key = true) (hlj : kl key (lo L j) = false) (hla : (pg (L + 1) i).la = false) :
    (pg L j).la = false ∧ kl (pg (L + 1) i).hi (pg L j).hi = false := by
  have V := T.lev (L + 1) hL
  have V2 := T.lev L (by omega)
  have hin : i + 1 < mm (L + 1) := by
    rcases Nat.lt_or_ge (i + 1) (mm (L + 1)) with h | h
    · exact h
    · rw [(V.last i (by omega)).1] at hla; cases hla
  obtain ⟨-, -, hhi⟩ := V.next i hin
  obtain ⟨⟨r, h0⟩, hx⟩ := T.up L hL (i + 1) hin
  obtain ⟨j2, hj2, he⟩ := hx _ (List.mem_of_getElem? h0)
  have hlo : lo (L + 1) (i + 1) = lo L j2 := by injection he
  have hk : kl key (lo L j2) = true := by
    unfold cov at hci; rw [hla, hhi, hlo, Bool.false_or] at hci; exact hci
  have hjj : j < j2 := by
    rcases Nat.lt_or_ge j j2 with h | h
    · exact h
    · have h1 := V2.mono_le h hj
      have := kl_le_le h1 hlj
      rw [hk] at this; cases this
  obtain ⟨hl1, -, hl3⟩ := V2.next j (by omega)
  refine ⟨hl1, ?_⟩
  rw [hl3, hhi, hlo]
  exact V2.mono_le (by omega) hj2
set_option maxRecDepth 100000 in
set_option maxHeartbeats 8000000 in
theorem lawShort (w : World) (AR : Option Addr) (nR cR : Nat) (ss : List ByteArray) (hnR : ss.length = nR) (hrd : Rdv w w.heap.size (.slice AR nR cR) nR (ss.map Value.string)) (hsz : ∀ s ∈ ss, s.size ≤ maxLen) (f : Int) (sh : Int) (hs : 0 ≤ sh) (key : ByteArray) (hkey : key.size ≤ maxLen) (at' : Int) :
    Calls Try.prog 6 #[.slice AR nR cR, .int .i64 f, .int .u64 sh, .string key, .int .i64 at'] w fun e w' => e = .returned (.bool true) ∧ Below w.heap.size w w' := by
  unfold maxLen at hkey
  obtain ⟨F, hF⟩ : ∃ F : Nat, 4 + f % 3 = (F : Int) := ⟨(4 + f % 3).toNat, by omega⟩
  have h4 : 4 ≤ F := by omega
  have h6 : F ≤ 6 := by omega
  have HF := Lib.hid hF
  have HRD := Lib.hid hrd
  have HSS := Lib.hid hsz
  clear hF hrd hsz
  go_enter Try.func6, Try.ntmps6
  go_wp2_with fail
  refine (tree_any F h4 h6 f HF.out AR nR cR ss hnR sh hs false w HRD.out HSS.out).mono ?_
  rintro e w1 ⟨b, g, l, fb, fd, A, c, H, n0, rfl, hM, hP, hl2, hD, hbw, hgw, hKr, hA, hK⟩
  obtain ⟨nk, hnk⟩ : ∃ nk, (keysOf ss).length = nk := ⟨_, rfl⟩
  rw [hnk]
  have hnk40 : nk ≤ 40 := by rw [← hnk]; exact keysOf_len ss
  obtain ⟨st, mm, lo, pg, off, hT, hLv, hs0, hFu, hNat, hlen⟩ := hP
  have HM := Lib.hid hM
  have HT := Lib.hid hT
  have HLV := Lib.hid hLv
  have HS0 := Lib.hid hs0
  have HFU := Lib.hid hFu
  have HNAT := Lib.hid hNat
  have HD := Lib.hid hD
  have HKR := Lib.hid hKr
  have HA := Lib.hid hA
  have HK := Lib.hid hK
  have HNK := Lib.hid hnk
  have HBG := Lib.hid (show w.heap.size ≤ b ∧ w.heap.size ≤ g ∧ b < w1.heap.size ∧ g < w1.heap.size from ⟨hbw, hgw, hM.obj.lt, hM.row.lt⟩)
  clear hM hT hLv hs0 hFu hNat hD hKr hA hK hnk hbw hgw hlen HRD HSS HF
  go_wp2_with fail
  have hal := ((Kept.refl (fun _ => False) w1).alloc (.cells #[.int .i64 1, .int .i64 2, .int .i64 100, .int .i64 100, .int .i64 200, .int .i64 (F : Int), .int .u64 1000] 25)).alloc (.cells #[.int .i64 1, .int .i64 2, .int .i64 100, .int .i64 100, .int .i64 200, .int .i64 (F : Int), .int .u64 1000, .int .i64 10, .int .i64 fb, .int .i64 fd] 27)
  have H11 := Lib.hid ((Blk.new w1 [.int .i64 1, .int .i64 2, .int .i64 100, .int .i64 100, .int .i64 200, .int .i64 (F : Int), .int .u64 1000] 25).alloc (.cells #[.int .i64 1, .int .i64 2, .int .i64 100, .int .i64 100, .int .i64 200, .int .i64 (F : Int), .int .u64 1000, .int .i64 10, .int .i64 fb, .int .i64 fd] 27))
  have hNN := Blk.new (w1.alloc (.cells #[.int .i64 1, .int .i64 2, .int .i64 100, .int .i64 100, .int .i64 200, .int .i64 (F : Int), .int .u64 1000] 25)) [.int .i64 1, .int .i64 2, .int .i64 100, .int .i64 100, .int .i64 200, .int .i64 (F : Int), .int .u64 1000, .int .i64 10, .int .i64 fb, .int .i64 fd] 27
  have hsz1 : (w1.alloc (.cells #[.int .i64 1, .int .i64 2, .int .i64 100, .int .i64 100, .int .i64 200, .int .i64 (F : Int), .int .u64 1000] 25)).heap.size = w1.heap.size + 1 := nblk_alloc _ _
  rw [hsz1] at hNN
  have H12 := Lib.hid hNN
  replace HM := Lib.hid (HM.out.kept hal (fun h => h) (fun h => h))
  replace HKR := Lib.hid (HKR.out.kept hal (fun _ _ h => h))
  replace HK := Lib.hid (HK.out.trans hal (fun _ _ h => h))
  clear hal hNN hsz1
  generalize (w1.alloc (.cells #[.int .i64 1, .int .i64 2, .int .i64 100, .int .i64 100, .int .i64 200, .int .i64 (F : Int), .int .u64 1000] 25)).alloc (.cells #[.int .i64 1, .int .i64 2, .int .i64 100, .int .i64 100, .int .i64 200, .int .i64 (F : Int), .int .u64 1000, .int .i64 10, .int .i64 fb, .int .i64 fd] 27) = W at *
  generalize hr12 : w1.heap.size + 1 = r12 at *
  generalize hr11 : w1.heap.size = r11 at *
  have HR := Lib.hid (show w.heap.size ≤ b ∧ w.heap.size ≤ g ∧ b < r11 ∧ g < r11 ∧ r11 < r12 by have := HBG.out; omega)
  clear hr12 hr11 HBG
  refine (awake_any _).mono ?_; rintro e w2 ⟨rfl, hKa⟩
  replace HM := Lib.hid (HM.out.kept hKa (fun h => h) (fun h => h))
  replace HKR := Lib.hid (HKR.out.kept hKa (fun _ _ h => h))
  replace H11 := Lib.hid (hKa.blk H11.out (fun h => h))
  replace H12 := Lib.hid (hKa.blk H12.out (fun h => h))
  replace HK := Lib.hid (HK.out.trans hKa (fun _ _ h => h))
  clear hKa
  by_cases hk100 : 100 < key.size
  · have d0 : (100 : Int) < (key.size : Int) := by omega
    go_wp2_with fail
    refine (awake_any _).mono ?_; rintro e w9 ⟨rfl, hKa⟩
    go_wp2
    go_ret
    exact ⟨rfl, (HK.out.trans hKa (fun _ _ h => h)).below (Nat.le_refl _) (fun _ h => h.elim)⟩
  · have d0 : ¬ (100 : Int) < (key.size : Int) := by omega
    go_upto_region 4 with fail
    go_cut [50] from 43 to 50 (fun v wx => ∃ e : Bool, v = .bool e ∧ (e = true → 0 < nk) ∧ wx = w2)
    case first =>
      by_cases hnk0 : 0 < nk
      · have d1 : (0 : Int) < (nk : Int) := by omega
        go_wp2
        go_meet
        exact ⟨_, rfl, fun _ => hnk0, rfl⟩
      · have d1 : ¬ (0 : Int) < (nk : Int) := by omega
        go_wp2
        go_meet
        exact ⟨false, rfl, (fun e => (by cases e)), rfl⟩
    case rest =>
      obtain ⟨ee, rfl, hee, rfl⟩ := hcut
      rename World => W3
      have HEE := Lib.hid hee
      clear hee
      go_upto_if 50 with fail
      go_cut [3] from 51 to 57 (fun v wx => ∃ k' : ByteArray, v = .string k' ∧ wx = W3)
      case first =>
        cases ee with
        | true =>
          have hnk0 := HEE.out rfl
          obtain ⟨r, hr⟩ : ∃ r : Nat, at' % (nk : Int) = (r : Int) := ⟨(at' % (nk : Int)).toNat, by have := Int.emod_nonneg at' (b := (nk : Int)) (by omega); omega⟩
          have hrl : r < nk := by have := Int.emod_lt_of_pos at' (b := (nk : Int)) (by omega); omega
          have HRM := Lib.hid hr
          clear hr
          obtain ⟨gk, ok, rfl, hgk, hkc⟩ := HKR.out (by rw [HNK.out]; exact hnk0)
          obtain ⟨k', hk'⟩ : ∃ k', (keysOf ss)[r]? = some k' := ⟨_, List.getElem?_eq_getElem (by rw [HNK.out]; exact hrl)⟩
          have hkc1 := hkc r k' hk'
          clear hkc hk'
          go_wp2_with fail
          refine (mod_of at' (nk : Int) r _ (by omega) (by omega) HRM.out).mono ?_; rintro e w9 ⟨rfl, rfl⟩
          go_wp2
          go_meet
          exact ⟨k', rfl, rfl⟩
        | false =>
          go_wp2
          go_meet
          exact ⟨key, rfl, rfl⟩
      case rest =>
        obtain ⟨key2, rfl, rfl⟩ := hcut
        rename World => W3
        clear HEE d0 hk100
        have h12 := H12.out
        have y0 := h12.cell (i := 0) rfl
        have y1 := h12.cell (i := 1) rfl
        have y2 := h12.cell (i := 2) rfl
        have y3 := h12.cell (i := 3) rfl
        have y4 := h12.cell (i := 4) rfl
        have y5 := h12.cell (i := 5) rfl
        have y6 := h12.cell (i := 6) rfl
        have y7 := h12.cell (i := 7) rfl
        have y8 := h12.cell (i := 8) rfl
        have y9 := h12.cell (i := 9) rfl
        clear h12
        go_wp2_with fail
        refine (newFind_any F fb fd key2 0 _).mono ?_; rintro e W4 ⟨x, rfl, hx4, hB4, hK4⟩
        clear y0 y1 y2 y3 y4 y5 y6 y7 y8 y9
        obtain ⟨D, jt, hjt, hpath, hDle⟩ := HT.out.short_root (by first | exact HFU.out rfl | exact HFU.out trivial) key2
        have hHD : H * (F + 5) ≤ 100 * 11 := Nat.mul_le_mul HT.out.H100 (by omega)
        have hD1100 : D ≤ 1100 := by omega
        have HX := Lib.hid (show x ≠ b ∧ x ≠ g ∧ w.heap.size ≤ x ∧ x ≠ r11 ∧ x ≠ r12 by have := HR.out; have := H12.out.lt; have := HK.out.size; omega)
        have HAT := Lib.hid (show WAt (fun _ => False) W4 F fb fd x 79 (tlF key2 0) (nxF key2 0) l (D + 1) (st 0 + jt) ⟨#[]⟩ from WAt.start hB4 HT.out.root hpath)
        have HDLE := Lib.hid hDle
        replace HM := Lib.hid (HM.out.kept hK4 (fun h => h) (fun h => h))
        replace HKR := Lib.hid (HKR.out.kept hK4 (fun _ _ h => h))
        replace H11 := Lib.hid (hK4.blk H11.out (fun h => h))
        replace H12 := Lib.hid (hK4.blk H12.out (fun h => h))
        replace HK := Lib.hid (HK.out.trans hK4 (fun _ _ h => h))
        clear hK4
        clear hB4 hx4 hpath hDle hHD hjt
        have hlt11 := H11.out.lt
        have hlt12 := H12.out.lt
        go_wp2_with fail
        go_loopw [16] (fun kv wr => ∃ (k : Nat) (Z : Nat → Prop), k ≤ D ∧ kv = .int .i64 (k : Int) ∧ WAt Z wr F fb fd x 79 (tlF key2 0) (nxF key2 0) l (D + 1 - k) (st 0 + jt) ⟨#[]⟩ ∧ Mem wr b g l k ∧ (∀ i, Z i → w.heap.size ≤ i ∧ i ≠ b ∧ i ≠ g ∧ i ≠ r11 ∧ i ≠ r12) ∧ Kept (fun i => w.heap.size ≤ i ∧ i ≠ r11 ∧ i ≠ r12) W4 wr) (fun kv _ => D - (intOf kv).toNat)
        case atStart => exact ⟨0, _, by omega, rfl, HAT.out, HM.out, fun i h => h.elim, Kept.refl _ _⟩
        case round =>
          obtain ⟨k, Z, hk, rfl, hA, hM, hZ, hK5⟩ := hrel
          have HAr := Lib.hid hA
          have HMr := Lib.hid hM
          have HZ := Lib.hid hZ
          have HKr := Lib.hid hK5
          have hbl := hM.obj.lt
          have hgl := hM.row.lt
          have hk20 : (k : Int) < 2000 := by omega
          clear hA hM hZ hK5
          obtain ⟨d, hd⟩ : ∃ d, D + 1 - k = d + 1 := ⟨D - k, by omega⟩
          have HST := Lib.hid (find_step F h4 h6 fb fd HD.out Z x key2 0 d (st 0 + jt) ⟨#[]⟩ wr b g l k HMr.out (by omega) (fun h => (HZ.out b h).2.1 rfl) (fun h => (HZ.out g h).2.2.1 rfl) HX.out.1 HX.out.2.1 HNAT.out (by rw [← hd]; exact HAr.out))
          go_wp2_with fail
          refine HST.out.mono ?_; rintro e w5 ⟨rfl, hM5, Z5, hA5, hK5, hn5⟩
          have HA5 := Lib.hid hA5
          have HM5 := Lib.hid hM5
          have HZ5 := Lib.hid (show ∀ i, Z5 i → w.heap.size ≤ i ∧ i ≠ b ∧ i ≠ g ∧ i ≠ r11 ∧ i ≠ r12 from fun i hi => by
            rcases hn5 i hi with h | h
            · exact HZ.out i h
            · have h1 := HKr.out.size
              have h2 := HR.out
              have h3 := HK.out.size
              omega)
          have HK5 := Lib.hid (show Kept (fun i => w.heap.size ≤ i ∧ i ≠ r11 ∧ i ≠ r12) W4 w5 from HKr.out.trans hK5 (fun i hi h => by
            have h1 := HX.out
            have h2 := HR.out
            rcases h with h | h | h | h
            · omega
            · have := HZ.out i h; omega
            · omega
            · omega))
          clear hA5 hM5 hK5 hn5 HST HAr HMr HZ HKr
          by_cases hd0 : d = 0
          · have e0 : (d == 0) = true := by simp [hd0]
            have hkD : k = D := by omega
            have HKD := Lib.hid hkD
            have h11a := HK5.out.blk H11.out (by have := HR.out; omega)
            have H11e := Lib.hid h11a
            have c0 := h11a.cell (i := 0) rfl
            have c1 := h11a.cell (i := 1) rfl
            have c2 := h11a.cell (i := 2) rfl
            have c3 := h11a.cell (i := 3) rfl
            have c4 := h11a.cell (i := 4) rfl
            have c5 := h11a.cell (i := 5) rfl
            have c6 := h11a.cell (i := 6) rfl
            clear hd0 hkD hd h11a
            go_wp2_with fail
            refine (view_any F b g l (k + 1) l.length rfl hl2 _ HM5.out).mono ?_; rintro e w6 ⟨gv, rfl, hBv, hgv, hK6⟩
            have hgvl := hBv.lt
            have V1 := HT.out.lev (H - 1) (by have := HT.out.H1; omega)
            have hone := HT.out.one
            have hnd := V1.nd 0 (by omega)
            rw [Nat.add_zero] at hnd
            have hlv := V1.lv 0 (by omega)
            have hall := HT.out.all (L := H - 1) (i := 0) (by have := HT.out.H1; omega) (by omega)
            have hH100 := HT.out.H100
            have hH1 := HT.out.H1
            have HBV := Lib.hid hBv
            have HM6 := Lib.hid (HM5.out.kept hK6 (fun h => h) (fun h => h))
            have H11f := Lib.hid (hK6.blk H11e.out (fun h => h))
            have HK6 := Lib.hid (HK5.out.trans hK6 (fun _ _ h => h.elim))
            have HND := Lib.hid hnd
            clear hBv hK6 V1 c0 c1 c2 c3 c4 c5 c6 hnd
            go_wp2_with fail
            refine (height_any F h4 h6 gv l.length l rfl (st (H - 1)) 0 ⟨#[]⟩ (by omega) (by omega) (pg (H - 1) 0) HND.out.holds HND.out.wf HND.out.len (by omega) _ HBV.out HT.out.root).mono ?_; rintro e w7 ⟨rfl, hK7⟩
            have hHe : ((pg (H - 1) 0).lv : Int) + 1 = (H : Int) := by omega
            rw [hHe]
            have HM7 := Lib.hid (HM6.out.kept hK7 (fun h => h) (fun h => h))
            have H11g := Lib.hid (hK7.blk H11f.out (fun h => h))
            have HK7 := Lib.hid (HK6.out.trans hK7 (fun _ _ h => h.elim))
            clear hK7 hHe hlv hone hall
            obtain ⟨f5, hf5⟩ : ∃ f5, F + 5 = f5 := ⟨_, rfl⟩
            obtain ⟨mu, hmu⟩ : ∃ mu, H * f5 = mu := ⟨_, rfl⟩
            have hmu1 : mu ≤ 1100 := by rw [← hmu, ← hf5]; exact Nat.le_trans (Nat.mul_le_mul hH100 (by omega : F + 5 ≤ 11)) (by omega)
            obtain ⟨m1, hm1⟩ : ∃ m1, 1 + mu = m1 := ⟨_, rfl⟩
            obtain ⟨ka, hka⟩ : ∃ ka, k + 1 = ka := ⟨_, rfl⟩
            have e5 : (F : Int) + 5 = (f5 : Int) := by omega
            have e6 : (H : Int) * (f5 : Int) = (mu : Int) := by rw [← hmu]; simp
            have hkm : ka ≤ m1 := by have h1 := HKD.out; have h2 := HDLE.out; rw [hf5, hmu] at h2; omega
            have e7 : (1 : Int) + (mu : Int) = (m1 : Int) := by omega
            have wf5 : IntKind.i64.wrap (f5 : Int) = (f5 : Int) := by rw [IntKind.wrap_i64]; omega
            have wmu : IntKind.i64.wrap (mu : Int) = (mu : Int) := by rw [IntKind.wrap_i64]; omega
            have wm1 : IntKind.i64.wrap (m1 : Int) = (m1 : Int) := by rw [IntKind.wrap_i64]; omega
            have wm2 : IntKind.u64.wrap (m1 : Int) = (m1 : Int) := by rw [IntKind.wrap_u64]; omega
            have hle : (ka : Int) ≤ (m1 : Int) := by omega
            have HMA := Lib.hid (show Mem w7 b g l ka from hka ▸ HM7.out)
            clear hmu hf5 hm1 hka hkm
            go_wp2_with fail
            refine qregion (fun w' => Kept (fun _ => False) w7 w') (by kernel_rfl) (by kernel_rfl) (Kept.refl _ _).drew ?_
            refine qstep (o := ⟨some 75, _, _, _, _, _⟩) (v := ?_) (by rfl) (fun wq hSw => ?_) ?_
            rotate_left
            · (go_simp; try with_reducible rfl)
            try simp only [Act.put, List.setIfInBounds_toArray, List.set_cons_zero, List.set_cons_succ]
            refine qcall (o := ⟨some 76, _, _, _, _, _⟩) (v := .int .u64 (ka : Int)) (by rfl) (fun wq hSw => ?_) (fun wq hSw => Calls.mono (accesses_any b g l ka _ (HMA.out.kept hSw (fun h => h) (fun h => h))) ?_) ?_
            · (go_simp; try with_reducible rfl)
            · rintro e w9 ⟨rfl, rfl⟩; exact ⟨rfl, hSw⟩
            try simp only [Act.put, List.setIfInBounds_toArray, List.set_cons_zero, List.set_cons_succ]
            refine qstep (o := ⟨some 77, _, _, _, _, _⟩) (v := ?_) (by rfl) (fun wq hSw => ?_) ?_
            rotate_left
            · (go_simp; try with_reducible rfl)
            try simp only [Act.put, List.setIfInBounds_toArray, List.set_cons_zero, List.set_cons_succ]
            refine qstep (o := ⟨some 78, _, _, _, _, _⟩) (v := ?_) (by rfl) (fun wq hSw => ?_) ?_
            rotate_left
            · (go_simp; try with_reducible rfl)
            try simp only [Act.put, List.setIfInBounds_toArray, List.set_cons_zero, List.set_cons_succ]
            refine qstep (o := ⟨some 79, _, _, _, _, _⟩) (v := ?_) (by rfl) (fun wq hSw => ?_) ?_
            rotate_left
            · (have hb9 := hSw.blk H11g.out (fun h => h); have x5 := hb9.cell (i := 5) rfl; clear hb9; go_simp; try with_reducible rfl)
            try simp only [Act.put, List.setIfInBounds_toArray, List.set_cons_zero, List.set_cons_succ]
            refine qstep (o := ⟨some 80, _, _, _, _, _⟩) (v := .int .i64 (f5 : Int)) (by rfl) (fun wq hSw => ?_) ?_
            · (go_simp; try first | (with_reducible rfl) | (simp; omega) | (intros; omega) | simp [*])
            try simp only [Act.put, List.setIfInBounds_toArray, List.set_cons_zero, List.set_cons_succ]
            refine qstep (o := ⟨some 81, _, _, _, _, _⟩) (v := .int .i64 (mu : Int)) (by rfl) (fun wq hSw => ?_) ?_
            · (go_simp; try first | (with_reducible rfl) | (simp; omega) | (intros; omega) | simp [*])
            try simp only [Act.put, List.setIfInBounds_toArray, List.set_cons_zero, List.set_cons_succ]
            refine qstep (o := ⟨some 82, _, _, _, _, _⟩) (v := .int .i64 (m1 : Int)) (by rfl) (fun wq hSw => ?_) ?_
            · (go_simp; try first | (with_reducible rfl) | (simp; omega) | (intros; omega) | simp [*])
            try simp only [Act.put, List.setIfInBounds_toArray, List.set_cons_zero, List.set_cons_succ]
            refine qstep (o := ⟨some 83, _, _, _, _, _⟩) (v := .int .u64 (m1 : Int)) (by rfl) (fun wq hSw => ?_) ?_
            · (go_simp; try first | (with_reducible rfl) | (simp; omega) | (intros; omega) | simp [*])
            try simp only [Act.put, List.setIfInBounds_toArray, List.set_cons_zero, List.set_cons_succ]
            refine qstep (o := ⟨some 84, _, _, _, _, _⟩) (v := .bool true) (by rfl) (fun wq hSw => ?_) ?_
            · (go_simp; try first | (with_reducible rfl) | (simp; omega) | (intros; omega) | simp [*])
            try simp only [Act.put, List.setIfInBounds_toArray, List.set_cons_zero, List.set_cons_succ]
            refine qstep (o := ⟨some 10, _, _, _, _, _⟩) (v := .bool true) (by rfl) (fun wq hSw => ?_) ?_
            · (go_simp; try first | (with_reducible rfl) | (simp; omega) | (intros; omega) | simp [*])
            try simp only [Act.put, List.setIfInBounds_toArray, List.set_cons_zero, List.set_cons_succ]
            refine wpQuiet_nil ?_
            intro wz hHeld
            go_wp2
            go_ret
            refine ⟨rfl, ?_⟩
            have hKz := (HK.out.mono (T := fun i => w.heap.size ≤ i) (fun _ h => h.elim)).trans ((HK7.out.trans hHeld (fun _ _ h => h.elim)).mono (T := fun i => w.heap.size ≤ i) (fun i h => h.1)) (fun _ _ h => h)
            exact hKz.below (Nat.le_refl _) (fun _ h => h)
          · have e0 : (d == 0) = false := by simp [hd0]
            have hd1 : 1 ≤ d := by omega
            have HDK := Lib.hid hd
            have hk4 : k + 1 ≤ D := by omega
            clear hd0 hd
            go_wp2
            go_roundw
            case rel => exact ⟨k + 1, Z5, hk4, by go_num, by have := HA5.out; have e := HDK.out; rwa [show d = D + 1 - (k + 1) by omega] at this, HM5.out, HZ5.out, HK5.out⟩
            case measure => simp [intOf]; omega

end Go.Proofs.Ytboieccjikcdiaa
