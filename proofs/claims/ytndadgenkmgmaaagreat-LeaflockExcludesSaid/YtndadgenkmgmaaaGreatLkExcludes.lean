/-
  LeaflockExcludes, walked. Condition: arguments within the model's reach.
-/
import Derived.Test.YtndadgenkmgmaaaGreatLkLaw0
import Derived.Test.YtndadgenkmgmaaaGreatLkMcs
import Derived.Test.YtndadgenkmgmaaaGreatLkSndD
import Derived.Deep.CutBlock
namespace Go.Proofs.YtndadgenkmgmaaaGreat
open Go.RowKit Go.Deep Plain
set_option linter.unusedVariables false

set_option maxRecDepth 100000 in
set_option maxHeartbeats 8000000 in
theorem lawExcludes (w : World) (AR : Option Addr) (nR cR : Nat) (ss : List ByteArray) (hnR : ss.length = nR) (hrd : Rdv w w.heap.size (.slice AR nR cR) nR (ss.map Value.string)) (hsz : ∀ s ∈ ss, s.size ≤ maxLen) (f : Int) (sh : Int) (hs : 0 ≤ sh) (hide : Bool) (AQ : Option Addr) (nQ cQ : Nat) (qs : List ByteArray) (hnQ : qs.length = nQ) (hrq : Rdv w w.heap.size (.slice AQ nQ cQ) nQ (qs.map Value.string)) (hqz : ∀ s ∈ qs, s.size ≤ maxLen) (AP : Option Addr) (cP : Nat) (ps : List Nat) (hpm : ps.length ≤ maxLen) (hps : ∀ x ∈ ps, x < 256) (hpa : 0 < ps.length → ∃ g off, AP = some ⟨g, off, none⟩ ∧ g < w.heap.size ∧ ∀ (j p : Nat), ps[j]? = some p → w.cell? ⟨g, off + j, none⟩ = some (.int .u8 (p : Int))) :
    Calls Tryz.prog 5 #[.slice AR nR cR, .int .i64 f, .int .u64 sh, .bool hide, .slice AQ nQ cQ, .slice AP ps.length cP] w fun e w' => e = .returned (.bool true) ∧ Below w.heap.size w w' := by
  obtain ⟨AQ', cQ', he, hq1, hq2, hq3⟩ := hrq
  obtain ⟨rfl, rfl⟩ : AQ = AQ' ∧ cQ = cQ' := by simpa using he
  unfold maxLen at hq2 hpm
  obtain ⟨n, hn⟩ : ∃ n, min nQ 4 = n := ⟨_, rfl⟩
  obtain ⟨key, hkey⟩ : ∃ key : Nat → ByteArray, ∀ j q, qs[j]? = some q → key j = cut40 q := ⟨fun i => cut40 (qs.getD i ⟨#[]⟩), fun j q h => by simp only [List.getD_eq_getElem?_getD, h]; rfl⟩
  have HN := Lib.hid hn
  have HNQ := Lib.hid hnQ
  have HQ := Lib.hid hq3
  have HQZ := Lib.hid hqz
  have HKEY := Lib.hid hkey
  have HPS := Lib.hid hps
  have HPA := Lib.hid hpa
  have hnn : n ≤ 4 := by omega
  clear he hq1 hq2 hq3 hn hnQ hkey hqz hps hpa
  obtain ⟨F, hF⟩ : ∃ F : Nat, 4 + f % 3 = (F : Int) := ⟨(4 + f % 3).toNat, by omega⟩
  have h4 : 4 ≤ F := by omega
  have h6 : F ≤ 6 := by omega
  have HF := Lib.hid hF
  have HRD := Lib.hid hrd
  have HSS := Lib.hid hsz
  clear hF hrd hsz
  go_enter Tryz.func5, Tryz.ntmps5
  go_wp2_with fail
  refine (kitConfig_any 1 f F HF.out _).mono ?_; rintro e w1 ⟨rfl, hK1⟩
  have HK := Lib.hid (hK1.mono (T := (fun i => w.heap.size ≤ i)) (fun _ h => h.elim))
  replace HRD := Lib.hid (HRD.out.keptN hK1 (Nat.le_refl _))
  have HW1 := Lib.hid HK.out.size
  clear hK1 HF
  go_wp2_with fail
  have hal := (Kept.refl (fun _ => False) w1).alloc (.cells #[.int .i64 1, .int .i64 2, .int .i64 100, .int .i64 100, .int .i64 200, .int .i64 (F : Int), .int .u64 1000] 25)
  have H11 := Lib.hid (Blk.new w1 [.int .i64 1, .int .i64 2, .int .i64 100, .int .i64 100, .int .i64 200, .int .i64 (F : Int), .int .u64 1000] 25)
  replace HRD := Lib.hid (HRD.out.keptN hal (Nat.le_refl _))
  replace HK := Lib.hid (HK.out.trans hal (fun _ _ h => h.elim))
  clear hal
  generalize hr11 : w1.heap.size = r11 at *
  generalize w1.alloc (.cells #[.int .i64 1, .int .i64 2, .int .i64 100, .int .i64 100, .int .i64 200, .int .i64 (F : Int), .int .u64 1000] 25) = W1 at *
  have HR11 := Lib.hid (show w.heap.size ≤ r11 ∧ r11 < W1.heap.size from ⟨HW1.out, H11.out.lt⟩)
  clear hr11
  refine (kitMem2 F h4 h6 _).mono ?_
  rintro e w2 ⟨b, g, l, fb, fd, rfl, hM2, hS2, hr2, hd, hb2, hg2, hK2⟩
  have HM := Lib.hid hM2
  have HS := Lib.hid hS2
  have HRT := Lib.hid hr2
  have HD := Lib.hid hd
  have HBG := Lib.hid (show r11 < b ∧ r11 < g ∧ b < w2.heap.size ∧ g < w2.heap.size by have h1 := HR11.out; have h2 := hM2.obj.lt; have h3 := hM2.row.lt; omega)
  replace HRD := Lib.hid (HRD.out.keptN hK2 (Nat.le_refl _))
  replace HK := Lib.hid (HK.out.trans hK2 (fun _ _ h => h.elim))
  replace H11 := Lib.hid (hK2.blk H11.out (fun h => h))
  clear hM2 hS2 hr2 hd hb2 hg2 hK2
  go_upto_region 3 with fail
  have hal := (Kept.refl (fun _ => False) w2).alloc (.cells #[.int .i64 1, .int .i64 2, .int .i64 100, .int .i64 100, .int .i64 200, .int .i64 (F : Int), .int .u64 1000, .int .i64 10, .int .i64 fb, .int .i64 fd] 28)
  have H12 := Lib.hid (Blk.new w2 [.int .i64 1, .int .i64 2, .int .i64 100, .int .i64 100, .int .i64 200, .int .i64 (F : Int), .int .u64 1000, .int .i64 10, .int .i64 fb, .int .i64 fd] 28)
  replace HRD := Lib.hid (HRD.out.keptN hal (Nat.le_refl _))
  replace HK := Lib.hid (HK.out.trans hal (fun _ _ h => h.elim))
  replace H11 := Lib.hid (hal.blk H11.out (fun h => h))
  replace HM := Lib.hid (HM.out.kept hal (fun h => h) (fun h => h))
  clear hal
  generalize hr12 : w2.heap.size = r12 at *
  have HR := Lib.hid (show w.heap.size ≤ r11 ∧ r11 < b ∧ r11 < g ∧ b < r12 ∧ g < r12 by have h1 := HR11.out; have h2 := HBG.out; omega)
  clear hr12 HBG HR11
  generalize w2.alloc (.cells #[.int .i64 1, .int .i64 2, .int .i64 100, .int .i64 100, .int .i64 200, .int .i64 (F : Int), .int .u64 1000, .int .i64 10, .int .i64 fb, .int .i64 fd] 28) = W2 at *
  go_cut [16] (fun v wx => v = .int .i64 (n : Int) ∧ wx = W2)
  case first =>
    by_cases h5 : nQ ≤ 4
    · have d1 : ¬ (4 : Int) < (nQ : Int) := by omega
      have d2 : (nQ : Int) ≤ 4 := by omega
      have E0 := Lib.hid (show (n : Int) = (nQ : Int) by have := HN.out; omega)
      clear h5
      go_wp2
      go_meet
      exact ⟨by rw [E0.out], rfl⟩
    · have d0 : ¬ (nQ : Int) < 4 := by omega
      have d1 : (4 : Int) < (nQ : Int) := by omega
      have d2 : ¬ (nQ : Int) ≤ 4 := by omega
      have E0 := Lib.hid (show (n : Int) = 4 by have := HN.out; omega)
      clear h5
      go_wp2
      go_meet
      exact ⟨by rw [E0.out], rfl⟩
  case rest =>
    obtain ⟨rfl, rfl⟩ := hcut
    rename World => W2
    go_wp2_with fail
    refine (awake_any _).mono ?_; rintro e w3 ⟨rfl, hKa⟩
    replace HRD := Lib.hid (HRD.out.keptN hKa (Nat.le_refl _))
    replace HK := Lib.hid (HK.out.trans hKa (fun _ _ h => h.elim))
    replace H11 := Lib.hid (hKa.blk H11.out (fun h => h))
    replace H12 := Lib.hid (hKa.blk H12.out (fun h => h))
    replace HM := Lib.hid (HM.out.kept hKa (fun h => h) (fun h => h))
    clear hKa
    by_cases hn2 : n < 2
    · have d0 : (n : Int) < 2 := by omega
      go_wp2_with fail
      refine (awake_any _).mono ?_; rintro e w9 ⟨rfl, hKa⟩
      replace HK := Lib.hid (HK.out.trans hKa (fun _ _ h => h.elim))
      go_wp2
      go_ret
      exact ⟨rfl, HK.out.below (Nat.le_refl _) (fun _ h => h)⟩
    · have d0 : ¬ (n : Int) < 2 := by omega
      by_cases hp300 : 300 < ps.length
      · have d1 : (300 : Int) < (ps.length : Int) := by omega
        go_wp2_with fail
        refine (awake_any _).mono ?_; rintro e w9 ⟨rfl, hKa⟩
        replace HK := Lib.hid (HK.out.trans hKa (fun _ _ h => h.elim))
        go_wp2
        go_ret
        exact ⟨rfl, HK.out.below (Nat.le_refl _) (fun _ h => h)⟩
      · have d1 : ¬ (300 : Int) < (ps.length : Int) := by omega
        obtain ⟨gq, oq, rfl, hgq, hqc⟩ := HQ.out (by have := HN.out; omega)
        have HGQ := Lib.hid hgq
        have HQC := Lib.hid (show ∀ j q, qs[j]? = some q → w.cell? ⟨gq, oq + j, none⟩ = some (.string q) from fun j q h => hqc j _ (by rw [List.getElem?_map, h]; rfl))
        clear hgq hqc HQ
        go_upto_region 6 with fail
        have H11a := Lib.hid H11.out
        refine wp_region_held_drew (S := (fun w' => Kept (fun i => i = b ∨ i = g) w3 w')) (by kernel_rfl) ?_ (fun hHeld => ?_)
        · exact (Kept.refl _ _).drew
        have hdr := (Kept.refl (fun _ => False) w3).drew
        have HKd := Lib.hid (hdr.mono (T := fun i => i = b ∨ i = g) (fun _ h => h.elim))
        replace HRD := Lib.hid (HRD.out.keptN hdr (Nat.le_refl _))
        replace HK := Lib.hid (HK.out.trans hdr (fun _ _ h => h.elim))
        replace H11 := Lib.hid (hdr.blk H11.out (fun h => h))
        replace H12 := Lib.hid (hdr.blk H12.out (fun h => h))
        replace HM := Lib.hid (HM.out.kept hdr (fun h => h) (fun h => h))
        clear hdr
        generalize w3.drew = G at *
        refine wpAnyH_take (i := 0) (oi := ⟨some 55, _, _, _, _, _⟩) (v := ?_) rfl (by kernel_rfl) (by kernel_rfl) (by kernel_rfl) (fun _ _ _ h => h) (Or.inl ⟨by rfl, ?_⟩) hHeld ?_
        rotate_left
        · (intro wq hSw; have hb9 := hSw.blk H11a.out (fun h => by have := HR.out; omega); have x0 := hb9.cell (i := 0) rfl; have x1 := hb9.cell (i := 1) rfl; have x2 := hb9.cell (i := 2) rfl; have x3 := hb9.cell (i := 3) rfl; have x4 := hb9.cell (i := 4) rfl; have x5 := hb9.cell (i := 5) rfl; have x6 := hb9.cell (i := 6) rfl; clear hb9; go_simp; try with_reducible rfl)
        try simp only [Act.put, List.setIfInBounds_toArray, List.set_cons_zero, List.set_cons_succ]
        refine wpAnyH_take (i := 1) (oi := ⟨some 56, _, _, _, _, _⟩) (v := ?_) rfl (by kernel_rfl) (by kernel_rfl) (by kernel_rfl) (fun _ _ _ h => h) (Or.inl ⟨by rfl, ?_⟩) hHeld ?_
        rotate_left
        · (intro wq hSw; go_simp; try with_reducible rfl)
        try simp only [Act.put, List.setIfInBounds_toArray, List.set_cons_zero, List.set_cons_succ]
        refine wpAnyH_take (i := 2) (oi := ⟨some 57, _, _, _, _, _⟩) (v := ?_) rfl (by kernel_rfl) (by kernel_rfl) (by kernel_rfl) (fun _ _ _ h => h) (Or.inl ⟨by rfl, ?_⟩) hHeld ?_
        rotate_left
        · (intro wq hSw; go_simp; try with_reducible rfl)
        try simp only [Act.put, List.setIfInBounds_toArray, List.set_cons_zero, List.set_cons_succ]
        refine wpAnyH_take (i := 4) (oi := ⟨some 59, _, _, _, _, _⟩) (v := ?_) rfl (by kernel_rfl) (by kernel_rfl) (by kernel_rfl) (fun _ _ _ h => h) (Or.inl ⟨by rfl, ?_⟩) hHeld ?_
        rotate_left
        · (intro wq hSw; go_simp; try with_reducible rfl)
        try simp only [Act.put, List.setIfInBounds_toArray, List.set_cons_zero, List.set_cons_succ]
        refine wpAnyH_take (i := 5) (oi := ⟨some 60, _, _, _, _, _⟩) (v := ?_) rfl (by kernel_rfl) (by kernel_rfl) (by kernel_rfl) (fun _ _ _ h => h) (Or.inl ⟨by rfl, ?_⟩) hHeld ?_
        rotate_left
        · (intro wq hSw; go_simp; try with_reducible rfl)
        try simp only [Act.put, List.setIfInBounds_toArray, List.set_cons_zero, List.set_cons_succ]
        refine wpAnyH_ready (rs := [3]) (by kernel_rfl) (by simp) ?_
        refine AllReadyH.cons (o := ⟨some 58, _, _, _, _, _⟩) rfl (fun KK hK => ?_) AllReadyH.nil
        go_simp
        go_at_call 9
        refine (keys_any AR nR cR ss 20 _ hnR (by omega) HRD.out HSS.out).mono ?_; rintro e w5 ⟨vk, rfl, hO3, hB3⟩
        have HM0 := Lib.hid HM.out
        have hK3 := Below.kept hB3 (S := fun _ => False) (fun i hi h => by omega)
        replace HK := Lib.hid (HK.out.trans hK3 (fun _ _ h => h.elim))
        replace H11 := Lib.hid (hK3.blk H11.out (fun h => h))
        replace H12 := Lib.hid (hK3.blk H12.out (fun h => h))
        replace HM := Lib.hid (HM.out.kept hK3 (fun h => h) (fun h => h))
        obtain ⟨AK, cK, rfl, hKr, hAK⟩ := keys_read hO3
        obtain ⟨ks, hks⟩ : ∃ ks, keysOf (ss.take 20) = ks := ⟨_, rfl⟩
        have hks' : (PlainE.keysE (ss.take 20)).map (·.1) = ks := by rw [← hks]; unfold keysOf; rw [List.take_take]; rfl
        rw [hks'] at hKr
        rw [hks']
        obtain ⟨nk, hnk⟩ : ∃ nk, ks.length = nk := ⟨_, rfl⟩
        rw [hnk]
        have HKR := Lib.hid hKr
        have HAK := Lib.hid (show ∀ a, AK = some a → a.block ≠ b ∧ a.block ≠ g from fun a ha => by
          have h1 := hAK a ha
          have h2 := HM0.out.obj.lt
          have h3 := HM0.out.row.lt
          omega)
        have HKF := Lib.hid (show ks.length ≤ 40 ∧ ((∀ k ∈ ks, k.size ≤ 32) ∧ ∀ i a b, ks[i]? = some a → ks[i + 1]? = some b → kl a b = true) from by rw [← hks]; exact ⟨keysOf_len _, keysOf_facts _⟩)
        have HNK := Lib.hid hnk
        have HKS := Lib.hid (HKd.out.trans (hK3.mono (T := fun i => i = b ∨ i = g) (fun _ h => h.elim)) (fun _ _ h => h))
        clear hO3 hB3 hK3 hKr hAK hks hks' hnk HRD HSS HM0
        refine hK.out _ _ ?_ (fun hHeld2 => ?_)
        · exact HKS.out
        clear hK KK hHeld
        have hHeld := hHeld2
        clear hHeld2
        try simp only [Act.put, List.setIfInBounds_toArray, List.set_cons_zero, List.set_cons_succ]
        refine wpAnyH_ready (rs := [6]) (by kernel_rfl) (by simp) ?_
        refine AllReadyH.cons (o := ⟨some 61, _, _, _, _, _⟩) rfl (fun KK hK => ?_) AllReadyH.nil
        go_simp
        go_at_call 10
        refine (plant_any F h4 h6 b g l 0 AK nk cK ks sh hs hide _ HM.out HKR.out HNK.out HKF.out.1 HS.out.nats HS.out.lo (HS.out.latches h4 h6) HKF.out.2 (HS.out.rest)).mono ?_; rintro e w6 ⟨H, l2, rfl, hM4, hP4, hK4⟩
        obtain ⟨st, mm, lo, pg, off, hT, hLv, hs0, hFu, hNat, hlen, hRe, hLa, hHi⟩ := hP4
        have HLEN := Lib.hid (show l2.length ≤ 1048576 ∧ 10 + 100 * (F : Int) + 400 ≤ (l2.length : Int) from by rw [hlen]; exact ⟨HS.out.hi, HS.out.lo⟩)
        have nb : ∀ j, j ≠ b → j ≠ g → ¬ Own b g j := fun j h1 h2 e => by rcases e with e | e; exact h1 e; exact h2 e
        replace H11 := Lib.hid (hK4.blk H11.out (nb _ (by have := HR.out; omega) (by have := HR.out; omega)))
        replace H12 := Lib.hid (hK4.blk H12.out (nb _ (by have := HR.out; omega) (by have := HR.out; omega)))
        replace HKR := Lib.hid (HKR.out.kept hK4 (fun a ha => nb _ (HAK.out a ha).1 (HAK.out a ha).2))
        replace HK := Lib.hid (HK.out.trans hK4 (fun i hi e => by have h1 := HR.out; rcases e with e | e <;> omega))
        replace HM := Lib.hid hM4
        have HT := Lib.hid hT
        have HLV := Lib.hid hLv
        have HS0 := Lib.hid hs0
        have HNAT := Lib.hid hNat
        have HRE := Lib.hid hRe
        have HZ := Lib.hid hLa
        have HHI := Lib.hid hHi
        have HKS6 := Lib.hid (HKS.out.trans (hK4.mono (T := fun i => i = b ∨ i = g) (fun _ h => h)) (fun _ _ h => h))
        clear hM4 hT hLv hs0 hFu hNat hlen hRe hLa hHi hK4 nb
        refine hK.out _ _ ?_ (fun hHeld2 => ?_)
        · exact HKS6.out
        clear hK KK hHeld
        have hHeld := hHeld2
        clear hHeld2
        try simp only [Act.put, List.setIfInBounds_toArray, List.set_cons_zero, List.set_cons_succ]
        refine wpAnyH_done (by kernel_rfl) ?_ _
        clear hHeld
        have hz6 := HM.out.obj.lt
        have hz7 := HM.out.row.lt
        have HBB := Lib.hid (show b < w6.heap.size ∧ g < w6.heap.size ∧ r11 < w6.heap.size ∧ r12 < w6.heap.size ∧ w.heap.size ≤ w6.heap.size from ⟨hz6, hz7, H11.out.lt, H12.out.lt, HK.out.size⟩)
        clear hz6 hz7 HKR HAK
        try clear H11a HKS HKd HKS6 hHeld
        obtain ⟨B, hB⟩ : ∃ B, w6.heap.size = B := ⟨_, rfl⟩
        have HB := Lib.hid hB
        clear hB
        obtain ⟨i0, hi0, hz0, hz1, hz2⟩ := info_parts infoLk
        have HI0 := Lib.hid hi0
        have HI1 := Lib.hid hz0
        have HI2 := Lib.hid hz1
        have HI3 := Lib.hid hz2
        clear hi0 hz0 hz1 hz2
        go_wp2_with fail
        go_loopw [17, 18] (fun xv iv wr => ∃ (j : Nat) (x : Nat → Nat) (Z : Nat → Nat → Prop), j ≤ n ∧ iv = .int .i64 (j : Int) ∧ wr.ownsRow B 41 1 xv j (ptrv x j) ∧ Mcs (fun k => xv.ownBlock = some k) B b g wr F fb fd j x key Z (fun _ => .fnd .root) ∧ Kept (fun _ => False) w6 wr) (fun _ iv _ => n - (intOf iv).toNat)
        case atStart => exact ⟨0, fun _ => 0, fun _ _ => False, Nat.zero_le _, rfl, World.ownsRow_nil _ _ _ _, Mcs.zero, Kept.refl _ _⟩
        case round =>
          rename World => V1
          obtain ⟨j, x, Z, hj, rfl, hO, hMc, hK1⟩ := hrel
          have HO := Lib.hid hO
          have HMc := Lib.hid hMc
          have HK1 := Lib.hid hK1
          have HS1 := Lib.hid (show B ≤ V1.heap.size from by have := HB.out; have := hK1.size; omega)
          clear hO hMc hK1
          by_cases hjn : j < n
          · have hjI : (j : Int) < (n : Int) := by omega
            obtain ⟨q, hq⟩ : ∃ q, qs[j]? = some q := ⟨_, List.getElem?_eq_getElem (by have := HN.out; have := HNQ.out; omega)⟩
            have hqm : q.size ≤ maxLen := HQZ.out q (List.mem_of_getElem? hq)
            unfold maxLen at hqm
            have HCq := Lib.hid (show V1.cell? ⟨gq, oq + j, none⟩ = some (.string q) from (HK1.out.cell (p := ⟨gq, oq + j, none⟩) (show gq < _ by have := HGQ.out; have := HBB.out; omega) (fun h => h)).trans ((HK.out.cell (p := ⟨gq, oq + j, none⟩) HGQ.out (fun h => by have h2 : w.heap.size ≤ gq := h; have := HGQ.out; omega)).trans (HQC.out j q hq)))
            have hgq1 : gq < V1.heap.size := by have := HGQ.out; have := HBB.out; have := HS1.out; have := HB.out; omega
            have H12v := Lib.hid (HK1.out.blk H12.out (fun h => h))
            have HVL := Lib.hid (show ∀ k, u17.ownBlock = some k → B ≤ k ∧ k < V1.heap.size from fun k hk => HO.out.lt k hk)
            obtain ⟨mq, hmq⟩ : ∃ mq, min q.size 40 = mq := ⟨_, rfl⟩
            have hcut : q.extract 0 mq = key j := by rw [HKEY.out j q hq, ← hmq]; rfl
            have hmq2 : (min (q.size : Int) 40) = (mq : Int) := by omega
            have hmq3 : mq ≤ q.size ∧ mq ≤ 40 := by omega
            have hjQ : j < nQ := by have := HN.out; omega
            have hjQ1 : (j : Int) < (nQ : Int) := by omega
            clear hq hmq
            go_upto_region 11 with fail
            refine region_E 16 (fun w' => Kept (fun k => u17.ownBlock = some k) V1 w') (by kernel_rfl) ?_ (fun hHeld => ?_)
            · exact ((Kept.refl (fun _ => False) _).drew).mono (fun _ h => h.elim)
            have HW := Lib.hid ((Kept.refl (fun _ => False) V1).drew)
            generalize V1.drew = G at *
            refine anyE_take (i := 0) (oi := ⟨some 67, _, _, _, _, _⟩) (v := ?_) rfl (by kernel_rfl) (by kernel_rfl) (by kernel_rfl) (by kernel_rfl) (fun _ _ _ h => h) (Or.inl ⟨by rfl, ?_⟩) hHeld ?_
            rotate_left
            · (intro wq hSw; go_simp; try with_reducible rfl)
            try simp only [Act.put, List.setIfInBounds_toArray, List.set_cons_zero, List.set_cons_succ]
            refine anyE_take (i := 1) (oi := ⟨some 68, _, _, _, _, _⟩) (v := ?_) rfl (by kernel_rfl) (by kernel_rfl) (by kernel_rfl) (by kernel_rfl) (fun _ _ _ h => h) (Or.inl ⟨by rfl, ?_⟩) hHeld ?_
            rotate_left
            · (intro wq hSw; have hc9 := hSw.blk H12v.out (fun h => by have h2 : B ≤ r12 := (HVL.out _ h).1; have := HBB.out; have := HB.out; omega); have y0 := hc9.cell (i := 0) rfl; have y1 := hc9.cell (i := 1) rfl; have y2 := hc9.cell (i := 2) rfl; have y3 := hc9.cell (i := 3) rfl; have y4 := hc9.cell (i := 4) rfl; have y5 := hc9.cell (i := 5) rfl; have y6 := hc9.cell (i := 6) rfl; have y7 := hc9.cell (i := 7) rfl; have y8 := hc9.cell (i := 8) rfl; have y9 := hc9.cell (i := 9) rfl; clear hc9; have q9 := (hSw.cell (p := ⟨gq, oq + j, none⟩) hgq1 (fun h => by have h2 : B ≤ gq := (HVL.out _ h).1; have := HGQ.out; have := HBB.out; have := HB.out; omega)).trans HCq.out; go_simp; try with_reducible rfl)
            try simp only [Act.put, List.setIfInBounds_toArray, List.set_cons_zero, List.set_cons_succ]
            refine anyE_take (i := 2) (oi := ⟨some 69, _, _, _, _, _⟩) (v := ?_) rfl (by kernel_rfl) (by kernel_rfl) (by kernel_rfl) (by kernel_rfl) (fun _ _ _ h => h) (Or.inl ⟨by rfl, ?_⟩) hHeld ?_
            rotate_left
            · (intro wq hSw; go_simp; try with_reducible rfl)
            try simp only [Act.put, List.setIfInBounds_toArray, List.set_cons_zero, List.set_cons_succ]
            refine anyE_take (i := 3) (oi := ⟨some 70, _, _, _, _, _⟩) (v := ?_) rfl (by kernel_rfl) (by kernel_rfl) (by kernel_rfl) (by kernel_rfl) (fun _ _ _ h => h) (Or.inl ⟨by rfl, ?_⟩) hHeld ?_
            rotate_left
            · (intro wq hSw; go_simp; try with_reducible rfl)
            try simp only [Act.put, List.setIfInBounds_toArray, List.set_cons_zero, List.set_cons_succ]
            refine anyE_take (i := 4) (oi := ⟨some 71, _, _, _, _, _⟩) (v := ?_) rfl (by kernel_rfl) (by kernel_rfl) (by kernel_rfl) (by kernel_rfl) (fun _ _ _ h => h) (Or.inl ⟨by rfl, ?_⟩) hHeld ?_
            rotate_left
            · (intro wq hSw; go_simp; try with_reducible rfl)
            try simp only [Act.put, List.setIfInBounds_toArray, List.set_cons_zero, List.set_cons_succ]
            refine anyE_take (i := 5) (oi := ⟨some 72, _, _, _, _, _⟩) (v := ?_) rfl (by kernel_rfl) (by kernel_rfl) (by kernel_rfl) (by kernel_rfl) (fun _ _ _ h => h) (Or.inl ⟨by rfl, ?_⟩) hHeld ?_
            rotate_left
            · (intro wq hSw; have hc9 := hSw.blk H12v.out (fun h => by have h2 : B ≤ r12 := (HVL.out _ h).1; have := HBB.out; have := HB.out; omega); have y0 := hc9.cell (i := 0) rfl; have y1 := hc9.cell (i := 1) rfl; have y2 := hc9.cell (i := 2) rfl; have y3 := hc9.cell (i := 3) rfl; have y4 := hc9.cell (i := 4) rfl; have y5 := hc9.cell (i := 5) rfl; have y6 := hc9.cell (i := 6) rfl; have y7 := hc9.cell (i := 7) rfl; have y8 := hc9.cell (i := 8) rfl; have y9 := hc9.cell (i := 9) rfl; clear hc9; have q9 := (hSw.cell (p := ⟨gq, oq + j, none⟩) hgq1 (fun h => by have h2 : B ≤ gq := (HVL.out _ h).1; have := HGQ.out; have := HBB.out; have := HB.out; omega)).trans HCq.out; go_simp; try with_reducible rfl)
            try simp only [Act.put, List.setIfInBounds_toArray, List.set_cons_zero, List.set_cons_succ]
            refine anyE_take (i := 6) (oi := ⟨some 73, _, _, _, _, _⟩) (v := ?_) rfl (by kernel_rfl) (by kernel_rfl) (by kernel_rfl) (by kernel_rfl) (fun _ _ _ h => h) (Or.inl ⟨by rfl, ?_⟩) hHeld ?_
            rotate_left
            · (intro wq hSw; go_simp; try with_reducible rfl)
            try simp only [Act.put, List.setIfInBounds_toArray, List.set_cons_zero, List.set_cons_succ]
            refine anyE_take (i := 7) (oi := ⟨some 74, _, _, _, _, _⟩) (v := ?_) rfl (by kernel_rfl) (by kernel_rfl) (by kernel_rfl) (by kernel_rfl) (fun _ _ _ h => h) (Or.inl ⟨by rfl, ?_⟩) hHeld ?_
            rotate_left
            · (intro wq hSw; go_simp; try with_reducible rfl)
            try simp only [Act.put, List.setIfInBounds_toArray, List.set_cons_zero, List.set_cons_succ]
            refine anyE_take (i := 8) (oi := ⟨some 75, _, _, _, _, _⟩) (v := ?_) rfl (by kernel_rfl) (by kernel_rfl) (by kernel_rfl) (by kernel_rfl) (fun _ _ _ h => h) (Or.inl ⟨by rfl, ?_⟩) hHeld ?_
            rotate_left
            · (intro wq hSw; go_simp; try with_reducible rfl)
            try simp only [Act.put, List.setIfInBounds_toArray, List.set_cons_zero, List.set_cons_succ]
            refine anyE_take (i := 9) (oi := ⟨some 76, _, _, _, _, _⟩) (v := ?_) rfl (by kernel_rfl) (by kernel_rfl) (by kernel_rfl) (by kernel_rfl) (fun _ _ _ h => h) (Or.inl ⟨by rfl, ?_⟩) hHeld ?_
            rotate_left
            · (intro wq hSw; have hc9 := hSw.blk H12v.out (fun h => by have h2 : B ≤ r12 := (HVL.out _ h).1; have := HBB.out; have := HB.out; omega); have y0 := hc9.cell (i := 0) rfl; have y1 := hc9.cell (i := 1) rfl; have y2 := hc9.cell (i := 2) rfl; have y3 := hc9.cell (i := 3) rfl; have y4 := hc9.cell (i := 4) rfl; have y5 := hc9.cell (i := 5) rfl; have y6 := hc9.cell (i := 6) rfl; have y7 := hc9.cell (i := 7) rfl; have y8 := hc9.cell (i := 8) rfl; have y9 := hc9.cell (i := 9) rfl; clear hc9; have q9 := (hSw.cell (p := ⟨gq, oq + j, none⟩) hgq1 (fun h => by have h2 : B ≤ gq := (HVL.out _ h).1; have := HGQ.out; have := HBB.out; have := HB.out; omega)).trans HCq.out; go_simp; try with_reducible rfl)
            try simp only [Act.put, List.setIfInBounds_toArray, List.set_cons_zero, List.set_cons_succ]
            refine anyE_take (i := 10) (oi := ⟨some 77, _, _, _, _, _⟩) (v := ?_) rfl (by kernel_rfl) (by kernel_rfl) (by kernel_rfl) (by kernel_rfl) (fun _ _ _ h => h) (Or.inl ⟨by rfl, ?_⟩) hHeld ?_
            rotate_left
            · (intro wq hSw; go_simp; try with_reducible rfl)
            try simp only [Act.put, List.setIfInBounds_toArray, List.set_cons_zero, List.set_cons_succ]
            refine anyE_take (i := 11) (oi := ⟨some 78, _, _, _, _, _⟩) (v := .int .i64 (mq : Int)) rfl (by kernel_rfl) (by kernel_rfl) (by kernel_rfl) (by kernel_rfl) (fun _ _ _ h => h) (Or.inl ⟨by rfl, ?_⟩) hHeld ?_
            · (intro wq hSw; go_simp; try first | (with_reducible rfl) | (simp; omega) | (intros; omega) | simp [*])
            try simp only [Act.put, List.setIfInBounds_toArray, List.set_cons_zero, List.set_cons_succ]
            refine anyE_take (i := 12) (oi := ⟨some 79, _, _, _, _, _⟩) (v := .string (key j)) rfl (by kernel_rfl) (by kernel_rfl) (by kernel_rfl) (by kernel_rfl) (fun _ _ _ h => h) (Or.inl ⟨by rfl, ?_⟩) hHeld ?_
            · (intro wq hSw; go_simp; try first | (with_reducible rfl) | (simp; omega) | (intros; omega) | simp [*])
            try simp only [Act.put, List.setIfInBounds_toArray, List.set_cons_zero, List.set_cons_succ]
            refine anyE_ready (i := 13) (o := ⟨some 80, _, _, _, _, _⟩) (by kernel_rfl) rfl (fun KK hK => ?_)
            go_simp
            go_at_call 14
            refine (newLock_at F fb fd (key j) 0 _).mono ?_; rintro e G1 ⟨x5, Z5, rfl, hA5, hZ5, hK5⟩
            have hszG := HW.out.size
            replace HW := Lib.hid (HW.out.trans hK5 (fun _ _ h => h))
            have HA5 := Lib.hid hA5
            have HZ5 := Lib.hid (show ∀ i, Z5 i → V1.heap.size ≤ i ∧ i < G1.heap.size from fun i hi => by have := hZ5 i hi; omega)
            clear hA5 hZ5 hK5 hszG
            refine hK.out _ _ (fun _ => ?_) (fun hHeld2 => ?_)
            · exact HW.out.mono (fun _ h => h.elim)
            clear hK KK hHeld
            have hHeld := hHeld2 (by decide)
            clear hHeld2
            try simp only [Act.put, List.setIfInBounds_toArray, List.set_cons_zero, List.set_cons_succ]
            refine anyE_ready (i := 14) (o := ⟨some 81, _, _, _, _, _⟩) (by kernel_rfl) rfl (fun KK hK => ?_)
            go_simp
            have HNb := Lib.hid (show (G1.alloc (.cells #[.pointer (some ⟨x5, 0, none⟩)] 41)).heap[G1.heap.size]? = some (.cells #[.pointer (some ⟨x5, 0, none⟩)] 41 (0, 0)) from Blk.new G1 [.pointer (some ⟨x5, 0, none⟩)] 41)
            have hszG : (G1.alloc (.cells #[.pointer (some ⟨x5, 0, none⟩)] 41)).heap.size = G1.heap.size + 1 := nblk_alloc _ _
            replace HW := Lib.hid (HW.out.alloc (.cells #[.pointer (some ⟨x5, 0, none⟩)] 41))
            replace HA5 := Lib.hid (HA5.out.kept ((Kept.refl (fun _ => False) G1).alloc (.cells #[.pointer (some ⟨x5, 0, none⟩)] 41)) (fun _ _ h => h))
            replace HZ5 := Lib.hid (show ∀ i, Z5 i → V1.heap.size ≤ i ∧ i < (G1.alloc (.cells #[.pointer (some ⟨x5, 0, none⟩)] 41)).heap.size from fun i hi => by have := HZ5.out i hi; omega)
            have HOc := Lib.hid (own_kept HO.out HW.out (fun _ _ h => h))
            have HG1 := Lib.hid hszG
            clear hszG
            generalize G1.alloc (.cells #[.pointer (some ⟨x5, 0, none⟩)] 41) = G2 at *
            refine hK.out _ _ (fun _ => ?_) (fun hHeld2 => ?_)
            · exact HW.out.mono (fun _ h => h.elim)
            clear hK KK hHeld
            have hHeld := hHeld2 (by decide)
            clear hHeld2
            try simp only [Act.put, List.setIfInBounds_toArray, List.set_cons_zero, List.set_cons_succ]
            refine anyE_ready (i := 15) (o := ⟨some 82, _, _, _, _, _⟩) (by kernel_rfl) rfl (fun KK hK => ?_)
            refine step_append_lies _ (by rfl) (.tmp 67) (.tmp 81) 79 (by rfl) B 41 i0 _ 1 8 Tryz.underlying79 HI0.out HI1.out HI2.out HI3.out rfl (by decide) u17 j (ptrv x j) (by rfl) HOc.out ⟨G1.heap.size, 0, none⟩ 1 1 [.pointer (some ⟨x5, 0, none⟩)] (by rfl) (by rfl) (World.news_of_block HNb.out) (by simp [Value.oneCell']) (by omega) (by unfold maxLen; omega) (by omega) (by have := HW.out.size; have := HS1.out; omega) _ rfl ?_
            intro g4 cap4 w7 hown7 hgr7 hat7 hlt7
            have hKg := ((Kept.refl (fun k => u17.ownBlock = some k) G2)).grown hgr7 (fun k hk _ => hk)
            have HMx := Lib.hid (Mcs.push (n' := j + 1) (c' := cap4) (g4 := g4) (x5 := x5) (Z5 := Z5) HMc.out (fun k hk => (HVL.out k hk).2) HW.out HA5.out HZ5.out hKg HS1.out (by have := HBB.out; have := HB.out; omega) (by have := HBB.out; have := HB.out; omega) (by rcases hat7 with h | h; exact .inl h; exact .inr (by omega)))
            have HOx := Lib.hid (show w7.ownsRow B 41 1 (.slice (some ⟨g4, 0, none⟩) (j + 1) cap4) (j + 1) (ptrv (upd x j x5) (j + 1)) from by rw [ptrv_push]; exact hown7)
            have HKx := Lib.hid (HK1.out.trans ((HW.out.mono (T := fun k => u17.ownBlock = some k) (fun _ h => h.elim)).trans hKg (fun _ _ h => h)) (fun k hk h => by have := (HVL.out k h).1; have := HB.out; omega))
            have HKS := Lib.hid ((HW.out.mono (T := fun k => u17.ownBlock = some k) (fun _ h => h.elim)).trans hKg (fun _ _ h => h))
            clear hown7 hgr7 hat7 hlt7 hKg HNb HOc HA5 HZ5 HW HG1
            refine hK.out _ _ (fun _ => ?_) (fun hHeld2 => ?_)
            · exact HKS.out
            clear hK KK hHeld
            have hHeld := hHeld2 (by decide)
            clear hHeld2
            try simp only [Act.put, List.setIfInBounds_toArray, List.set_cons_zero, List.set_cons_succ]
            refine anyE_ready (i := 16) (o := ⟨some 17, _, _, _, _, _⟩) (by kernel_rfl) rfl (fun KK hK => ?_)
            go_simp
            refine hK.out _ _ (fun h => absurd rfl h) (fun _ => ?_)
            clear hK KK hHeld
            try simp only [Act.put, List.setIfInBounds_toArray, List.set_cons_zero, List.set_cons_succ]
            refine anyE_done (by kernel_rfl) ?_ _
            go_wp2
            go_roundw
            case rel => exact ⟨j + 1, _, _, by omega, by go_num, HOx.out, HMx.out, HKx.out⟩
            case measure => simp [intOf]; omega
          · have hjI : ¬ (j : Int) < (n : Int) := by omega
            have hje : n = j := by omega
            subst hje
            obtain ⟨gx, capx, rfl, hgx, hgxl, hcx⟩ := own_slice HO.out (by omega)
            have HPT0 := Lib.hid (show ∀ i, i < n → V1.cell? ⟨gx, i, none⟩ = some (.pointer (some ⟨x i, 0, none⟩)) from fun i hi => hcx i _ (ptrv_at hi))
            have hmk := make_int n (by omega)
            obtain ⟨t, P, φ0, hS0, hφ0⟩ := sch_start HT.out h4 h6 HZ.out HNAT.out n key
            have HSC0 := Lib.hid hS0
            have HPH0 := Lib.hid hφ0
            have HP0 := Lib.hid (hS0.pot h6 (by omega) hnn (p := ps.length) (k := 0) (Nat.zero_le _))
            have HL0 := Lib.hid (left_all (φ := φ0) (n := n) hφ0)
            clear hcx hS0 hφ0 HI0 HI1 HI2 HI3 HO
            go_wp2_with fail
            have hal := (Kept.refl (fun _ => False) V1).alloc (.cells (Array.replicate n (.int .i64 0)) 3)
            have HK01 := HK1.out.trans hal (fun _ _ h => h)
            have HH0 := Lib.hid (show Blk (V1.alloc (.cells (Array.replicate n (.int .i64 0)) 3)) V1.heap.size 3 (hvs (fun _ => 0) n) from by rw [hvs_zero]; exact Blk.new V1 (List.replicate n (.int .i64 0)) 3)
            have HGX := Lib.hid (show B ≤ gx ∧ (gx ≠ b ∧ gx ≠ g ∧ B ≤ (V1.alloc (.cells (Array.replicate n (.int .i64 0)) 3)).heap.size) ∧ gx < (V1.alloc (.cells (Array.replicate n (.int .i64 0)) 3)).heap.size from by have h1 := HBB.out; have h2 := HB.out; have h3 := hal.size; have h4 := HS1.out; omega)
            have HGH := Lib.hid (show B ≤ V1.heap.size ∧ V1.heap.size ≠ gx ∧ V1.heap.size ≠ b ∧ V1.heap.size ≠ g from by have h1 := HBB.out; have h2 := HB.out; have h4 := HS1.out; omega)
            have HCM := Lib.hid ((HMc.out.keptF hal).bad (Bad' := fun k => k = gx ∨ k = V1.heap.size) (fun i hi k hz h => by
              have h1 := HMc.out.lo i hi k hz
              rcases h with h | h
              · exact h1.2.2.1 (by rw [h]; rfl)
              · omega))
            have HPT := Lib.hid (show ∀ i, i < n → (V1.alloc (.cells (Array.replicate n (.int .i64 0)) 3)).cell? ⟨gx, i, none⟩ = some (.pointer (some ⟨x i, 0, none⟩)) from fun i hi => (hal.cell (p := ⟨gx, i, none⟩) hgxl (fun h => h)).trans (HPT0.out i hi))
            have HM0 := Lib.hid (HM.out.kept HK01 (fun h => h) (fun h => h))
            replace H11 := Lib.hid (HK01.blk H11.out (fun h => h))
            have HK0 := Lib.hid (HK01.mono (T := (fun i => i = b ∨ i = g ∨ (B ≤ i ∧ i ≠ gx))) (fun _ h => h.elim))
            clear hal HK01 HMc HPT0 HK1 hgxl hgx HM hmk HS1
            generalize V1.heap.size = gh at *
            generalize V1.alloc (.cells (Array.replicate n (.int .i64 0)) 3) = W0 at *
            have HC0 := Lib.hid (HCM.out.bad (Bad' := (fun k => k = gx ∨ k = gh)) (fun i hi k hz h => (HCM.out.lo i hi k hz).2.2.1 h))
            clear HCM
            go_loopw [20, 21] (fun lv kv wr => ∃ (k : Nat) (φ : Nat → Nat) (hv : Nat → Int) (s : Nat → Ls) (h : Nat → Bool) (l9 : List Cel) (Z : Nat → Nat → Prop) (ac Lf : Nat), k ≤ 18401 ∧ lv = .int .i64 (Lf : Int) ∧ kv = .int .i64 (k : Int) ∧ left φ n = Lf ∧ Sch F l2 n key t P φ hv s l9 h ∧ Pot n ps.length t φ h k ∧ ac ≤ k ∧ Mem wr b g l9 ac ∧ Mcs (fun k => k = gx ∨ k = gh) B b g wr F fb fd n x key Z s ∧ Blk wr gh 3 (hvs hv n) ∧ Kept (fun i => i = b ∨ i = g ∨ (B ≤ i ∧ i ≠ gx)) W0 wr) (fun _ kv _ => 18402 - (intOf kv).toNat)
            case atStart => exact ⟨0, _, _, _, _, _, _, 0, n, by omega, rfl, rfl, HL0.out, HSC0.out, HP0.out, Nat.le_refl _, HM0.out, HC0.out, HH0.out, Kept.refl _ _⟩
            case round =>
              rename World => V2
              obtain ⟨k, φ, hv, s, h, l9, Z, ac, Lf, hk, rfl, rfl, hLf, hS, hpot, hac, hM2, hC2, hH2, hY2⟩ := hrel
              clear HC0 HH0 HM0 HP0 HSC0 HL0 HPH0
              have HS := Lib.hid hS
              have HPOT := Lib.hid hpot
              have HM2 := Lib.hid hM2
              have HC2 := Lib.hid hC2
              have HH2 := Lib.hid hH2
              have HY2 := Lib.hid hY2
              have HLF := Lib.hid hLf
              have hk3 : (k : Int) < 30000 := by omega
              clear hS hM2 hC2 hH2 hY2 hLf hpot
              by_cases hLz : 0 < Lf
              · have hLI : (0 : Int) < (Lf : Int) := by omega
                have hk18 : k ≤ 18400 := by
                  rcases HPOT.out with hz | ⟨w0, -, -, hz⟩
                  · exfalso
                    have h1 := HLF.out
                    have h2 : left φ n = 0 := by
                      have : left φ n ≤ n * 0 := sm_bound fun i hi => by rw [if_pos (hz i hi)]; exact Nat.le_refl _
                      omega
                    omega
                  · omega
                obtain ⟨qm, hqm⟩ : ∃ qm : Nat, qm = k % n := ⟨_, rfl⟩
                have hqn : qm < n := by rw [hqm]; exact Nat.mod_lt _ (by omega)
                have hqm1 : (k : Int) % (n : Int) = (qm : Int) := by rw [hqm]; rfl
                have hqm2 : (k : Int).tmod (n : Int) = (qm : Int) := by rw [hqm]; rfl
                have Hqm := Lib.hid hqm
                have HK18 := Lib.hid hk18
                obtain ⟨k1, hk1⟩ : ∃ k1, k + 1 = k1 := ⟨_, rfl⟩
                have hkw : IntKind.i64.wrap ((k : Int) + 1) = (k1 : Int) := by rw [IntKind.wrap_i64]; omega
                have hkw1 : (k : Int) + 1 = (k1 : Int) := by omega
                have hkw2 : IntKind.i64.wrap (k1 : Int) = (k1 : Int) := by rw [IntKind.wrap_i64]; omega
                have HKN := Lib.hid hk1
                clear hqm hk18 hk hk1
                go_upto_if 100 with fail
                clear hk3
                go_cut [22] (fun tv wx => ∃ i : Nat, tv = .int .i64 (i : Int) ∧ i < n ∧ (ps.length ≤ k → i = k % n) ∧ wx = V2)
                case first =>
                  by_cases hkp : k < ps.length
                  · obtain ⟨g0, off0, rfl, hg0, hcell⟩ := HPA.out (by omega)
                    obtain ⟨p, hp⟩ : ∃ p, p = ps[k] := ⟨_, rfl⟩
                    have hp256 : p < 256 := by rw [hp]; exact HPS.out _ (List.getElem_mem _)
                    have hpc : V2.cell? ⟨g0, off0 + k, none⟩ = some (.int .u8 (p : Int)) := by
                      rw [(HK0.out.trans HY2.out (fun _ _ h => h)).cell (p := ⟨g0, off0 + k, none⟩) (show g0 < _ by have := HBB.out; omega) (fun h => by
                        have h1 := HBB.out
                        have h2 := HB.out
                        have h3 := HR.out
                        have h4 : g0 = b ∨ g0 = g ∨ (B ≤ g0 ∧ g0 ≠ gx) := h
                        omega), HK.out.cell (p := ⟨g0, off0 + k, none⟩) hg0 (fun h => by have h2 : w.heap.size ≤ g0 := h; omega)]
                      exact hcell k p (by rw [List.getElem?_eq_getElem hkp, hp])
                    obtain ⟨s5, hs5⟩ : ∃ s5 : Nat, s5 = p % n := ⟨_, rfl⟩
                    have hsn : s5 < n := by rw [hs5]; exact Nat.mod_lt _ (by omega)
                    have hs1 : (p : Int) % (n : Int) = (s5 : Int) := by rw [hs5]; rfl
                    have hs2 : (p : Int).tmod (n : Int) = (s5 : Int) := by rw [hs5]; rfl
                    clear hs5 hp hcell
                    go_wp2
                    go_meet
                    exact ⟨s5, rfl, hsn, fun h => by omega, rfl⟩
                  · have hkd : decide (k < ps.length) = false := by simpa using hkp
                    go_wp2
                    go_meet
                    exact ⟨qm, rfl, hqn, fun _ => Hqm.out, rfl⟩
                case rest =>
                  obtain ⟨i, rfl, hin, hpi, rfl⟩ := hcut
                  rename World => V2
                  have HPI := Lib.hid hpi
                  clear Hqm hqm1 hqm2 hqn hpi
                  have cst := HH2.out.cell (hvs_at hin)
                  have cpt : V2.cell? ⟨gx, i, none⟩ = some (.pointer (some ⟨x i, 0, none⟩)) := (HY2.out.cell (p := ⟨gx, i, none⟩) HGX.out.2.2 (fun h => by have h1 := HGX.out; have h2 : gx = b ∨ gx = g ∨ (B ≤ gx ∧ gx ≠ gx) := h; omega)).trans (HPT.out i hin)
                  rcases HS.out.hv_cases hin with hv0 | ⟨m, hm2, hv2⟩ | hv1 | hvm
                  · skip
                    obtain ⟨hok, hfin, m', h', hS', hm0, hp0, hadv⟩ := HS.out.run h4 h6 hnn HLEN.out.2 hin hv0
                    have HST := Lib.hid (lock_go F h4 h6 fb fd HD.out (Z i) (x i) (key i) 0 (s i) V2 b g l9 ac HM2.out (by have := HK18.out; omega) (fun hz => (HC2.out.lo i hin b hz).2.2.2.1 rfl) (fun hz => (HC2.out.lo i hin g hz).2.2.2.2 rfl) HS.out.lks.nats hok (HC2.out.mach i hin))
                    have HS' := Lib.hid hS'
                    have HADV := Lib.hid hadv
                    have HFIN := Lib.hid hfin
                    have HM0 := Lib.hid (show 0 < m' ∧ 0 < φ i from ⟨hm0, hp0⟩)
                    rw [hv0] at cst
                    have HV0 := Lib.hid hv0
                    clear hok hS' hadv hfin hm0 hp0 hv0
                    obtain ⟨bb, hbb⟩ : ∃ bb, (lgo F (key i) 0 l9 (s i)).fin = bb := ⟨_, rfl⟩
                    have HBB2 := Lib.hid hbb
                    clear hbb
                    obtain ⟨xi, hxi⟩ : ∃ xi, x i = xi := ⟨_, rfl⟩
                    rw [hxi] at cpt
                    have HXI := Lib.hid hxi
                    have HST2 := Lib.hid (show Calls Tryz.prog 15 #[.pointer (some ⟨xi, 0, none⟩), .pointer (some ⟨b, 0, none⟩)] V2 _ from by rw [← HXI.out]; exact HST.out)
                    clear hxi HST
                    cases bb with
                    | false =>
                      go_wp2_with fail
                      refine HST2.out.mono ?_; rintro e V3 ⟨rfl, hM3, hA3, hK3⟩
                      rw [HFIN.out, if_neg Bool.false_ne_true] at hM3
                      have hb2 := HM2.out.obj.lt
                      have hg2 := HM2.out.row.lt
                      have HC3 := Lib.hid (HC2.out.step hin hA3 hK3 (fun k hk => by have h1 := HGX.out; have h2 := HH2.out.lt; have h3 := HY2.out.size; rcases hk with h | h <;> omega) hb2 hg2 (by have h1 := HGX.out; have h3 := HY2.out.size; omega))
                      have HM3 := Lib.hid hM3
                      have HH3 := Lib.hid (hK3.blk HH2.out (fun h => by
                        have h1 := HGH.out
                        rcases h with h | h | h
                        · exact (HC2.out.lo i hin gh h).2.2.1 (.inr rfl)
                        · omega
                        · omega))
                      have HY3 := Lib.hid (HY2.out.trans hK3 (fun k hk h => by
                        rcases h with h | h | h
                        · have h1 := HC2.out.lo i hin k h
                          exact .inr (.inr ⟨h1.1, fun e => h1.2.2.1 (.inl e)⟩)
                        · exact .inl h
                        · exact .inr (.inl h)))
                      clear hb2 hg2 hM3 hA3 hK3 HST2
                      rw [HBB2.out]
                      have HF := Lib.hid (show hvs (upd hv i (if (lgo F (key i) 0 l9 (s i)).fin then 4 else 0)) n = hvs hv n from by rw [HBB2.out]; exact congrArg (fun f => hvs f n) (upd_self HV0.out))
                      have HPt := Lib.hid ((HS'.out).potStep h6 (by omega) hnn HPI.out hin (HADV.out) HPOT.out)
                      go_wp2
                      go_roundw
                      case rel => exact ⟨k1, _, _, _, _, _, _, _, _, by have := HK18.out; have := HKN.out; omega, rfl, rfl, (left_same HM0.out.2 HM0.out.1).trans HLF.out, HS'.out, by rw [← HKN.out]; exact HPt.out, by have := HKN.out; omega, HM3.out, HC3.out, by rw [HF.out]; exact HH3.out, HY3.out⟩
                      case measure => have := HK18.out; have := HKN.out; simp [intOf]; omega
                    | true =>
                      go_wp2_with fail
                      refine HST2.out.mono ?_; rintro e V3 ⟨rfl, hM3, hA3, hK3⟩
                      rw [HFIN.out, if_neg Bool.false_ne_true] at hM3
                      have hb2 := HM2.out.obj.lt
                      have hg2 := HM2.out.row.lt
                      have HC3 := Lib.hid (HC2.out.step hin hA3 hK3 (fun k hk => by have h1 := HGX.out; have h2 := HH2.out.lt; have h3 := HY2.out.size; rcases hk with h | h <;> omega) hb2 hg2 (by have h1 := HGX.out; have h3 := HY2.out.size; omega))
                      have HM3 := Lib.hid hM3
                      have HH3 := Lib.hid (hK3.blk HH2.out (fun h => by
                        have h1 := HGH.out
                        rcases h with h | h | h
                        · exact (HC2.out.lo i hin gh h).2.2.1 (.inr rfl)
                        · omega
                        · omega))
                      have HY3 := Lib.hid (HY2.out.trans hK3 (fun k hk h => by
                        rcases h with h | h | h
                        · have h1 := HC2.out.lo i hin k h
                          exact .inr (.inr ⟨h1.1, fun e => h1.2.2.1 (.inl e)⟩)
                        · exact .inl h
                        · exact .inr (.inl h)))
                      clear hb2 hg2 hM3 hA3 hK3 HST2
                      rw [HBB2.out]
                      obtain ⟨hv3, hhv3⟩ : ∃ f, hv = f := ⟨_, rfl⟩
                      have HH3b := Lib.hid HH3.out
                      rw [hhv3] at HH3b
                      replace HH3 := HH3b
                      have hKs := (Kept.refl (fun k => k = gh) V3).setCell (a := ⟨gh, i, none⟩) (fun _ => rfl) (.int .i64 4)
                      have HM4 := Lib.hid (HM3.out.kept hKs (fun h => by have := HGH.out; omega) (fun h => by have := HGH.out; omega))
                      have HC4 := Lib.hid (HC3.out.kept hKs (fun c hc k hz h => (HC3.out.lo c hc k hz).2.2.1 (.inr h)))
                      have HH4 := Lib.hid (show Blk (V3.setCell ⟨gh, i, none⟩ (.int .i64 4)) gh 3 (hvs (upd hv3 i 4) n) from by
                        have := HH3.out.set i (.int .i64 4)
                        rw [hvs_set] at this
                        exact this)
                      have HY4 := Lib.hid (HY3.out.trans hKs (fun k hk h => .inr (.inr (by have := HGH.out; have h2 : k = gh := h; omega))))
                      have xs := HH3.out.cell (hvs_at hin)
                      have zs := HH3.out.frozen i
                      clear hKs
                      clear HH3b
                      have HS4 := Lib.hid (show Sch F l2 n key t P (upd φ i m') (upd hv3 i 4) (upd s i (lgo F (key i) 0 l9 (s i))) (lmem F l9 (s i)) h' from by
                        have := HS'.out
                        rw [HBB2.out, if_pos rfl, hhv3] at this
                        exact this)
                      clear hhv3 HS'
                      obtain ⟨φ4, hφ4⟩ : ∃ f, upd φ i m' = f := ⟨_, rfl⟩
                      obtain ⟨hv4, hhv4⟩ : ∃ f, upd hv3 i 4 = f := ⟨_, rfl⟩
                      obtain ⟨s4, hs4⟩ : ∃ f, upd s i (lgo F (key i) 0 l9 (s i)) = f := ⟨_, rfl⟩
                      obtain ⟨Z4, hZ4⟩ : ∃ f, upd Z i (Zn (Z i) V2 V3) = f := ⟨_, rfl⟩
                      have hi4 : 0 < hv4 i := by rw [← hhv4, upd_at]; decide
                      rw [hφ4, hhv4, hs4] at HS4
                      rw [hφ4] at HADV
                      rw [hhv4] at HH4
                      rw [hs4, hZ4] at HC4
                      have HL4 := Lib.hid (show left φ4 n = Lf from by rw [← hφ4]; exact (left_same HM0.out.2 HM0.out.1).trans HLF.out)
                      have HI4 := Lib.hid hi4
                      clear hφ4 hhv4 hs4 hZ4 hi4 HM3 HC3 HH3 HY3
                      go_wp2_with fail
                      generalize V3.setCell ⟨gh, i, none⟩ (.int .i64 4) = V4 at *
                      clear xs zs
                      go_loopw [23] (fun jv wl => ∃ j : Nat, j ≤ n ∧ jv = .int .i64 (j : Int) ∧ Kept (fun _ => False) V4 wl) (fun jv _ => n - (intOf jv).toNat)
                      case atStart => exact ⟨0, Nat.zero_le _, rfl, Kept.refl _ _⟩
                      case round =>
                        rename World => V5
                        obtain ⟨j, hj, rfl, hK5⟩ := hrel
                        have HK5 := Lib.hid hK5
                        have HC5 := Lib.hid (HC4.out.keptF hK5)
                        have HH5 := Lib.hid (hK5.blk HH4.out (fun h => h))
                        have HY5 := Lib.hid (HY4.out.trans hK5 (fun _ _ h => h.elim))
                        clear hK5
                        by_cases hjn : j < n
                        · have hjI : (j : Int) < (n : Int) := by omega
                          have HCj := Lib.hid (HH5.out.cell (hvs_at hjn))
                          have hgh5 : gh < V5.heap.size := HH5.out.lt
                          have HPj := Lib.hid (show V5.cell? ⟨gx, j, none⟩ = some (.pointer (some ⟨x j, 0, none⟩)) from (HY5.out.cell (p := ⟨gx, j, none⟩) HGX.out.2.2 (fun h => by have h1 := HGX.out; have h2 : gx = b ∨ gx = g ∨ (B ≤ gx ∧ gx ≠ gx) := h; omega)).trans (HPT.out j hjn))
                          have HPi := Lib.hid (show V5.cell? ⟨gx, i, none⟩ = some (.pointer (some ⟨x i, 0, none⟩)) from (HY5.out.cell (p := ⟨gx, i, none⟩) HGX.out.2.2 (fun h => by have h1 := HGX.out; have h2 : gx = b ∨ gx = g ∨ (B ≤ gx ∧ gx ≠ gx) := h; omega)).trans (HPT.out i hin))
                          have hgx5 : gx < V5.heap.size := Nat.lt_of_lt_of_le HGX.out.2.2 HY5.out.size
                          by_cases hji : j = i
                          · have d1 : ((j : Int) == (i : Int)) = true := by simp [hji]
                            have d2 : (!((j : Int) == (i : Int))) = false := by simp [hji]
                            have hji1 : j ≤ i := by omega
                            have hji2 : i ≤ j := by omega
                            clear hji
                            go_upto_region 25 with fail
                            refine qregion (fun w' => Kept (fun _ => False) V5 w') (by kernel_rfl) (by kernel_rfl) (Kept.refl _ _).drew ?_
                            refine qstep (o := ⟨some 128, _, _, _, _, _⟩) (v := ?_) (by rfl) (fun wq hSw => ?_) ?_
                            rotate_left
                            · (go_simp; try with_reducible rfl)
                            try simp only [Act.put, List.setIfInBounds_toArray, List.set_cons_zero, List.set_cons_succ]
                            refine qstep (o := ⟨some 129, _, _, _, _, _⟩) (v := ?_) (by rfl) (fun wq hSw => ?_) ?_
                            rotate_left
                            · (go_simp; try with_reducible rfl)
                            try simp only [Act.put, List.setIfInBounds_toArray, List.set_cons_zero, List.set_cons_succ]
                            refine qstep (o := ⟨some 130, _, _, _, _, _⟩) (v := .bool false) (by rfl) (fun wq hSw => ?_) ?_
                            · (go_simp; try first | (with_reducible rfl) | (simp; omega) | (intros; omega) | simp [*])
                            try simp only [Act.put, List.setIfInBounds_toArray, List.set_cons_zero, List.set_cons_succ]
                            refine qstep (o := ⟨some 131, _, _, _, _, _⟩) (v := ?_) (by rfl) (fun wq hSw => ?_) ?_
                            rotate_left
                            · (go_simp; try with_reducible rfl)
                            try simp only [Act.put, List.setIfInBounds_toArray, List.set_cons_zero, List.set_cons_succ]
                            go_big_quiet_skip
                            try simp only [Act.put, List.setIfInBounds_toArray, List.set_cons_zero, List.set_cons_succ]
                            go_big_quiet_skip
                            try simp only [Act.put, List.setIfInBounds_toArray, List.set_cons_zero, List.set_cons_succ]
                            go_big_quiet_skip
                            try simp only [Act.put, List.setIfInBounds_toArray, List.set_cons_zero, List.set_cons_succ]
                            go_big_quiet_skip
                            try simp only [Act.put, List.setIfInBounds_toArray, List.set_cons_zero, List.set_cons_succ]
                            go_big_quiet_skip
                            try simp only [Act.put, List.setIfInBounds_toArray, List.set_cons_zero, List.set_cons_succ]
                            refine qstep (o := ⟨some 137, _, _, _, _, _⟩) (v := .bool false) (by rfl) (fun wq hSw => ?_) ?_
                            · (go_simp; try first | (with_reducible rfl) | (simp; omega) | (intros; omega) | simp [*])
                            try simp only [Act.put, List.setIfInBounds_toArray, List.set_cons_zero, List.set_cons_succ]
                            refine qstep (o := ⟨some 138, _, _, _, _, _⟩) (v := ?_) (by rfl) (fun wq hSw => ?_) ?_
                            rotate_left
                            · (go_simp; try with_reducible rfl)
                            try simp only [Act.put, List.setIfInBounds_toArray, List.set_cons_zero, List.set_cons_succ]
                            go_big_quiet_skip
                            try simp only [Act.put, List.setIfInBounds_toArray, List.set_cons_zero, List.set_cons_succ]
                            go_big_quiet_skip
                            try simp only [Act.put, List.setIfInBounds_toArray, List.set_cons_zero, List.set_cons_succ]
                            go_big_quiet_skip
                            try simp only [Act.put, List.setIfInBounds_toArray, List.set_cons_zero, List.set_cons_succ]
                            go_big_quiet_skip
                            try simp only [Act.put, List.setIfInBounds_toArray, List.set_cons_zero, List.set_cons_succ]
                            go_big_quiet_skip
                            try simp only [Act.put, List.setIfInBounds_toArray, List.set_cons_zero, List.set_cons_succ]
                            go_big_quiet_skip
                            try simp only [Act.put, List.setIfInBounds_toArray, List.set_cons_zero, List.set_cons_succ]
                            go_big_quiet_skip
                            try simp only [Act.put, List.setIfInBounds_toArray, List.set_cons_zero, List.set_cons_succ]
                            go_big_quiet_skip
                            try simp only [Act.put, List.setIfInBounds_toArray, List.set_cons_zero, List.set_cons_succ]
                            go_big_quiet_skip
                            try simp only [Act.put, List.setIfInBounds_toArray, List.set_cons_zero, List.set_cons_succ]
                            go_big_quiet_skip
                            try simp only [Act.put, List.setIfInBounds_toArray, List.set_cons_zero, List.set_cons_succ]
                            go_big_quiet_skip
                            try simp only [Act.put, List.setIfInBounds_toArray, List.set_cons_zero, List.set_cons_succ]
                            go_big_quiet_skip
                            try simp only [Act.put, List.setIfInBounds_toArray, List.set_cons_zero, List.set_cons_succ]
                            go_big_quiet_skip
                            try simp only [Act.put, List.setIfInBounds_toArray, List.set_cons_zero, List.set_cons_succ]
                            refine qstep (o := ⟨some 152, _, _, _, _, _⟩) (v := .bool false) (by rfl) (fun wq hSw => ?_) ?_
                            · (go_simp; try first | (with_reducible rfl) | (simp; omega) | (intros; omega) | simp [*])
                            try simp only [Act.put, List.setIfInBounds_toArray, List.set_cons_zero, List.set_cons_succ]
                            refine wpQuiet_nil ?_
                            intro wz hHeld
                            have HK6 := Lib.hid hHeld
                            clear hHeld
                            go_wp2
                            go_roundw
                            case rel => exact ⟨j + 1, by omega, by go_num, HK5.out.trans HK6.out (fun _ _ h => h)⟩
                            case measure => simp [intOf]; omega
                          · have d1 : ((j : Int) == (i : Int)) = false := by simp; omega
                            have d2 : (!((j : Int) == (i : Int))) = true := by simp; omega
                            have hji1 : j < i ∨ i < j := by omega
                            by_cases hpos : 0 < hv4 j
                            · have HNE := Lib.hid hji
                              have HPOS := Lib.hid hpos
                              clear hji
                              obtain ⟨hownj, hstj⟩ := HS4.out.holds hjn HPOS.out
                              obtain ⟨Pj, hPj⟩ : ∃ y, P j = y := ⟨_, rfl⟩
                              obtain ⟨tj, htj⟩ : ∃ y, t j = y := ⟨_, rfl⟩
                              rw [hPj, htj] at hstj
                              have HLAj := Lib.hid (HC5.out.mach j (by assumption))
                              rw [hstj] at HLAj
                              have HHDj := Lib.hid (show ∀ W, Kept (fun _ => False) V5 W → Calls Tryz.prog 16 #[.pointer (some ⟨x j, 0, none⟩)] W fun e w' => ∃ (A : Option Addr) (c : Nat), e = .returned (.agg #[.int .u64 (tj : Int), .int .u64 1, .int .i64 (Pj.lv : Int), .slice A Pj.xs.length c, .string Pj.hi, .bool Pj.la, .int .u64 (Pj.rt : Int)]) ∧ Kept (fun _ => False) W w' from fun W hW => by
                                refine (held_lck F h6 fb fd (Z4 j) (x j) (key j) 0 tj 1 _ W (HLAj.out.kept hW (fun _ _ h => h))).mono ?_
                                rintro e w' ⟨A, c, rfl, -, -, hk⟩
                                exact ⟨A, c, by rw [hval_got]; rfl, hk⟩)
                              obtain ⟨howni, hsti⟩ := HS4.out.holds hin HI4.out
                              obtain ⟨Pi, hPi⟩ : ∃ y, P i = y := ⟨_, rfl⟩
                              obtain ⟨ti, hti⟩ : ∃ y, t i = y := ⟨_, rfl⟩
                              rw [hPi, hti] at hsti
                              have HLAi := Lib.hid (HC5.out.mach i (by assumption))
                              rw [hsti] at HLAi
                              have HHDi := Lib.hid (show ∀ W, Kept (fun _ => False) V5 W → Calls Tryz.prog 16 #[.pointer (some ⟨x i, 0, none⟩)] W fun e w' => ∃ (A : Option Addr) (c : Nat), e = .returned (.agg #[.int .u64 (ti : Int), .int .u64 1, .int .i64 (Pi.lv : Int), .slice A Pi.xs.length c, .string Pi.hi, .bool Pi.la, .int .u64 (Pi.rt : Int)]) ∧ Kept (fun _ => False) W w' from fun W hW => by
                                refine (held_lck F h6 fb fd (Z4 i) (x i) (key i) 0 ti 1 _ W (HLAi.out.kept hW (fun _ _ h => h))).mono ?_
                                rintro e w' ⟨A, c, rfl, -, -, hk⟩
                                exact ⟨A, c, by rw [hval_got]; rfl, hk⟩)
                              have htne : ((tj : Int) == (ti : Int)) = false := beq_false_of_ne (fun e => HNE.out (HS4.out.uni j i hjn hin hownj howni (by rw [htj, hti]; omega)))
                              clear hownj howni hPj htj hPi hti HLAj HLAi hstj hsti
                              go_upto_region 25 with fail
                              refine wp_region_held_drew (S := (fun w' => Kept (fun _ => False) V5 w')) (by kernel_rfl) ?_ (fun hHeld => ?_)
                              · exact (Kept.refl _ _).drew
                              have HW := Lib.hid ((Kept.refl (fun _ => False) V5).drew)
                              generalize V5.drew = G at *
                              refine wpAnyH_take (i := 0) (oi := ⟨some 128, _, _, _, _, _⟩) (v := ?_) rfl (by kernel_rfl) (by kernel_rfl) (by kernel_rfl) (fun _ _ _ h => h) (Or.inl ⟨by rfl, ?_⟩) hHeld ?_
                              rotate_left
                              · (intro wq hSw; go_simp; try with_reducible rfl)
                              try simp only [Act.put, List.setIfInBounds_toArray, List.set_cons_zero, List.set_cons_succ]
                              refine wpAnyH_take (i := 1) (oi := ⟨some 129, _, _, _, _, _⟩) (v := ?_) rfl (by kernel_rfl) (by kernel_rfl) (by kernel_rfl) (fun _ _ _ h => h) (Or.inl ⟨by rfl, ?_⟩) hHeld ?_
                              rotate_left
                              · (intro wq hSw; go_simp; try with_reducible rfl)
                              try simp only [Act.put, List.setIfInBounds_toArray, List.set_cons_zero, List.set_cons_succ]
                              refine wpAnyH_take (i := 2) (oi := ⟨some 130, _, _, _, _, _⟩) (v := .bool true) rfl (by kernel_rfl) (by kernel_rfl) (by kernel_rfl) (fun _ _ _ h => h) (Or.inl ⟨by rfl, ?_⟩) hHeld ?_
                              · (intro wq hSw; go_simp; try first | (with_reducible rfl) | (simp; omega) | (intros; omega) | simp [*])
                              try simp only [Act.put, List.setIfInBounds_toArray, List.set_cons_zero, List.set_cons_succ]
                              refine wpAnyH_take (i := 3) (oi := ⟨some 131, _, _, _, _, _⟩) (v := ?_) rfl (by kernel_rfl) (by kernel_rfl) (by kernel_rfl) (fun _ _ _ h => h) (Or.inl ⟨by rfl, ?_⟩) hHeld ?_
                              rotate_left
                              · (intro wq hSw; go_simp; try with_reducible rfl)
                              try simp only [Act.put, List.setIfInBounds_toArray, List.set_cons_zero, List.set_cons_succ]
                              refine wpAnyH_take (i := 4) (oi := ⟨some 132, _, _, _, _, _⟩) (v := ?_) rfl (by kernel_rfl) (by kernel_rfl) (by kernel_rfl) (fun _ _ _ h => h) (Or.inl ⟨by rfl, ?_⟩) hHeld ?_
                              rotate_left
                              · (intro wq hSw; go_simp; try with_reducible rfl)
                              try simp only [Act.put, List.setIfInBounds_toArray, List.set_cons_zero, List.set_cons_succ]
                              refine wpAnyH_take (i := 5) (oi := ⟨some 133, _, _, _, _, _⟩) (v := ?_) rfl (by kernel_rfl) (by kernel_rfl) (by kernel_rfl) (fun _ _ _ h => h) (Or.inl ⟨by rfl, ?_⟩) hHeld ?_
                              rotate_left
                              · (intro wq hSw; go_simp; try with_reducible rfl)
                              try simp only [Act.put, List.setIfInBounds_toArray, List.set_cons_zero, List.set_cons_succ]
                              refine wpAnyH_take (i := 6) (oi := ⟨some 134, _, _, _, _, _⟩) (v := ?_) rfl (by kernel_rfl) (by kernel_rfl) (by kernel_rfl) (fun _ _ _ h => h) (Or.inl ⟨by rfl, ?_⟩) hHeld ?_
                              rotate_left
                              · (intro wq hSw; go_simp; try with_reducible rfl)
                              try simp only [Act.put, List.setIfInBounds_toArray, List.set_cons_zero, List.set_cons_succ]
                              refine wpAnyH_take (i := 7) (oi := ⟨some 135, _, _, _, _, _⟩) (v := ?_) rfl (by kernel_rfl) (by kernel_rfl) (by kernel_rfl) (fun _ _ _ h => h) (Or.inl ⟨by rfl, ?_⟩) hHeld ?_
                              rotate_left
                              · (intro wq hSw; have cj := (hSw.cell (p := ⟨gh, j, none⟩) hgh5 (fun h => h)).trans HCj.out; have pj := (hSw.cell (p := ⟨gx, j, none⟩) hgx5 (fun h => h)).trans HPj.out; have pi := (hSw.cell (p := ⟨gx, i, none⟩) hgx5 (fun h => h)).trans HPi.out; go_simp; try with_reducible rfl)
                              try simp only [Act.put, List.setIfInBounds_toArray, List.set_cons_zero, List.set_cons_succ]
                              refine wpAnyH_take (i := 8) (oi := ⟨some 136, _, _, _, _, _⟩) (v := .bool true) rfl (by kernel_rfl) (by kernel_rfl) (by kernel_rfl) (fun _ _ _ h => h) (Or.inl ⟨by rfl, ?_⟩) hHeld ?_
                              · (intro wq hSw; go_simp; try first | (with_reducible rfl) | (simp; omega) | (intros; omega) | simp [*])
                              try simp only [Act.put, List.setIfInBounds_toArray, List.set_cons_zero, List.set_cons_succ]
                              refine wpAnyH_take (i := 9) (oi := ⟨some 137, _, _, _, _, _⟩) (v := .bool true) rfl (by kernel_rfl) (by kernel_rfl) (by kernel_rfl) (fun _ _ _ h => h) (Or.inl ⟨by rfl, ?_⟩) hHeld ?_
                              · (intro wq hSw; go_simp; try first | (with_reducible rfl) | (simp; omega) | (intros; omega) | simp [*])
                              try simp only [Act.put, List.setIfInBounds_toArray, List.set_cons_zero, List.set_cons_succ]
                              refine wpAnyH_take (i := 10) (oi := ⟨some 138, _, _, _, _, _⟩) (v := ?_) rfl (by kernel_rfl) (by kernel_rfl) (by kernel_rfl) (fun _ _ _ h => h) (Or.inl ⟨by rfl, ?_⟩) hHeld ?_
                              rotate_left
                              · (intro wq hSw; go_simp; try with_reducible rfl)
                              try simp only [Act.put, List.setIfInBounds_toArray, List.set_cons_zero, List.set_cons_succ]
                              refine wpAnyH_take (i := 11) (oi := ⟨some 139, _, _, _, _, _⟩) (v := ?_) rfl (by kernel_rfl) (by kernel_rfl) (by kernel_rfl) (fun _ _ _ h => h) (Or.inl ⟨by rfl, ?_⟩) hHeld ?_
                              rotate_left
                              · (intro wq hSw; go_simp; try with_reducible rfl)
                              try simp only [Act.put, List.setIfInBounds_toArray, List.set_cons_zero, List.set_cons_succ]
                              refine wpAnyH_take (i := 12) (oi := ⟨some 140, _, _, _, _, _⟩) (v := ?_) rfl (by kernel_rfl) (by kernel_rfl) (by kernel_rfl) (fun _ _ _ h => h) (Or.inl ⟨by rfl, ?_⟩) hHeld ?_
                              rotate_left
                              · (intro wq hSw; go_simp; try with_reducible rfl)
                              try simp only [Act.put, List.setIfInBounds_toArray, List.set_cons_zero, List.set_cons_succ]
                              refine wpAnyH_take (i := 13) (oi := ⟨some 141, _, _, _, _, _⟩) (v := ?_) rfl (by kernel_rfl) (by kernel_rfl) (by kernel_rfl) (fun _ _ _ h => h) (Or.inl ⟨by rfl, ?_⟩) hHeld ?_
                              rotate_left
                              · (intro wq hSw; go_simp; try with_reducible rfl)
                              try simp only [Act.put, List.setIfInBounds_toArray, List.set_cons_zero, List.set_cons_succ]
                              refine wpAnyH_take (i := 14) (oi := ⟨some 142, _, _, _, _, _⟩) (v := ?_) rfl (by kernel_rfl) (by kernel_rfl) (by kernel_rfl) (fun _ _ _ h => h) (Or.inl ⟨by rfl, ?_⟩) hHeld ?_
                              rotate_left
                              · (intro wq hSw; have cj := (hSw.cell (p := ⟨gh, j, none⟩) hgh5 (fun h => h)).trans HCj.out; have pj := (hSw.cell (p := ⟨gx, j, none⟩) hgx5 (fun h => h)).trans HPj.out; have pi := (hSw.cell (p := ⟨gx, i, none⟩) hgx5 (fun h => h)).trans HPi.out; go_simp; try with_reducible rfl)
                              try simp only [Act.put, List.setIfInBounds_toArray, List.set_cons_zero, List.set_cons_succ]
                              refine wpAnyH_take (i := 17) (oi := ⟨some 145, _, _, _, _, _⟩) (v := ?_) rfl (by kernel_rfl) (by kernel_rfl) (by kernel_rfl) (fun _ _ _ h => h) (Or.inl ⟨by rfl, ?_⟩) hHeld ?_
                              rotate_left
                              · (intro wq hSw; go_simp; try with_reducible rfl)
                              try simp only [Act.put, List.setIfInBounds_toArray, List.set_cons_zero, List.set_cons_succ]
                              refine wpAnyH_take (i := 18) (oi := ⟨some 146, _, _, _, _, _⟩) (v := ?_) rfl (by kernel_rfl) (by kernel_rfl) (by kernel_rfl) (fun _ _ _ h => h) (Or.inl ⟨by rfl, ?_⟩) hHeld ?_
                              rotate_left
                              · (intro wq hSw; go_simp; try with_reducible rfl)
                              try simp only [Act.put, List.setIfInBounds_toArray, List.set_cons_zero, List.set_cons_succ]
                              refine wpAnyH_take (i := 19) (oi := ⟨some 147, _, _, _, _, _⟩) (v := ?_) rfl (by kernel_rfl) (by kernel_rfl) (by kernel_rfl) (fun _ _ _ h => h) (Or.inl ⟨by rfl, ?_⟩) hHeld ?_
                              rotate_left
                              · (intro wq hSw; go_simp; try with_reducible rfl)
                              try simp only [Act.put, List.setIfInBounds_toArray, List.set_cons_zero, List.set_cons_succ]
                              refine wpAnyH_take (i := 20) (oi := ⟨some 148, _, _, _, _, _⟩) (v := ?_) rfl (by kernel_rfl) (by kernel_rfl) (by kernel_rfl) (fun _ _ _ h => h) (Or.inl ⟨by rfl, ?_⟩) hHeld ?_
                              rotate_left
                              · (intro wq hSw; have cj := (hSw.cell (p := ⟨gh, j, none⟩) hgh5 (fun h => h)).trans HCj.out; have pj := (hSw.cell (p := ⟨gx, j, none⟩) hgx5 (fun h => h)).trans HPj.out; have pi := (hSw.cell (p := ⟨gx, i, none⟩) hgx5 (fun h => h)).trans HPi.out; go_simp; try with_reducible rfl)
                              try simp only [Act.put, List.setIfInBounds_toArray, List.set_cons_zero, List.set_cons_succ]
                              refine wpAnyH_ready (rs := [15]) (by kernel_rfl) (by simp) ?_
                              refine AllReadyH.cons (o := ⟨some 143, _, _, _, _, _⟩) rfl (fun KK hK => ?_) AllReadyH.nil
                              go_simp
                              go_at_call 16
                              refine (HHDj.out _ HW.out).mono ?_; rintro e Gj ⟨Aj, cj, rfl, hKj⟩
                              replace HW := Lib.hid (HW.out.trans hKj (fun _ _ h => h))
                              have hfj := hfieldI (tj : Int) 1 (Pj.lv : Int) Aj Pj.xs.length cj Pj.hi Pj.la (Pj.rt : Int)
                              clear hKj
                              refine hK.out _ _ ?_ (fun hHeld2 => ?_)
                              · exact HW.out
                              clear hK KK hHeld
                              have hHeld := hHeld2
                              clear hHeld2
                              try simp only [Act.put, List.setIfInBounds_toArray, List.set_cons_zero, List.set_cons_succ]
                              refine wpAnyH_take (i := 16) (oi := ⟨some 144, _, _, _, _, _⟩) (v := .int .u64 (tj : Int)) rfl (by kernel_rfl) (by kernel_rfl) (by kernel_rfl) (fun _ _ _ h => h) (Or.inl ⟨by rfl, ?_⟩) hHeld ?_
                              · (intro wq hSw; go_simp; try first | (with_reducible rfl) | (simp; omega) | (intros; omega) | simp [*])
                              try simp only [Act.put, List.setIfInBounds_toArray, List.set_cons_zero, List.set_cons_succ]
                              refine wpAnyH_ready (rs := [21]) (by kernel_rfl) (by simp) ?_
                              refine AllReadyH.cons (o := ⟨some 149, _, _, _, _, _⟩) rfl (fun KK hK => ?_) AllReadyH.nil
                              go_simp
                              go_at_call 16
                              refine (HHDi.out _ HW.out).mono ?_; rintro e Gi ⟨Ai, ci, rfl, hKi⟩
                              replace HW := Lib.hid (HW.out.trans hKi (fun _ _ h => h))
                              have hfi := hfieldI (ti : Int) 1 (Pi.lv : Int) Ai Pi.xs.length ci Pi.hi Pi.la (Pi.rt : Int)
                              clear hKi
                              refine hK.out _ _ ?_ (fun hHeld2 => ?_)
                              · exact HW.out
                              clear hK KK hHeld
                              have hHeld := hHeld2
                              clear hHeld2
                              try simp only [Act.put, List.setIfInBounds_toArray, List.set_cons_zero, List.set_cons_succ]
                              refine wpAnyH_take (i := 22) (oi := ⟨some 150, _, _, _, _, _⟩) (v := .int .u64 (ti : Int)) rfl (by kernel_rfl) (by kernel_rfl) (by kernel_rfl) (fun _ _ _ h => h) (Or.inl ⟨by rfl, ?_⟩) hHeld ?_
                              · (intro wq hSw; go_simp; try first | (with_reducible rfl) | (simp; omega) | (intros; omega) | simp [*])
                              try simp only [Act.put, List.setIfInBounds_toArray, List.set_cons_zero, List.set_cons_succ]
                              refine wpAnyH_take (i := 23) (oi := ⟨some 151, _, _, _, _, _⟩) (v := .bool false) rfl (by kernel_rfl) (by kernel_rfl) (by kernel_rfl) (fun _ _ _ h => h) (Or.inl ⟨by rfl, ?_⟩) hHeld ?_
                              · (intro wq hSw; go_simp; try first | (with_reducible rfl) | (simp; omega) | (intros; omega) | simp [*])
                              try simp only [Act.put, List.setIfInBounds_toArray, List.set_cons_zero, List.set_cons_succ]
                              refine wpAnyH_take (i := 24) (oi := ⟨some 152, _, _, _, _, _⟩) (v := .bool false) rfl (by kernel_rfl) (by kernel_rfl) (by kernel_rfl) (fun _ _ _ h => h) (Or.inl ⟨by rfl, ?_⟩) hHeld ?_
                              · (intro wq hSw; go_simp; try first | (with_reducible rfl) | (simp; omega) | (intros; omega) | simp [*])
                              try simp only [Act.put, List.setIfInBounds_toArray, List.set_cons_zero, List.set_cons_succ]
                              refine wpAnyH_done (by kernel_rfl) ?_ _
                              clear hHeld
                              have HK6 := Lib.hid HW.out
                              try clear hHeld
                              go_wp2
                              go_roundw
                              case rel => exact ⟨j + 1, by omega, by go_num, HK5.out.trans HK6.out (fun _ _ h => h)⟩
                              case measure => simp [intOf]; omega
                            · clear hji
                              go_upto_region 25 with fail
                              refine qregion (fun w' => Kept (fun _ => False) V5 w') (by kernel_rfl) (by kernel_rfl) (Kept.refl _ _).drew ?_
                              refine qstep (o := ⟨some 128, _, _, _, _, _⟩) (v := ?_) (by rfl) (fun wq hSw => ?_) ?_
                              rotate_left
                              · (go_simp; try with_reducible rfl)
                              try simp only [Act.put, List.setIfInBounds_toArray, List.set_cons_zero, List.set_cons_succ]
                              refine qstep (o := ⟨some 129, _, _, _, _, _⟩) (v := ?_) (by rfl) (fun wq hSw => ?_) ?_
                              rotate_left
                              · (go_simp; try with_reducible rfl)
                              try simp only [Act.put, List.setIfInBounds_toArray, List.set_cons_zero, List.set_cons_succ]
                              refine qstep (o := ⟨some 130, _, _, _, _, _⟩) (v := .bool true) (by rfl) (fun wq hSw => ?_) ?_
                              · (go_simp; try first | (with_reducible rfl) | (simp; omega) | (intros; omega) | simp [*])
                              try simp only [Act.put, List.setIfInBounds_toArray, List.set_cons_zero, List.set_cons_succ]
                              refine qstep (o := ⟨some 131, _, _, _, _, _⟩) (v := ?_) (by rfl) (fun wq hSw => ?_) ?_
                              rotate_left
                              · (go_simp; try with_reducible rfl)
                              try simp only [Act.put, List.setIfInBounds_toArray, List.set_cons_zero, List.set_cons_succ]
                              refine qstep (o := ⟨some 132, _, _, _, _, _⟩) (v := ?_) (by rfl) (fun wq hSw => ?_) ?_
                              rotate_left
                              · (go_simp; try with_reducible rfl)
                              try simp only [Act.put, List.setIfInBounds_toArray, List.set_cons_zero, List.set_cons_succ]
                              refine qstep (o := ⟨some 133, _, _, _, _, _⟩) (v := ?_) (by rfl) (fun wq hSw => ?_) ?_
                              rotate_left
                              · (go_simp; try with_reducible rfl)
                              try simp only [Act.put, List.setIfInBounds_toArray, List.set_cons_zero, List.set_cons_succ]
                              refine qstep (o := ⟨some 134, _, _, _, _, _⟩) (v := ?_) (by rfl) (fun wq hSw => ?_) ?_
                              rotate_left
                              · (go_simp; try with_reducible rfl)
                              try simp only [Act.put, List.setIfInBounds_toArray, List.set_cons_zero, List.set_cons_succ]
                              refine qstep (o := ⟨some 135, _, _, _, _, _⟩) (v := ?_) (by rfl) (fun wq hSw => ?_) ?_
                              rotate_left
                              · (have cj := (hSw.cell (p := ⟨gh, j, none⟩) hgh5 (fun h => h)).trans HCj.out; have pj := (hSw.cell (p := ⟨gx, j, none⟩) hgx5 (fun h => h)).trans HPj.out; have pi := (hSw.cell (p := ⟨gx, i, none⟩) hgx5 (fun h => h)).trans HPi.out; go_simp; try with_reducible rfl)
                              try simp only [Act.put, List.setIfInBounds_toArray, List.set_cons_zero, List.set_cons_succ]
                              refine qstep (o := ⟨some 136, _, _, _, _, _⟩) (v := .bool false) (by rfl) (fun wq hSw => ?_) ?_
                              · (go_simp; try first | (with_reducible rfl) | (simp; omega) | (intros; omega) | simp [*])
                              try simp only [Act.put, List.setIfInBounds_toArray, List.set_cons_zero, List.set_cons_succ]
                              refine qstep (o := ⟨some 137, _, _, _, _, _⟩) (v := .bool false) (by rfl) (fun wq hSw => ?_) ?_
                              · (go_simp; try first | (with_reducible rfl) | (simp; omega) | (intros; omega) | simp [*])
                              try simp only [Act.put, List.setIfInBounds_toArray, List.set_cons_zero, List.set_cons_succ]
                              refine qstep (o := ⟨some 138, _, _, _, _, _⟩) (v := ?_) (by rfl) (fun wq hSw => ?_) ?_
                              rotate_left
                              · (go_simp; try with_reducible rfl)
                              try simp only [Act.put, List.setIfInBounds_toArray, List.set_cons_zero, List.set_cons_succ]
                              go_big_quiet_skip
                              try simp only [Act.put, List.setIfInBounds_toArray, List.set_cons_zero, List.set_cons_succ]
                              go_big_quiet_skip
                              try simp only [Act.put, List.setIfInBounds_toArray, List.set_cons_zero, List.set_cons_succ]
                              go_big_quiet_skip
                              try simp only [Act.put, List.setIfInBounds_toArray, List.set_cons_zero, List.set_cons_succ]
                              go_big_quiet_skip
                              try simp only [Act.put, List.setIfInBounds_toArray, List.set_cons_zero, List.set_cons_succ]
                              go_big_quiet_skip
                              try simp only [Act.put, List.setIfInBounds_toArray, List.set_cons_zero, List.set_cons_succ]
                              go_big_quiet_skip
                              try simp only [Act.put, List.setIfInBounds_toArray, List.set_cons_zero, List.set_cons_succ]
                              go_big_quiet_skip
                              try simp only [Act.put, List.setIfInBounds_toArray, List.set_cons_zero, List.set_cons_succ]
                              go_big_quiet_skip
                              try simp only [Act.put, List.setIfInBounds_toArray, List.set_cons_zero, List.set_cons_succ]
                              go_big_quiet_skip
                              try simp only [Act.put, List.setIfInBounds_toArray, List.set_cons_zero, List.set_cons_succ]
                              go_big_quiet_skip
                              try simp only [Act.put, List.setIfInBounds_toArray, List.set_cons_zero, List.set_cons_succ]
                              go_big_quiet_skip
                              try simp only [Act.put, List.setIfInBounds_toArray, List.set_cons_zero, List.set_cons_succ]
                              go_big_quiet_skip
                              try simp only [Act.put, List.setIfInBounds_toArray, List.set_cons_zero, List.set_cons_succ]
                              go_big_quiet_skip
                              try simp only [Act.put, List.setIfInBounds_toArray, List.set_cons_zero, List.set_cons_succ]
                              refine qstep (o := ⟨some 152, _, _, _, _, _⟩) (v := .bool false) (by rfl) (fun wq hSw => ?_) ?_
                              · (go_simp; try first | (with_reducible rfl) | (simp; omega) | (intros; omega) | simp [*])
                              try simp only [Act.put, List.setIfInBounds_toArray, List.set_cons_zero, List.set_cons_succ]
                              refine wpQuiet_nil ?_
                              intro wz hHeld
                              have HK6 := Lib.hid hHeld
                              clear hHeld
                              go_wp2
                              go_roundw
                              case rel => exact ⟨j + 1, by omega, by go_num, HK5.out.trans HK6.out (fun _ _ h => h)⟩
                              case measure => simp [intOf]; omega
                        · have hjI : ¬ (j : Int) < (n : Int) := by omega
                          have HPt := Lib.hid ((HS4.out).potStep h6 (by omega) hnn HPI.out hin (HADV.out) HPOT.out)
                          go_wp2
                          go_roundw
                          case rel => exact ⟨k1, _, _, _, _, _, _, _, _, by have := HK18.out; have := HKN.out; omega, rfl, rfl, HL4.out, HS4.out, by rw [← HKN.out]; exact HPt.out, by have := HKN.out; omega, HM4.out.kept HK5.out (fun h => h) (fun h => h), HC5.out, HH5.out, HY5.out⟩
                          case measure => have := HK18.out; have := HKN.out; simp [intOf]; omega
                  · skip
                    obtain ⟨hp, hS', hadv⟩ := HS.out.dec hin hv2
                    have HS' := Lib.hid hS'
                    have HADV := Lib.hid hadv
                    have HPH := Lib.hid hp
                    clear hS' hadv hp
                    rw [hv2] at cst
                    have HM3 := Lib.hid HM2.out
                    have HC3 := Lib.hid HC2.out
                    have HY3 := Lib.hid HY2.out
                    obtain ⟨hv3, hhv3⟩ : ∃ f, hv = f := ⟨_, rfl⟩
                    rw [hhv3] at HH2 HS'
                    have HH3 := Lib.hid HH2.out
                    have HL4 := Lib.hid (show left (upd φ i (m + 1)) n = Lf from (left_same (by have := HPH.out; omega) (by omega)).trans HLF.out)
                    rcases (by omega : m = 0 ∨ m = 1 ∨ m = 2) with rfl | rfl | rfl
                    · replace cst : V2.cell? ⟨gh, i, none⟩ = some (.int .i64 2) := cst
                      have hKs := (Kept.refl (fun k => k = gh) V2).setCell (a := ⟨gh, i, none⟩) (fun _ => rfl) (.int .i64 1)
                      have HM4 := Lib.hid (HM3.out.kept hKs (fun h => by have := HGH.out; omega) (fun h => by have := HGH.out; omega))
                      have HC4 := Lib.hid (HC3.out.kept hKs (fun c hc k hz h => (HC3.out.lo c hc k hz).2.2.1 (.inr h)))
                      have HH4 := Lib.hid (show Blk (V2.setCell ⟨gh, i, none⟩ (.int .i64 1)) gh 3 (hvs (upd hv3 i 1) n) from by
                        have := HH3.out.set i (.int .i64 1)
                        rw [hvs_set] at this
                        exact this)
                      have HY4 := Lib.hid (HY3.out.trans hKs (fun k hk h => .inr (.inr (by have := HGH.out; have h2 : k = gh := h; omega))))
                      have zs := HH3.out.frozen i
                      clear hKs
                      clear HM3 HC3 HY3 HH3 HM2 HC2 HY2 HH2 hhv3 hv2
                      have HPt := Lib.hid ((HS'.out).potStep h6 (by omega) hnn HPI.out hin (HADV.out) HPOT.out)
                      go_wp2
                      go_roundw
                      case rel => exact ⟨k1, _, _, _, _, _, _, _, _, by have := HK18.out; have := HKN.out; omega, rfl, rfl, HL4.out, HS'.out, by rw [← HKN.out]; exact HPt.out, by have := HKN.out; omega, HM4.out, HC4.out, HH4.out, HY4.out⟩
                      case measure => have := HK18.out; have := HKN.out; simp [intOf]; omega
                    · replace cst : V2.cell? ⟨gh, i, none⟩ = some (.int .i64 3) := cst
                      have hKs := (Kept.refl (fun k => k = gh) V2).setCell (a := ⟨gh, i, none⟩) (fun _ => rfl) (.int .i64 2)
                      have HM4 := Lib.hid (HM3.out.kept hKs (fun h => by have := HGH.out; omega) (fun h => by have := HGH.out; omega))
                      have HC4 := Lib.hid (HC3.out.kept hKs (fun c hc k hz h => (HC3.out.lo c hc k hz).2.2.1 (.inr h)))
                      have HH4 := Lib.hid (show Blk (V2.setCell ⟨gh, i, none⟩ (.int .i64 2)) gh 3 (hvs (upd hv3 i 2) n) from by
                        have := HH3.out.set i (.int .i64 2)
                        rw [hvs_set] at this
                        exact this)
                      have HY4 := Lib.hid (HY3.out.trans hKs (fun k hk h => .inr (.inr (by have := HGH.out; have h2 : k = gh := h; omega))))
                      have zs := HH3.out.frozen i
                      clear hKs
                      clear HM3 HC3 HY3 HH3 HM2 HC2 HY2 HH2 hhv3 hv2
                      have HPt := Lib.hid ((HS'.out).potStep h6 (by omega) hnn HPI.out hin (HADV.out) HPOT.out)
                      go_wp2
                      go_roundw
                      case rel => exact ⟨k1, _, _, _, _, _, _, _, _, by have := HK18.out; have := HKN.out; omega, rfl, rfl, HL4.out, HS'.out, by rw [← HKN.out]; exact HPt.out, by have := HKN.out; omega, HM4.out, HC4.out, HH4.out, HY4.out⟩
                      case measure => have := HK18.out; have := HKN.out; simp [intOf]; omega
                    · replace cst : V2.cell? ⟨gh, i, none⟩ = some (.int .i64 4) := cst
                      have hKs := (Kept.refl (fun k => k = gh) V2).setCell (a := ⟨gh, i, none⟩) (fun _ => rfl) (.int .i64 3)
                      have HM4 := Lib.hid (HM3.out.kept hKs (fun h => by have := HGH.out; omega) (fun h => by have := HGH.out; omega))
                      have HC4 := Lib.hid (HC3.out.kept hKs (fun c hc k hz h => (HC3.out.lo c hc k hz).2.2.1 (.inr h)))
                      have HH4 := Lib.hid (show Blk (V2.setCell ⟨gh, i, none⟩ (.int .i64 3)) gh 3 (hvs (upd hv3 i 3) n) from by
                        have := HH3.out.set i (.int .i64 3)
                        rw [hvs_set] at this
                        exact this)
                      have HY4 := Lib.hid (HY3.out.trans hKs (fun k hk h => .inr (.inr (by have := HGH.out; have h2 : k = gh := h; omega))))
                      have zs := HH3.out.frozen i
                      clear hKs
                      clear HM3 HC3 HY3 HH3 HM2 HC2 HY2 HH2 hhv3 hv2
                      have HPt := Lib.hid ((HS'.out).potStep h6 (by omega) hnn HPI.out hin (HADV.out) HPOT.out)
                      go_wp2
                      go_roundw
                      case rel => exact ⟨k1, _, _, _, _, _, _, _, _, by have := HK18.out; have := HKN.out; omega, rfl, rfl, HL4.out, HS'.out, by rw [← HKN.out]; exact HPt.out, by have := HKN.out; omega, HM4.out, HC4.out, HH4.out, HY4.out⟩
                      case measure => have := HK18.out; have := HKN.out; simp [intOf]; omega
                  · skip
                    obtain ⟨hp, hsi, hS', hadv⟩ := HS.out.rel h4 h6 HLEN.out.2 hin hv1
                    have HS' := Lib.hid hS'
                    have HADV := Lib.hid hadv
                    have HPH := Lib.hid hp
                    rw [hv1] at cst
                    have hpos : 0 < hv i := by rw [hv1]; decide
                    clear hS' hadv hp hsi hv1
                    obtain ⟨howni, hsti⟩ := HS.out.holds hin hpos
                    obtain ⟨Pi, hPi⟩ : ∃ y, P i = y := ⟨_, rfl⟩
                    obtain ⟨ti, hti⟩ : ∃ y, t i = y := ⟨_, rfl⟩
                    rw [hPi, hti] at hsti
                    have HLAi := Lib.hid (HC2.out.mach i (by assumption))
                    rw [hsti] at HLAi
                    have HHDi := Lib.hid (show ∀ W, Kept (fun _ => False) V2 W → Calls Tryz.prog 16 #[.pointer (some ⟨x i, 0, none⟩)] W fun e w' => ∃ (A : Option Addr) (c : Nat), e = .returned (.agg #[.int .u64 (ti : Int), .int .u64 1, .int .i64 (Pi.lv : Int), .slice A Pi.xs.length c, .string Pi.hi, .bool Pi.la, .int .u64 (Pi.rt : Int)]) ∧ Kept (fun _ => False) W w' from fun W hW => by
                      refine (held_lck F h6 fb fd (Z i) (x i) (key i) 0 ti 1 _ W (HLAi.out.kept hW (fun _ _ h => h))).mono ?_
                      rintro e w' ⟨A, c, rfl, -, -, hk⟩
                      exact ⟨A, c, by rw [hval_got]; rfl, hk⟩)
                    have HPi := Lib.hid cpt
                    have hgx2 : gx < V2.heap.size := Nat.lt_of_lt_of_le HGX.out.2.2 HY2.out.size
                    have H112 := Lib.hid (HY2.out.blk H11.out (fun h => by have h1 := HBB.out; have h2 := HR.out; have h3 := HB.out; have h4 : r11 = b ∨ r11 = g ∨ (B ≤ r11 ∧ r11 ≠ gx) := h; omega))
                    have HTT := Lib.hid (show 1 ≤ ti ∧ ti ≤ 100 from by rw [← hti]; exact ⟨(HS.out.tgt i hin).one, (HS.out.tgt i hin).top⟩)
                    rw [hti] at HS' HADV
                    have HNODE := Lib.hid (show ∀ W, Calls Tryz.prog 22 #[.agg #[.int .i64 1, .int .i64 2, .int .i64 100, .int .i64 100, .int .i64 200, .int .i64 (F : Int), .int .u64 1000], .int .u64 (ti : Int), .int .i64 0] W fun e w' => e = .returned (.int .i64 (nla F ti)) ∧ Kept (fun _ => False) W w' from fun W =>
                      refNode_any 1 2 100 100 200 (F : Int) 1000 (ti : Int) 0 (limF h4 h6) (by omega) (by omega) (by omega) W)
                    have hlf := left_less hin (show 0 < φ i by have := HPH.out; omega)
                    obtain ⟨L1, hL1⟩ : ∃ L1, left (upd φ i 0) n = L1 := ⟨_, rfl⟩
                    rw [hL1] at hlf
                    have hw9 : IntKind.i64.wrap ((Lf : Int) - 1) = (L1 : Int) := by
                      have h1 := HLF.out
                      have h2 := left_le (φ := φ) (n := n)
                      rw [IntKind.wrap_i64]; omega
                    have HL1 := Lib.hid hL1
                    clear hlf hL1 hpos howni hsti hPi hti HLAi
                    go_upto_region 30 with fail
                    refine wp_region_held_drew (S := (fun w' => Kept (fun _ => False) V2 w')) (by kernel_rfl) ?_ (fun hHeld => ?_)
                    · exact (Kept.refl _ _).drew
                    have HW := Lib.hid ((Kept.refl (fun _ => False) V2).drew)
                    generalize V2.drew = G at *
                    refine wpAnyH_take (i := 0) (oi := ⟨some 171, _, _, _, _, _⟩) (v := ?_) rfl (by kernel_rfl) (by kernel_rfl) (by kernel_rfl) (fun _ _ _ h => h) (Or.inl ⟨by rfl, ?_⟩) hHeld ?_
                    rotate_left
                    · (intro wq hSw; have pi := (hSw.cell (p := ⟨gx, i, none⟩) hgx2 (fun h => h)).trans HPi.out; have hb9 := hSw.blk H112.out (fun h => h); have y0 := hb9.cell (i := 0) rfl; have y1 := hb9.cell (i := 1) rfl; have y2 := hb9.cell (i := 2) rfl; have y3 := hb9.cell (i := 3) rfl; have y4 := hb9.cell (i := 4) rfl; have y5 := hb9.cell (i := 5) rfl; have y6 := hb9.cell (i := 6) rfl; clear hb9; go_simp; try with_reducible rfl)
                    try simp only [Act.put, List.setIfInBounds_toArray, List.set_cons_zero, List.set_cons_succ]
                    refine wpAnyH_take (i := 1) (oi := ⟨some 172, _, _, _, _, _⟩) (v := ?_) rfl (by kernel_rfl) (by kernel_rfl) (by kernel_rfl) (fun _ _ _ h => h) (Or.inl ⟨by rfl, ?_⟩) hHeld ?_
                    rotate_left
                    · (intro wq hSw; go_simp; try with_reducible rfl)
                    try simp only [Act.put, List.setIfInBounds_toArray, List.set_cons_zero, List.set_cons_succ]
                    refine wpAnyH_take (i := 2) (oi := ⟨some 173, _, _, _, _, _⟩) (v := ?_) rfl (by kernel_rfl) (by kernel_rfl) (by kernel_rfl) (fun _ _ _ h => h) (Or.inl ⟨by rfl, ?_⟩) hHeld ?_
                    rotate_left
                    · (intro wq hSw; go_simp; try with_reducible rfl)
                    try simp only [Act.put, List.setIfInBounds_toArray, List.set_cons_zero, List.set_cons_succ]
                    refine wpAnyH_take (i := 3) (oi := ⟨some 174, _, _, _, _, _⟩) (v := ?_) rfl (by kernel_rfl) (by kernel_rfl) (by kernel_rfl) (fun _ _ _ h => h) (Or.inl ⟨by rfl, ?_⟩) hHeld ?_
                    rotate_left
                    · (intro wq hSw; go_simp; try with_reducible rfl)
                    try simp only [Act.put, List.setIfInBounds_toArray, List.set_cons_zero, List.set_cons_succ]
                    refine wpAnyH_take (i := 4) (oi := ⟨some 175, _, _, _, _, _⟩) (v := ?_) rfl (by kernel_rfl) (by kernel_rfl) (by kernel_rfl) (fun _ _ _ h => h) (Or.inl ⟨by rfl, ?_⟩) hHeld ?_
                    rotate_left
                    · (intro wq hSw; have pi := (hSw.cell (p := ⟨gx, i, none⟩) hgx2 (fun h => h)).trans HPi.out; have hb9 := hSw.blk H112.out (fun h => h); have y0 := hb9.cell (i := 0) rfl; have y1 := hb9.cell (i := 1) rfl; have y2 := hb9.cell (i := 2) rfl; have y3 := hb9.cell (i := 3) rfl; have y4 := hb9.cell (i := 4) rfl; have y5 := hb9.cell (i := 5) rfl; have y6 := hb9.cell (i := 6) rfl; clear hb9; go_simp; try with_reducible rfl)
                    try simp only [Act.put, List.setIfInBounds_toArray, List.set_cons_zero, List.set_cons_succ]
                    refine wpAnyH_take (i := 8) (oi := ⟨some 179, _, _, _, _, _⟩) (v := ?_) rfl (by kernel_rfl) (by kernel_rfl) (by kernel_rfl) (fun _ _ _ h => h) (Or.inl ⟨by rfl, ?_⟩) hHeld ?_
                    rotate_left
                    · (intro wq hSw; go_simp; try with_reducible rfl)
                    try simp only [Act.put, List.setIfInBounds_toArray, List.set_cons_zero, List.set_cons_succ]
                    refine wpAnyH_take (i := 9) (oi := ⟨some 180, _, _, _, _, _⟩) (v := ?_) rfl (by kernel_rfl) (by kernel_rfl) (by kernel_rfl) (fun _ _ _ h => h) (Or.inl ⟨by rfl, ?_⟩) hHeld ?_
                    rotate_left
                    · (intro wq hSw; go_simp; try with_reducible rfl)
                    try simp only [Act.put, List.setIfInBounds_toArray, List.set_cons_zero, List.set_cons_succ]
                    refine wpAnyH_take (i := 10) (oi := ⟨some 181, _, _, _, _, _⟩) (v := ?_) rfl (by kernel_rfl) (by kernel_rfl) (by kernel_rfl) (fun _ _ _ h => h) (Or.inl ⟨by rfl, ?_⟩) hHeld ?_
                    rotate_left
                    · (intro wq hSw; go_simp; try with_reducible rfl)
                    try simp only [Act.put, List.setIfInBounds_toArray, List.set_cons_zero, List.set_cons_succ]
                    refine wpAnyH_take (i := 11) (oi := ⟨some 182, _, _, _, _, _⟩) (v := ?_) rfl (by kernel_rfl) (by kernel_rfl) (by kernel_rfl) (fun _ _ _ h => h) (Or.inl ⟨by rfl, ?_⟩) hHeld ?_
                    rotate_left
                    · (intro wq hSw; have pi := (hSw.cell (p := ⟨gx, i, none⟩) hgx2 (fun h => h)).trans HPi.out; have hb9 := hSw.blk H112.out (fun h => h); have y0 := hb9.cell (i := 0) rfl; have y1 := hb9.cell (i := 1) rfl; have y2 := hb9.cell (i := 2) rfl; have y3 := hb9.cell (i := 3) rfl; have y4 := hb9.cell (i := 4) rfl; have y5 := hb9.cell (i := 5) rfl; have y6 := hb9.cell (i := 6) rfl; clear hb9; go_simp; try with_reducible rfl)
                    try simp only [Act.put, List.setIfInBounds_toArray, List.set_cons_zero, List.set_cons_succ]
                    refine wpAnyH_ready (rs := [5]) (by kernel_rfl) (by simp) ?_
                    refine AllReadyH.cons (o := ⟨some 176, _, _, _, _, _⟩) rfl (fun KK hK => ?_) AllReadyH.nil
                    go_simp
                    go_at_call 16
                    refine (HHDi.out _ HW.out).mono ?_; rintro e G1 ⟨A1, c1, rfl, hK1⟩
                    replace HW := Lib.hid (HW.out.trans hK1 (fun _ _ h => h))
                    have hf1 := hfieldI (ti : Int) 1 (Pi.lv : Int) A1 Pi.xs.length c1 Pi.hi Pi.la (Pi.rt : Int)
                    have hg1 := hfieldW (ti : Int) 1 (Pi.lv : Int) A1 Pi.xs.length c1 Pi.hi Pi.la (Pi.rt : Int)
                    clear hK1
                    refine hK.out _ _ ?_ (fun hHeld2 => ?_)
                    · exact HW.out
                    clear hK KK hHeld
                    have hHeld := hHeld2
                    clear hHeld2
                    try simp only [Act.put, List.setIfInBounds_toArray, List.set_cons_zero, List.set_cons_succ]
                    refine wpAnyH_take (i := 6) (oi := ⟨some 177, _, _, _, _, _⟩) (v := .int .u64 (ti : Int)) rfl (by kernel_rfl) (by kernel_rfl) (by kernel_rfl) (fun _ _ _ h => h) (Or.inl ⟨by rfl, ?_⟩) hHeld ?_
                    · (intro wq hSw; go_simp; try first | (with_reducible rfl) | (simp; omega) | (intros; omega) | simp [*])
                    try simp only [Act.put, List.setIfInBounds_toArray, List.set_cons_zero, List.set_cons_succ]
                    refine wpAnyH_ready (rs := [7]) (by kernel_rfl) (by simp) ?_
                    refine AllReadyH.cons (o := ⟨some 178, _, _, _, _, _⟩) rfl (fun KK hK => ?_) AllReadyH.nil
                    go_simp
                    go_at_call 22
                    refine (HNODE.out _).mono ?_; rintro e G2 ⟨rfl, hK9⟩
                    replace HW := Lib.hid (HW.out.trans hK9 (fun _ _ h => h))
                    clear hK9
                    refine hK.out _ _ ?_ (fun hHeld2 => ?_)
                    · exact HW.out
                    clear hK KK hHeld
                    have hHeld := hHeld2
                    clear hHeld2
                    try simp only [Act.put, List.setIfInBounds_toArray, List.set_cons_zero, List.set_cons_succ]
                    refine wpAnyH_ready (rs := [12]) (by kernel_rfl) (by simp) ?_
                    refine AllReadyH.cons (o := ⟨some 183, _, _, _, _, _⟩) rfl (fun KK hK => ?_) AllReadyH.nil
                    go_simp
                    go_at_call 16
                    refine (HHDi.out _ HW.out).mono ?_; rintro e G3 ⟨A3, c3, rfl, hK3⟩
                    replace HW := Lib.hid (HW.out.trans hK3 (fun _ _ h => h))
                    have hf3 := hfieldI (ti : Int) 1 (Pi.lv : Int) A3 Pi.xs.length c3 Pi.hi Pi.la (Pi.rt : Int)
                    have hg3 := hfieldW (ti : Int) 1 (Pi.lv : Int) A3 Pi.xs.length c3 Pi.hi Pi.la (Pi.rt : Int)
                    clear hK3
                    refine hK.out _ _ ?_ (fun hHeld2 => ?_)
                    · exact HW.out
                    clear hK KK hHeld
                    have hHeld := hHeld2
                    clear hHeld2
                    try simp only [Act.put, List.setIfInBounds_toArray, List.set_cons_zero, List.set_cons_succ]
                    refine wpAnyH_take (i := 13) (oi := ⟨some 184, _, _, _, _, _⟩) (v := .int .u64 1) rfl (by kernel_rfl) (by kernel_rfl) (by kernel_rfl) (fun _ _ _ h => h) (Or.inl ⟨by rfl, ?_⟩) hHeld ?_
                    · (intro wq hSw; go_simp; try first | (with_reducible rfl) | (simp; omega) | (intros; omega) | simp [*])
                    try simp only [Act.put, List.setIfInBounds_toArray, List.set_cons_zero, List.set_cons_succ]
                    refine wpAnyH_ready (rs := [14]) (by kernel_rfl) (by simp) ?_
                    refine AllReadyH.cons (o := ⟨some 185, _, _, _, _, _⟩) rfl (fun KK hK => ?_) AllReadyH.nil
                    go_simp
                    go_at_call 31
                    refine (newRelease_any (nla F ti) 1 _).mono ?_; rintro e G4 ⟨rfl, rfl⟩
                    have HRR := Lib.hid (show RelB (G3.alloc (.cells ⟨relv (nla F ti) 1 false⟩ 120)) G3.heap.size (nla F ti) 1 false from Blk.new G3 (relv (nla F ti) 1 false) 120)
                    have HRZ := Lib.hid (show V2.heap.size ≤ G3.heap.size from HW.out.size)
                    replace HW := Lib.hid (HW.out.alloc (.cells ⟨relv (nla F ti) 1 false⟩ 120))
                    generalize G3.heap.size = rr at *
                    generalize G3.alloc (.cells ⟨relv (nla F ti) 1 false⟩ 120) = V3 at *
                    refine hK.out _ _ ?_ (fun hHeld2 => ?_)
                    · exact HW.out
                    clear hK KK hHeld
                    have hHeld := hHeld2
                    clear hHeld2
                    try simp only [Act.put, List.setIfInBounds_toArray, List.set_cons_zero, List.set_cons_succ]
                    refine wpAnyH_take (i := 15) (oi := ⟨some 24, _, _, _, _, _⟩) (v := ?_) rfl (by kernel_rfl) (by kernel_rfl) (by kernel_rfl) (fun _ _ _ h => h) (Or.inl ⟨by rfl, ?_⟩) hHeld ?_
                    rotate_left
                    · (intro wq hSw; go_simp; try with_reducible rfl)
                    try simp only [Act.put, List.setIfInBounds_toArray, List.set_cons_zero, List.set_cons_succ]
                    refine wpAnyH_done (by kernel_rfl) ?_ _
                    clear hHeld
                    have HC3 := Lib.hid (HC2.out.keptF HW.out)
                    have HM3 := Lib.hid (HM2.out.kept HW.out (fun h => h) (fun h => h))
                    have HH3 := Lib.hid (HW.out.blk HH2.out (fun h => h))
                    have HY3 := Lib.hid (HY2.out.trans HW.out (fun _ _ h => h.elim))
                    try clear hHeld
                    have hb2 := HM2.out.obj.lt
                    have hg2 := HM2.out.row.lt
                    have hh2 := HH2.out.lt
                    have HRB := Lib.hid (show rr ≠ b ∧ rr ≠ g ∧ rr ≠ gh ∧ rr ≠ gx from by have := HRZ.out; omega)
                    have HRZ2 := Lib.hid (show B ≤ rr from by have h1 := HGX.out; have h3 := HY2.out.size; have := HRZ.out; omega)
                    have HRZ3 := Lib.hid (fun c hc (hz : Z c rr) => by have h1 := (HC2.out.lo c hc rr hz).2.1; have := HRZ.out; omega : ∀ c, c < n → Z c rr → False)
                    clear HM2 HC2 HH2 HY2 HW hb2 hg2 hh2 hgx2 H112 HPi cpt
                    go_wp2_with fail
                    refine (relStep_any rr b g l9 ac (nla F ti) 1 V3 HRR.out HM3.out HRB.out.1 HRB.out.2.1 (by have := HK18.out; omega) (by omega)).mono ?_; rintro e V4 ⟨rfl, hM4, hR4, hK4⟩
                    replace HM3 := Lib.hid hM4
                    replace HC3 := Lib.hid (HC3.out.kept hK4 (fun c hc k hz h => by
                      have h1 := HC3.out.lo c hc k hz
                      rcases h with h | h | h
                      · exact HRZ3.out c hc (by rw [← h]; exact hz)
                      · omega
                      · omega))
                    replace HH3 := Lib.hid (hK4.blk HH3.out (fun h => by
                      have h1 := HRB.out
                      have h2 := HGH.out
                      rcases h with h | h | h <;> omega))
                    replace HY3 := Lib.hid (HY3.out.trans hK4 (fun k hk h => by
                      have h1 := HRB.out
                      have h2 := HRZ2.out
                      rcases h with h | h | h
                      · exact .inr (.inr (by omega))
                      · exact .inl h
                      · exact .inr (.inl h)))
                    clear hM4 hR4 hK4 HRR
                    obtain ⟨hv3, hhv3⟩ : ∃ f, hv = f := ⟨_, rfl⟩
                    rw [hhv3] at HH3 HS'
                    clear cst hhv3
                    have hKs := (Kept.refl (fun k => k = gh) V4).setCell (a := ⟨gh, i, none⟩) (fun _ => rfl) (.int .i64 (-1))
                    have HM4 := Lib.hid (HM3.out.kept hKs (fun h => by have := HGH.out; omega) (fun h => by have := HGH.out; omega))
                    have HC4 := Lib.hid (HC3.out.kept hKs (fun c hc k hz h => (HC3.out.lo c hc k hz).2.2.1 (.inr h)))
                    have HH4 := Lib.hid (show Blk (V4.setCell ⟨gh, i, none⟩ (.int .i64 (-1))) gh 3 (hvs (upd hv3 i (-1)) n) from by
                      have := HH3.out.set i (.int .i64 (-1))
                      rw [hvs_set] at this
                      exact this)
                    have HY4 := Lib.hid (HY3.out.trans hKs (fun k hk h => .inr (.inr (by have := HGH.out; have h2 : k = gh := h; omega))))
                    have xs := HH3.out.cell (hvs_at hin)
                    have zs := HH3.out.frozen i
                    clear hKs
                    clear HM3 HC3 HH3 HY3
                    have HPt := Lib.hid ((HS'.out).potStep h6 (by omega) hnn HPI.out hin (HADV.out) HPOT.out)
                    go_wp2
                    go_roundw
                    case rel => exact ⟨k1, _, _, _, _, _, _, _, _, by have := HK18.out; have := HKN.out; omega, rfl, rfl, HL1.out, HS'.out, by rw [← HKN.out]; exact HPt.out, by have := HKN.out; omega, HM4.out, HC4.out, HH4.out, HY4.out⟩
                    case measure => have := HK18.out; have := HKN.out; simp [intOf]; omega
                  · skip
                    have hp := HS.out.idle hin hvm
                    rw [hvm] at cst
                    have HPH := Lib.hid hp
                    have HADV := Lib.hid (show Adv n t φ h φ h i from .inr ⟨fun e => by have := e.1; have := HPH.out; omega, rfl, fun _ _ e => e⟩)
                    clear hp hvm
                    have HPt := Lib.hid ((HS.out).potStep h6 (by omega) hnn HPI.out hin (HADV.out) HPOT.out)
                    go_wp2
                    go_roundw
                    case rel => exact ⟨k1, _, _, _, _, _, _, _, _, by have := HK18.out; have := HKN.out; omega, rfl, rfl, HLF.out, HS.out, by rw [← HKN.out]; exact HPt.out, by have := HKN.out; omega, HM2.out, HC2.out, HH2.out, HY2.out⟩
                    case measure => have := HK18.out; have := HKN.out; simp [intOf]; omega
              · skip
                have hL0 : Lf = 0 := by omega
                have d1 : ¬ (0 : Int) < (Lf : Int) := by omega
                have d2 : ((Lf : Int) == 0) = true := by simp [hL0]
                have hall := left_zero (φ := φ) (n := n) (by rw [HLF.out]; exact hL0)
                have hl9 := HS.out.over HZ.out hall
                have HMe := Lib.hid (show Mem V2 b g l2 ac from by rw [← hl9]; exact HM2.out)
                have H112 := HY2.out.blk H11.out (fun h => by have h1 := HBB.out; have h2 := HR.out; have h3 := HB.out; have h4 : r11 = b ∨ r11 = g ∨ (B ≤ r11 ∧ r11 ≠ gx) := h; omega)
                have y0 := H112.cell (i := 0) rfl
                have y1 := H112.cell (i := 1) rfl
                have y2 := H112.cell (i := 2) rfl
                have y3 := H112.cell (i := 3) rfl
                have y4 := H112.cell (i := 4) rfl
                have y5 := H112.cell (i := 5) rfl
                have y6 := H112.cell (i := 6) rfl
                have HKe := Lib.hid (HK.out.trans (HK0.out.trans HY2.out (fun _ _ h => h)) (fun k hk h => by
                  have h1 := HBB.out
                  have h2 := HB.out
                  have h3 := HR.out
                  rcases h with h | h | h <;> omega))
                obtain ⟨nl, hnl⟩ : ∃ nl, l2.length = nl := ⟨_, rfl⟩
                have hnl20 : nl ≤ 1048576 := by rw [← hnl]; exact HLEN.out.1
                have HNL := Lib.hid hnl
                clear H112 hL0 hall hl9 hnl HS HM2 HC2 HH2 HY2
                go_wp2_with fail
                refine (view_any F b g l2 ac nl HNL.out (by omega) _ HMe.out).mono ?_; rintro e w8 ⟨gv, rfl, hBv, hgv, hKv⟩
                have HBV := Lib.hid hBv
                replace HKe := Lib.hid (HKe.out.trans hKv (fun _ _ h => h.elim))
                clear hBv hgv hKv y0 y1 y2 y3 y4 y5 y6
                go_wp2_with fail
                refine (vsound_all F h4 h6 gv nl l2 HNL.out H st mm lo pg HT.out ks off HLV.out HZ.out HHI.out HRE.out (by have := HKF.out.1; omega) _ HBV.out).mono ?_; rintro e w9 ⟨rfl, hK9⟩
                replace HKe := Lib.hid (HKe.out.trans hK9 (fun _ _ h => h.elim))
                clear hK9
                go_wp2
                go_ret
                exact ⟨rfl, HKe.out.below (Nat.le_refl _) (fun _ h => h)⟩

end Go.Proofs.YtndadgenkmgmaaaGreat
