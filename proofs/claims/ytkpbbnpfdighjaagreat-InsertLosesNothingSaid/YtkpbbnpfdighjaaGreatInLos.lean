/-
  InsertLosesNothing, walked. Condition: arguments within the model's reach.
-/
import Derived.Test.YtkpbbnpfdighjaaGreatInAwk
import Derived.Test.YtkpbbnpfdighjaaGreatInWd
import Derived.Test.YtkpbbnpfdighjaaGreatLkMcs
import Derived.Deep.CutBlock
namespace Go.Proofs.YtkpbbnpfdighjaaGreat
open Go.RowKit Go.Deep Plain
set_option linter.unusedVariables false

set_option maxRecDepth 100000 in
set_option maxHeartbeats 8000000 in
theorem lawLoses (w : World) (AR : Option Addr) (nR cR : Nat) (ss : List ByteArray) (hnR : ss.length = nR) (hrd : Rdv w w.heap.size (.slice AR nR cR) nR (ss.map Value.string)) (hsz : ∀ s ∈ ss, s.size ≤ maxLen) (f : Int) (key0 : ByteArray) (hkey : key0.size ≤ maxLen) (at' : Int) (AP : Option Addr) (cP : Nat) (ps : List Nat) (hpm : ps.length ≤ maxLen) (hps : ∀ x ∈ ps, x < 256) (hpa : 0 < ps.length → ∃ g off, AP = some ⟨g, off, none⟩ ∧ g < w.heap.size ∧ ∀ (j p : Nat), ps[j]? = some p → w.cell? ⟨g, off + j, none⟩ = some (.int .u8 (p : Int))) :
    Calls Tryz.prog 4 #[.slice AR nR cR, .int .i64 f, .string key0, .int .i64 at', .slice AP ps.length cP] w fun e w' => e = .returned (.bool true) ∧ Below w.heap.size w w' := by
  unfold maxLen at hkey hpm
  have HPS := Lib.hid hps
  have HPA := Lib.hid hpa
  clear hps hpa
  obtain ⟨F, hF⟩ : ∃ F : Nat, 4 + f % 3 = (F : Int) := ⟨(4 + f % 3).toNat, by omega⟩
  have h4 : 4 ≤ F := by omega
  have h6 : F ≤ 6 := by omega
  have HF := Lib.hid hF
  have HRD := Lib.hid hrd
  have HSS := Lib.hid hsz
  clear hF hrd hsz
  go_enter Tryz.func4, Tryz.ntmps4
  go_wp2_with fail
  refine (kitConfig_any 1 f F HF.out _).mono ?_; rintro e w1 ⟨rfl, hK1⟩
  have HK := Lib.hid (hK1.mono (T := (fun i => w.heap.size ≤ i)) (fun _ h => h.elim))
  replace HRD := Lib.hid (HRD.out.keptN hK1 (Nat.le_refl _))
  have HW1 := Lib.hid HK.out.size
  clear hK1 HF
  go_wp2_with fail
  have hal := (Kept.refl (fun _ => False) w1).alloc (.cells #[.int .i64 1, .int .i64 2, .int .i64 100, .int .i64 100, .int .i64 200, .int .i64 (F : Int), .int .u64 1000] 26)
  have H11 := Lib.hid (Blk.new w1 [.int .i64 1, .int .i64 2, .int .i64 100, .int .i64 100, .int .i64 200, .int .i64 (F : Int), .int .u64 1000] 26)
  replace HRD := Lib.hid (HRD.out.keptN hal (Nat.le_refl _))
  replace HK := Lib.hid (HK.out.trans hal (fun _ _ h => h.elim))
  clear hal
  generalize hr11 : w1.heap.size = r11 at *
  generalize w1.alloc (.cells #[.int .i64 1, .int .i64 2, .int .i64 100, .int .i64 100, .int .i64 200, .int .i64 (F : Int), .int .u64 1000] 26) = W1 at *
  have HR11 := Lib.hid (show w.heap.size ≤ r11 ∧ r11 < W1.heap.size from ⟨HW1.out, H11.out.lt⟩)
  clear hr11
  refine (kitMem3 F h4 h6 _).mono ?_
  rintro e w2 ⟨b, g, l, fb, fd, rfl, hM2, hS2, hr2, hd, hb2, hg2, hK2⟩
  have HM := Lib.hid hM2
  have HS := Lib.hid hS2
  have HRT := Lib.hid hr2
  have HD := Lib.hid hd
  have HBG := Lib.hid (show r11 < b ∧ r11 < g ∧ b < w2.heap.size ∧ g < w2.heap.size by have h1 := HR11.out; have h2 := hM2.obj.lt; have h3 := hM2.row.lt; omega)
  replace HRD := Lib.hid (HRD.out.keptN hK2 (Nat.le_refl _))
  replace HK := Lib.hid (HK.out.trans hK2 (fun _ _ h => h.elim))
  replace H11 := Lib.hid (hK2.blk H11.out (fun h => h))
  clear hM2 hS2 hr2 hd hb2 hg2 hK2
  go_upto_region 3 with fail
  have hal := (Kept.refl (fun _ => False) w2).alloc (.cells #[.int .i64 1, .int .i64 2, .int .i64 100, .int .i64 100, .int .i64 200, .int .i64 (F : Int), .int .u64 1000, .int .i64 10, .int .i64 fb, .int .i64 fd] 29)
  have H12 := Lib.hid (Blk.new w2 [.int .i64 1, .int .i64 2, .int .i64 100, .int .i64 100, .int .i64 200, .int .i64 (F : Int), .int .u64 1000, .int .i64 10, .int .i64 fb, .int .i64 fd] 29)
  replace HRD := Lib.hid (HRD.out.keptN hal (Nat.le_refl _))
  replace HK := Lib.hid (HK.out.trans hal (fun _ _ h => h.elim))
  replace H11 := Lib.hid (hal.blk H11.out (fun h => h))
  replace HM := Lib.hid (HM.out.kept hal (fun h => h) (fun h => h))
  clear hal
  generalize hr12 : w2.heap.size = r12 at *
  have HR := Lib.hid (show w.heap.size ≤ r11 ∧ r11 < b ∧ r11 < g ∧ b < r12 ∧ g < r12 by have h1 := HR11.out; have h2 := HBG.out; omega)
  clear hr12 HBG HR11
  generalize w2.alloc (.cells #[.int .i64 1, .int .i64 2, .int .i64 100, .int .i64 100, .int .i64 200, .int .i64 (F : Int), .int .u64 1000, .int .i64 10, .int .i64 fb, .int .i64 fd] 29) = W2 at *
  have HM0 := Lib.hid HM.out
  have hx11 := H11.out
  have x0 := hx11.cell (i := 0) rfl
  have x1 := hx11.cell (i := 1) rfl
  have x2 := hx11.cell (i := 2) rfl
  have x3 := hx11.cell (i := 3) rfl
  have x4 := hx11.cell (i := 4) rfl
  have x5 := hx11.cell (i := 5) rfl
  have x6 := hx11.cell (i := 6) rfl
  clear hx11
  go_wp2_with fail
  refine (keys_any AR nR cR ss F _ hnR (by omega) HRD.out HSS.out).mono ?_; rintro e w5 ⟨vk, rfl, hO3, hB3⟩
  have hK3 := Below.kept hB3 (S := fun _ => False) (fun i hi h => by omega)
  replace HK := Lib.hid (HK.out.trans hK3 (fun _ _ h => h.elim))
  replace H11 := Lib.hid (hK3.blk H11.out (fun h => h))
  replace H12 := Lib.hid (hK3.blk H12.out (fun h => h))
  replace HM := Lib.hid (HM.out.kept hK3 (fun h => h) (fun h => h))
  obtain ⟨AK, cK, rfl, hKr, hAK⟩ := keys_read hO3
  obtain ⟨ks, hks⟩ : ∃ ks, keysOf (ss.take F) = ks := ⟨_, rfl⟩
  have hks' : (PlainE.keysE (ss.take F)).map (·.1) = ks := by rw [← hks]; unfold keysOf; rw [List.take_take, show min 40 F = F from by omega]
  have hkF : ks.length ≤ F := by
    rw [← hks', List.length_map]
    have := PlainE.keysE_len (ss.take F)
    rw [List.length_take] at this; omega
  rw [hks'] at hKr
  rw [hks']
  obtain ⟨nk, hnk⟩ : ∃ nk, ks.length = nk := ⟨_, rfl⟩
  rw [hnk] at hkF ⊢
  have HKR := Lib.hid hKr
  have HAK := Lib.hid (show ∀ a, AK = some a → a.block ≠ b ∧ a.block ≠ g from fun a ha => by
    have h1 := hAK a ha
    have h2 := HM0.out.obj.lt
    have h3 := HM0.out.row.lt
    omega)
  have HKF := Lib.hid (show (∀ k ∈ ks, k.size ≤ 32) ∧ ∀ i a b, ks[i]? = some a → ks[i + 1]? = some b → kl a b = true from by rw [← hks]; exact keysOf_facts _)
  have HNK := Lib.hid hnk
  clear hO3 hB3 hK3 hKr hAK hks hks' hnk HRD HSS HM0 x0 x1 x2 x3 x4 x5 x6
  go_wp2_with fail
  refine (awake13_any _).mono ?_; rintro e w6 ⟨rfl, hKa⟩
  replace HK := Lib.hid (HK.out.trans hKa (fun _ _ h => h.elim))
  replace H11 := Lib.hid (hKa.blk H11.out (fun h => h))
  replace H12 := Lib.hid (hKa.blk H12.out (fun h => h))
  replace HM := Lib.hid (HM.out.kept hKa (fun h => h) (fun h => h))
  replace HKR := Lib.hid (HKR.out.kept hKa (fun _ _ h => h))
  clear hKa
  by_cases hn2 : nk < 2
  · have d0 : (nk : Int) < 2 := by omega
    go_wp2_with fail
    refine (awake13_any _).mono ?_; rintro e w9 ⟨rfl, hKa⟩
    replace HK := Lib.hid (HK.out.trans hKa (fun _ _ h => h.elim))
    go_wp2
    go_ret
    exact ⟨rfl, HK.out.below (Nat.le_refl _) (fun _ h => h)⟩
  · have d0 : ¬ (nk : Int) < 2 := by omega
    by_cases hp100 : 200 < ps.length
    · have d1 : (200 : Int) < (ps.length : Int) := by omega
      go_wp2_with fail
      refine (awake13_any _).mono ?_; rintro e w9 ⟨rfl, hKa⟩
      replace HK := Lib.hid (HK.out.trans hKa (fun _ _ h => h.elim))
      go_wp2
      go_ret
      exact ⟨rfl, HK.out.below (Nat.le_refl _) (fun _ h => h)⟩
    · have d1 : ¬ (200 : Int) < (ps.length : Int) := by omega
      obtain ⟨mq, hmq⟩ : ∃ mq : Nat, min key0.size 32 = mq := ⟨_, rfl⟩
      have hmq2 : (min (key0.size : Int) 32) = (mq : Int) := by omega
      have hmq3 : mq ≤ key0.size ∧ mq ≤ 32 := by omega
      clear hmq
      go_upto_region 6 with fail
      rename World => W3
      go_cut [2] from 64 to 68 (fun v wx => ∃ kk : ByteArray, v = .string kk ∧ kk.size ≤ 32 ∧ wx = W3)
      case first =>
        go_wp2
        all_goals (go_meet; exact ⟨_, rfl, (by first | omega | (rw [ByteArray.size_extract]; omega)), rfl⟩)
      case rest =>
        obtain ⟨key, rfl, hksz, rfl⟩ := hcut
        rename World => W3
        have HKS := Lib.hid hksz
        have hb3 := HM.out.obj.lt
        have hg3 := HM.out.row.lt
        have h113 := H11.out.lt
        have h123 := H12.out.lt
        have hw3 := HK.out.size
        have HS3 := Lib.hid (show b < W3.heap.size ∧ g < W3.heap.size ∧ r11 < W3.heap.size ∧ r12 < W3.heap.size ∧ w.heap.size ≤ W3.heap.size from ⟨hb3, hg3, h113, h123, hw3⟩)
        clear hb3 hg3 h113 h123 hw3 hksz hmq2 hmq3
        have HGK0 := Lib.hid (show ∀ gk off, AK = some ⟨gk, off, none⟩ → 0 < nk → gk < W3.heap.size from fun gk off he hp => by
          obtain ⟨g9, o9, e9, h9, -⟩ := HKR.out (by rw [HNK.out]; exact hp)
          rw [e9] at he; cases he; exact h9)
        go_upto_region 8 with fail
        have hal := (Kept.refl (fun _ => False) W3).alloc (.cells #[.int .i64 0, .slice none 0 0, .string ⟨#[]⟩, .bool true, .int .u64 0] 40)
        have H15 := Lib.hid (Blk.new W3 [.int .i64 0, .slice none 0 0, .string ⟨#[]⟩, .bool true, .int .u64 0] 40)
        replace HK := Lib.hid (HK.out.trans hal (fun _ _ h => h.elim))
        replace H11 := Lib.hid (hal.blk H11.out (fun h => h))
        replace H12 := Lib.hid (hal.blk H12.out (fun h => h))
        replace HM := Lib.hid (HM.out.kept hal (fun h => h) (fun h => h))
        replace HKR := Lib.hid (HKR.out.kept hal (fun _ _ h => h))
        clear hal
        generalize hr15 : W3.heap.size = r15 at *
        generalize W3.alloc (.cells #[.int .i64 0, .slice none 0 0, .string ⟨#[]⟩, .bool true, .int .u64 0] 40) = W5 at *
        have HZ15 := Lib.hid (show r15 < W5.heap.size from H15.out.lt)
        have HGK := Lib.hid (show ∀ gk off, AK = some ⟨gk, off, none⟩ → 0 < nk → gk < r15 from HGK0.out)
        have HRK := Lib.hid (show ∀ gk off, AK = some ⟨gk, off, none⟩ → 0 < nk → gk < W5.heap.size from fun gk off he hp => by
          obtain ⟨g9, o9, e9, h9, -⟩ := HKR.out (by rw [HNK.out]; exact hp)
          rw [e9] at he; cases he; exact h9)
        clear hr15
        obtain ⟨i0, hi0, hz0, hz1, hz2⟩ := info_parts Tryz.info38
        have HI0 := Lib.hid hi0
        have HI1 := Lib.hid hz0
        have HI2 := Lib.hid hz1
        have HI3 := Lib.hid hz2
        clear hi0 hz0 hz1 hz2
        go_wp2_with fail
        go_loopw [16] (fun iv wr => ∃ (j : Nat) (v15 : Value), j ≤ nk ∧ iv = .int .i64 (j : Int) ∧ Blk wr r15 40 [.int .i64 0, v15, .string ⟨#[]⟩, .bool true, .int .u64 0] ∧ wr.ownsRow W5.heap.size 38 2 v15 j (flat (slotsOf (ks.take j))) ∧ (∀ q kq, q < j → ks[q]? = some kq → (kq.toList == key.toList) = false) ∧ Kept (fun k => k = r15 ∨ W5.heap.size ≤ k) W5 wr) (fun iv _ => nk - (intOf iv).toNat)
        case atStart => exact ⟨0, _, Nat.zero_le _, rfl, H15.out, World.ownsRow_nil _ _ _ _, fun q kq h => by omega, Kept.refl _ _⟩
        case round =>
          rename World => V1
          obtain ⟨j, v15, hj, rfl, h15, hO, hne, hKV⟩ := hrel
          replace H15 := Lib.hid h15
          have HO := Lib.hid hO
          have HNE := Lib.hid hne
          have HKV := Lib.hid hKV
          have HZV1 := Lib.hid hKV.size
          clear h15 hO hne hKV
          by_cases hlt : j < nk
          · have hjI : (j : Int) < (nk : Int) := by omega
            obtain ⟨gk, off, rfl, hgk, hkc⟩ := HKR.out (by have := HNK.out; omega)
            obtain ⟨kj, hkj⟩ : ∃ k, ks[j]? = some k := ⟨_, List.getElem?_eq_getElem (by have := HNK.out; omega)⟩
            have hrk : gk ≠ r15 := by have h1 := HGK.out gk off rfl (by omega); omega
            have hkc1 : V1.cell? ⟨gk, off + j, none⟩ = some (.string kj) := (HKV.out.cell (p := ⟨gk, off + j, none⟩) hgk (fun h => by rcases h with h | h; exact hrk h; have h2 : W5.heap.size ≤ gk := h; omega)).trans (hkc j kj hkj)
            have hgk1 : gk < V1.heap.size := by have := HZV1.out; omega
            have HKC := Lib.hid hkc1
            have HKI := Lib.hid hkj
            by_cases heq : (kj.toList == key.toList) = true
            · clear hkc hkj hrk
              go_wp2
              go_ret
              exact ⟨rfl, (HK.out.trans HKV.out (fun k hk h => by have h1 := HS3.out; have h2 := HZ15.out; rcases h with h | h <;> omega)).below (Nat.le_refl _) (fun _ h => h)⟩
            · have heq' : (kj.toList == key.toList) = false := by simpa using heq
              have HEQ := Lib.hid heq'
              obtain ⟨j1, hj1⟩ : ∃ j1, j + 1 = j1 := ⟨_, rfl⟩
              have HJ1 := Lib.hid hj1
              have hwi : IntKind.i64.wrap ((j : Int) + 1) = (j1 : Int) := by rw [IntKind.wrap_i64]; omega
              have hwj : (j : Int) + 1 = (j1 : Int) := by omega
              have hwu : IntKind.u64.wrap (j1 : Int) = (j1 : Int) := by rw [IntKind.wrap_u64]; omega
              have hwi2 : IntKind.i64.wrap (j1 : Int) = (j1 : Int) := by rw [IntKind.wrap_i64]; omega
              clear hj1
              clear hkc hkj hrk heq
              go_upto_region 13 with fail
              clear heq' hkc1
              refine region_E 13 (fun w' => Kept (fun k => v15.ownBlock = some k) V1 w') (by kernel_rfl) ?_ (fun hHeld => ?_)
              · exact ((Kept.refl (fun _ => False) _).drew).mono (fun _ h => h.elim)
              have H15V := Lib.hid H15.out
              have hdr := (Kept.refl (fun _ => False) V1).drew
              have HW := Lib.hid (hdr.mono (T := fun k => v15.ownBlock = some k) (fun _ h => h.elim))
              have HOd := Lib.hid (own_kept HO.out hdr (fun _ _ h => h))
              have HOV := Lib.hid HO.out
              replace HO := Lib.hid HOd.out
              replace H15 := Lib.hid (hdr.blk H15.out (fun h => h))
              clear hdr
              generalize V1.drew = G at *
              refine anyE_take (i := 0) (oi := ⟨some 82, _, _, _, _, _⟩) (v := ?_) rfl (by kernel_rfl) (by kernel_rfl) (by kernel_rfl) (by kernel_rfl) (fun _ _ _ h => h) (Or.inl ⟨by rfl, ?_⟩) hHeld ?_
              rotate_left
              · (intro wq hSw; go_simp; try with_reducible rfl)
              try simp only [Act.put, List.setIfInBounds_toArray, List.set_cons_zero, List.set_cons_succ]
              refine anyE_take (i := 1) (oi := ⟨some 83, _, _, _, _, _⟩) (v := ?_) rfl (by kernel_rfl) (by kernel_rfl) (by kernel_rfl) (by kernel_rfl) (fun _ _ _ h => h) (Or.inl ⟨by rfl, ?_⟩) hHeld ?_
              rotate_left
              · (intro wq hSw; have hb9 := hSw.blk H15V.out (fun h => by have h1 := (HOV.out.lt r15 h).1; have h2 := HZ15.out; omega); have x1 := hb9.cell (i := 1) rfl; clear hb9; have y1 := (hSw.cell (p := ⟨gk, off + j, none⟩) hgk1 (fun h => by have h1 := (HOV.out.lt gk h).1; have h2 := hgk; omega)).trans HKC.out; go_simp; try with_reducible rfl)
              try simp only [Act.put, List.setIfInBounds_toArray, List.set_cons_zero, List.set_cons_succ]
              refine anyE_take (i := 2) (oi := ⟨some 84, _, _, _, _, _⟩) (v := ?_) rfl (by kernel_rfl) (by kernel_rfl) (by kernel_rfl) (by kernel_rfl) (fun _ _ _ h => h) (Or.inl ⟨by rfl, ?_⟩) hHeld ?_
              rotate_left
              · (intro wq hSw; go_simp; try with_reducible rfl)
              try simp only [Act.put, List.setIfInBounds_toArray, List.set_cons_zero, List.set_cons_succ]
              refine anyE_take (i := 3) (oi := ⟨some 85, _, _, _, _, _⟩) (v := ?_) rfl (by kernel_rfl) (by kernel_rfl) (by kernel_rfl) (by kernel_rfl) (fun _ _ _ h => h) (Or.inl ⟨by rfl, ?_⟩) hHeld ?_
              rotate_left
              · (intro wq hSw; go_simp; try with_reducible rfl)
              try simp only [Act.put, List.setIfInBounds_toArray, List.set_cons_zero, List.set_cons_succ]
              refine anyE_take (i := 4) (oi := ⟨some 86, _, _, _, _, _⟩) (v := ?_) rfl (by kernel_rfl) (by kernel_rfl) (by kernel_rfl) (by kernel_rfl) (fun _ _ _ h => h) (Or.inl ⟨by rfl, ?_⟩) hHeld ?_
              rotate_left
              · (intro wq hSw; go_simp; try with_reducible rfl)
              try simp only [Act.put, List.setIfInBounds_toArray, List.set_cons_zero, List.set_cons_succ]
              refine anyE_take (i := 5) (oi := ⟨some 87, _, _, _, _, _⟩) (v := ?_) rfl (by kernel_rfl) (by kernel_rfl) (by kernel_rfl) (by kernel_rfl) (fun _ _ _ h => h) (Or.inl ⟨by rfl, ?_⟩) hHeld ?_
              rotate_left
              · (intro wq hSw; have hb9 := hSw.blk H15V.out (fun h => by have h1 := (HOV.out.lt r15 h).1; have h2 := HZ15.out; omega); have x1 := hb9.cell (i := 1) rfl; clear hb9; have y1 := (hSw.cell (p := ⟨gk, off + j, none⟩) hgk1 (fun h => by have h1 := (HOV.out.lt gk h).1; have h2 := hgk; omega)).trans HKC.out; go_simp; try with_reducible rfl)
              try simp only [Act.put, List.setIfInBounds_toArray, List.set_cons_zero, List.set_cons_succ]
              refine anyE_take (i := 6) (oi := ⟨some 88, _, _, _, _, _⟩) (v := ?_) rfl (by kernel_rfl) (by kernel_rfl) (by kernel_rfl) (by kernel_rfl) (fun _ _ _ h => h) (Or.inl ⟨by rfl, ?_⟩) hHeld ?_
              rotate_left
              · (intro wq hSw; go_simp; try with_reducible rfl)
              try simp only [Act.put, List.setIfInBounds_toArray, List.set_cons_zero, List.set_cons_succ]
              refine anyE_take (i := 7) (oi := ⟨some 89, _, _, _, _, _⟩) (v := ?_) rfl (by kernel_rfl) (by kernel_rfl) (by kernel_rfl) (by kernel_rfl) (fun _ _ _ h => h) (Or.inl ⟨by rfl, ?_⟩) hHeld ?_
              rotate_left
              · (intro wq hSw; go_simp; try with_reducible rfl)
              try simp only [Act.put, List.setIfInBounds_toArray, List.set_cons_zero, List.set_cons_succ]
              refine anyE_take (i := 8) (oi := ⟨some 90, _, _, _, _, _⟩) (v := ?_) rfl (by kernel_rfl) (by kernel_rfl) (by kernel_rfl) (by kernel_rfl) (fun _ _ _ h => h) (Or.inl ⟨by rfl, ?_⟩) hHeld ?_
              rotate_left
              · (intro wq hSw; go_simp; try with_reducible rfl)
              try simp only [Act.put, List.setIfInBounds_toArray, List.set_cons_zero, List.set_cons_succ]
              refine anyE_take (i := 9) (oi := ⟨some 91, _, _, _, _, _⟩) (v := .agg #[.string kj, .int .u64 (j1 : Int)]) rfl (by kernel_rfl) (by kernel_rfl) (by kernel_rfl) (by kernel_rfl) (fun _ _ _ h => h) (Or.inl ⟨by rfl, ?_⟩) hHeld ?_
              · (intro wq hSw; go_simp; try first | (with_reducible rfl) | (simp; omega) | (intros; omega) | simp [*])
              try simp only [Act.put, List.setIfInBounds_toArray, List.set_cons_zero, List.set_cons_succ]
              refine anyE_ready (i := 10) (o := ⟨some 92, _, _, _, _, _⟩) (by kernel_rfl) rfl (fun KK hK => ?_)
              go_simp
              have HNb := Lib.hid (show (G.alloc (.cells #[.string kj, .int .u64 (j1 : Int)] 38)).heap[G.heap.size]? = some (.cells #[.string kj, .int .u64 (j1 : Int)] 38 (0, 0)) from Blk.new G [.string kj, .int .u64 (j1 : Int)] 38)
              have hal := (Kept.refl (fun _ => False) G).alloc (.cells #[.string kj, .int .u64 (j1 : Int)] 38)
              replace HW := Lib.hid (HW.out.trans hal (fun _ _ h => h.elim))
              replace H15 := Lib.hid (hal.blk H15.out (fun h => h))
              replace HO := Lib.hid (HO.out.alloc (.cells #[.string kj, .int .u64 (j1 : Int)] 38))
              clear hal
              generalize G.alloc (.cells #[.string kj, .int .u64 (j1 : Int)] 38) = G2 at *
              refine hK.out _ _ (fun _ => ?_) (fun hHeld2 => ?_)
              · exact HW.out
              clear hK KK hHeld
              have hHeld := hHeld2 (by decide)
              clear hHeld2
              try simp only [Act.put, List.setIfInBounds_toArray, List.set_cons_zero, List.set_cons_succ]
              refine anyE_ready (i := 11) (o := ⟨some 93, _, _, _, _, _⟩) (by kernel_rfl) rfl (fun KK hK => ?_)
              refine step_append_lies _ (by rfl) (.tmp 83) (.tmp 92) 36 (by rfl) W5.heap.size 38 i0 _ 2 24 Tryz.underlying36 HI0.out HI1.out HI2.out HI3.out rfl (by decide) v15 j (flat (slotsOf (ks.take j))) (by rfl) HO.out ⟨G.heap.size, 0, none⟩ 1 1 [.string kj, .int .u64 (j1 : Int)] (by rfl) (by rfl) (World.news_of_block HNb.out) (one_slot _ _) (by omega) (by unfold maxLen; omega) (by omega) (by have h1 := HW.out.size; have h2 := HZV1.out; omega) _ rfl ?_
              intro g4 cap4 w7 hown7 hgr7 hat7 hlt7
              rw [HJ1.out] at hown7 ⊢
              have h15n : ¬ v15.ownBlock = some r15 := fun h => by have h1 := (HO.out.lt r15 h).1; have h2 := HZ15.out; omega
              have HOx := Lib.hid (show w7.ownsRow W5.heap.size 38 2 (.slice (some ⟨g4, 0, none⟩) j1 cap4) j1 (flat (slotsOf (ks.take j1))) from by rw [← HJ1.out, ← flat_take_snoc HKI.out, flat_append, HJ1.out]; exact hown7)
              replace H15 := Lib.hid (H15.out.of (hgr7.block r15 H15.out.lt (fun e => h15n e.symm)))
              have hKg := ((Kept.refl (fun k => v15.ownBlock = some k) G2)).grown hgr7 (fun k hk _ => hk)
              replace HW := Lib.hid (HW.out.trans hKg (fun _ _ h => h))
              clear hown7 hgr7 hat7 hlt7 hKg HNb h15n
              refine hK.out _ _ (fun _ => ?_) (fun hHeld2 => ?_)
              · exact HW.out
              clear hK KK hHeld
              have hHeld := hHeld2 (by decide)
              clear hHeld2
              try simp only [Act.put, List.setIfInBounds_toArray, List.set_cons_zero, List.set_cons_succ]
              refine anyE_take (i := 12) (oi := ⟨some 94, _, _, _, _, _⟩) (v := ?_) rfl (by kernel_rfl) (by kernel_rfl) (by kernel_rfl) (by kernel_rfl) (fun _ _ _ h => h) (Or.inl ⟨by rfl, ?_⟩) hHeld ?_
              rotate_left
              · (intro wq hSw; go_simp; try with_reducible rfl)
              try simp only [Act.put, List.setIfInBounds_toArray, List.set_cons_zero, List.set_cons_succ]
              refine anyE_ready (i := 13) (o := ⟨none, _, _, _, _, _⟩) (by kernel_rfl) rfl (fun KK hK => ?_)
              have hs9 := H15.out
              have s1 := hs9.cell (i := 1) rfl
              have z1 := hs9.frozen 1
              clear hs9
              go_simp
              have hks := (Kept.refl (fun k => k = r15) w7).setCell (a := ⟨r15, 1, none⟩) (fun _ => rfl) (.slice (some ⟨g4, 0, none⟩) j1 cap4)
              have HO7 := Lib.hid (own_kept HOx.out hks (fun k hk h => by have h1 := (HOx.out.lt k hk).1; have h2 := HZ15.out; have h3 : k = r15 := h; omega))
              replace H15 := Lib.hid (show Blk (w7.setCell ⟨r15, 1, none⟩ (.slice (some ⟨g4, 0, none⟩) j1 cap4)) r15 40 [.int .i64 0, .slice (some ⟨g4, 0, none⟩) j1 cap4, .string ⟨#[]⟩, .bool true, .int .u64 0] from H15.out.set 1 _)
              have HW7 := Lib.hid (((HW.out.mono (T := fun k => k = r15 ∨ W5.heap.size ≤ k) (fun k h => .inr (HO.out.lt k h).1))).trans hks (fun k hk h => .inl h))
              clear s1 z1 hks HW HOx
              generalize w7.setCell ⟨r15, 1, none⟩ (.slice (some ⟨g4, 0, none⟩) j1 cap4) = V7 at *
              refine hK.out _ _ (fun h => absurd rfl h) (fun _ => ?_)
              clear hK KK hHeld
              try simp only [Act.put, List.setIfInBounds_toArray, List.set_cons_zero, List.set_cons_succ]
              refine anyE_done (by kernel_rfl) ?_ _
              go_wp2
              go_roundw
              case rel => exact ⟨j1, _, by have := HJ1.out; omega, rfl, H15.out, HO7.out, fun q kq hq hkq => by
                have hj1 := HJ1.out
                rcases Nat.lt_or_ge q j with h | h
                · exact HNE.out q kq h hkq
                · obtain rfl : q = j := by omega
                  have h2 := HKI.out
                  rw [h2] at hkq; cases hkq; exact HEQ.out, HKV.out.trans HW7.out (fun k hk h => h)⟩
              case measure => have := HJ1.out; simp [intOf]; omega
          · have hjI : ¬ (j : Int) < (nk : Int) := by omega
            obtain rfl : nk = j := by omega
            rename World => V0
            rw [List.take_of_length_le (by rw [HNK.out]; exact Nat.le_refl _)] at HO
            obtain ⟨A0, c0, rfl, hlS, hRS, hAS⟩ := Rs.own HO.out
            have HRS := Lib.hid hRS
            have HAS := Lib.hid (show ∀ a, A0 = some a → W5.heap.size ≤ a.block from hAS)
            have HHAS := Lib.hid (no_key (ks := ks) (key := key) (fun q kq hq hkq => HNE.out q kq (by rw [← HNK.out]; exact hq) hkq))
            have hkv := HKV.out
            replace HM := Lib.hid (HM.out.kept hkv (by have h2 := HS3.out; have h3 := HZ15.out; intro h; rcases h with h | h <;> omega) (by have h2 := HS3.out; have h3 := HZ15.out; intro h; rcases h with h | h <;> omega))
            replace H11 := Lib.hid (hkv.blk H11.out (by have h2 := HS3.out; have h3 := HZ15.out; intro h; rcases h with h | h <;> omega))
            replace H12 := Lib.hid (hkv.blk H12.out (by have h2 := HS3.out; have h3 := HZ15.out; intro h; rcases h with h | h <;> omega))
            have HAKB := Lib.hid (show ∀ a, AK = some a → a.block < r15 from fun a ha => by
              obtain ⟨g9, o9, e9, h9, -⟩ := HKR.out (by rw [HNK.out]; omega)
              have h1 := HGK.out g9 o9 e9 (by omega)
              rw [e9] at ha; cases ha; exact h1)
            replace HKR := Lib.hid (HKR.out.kept hkv (fun a ha h => by have h1 := HAKB.out a ha; have h3 := HZ15.out; rcases h with h | h <;> omega))
            replace HK := Lib.hid (HK.out.trans hkv (fun k hk h => by have h1 := HS3.out; have h2 := HZ15.out; rcases h with h | h <;> omega))
            clear hkv hRS hAS hlS HO HNE HKV HI0 HI1 HI2 HI3 HGK HGK0 HRK HZV1
            go_upto_region 14 with fail
            have hx11 := H11.out
            have x0 := hx11.cell (i := 0) rfl
            have x1 := hx11.cell (i := 1) rfl
            have x2 := hx11.cell (i := 2) rfl
            have x3 := hx11.cell (i := 3) rfl
            have x4 := hx11.cell (i := 4) rfl
            have x5 := hx11.cell (i := 5) rfl
            have x6 := hx11.cell (i := 6) rfl
            have hx15 := H15.out
            have p0 := hx15.cell (i := 0) rfl
            have p1 := hx15.cell (i := 1) rfl
            have p2 := hx15.cell (i := 2) rfl
            have p3 := hx15.cell (i := 3) rfl
            have p4 := hx15.cell (i := 4) rfl
            clear hx11 hx15
            have HN1 := Lib.hid (show (slotsOf ks).length = nk from by rw [slotsOf_length]; exact HNK.out)
            go_wp2_with fail
            refine (kput_to F 1 h4 h6 (by omega) (by omega) 0 A0 c0 ⟨#[]⟩ true 0 (slotsOf ks) nk HN1.out (fun _ => rfl) hkF (by omega) b g l 0 _ HM.out HRS.out (fun a ha h => by have h1 := HAS.out a ha; have h2 := HS3.out; have h3 := HZ15.out; rcases h with h | h <;> omega)).mono ?_; rintro e V2 ⟨rfl, hM2, hK2⟩
            replace HM := Lib.hid hM2
            replace H11 := Lib.hid (hK2.blk H11.out (fun h => by have h1 := HR.out; have h2 := HS3.out; rcases h with h | h <;> omega))
            replace H12 := Lib.hid (hK2.blk H12.out (fun h => by have h1 := HR.out; have h2 := HS3.out; rcases h with h | h <;> omega))
            replace H15 := Lib.hid (hK2.blk H15.out (fun h => by have h1 := HR.out; have h2 := HS3.out; rcases h with h | h <;> omega))
            replace HRS := Lib.hid (HRS.out.keptF hK2 (fun a ha h => by have h1 := HAS.out a ha; have h2 := HS3.out; have h3 := HZ15.out; rcases h with h | h <;> omega))
            replace HKR := Lib.hid (HKR.out.kept hK2 (fun a ha h => by have h1 := HAK.out a ha; rcases h with h | h <;> omega))
            replace HK := Lib.hid (HK.out.trans hK2 (fun i hi h => by have h1 := HR.out; rcases h with h | h <;> omega))
            clear hM2 hK2 x0 x1 x2 x3 x4 x5 x6 p0 p1 p2 p3 p4
            go_upto_region 15 with fail
            have hx11 := H11.out
            have x0 := hx11.cell (i := 0) rfl
            have x1 := hx11.cell (i := 1) rfl
            have x2 := hx11.cell (i := 2) rfl
            have x3 := hx11.cell (i := 3) rfl
            have x4 := hx11.cell (i := 4) rfl
            have x5 := hx11.cell (i := 5) rfl
            have x6 := hx11.cell (i := 6) rfl
            clear hx11
            go_wp2_with fail
            refine (node1_at h4 h6 _).mono ?_; rintro e V3 ⟨rfl, hK3⟩
            replace HK := Lib.hid (HK.out.trans hK3 (fun _ _ h => h.elim))
            replace H11 := Lib.hid (hK3.blk H11.out (fun h => h))
            replace H12 := Lib.hid (hK3.blk H12.out (fun h => h))
            replace HM := Lib.hid (HM.out.kept hK3 (fun h => h) (fun h => h))
            replace H15 := Lib.hid (hK3.blk H15.out (fun h => h))
            replace HKR := Lib.hid (HKR.out.kept hK3 (fun _ _ h => h))
            replace HRS := Lib.hid (HRS.out.keptF hK3 (fun _ _ h => h))
            clear hK3 x0 x1 x2 x3 x4 x5 x6
            go_wp2_with fail
            refine (lock_of 0 1 (by decide) (by decide) _).mono ?_; rintro e V4 ⟨rfl, rfl⟩
            go_wp2_with fail
            refine (poke_any b g _ 0 (nla F 1) 1 0 ⟨#[]⟩ _ HM.out).mono ?_; rintro e V4 ⟨rfl, hM4, hK4⟩
            replace HM := Lib.hid hM4
            replace H11 := Lib.hid (hK4.blk H11.out (fun h => by have h1 := HR.out; have h2 := HS3.out; rcases h with h | h <;> omega))
            replace H12 := Lib.hid (hK4.blk H12.out (fun h => by have h1 := HR.out; have h2 := HS3.out; rcases h with h | h <;> omega))
            replace H15 := Lib.hid (hK4.blk H15.out (fun h => by have h1 := HR.out; have h2 := HS3.out; rcases h with h | h <;> omega))
            replace HRS := Lib.hid (HRS.out.keptF hK4 (fun a ha h => by have h1 := HAS.out a ha; have h2 := HS3.out; have h3 := HZ15.out; rcases h with h | h <;> omega))
            replace HKR := Lib.hid (HKR.out.kept hK4 (fun a ha h => by have h1 := HAK.out a ha; rcases h with h | h <;> omega))
            replace HK := Lib.hid (HK.out.trans hK4 (fun i hi h => by have h1 := HR.out; rcases h with h | h <;> omega))
            clear hM4 hK4
            obtain ⟨m, sp, hkon⟩ := kon_start (key := key) h4 h6 HS.out HRT.out HD.out (by rw [HNK.out]; omega) (by rw [HNK.out]; exact hkF) HKF.out HKS.out HHAS.out
            obtain ⟨l0, hl0⟩ : ∃ l0, putAt (app l (pst (nad F 1) (pgP ks))) (nla F 1) ((1 : Int), (⟨#[]⟩ : ByteArray), (0 : Int)) = l0 := ⟨_, rfl⟩
            have hM9 : Mem V4 b g (putAt (app l (pst (nad F 1) (pgP ks))) (nla F 1) ((1 : Int), (⟨#[]⟩ : ByteArray), (0 : Int))) 0 := HM.out
            rw [hl0] at hkon hM9
            obtain ⟨n0, hn0⟩ : ∃ n0, l.length = n0 := ⟨_, rfl⟩
            obtain ⟨tt, htt⟩ : ∃ tt, decide (F < (npg (pgP ks) key 99).xs.length) = tt := ⟨_, rfl⟩
            rw [hn0, htt] at hkon
            replace HM := Lib.hid hM9
            have HKON := Lib.hid hkon
            have HTT := Lib.hid htt
            clear hkon hM9 hl0 hn0 htt
            have HB4 := Lib.hid (show b < V4.heap.size ∧ g < V4.heap.size ∧ r11 < V4.heap.size ∧ r12 < V4.heap.size ∧ w.heap.size ≤ V4.heap.size from ⟨HM.out.obj.lt, HM.out.row.lt, H11.out.lt, H12.out.lt, HK.out.size⟩)
            go_upto_region 16 with fail
            refine wp_region_held_drew (S := (fun w' => Kept (fun _ => False) V4 w')) (by kernel_rfl) ?_ (fun hHeld => ?_)
            · exact (Kept.refl _ _).drew
            have HW := Lib.hid ((Kept.refl (fun _ => False) V4).drew)
            generalize V4.drew = G at *
            refine wpAnyH_take (i := 0) (oi := ⟨some 105, _, _, _, _, _⟩) (v := ?_) rfl (by kernel_rfl) (by kernel_rfl) (by kernel_rfl) (fun _ _ _ h => h) (Or.inl ⟨by rfl, ?_⟩) hHeld ?_
            rotate_left
            · (intro wq hSw; have hb9 := hSw.blk H12.out (fun h => h); have x0 := hb9.cell (i := 0) rfl; have x1 := hb9.cell (i := 1) rfl; have x2 := hb9.cell (i := 2) rfl; have x3 := hb9.cell (i := 3) rfl; have x4 := hb9.cell (i := 4) rfl; have x5 := hb9.cell (i := 5) rfl; have x6 := hb9.cell (i := 6) rfl; have x7 := hb9.cell (i := 7) rfl; have x8 := hb9.cell (i := 8) rfl; have x9 := hb9.cell (i := 9) rfl; clear hb9; have hb9 := hSw.blk H15.out (fun h => h); have p0 := hb9.cell (i := 0) rfl; have p1 := hb9.cell (i := 1) rfl; have p2 := hb9.cell (i := 2) rfl; have p3 := hb9.cell (i := 3) rfl; have p4 := hb9.cell (i := 4) rfl; clear hb9; go_simp; try with_reducible rfl)
            try simp only [Act.put, List.setIfInBounds_toArray, List.set_cons_zero, List.set_cons_succ]
            refine wpAnyH_take (i := 2) (oi := ⟨some 107, _, _, _, _, _⟩) (v := ?_) rfl (by kernel_rfl) (by kernel_rfl) (by kernel_rfl) (fun _ _ _ h => h) (Or.inl ⟨by rfl, ?_⟩) hHeld ?_
            rotate_left
            · (intro wq hSw; have hb9 := hSw.blk H12.out (fun h => h); have x0 := hb9.cell (i := 0) rfl; have x1 := hb9.cell (i := 1) rfl; have x2 := hb9.cell (i := 2) rfl; have x3 := hb9.cell (i := 3) rfl; have x4 := hb9.cell (i := 4) rfl; have x5 := hb9.cell (i := 5) rfl; have x6 := hb9.cell (i := 6) rfl; have x7 := hb9.cell (i := 7) rfl; have x8 := hb9.cell (i := 8) rfl; have x9 := hb9.cell (i := 9) rfl; clear hb9; have hb9 := hSw.blk H15.out (fun h => h); have p0 := hb9.cell (i := 0) rfl; have p1 := hb9.cell (i := 1) rfl; have p2 := hb9.cell (i := 2) rfl; have p3 := hb9.cell (i := 3) rfl; have p4 := hb9.cell (i := 4) rfl; clear hb9; go_simp; try with_reducible rfl)
            try simp only [Act.put, List.setIfInBounds_toArray, List.set_cons_zero, List.set_cons_succ]
            refine wpAnyH_take (i := 4) (oi := ⟨some 109, _, _, _, _, _⟩) (v := ?_) rfl (by kernel_rfl) (by kernel_rfl) (by kernel_rfl) (fun _ _ _ h => h) (Or.inl ⟨by rfl, ?_⟩) hHeld ?_
            rotate_left
            · (intro wq hSw; go_simp; try with_reducible rfl)
            try simp only [Act.put, List.setIfInBounds_toArray, List.set_cons_zero, List.set_cons_succ]
            refine wpAnyH_ready (rs := [1]) (by kernel_rfl) (by simp) ?_
            refine AllReadyH.cons (o := ⟨some 106, _, _, _, _, _⟩) rfl (fun KK hK => ?_) AllReadyH.nil
            go_simp
            go_at_call 14
            refine (lock_of 0 1 (by decide) (by decide) _).mono ?_; rintro e G1 ⟨rfl, rfl⟩
            refine hK.out _ _ ?_ (fun hHeld2 => ?_)
            · exact HW.out
            clear hK KK hHeld
            have hHeld := hHeld2
            clear hHeld2
            try simp only [Act.put, List.setIfInBounds_toArray, List.set_cons_zero, List.set_cons_succ]
            refine wpAnyH_take (i := 3) (oi := ⟨some 108, _, _, _, _, _⟩) (v := ?_) rfl (by kernel_rfl) (by kernel_rfl) (by kernel_rfl) (fun _ _ _ h => h) (Or.inl ⟨by rfl, ?_⟩) hHeld ?_
            rotate_left
            · (intro wq hSw; go_simp; try with_reducible rfl)
            try simp only [Act.put, List.setIfInBounds_toArray, List.set_cons_zero, List.set_cons_succ]
            refine wpAnyH_ready (rs := [5]) (by kernel_rfl) (by simp) ?_
            refine AllReadyH.cons (o := ⟨some 110, _, _, _, _, _⟩) rfl (fun KK hK => ?_) AllReadyH.nil
            go_simp
            have hlen9 : (pgP ks).xs.length = nk := HN1.out
            have HNS := Lib.hid (new_start F fb fd (pgP ks) A0 c0 key 99 m sp l0 G HKON.out.iok (HRS.out.keptF HW.out (fun _ _ h => h)) (slots_asc HKF.out.2) HHAS.out)
            rw [hlen9] at HNS
            clear hlen9
            go_at_call 29
            refine HNS.out.mono ?_; rintro e V5 ⟨i, Zi, si, di, rfl, hA5, hI5, ht5, hd5, hZ5, hK5⟩
            have HIA := Lib.hid hA5
            have HIP := Lib.hid hI5
            have HIT := Lib.hid (ht5.trans HTT.out)
            have HID := Lib.hid hd5
            have HIZ := Lib.hid (show ∀ j, Zi j → V4.heap.size ≤ j ∧ j < V5.heap.size from fun j hj => by have h1 := hZ5 j hj; have h2 := HW.out.size; omega)
            replace HW := Lib.hid (HW.out.trans hK5 (fun _ _ h => h))
            clear hA5 hI5 ht5 hd5 hZ5 hK5 HNS
            refine hK.out _ _ ?_ (fun hHeld2 => ?_)
            · exact HW.out
            clear hK KK hHeld
            have hHeld := hHeld2
            clear hHeld2
            try simp only [Act.put, List.setIfInBounds_toArray, List.set_cons_zero, List.set_cons_succ]
            refine wpAnyH_take (i := 6) (oi := ⟨some 17, _, _, _, _, _⟩) (v := ?_) rfl (by kernel_rfl) (by kernel_rfl) (by kernel_rfl) (fun _ _ _ h => h) (Or.inl ⟨by rfl, ?_⟩) hHeld ?_
            rotate_left
            · (intro wq hSw; go_simp; try with_reducible rfl)
            try simp only [Act.put, List.setIfInBounds_toArray, List.set_cons_zero, List.set_cons_succ]
            refine wpAnyH_done (by kernel_rfl) ?_ _
            clear hHeld
            have HGK4 := Lib.hid (show ∀ a, AK = some a → a.block < V4.heap.size from fun a ha => by have h1 := HAKB.out a ha; have h2 := H15.out.lt; omega)
            have HV6 := Lib.hid HW.out.size
            have HM5 := Lib.hid (HM.out.kept HW.out (fun h => h) (fun h => h))
            replace HK := Lib.hid (HK.out.trans HW.out (fun _ _ h => h.elim))
            replace H12 := Lib.hid (HW.out.blk H12.out (fun h => h))
            replace HKR := Lib.hid (HKR.out.kept HW.out (fun _ _ h => h))
            clear HRS H11 H15 HAS HW HM
            try clear hHeld
            rename World => V6
            obtain ⟨q0, hq0⟩ : ∃ q0 : Nat, at' % (nk : Int) = (q0 : Int) := ⟨(at' % (nk : Int)).toNat, by have := Int.emod_nonneg at' (b := (nk : Int)) (by omega); omega⟩
            have hql : q0 < nk := by have := Int.emod_lt_of_pos at' (b := (nk : Int)) (by omega); omega
            have HQM := Lib.hid hq0
            clear hq0
            go_upto_region 17 with fail
            go_wp2_with fail
            refine (mod_of at' (nk : Int) q0 _ (by omega) (by omega) HQM.out).mono ?_; rintro e w9 ⟨rfl, rfl⟩
            obtain ⟨gk, off, rfl, hgk, hkc⟩ := HKR.out (by rw [HNK.out]; omega)
            have HKC := Lib.hid hkc
            have HGK := Lib.hid hgk
            obtain ⟨kw0, hkw0⟩ : ∃ k', ks[q0]? = some k' := ⟨_, List.getElem?_eq_getElem (by rw [HNK.out]; exact hql)⟩
            have HKW := Lib.hid hkw0
            have HKW0 := Lib.hid (hkc q0 kw0 hkw0)
            have hqlI : (q0 : Int) < (nk : Int) := by omega
            clear hkc hkw0
            have HGK4 := Lib.hid (HGK4.out _ rfl)
            have HJS := Lib.hid (JB.start (B := V4.heap.size) (l := l0) HM5.out HIA.out HIP.out HIT.out HIZ.out HB4.out.1 HB4.out.2.1)
            have HIPM := Lib.hid (show di ≤ 40 from by
              have h1 := Ipl.most HKON.out.iok HIP.out
              have h2 : (npg (pgP ks) key 99).xs.length = nk + 1 := by rw [npg_length]; have := HN1.out; show (slotsOf ks).length + 1 = _; omega
              omega)
            clear HIA HIP HIT HIZ
            have H126 := Lib.hid H12.out
            have HKC6 := Lib.hid HKC.out
            have HK6 := Lib.hid HK.out
            have HD40S := Lib.hid (show di ≤ 40 from HIPM.out)
            go_upto_region 18 with fail
            refine wp_region_held_drew (S := (fun w' => Kept (fun _ => False) V6 w')) (by kernel_rfl) ?_ (fun hHeld => ?_)
            · exact (Kept.refl _ _).drew
            have HW := Lib.hid ((Kept.refl (fun _ => False) V6).drew)
            generalize V6.drew = G at *
            refine wpAnyH_take (i := 0) (oi := ⟨some 115, _, _, _, _, _⟩) (v := ?_) rfl (by kernel_rfl) (by kernel_rfl) (by kernel_rfl) (fun _ _ _ h => h) (Or.inl ⟨by rfl, ?_⟩) hHeld ?_
            rotate_left
            · (intro wq hSw; have hb9 := hSw.blk H12.out (fun h => h); have x0 := hb9.cell (i := 0) rfl; have x1 := hb9.cell (i := 1) rfl; have x2 := hb9.cell (i := 2) rfl; have x3 := hb9.cell (i := 3) rfl; have x4 := hb9.cell (i := 4) rfl; have x5 := hb9.cell (i := 5) rfl; have x6 := hb9.cell (i := 6) rfl; have x7 := hb9.cell (i := 7) rfl; have x8 := hb9.cell (i := 8) rfl; have x9 := hb9.cell (i := 9) rfl; clear hb9; have y1 := (hSw.cell (p := ⟨gk, off + q0, none⟩) HGK.out (fun h => h)).trans HKW0.out; go_simp; try with_reducible rfl)
            try simp only [Act.put, List.setIfInBounds_toArray, List.set_cons_zero, List.set_cons_succ]
            refine wpAnyH_take (i := 1) (oi := ⟨some 116, _, _, _, _, _⟩) (v := ?_) rfl (by kernel_rfl) (by kernel_rfl) (by kernel_rfl) (fun _ _ _ h => h) (Or.inl ⟨by rfl, ?_⟩) hHeld ?_
            rotate_left
            · (intro wq hSw; go_simp; try with_reducible rfl)
            try simp only [Act.put, List.setIfInBounds_toArray, List.set_cons_zero, List.set_cons_succ]
            refine wpAnyH_take (i := 2) (oi := ⟨some 117, _, _, _, _, _⟩) (v := ?_) rfl (by kernel_rfl) (by kernel_rfl) (by kernel_rfl) (fun _ _ _ h => h) (Or.inl ⟨by rfl, ?_⟩) hHeld ?_
            rotate_left
            · (intro wq hSw; go_simp; try with_reducible rfl)
            try simp only [Act.put, List.setIfInBounds_toArray, List.set_cons_zero, List.set_cons_succ]
            refine wpAnyH_take (i := 3) (oi := ⟨some 118, _, _, _, _, _⟩) (v := ?_) rfl (by kernel_rfl) (by kernel_rfl) (by kernel_rfl) (fun _ _ _ h => h) (Or.inl ⟨by rfl, ?_⟩) hHeld ?_
            rotate_left
            · (intro wq hSw; go_simp; try with_reducible rfl)
            try simp only [Act.put, List.setIfInBounds_toArray, List.set_cons_zero, List.set_cons_succ]
            refine wpAnyH_take (i := 4) (oi := ⟨some 119, _, _, _, _, _⟩) (v := ?_) rfl (by kernel_rfl) (by kernel_rfl) (by kernel_rfl) (fun _ _ _ h => h) (Or.inl ⟨by rfl, ?_⟩) hHeld ?_
            rotate_left
            · (intro wq hSw; have hb9 := hSw.blk H12.out (fun h => h); have x0 := hb9.cell (i := 0) rfl; have x1 := hb9.cell (i := 1) rfl; have x2 := hb9.cell (i := 2) rfl; have x3 := hb9.cell (i := 3) rfl; have x4 := hb9.cell (i := 4) rfl; have x5 := hb9.cell (i := 5) rfl; have x6 := hb9.cell (i := 6) rfl; have x7 := hb9.cell (i := 7) rfl; have x8 := hb9.cell (i := 8) rfl; have x9 := hb9.cell (i := 9) rfl; clear hb9; have y1 := (hSw.cell (p := ⟨gk, off + q0, none⟩) HGK.out (fun h => h)).trans HKW0.out; go_simp; try with_reducible rfl)
            try simp only [Act.put, List.setIfInBounds_toArray, List.set_cons_zero, List.set_cons_succ]
            refine wpAnyH_ready (rs := [5]) (by kernel_rfl) (by simp) ?_
            refine AllReadyH.cons (o := ⟨some 120, _, _, _, _, _⟩) rfl (fun KK hK => ?_) AllReadyH.nil
            go_simp
            go_at_call 30
            refine (newFind_any F fb fd kw0 0 _).mono ?_; rintro e V7 ⟨x0, rfl, hx9, hb9, hK9⟩
            have HXB := Lib.hid hb9
            have HXG := Lib.hid (show V6.heap.size ≤ x0 from Nat.le_trans HW.out.size hx9)
            replace HW := Lib.hid (HW.out.trans hK9 (fun _ _ h => h))
            clear hx9 hb9 hK9
            refine hK.out _ _ ?_ (fun hHeld2 => ?_)
            · exact HW.out
            clear hK KK hHeld
            have hHeld := hHeld2
            clear hHeld2
            try simp only [Act.put, List.setIfInBounds_toArray, List.set_cons_zero, List.set_cons_succ]
            refine wpAnyH_take (i := 6) (oi := ⟨some 19, _, _, _, _, _⟩) (v := ?_) rfl (by kernel_rfl) (by kernel_rfl) (by kernel_rfl) (fun _ _ _ h => h) (Or.inl ⟨by rfl, ?_⟩) hHeld ?_
            rotate_left
            · (intro wq hSw; go_simp; try with_reducible rfl)
            try simp only [Act.put, List.setIfInBounds_toArray, List.set_cons_zero, List.set_cons_succ]
            refine wpAnyH_done (by kernel_rfl) ?_ _
            clear hHeld
            have HJ0 := Lib.hid (HJS.out.reader HXG.out HW.out)
            have HFA0 := Lib.hid (show FAt (fun _ => False) V7 F fb fd x0 kw0 0 .root from .root (fun _ h => h.elim) (fun h => h) HXB.out)
            have HW7 := Lib.hid HW.out
            have HSX := Lib.hid (show ∀ j, j = x0 ∨ False → V4.heap.size ≤ j ∧ j ≠ b ∧ j ≠ g from fun j hj => by
              have h1 := HXG.out
              have h2 := HB4.out
              have h3 := HV6.out
              rcases hj with hj | hj
              · omega
              · exact hj.elim)
            replace HK := Lib.hid (HK.out.trans HW.out (fun _ _ h => h.elim))
            replace H12 := Lib.hid (HW.out.blk H12.out (fun h => h))
            have HKC7 := Lib.hid (show ∀ (i : Nat) (k : ByteArray), ks[i]? = some k → V7.cell? ⟨gk, off + i, none⟩ = some (.string k) from fun i k hi => (HW.out.cell (p := ⟨gk, off + i, none⟩) HGK.out (fun h => h)).trans (HKC.out i k hi))
            have HGK7 := Lib.hid (show gk < V4.heap.size ∧ gk ≠ b ∧ gk ≠ g from ⟨HGK4.out, HAK.out _ rfl⟩)
            clear HJS HXG HXB HW HKC HKW0 HM5
            try clear hHeld
            obtain ⟨HX1, -⟩ : True ∧ True := ⟨trivial, trivial⟩
            clear HX1
            have HKV6 := Lib.hid (show Kept (fun i => w.heap.size ≤ i) w V6 from HK6.out)
            go_wp2_with fail
            go_loopw [18, 19, 20, 21] (fun qv fv dv kv wr => ∃ (q xf k na d : Nat) (kw : ByteArray) (fs : Fs) (Zr : Nat → Prop), qv = .int .i64 (q : Int) ∧ fv = .pointer (some ⟨xf, 0, none⟩) ∧ dv = .bool (decide (d = 0)) ∧ kv = .int .i64 (k : Int) ∧ q < nk ∧ ks[q]? = some kw ∧ k ≤ ps.length + 400 ∧ na ≤ 2 * k ∧ d ≤ 40 ∧ (k ≤ ps.length ∨ d + (k - ps.length) ≤ 40 ∨ d = 0) ∧ JB F V4.heap.size b g V6 fb fd i (pgP ks) (npg (pgP ks) key 99) m sp l0 tt (fun j => j = xf ∨ Zr j) d na wr ∧ FAt Zr wr F fb fd xf kw 0 fs ∧ FJ F (pgP ks) (npg (pgP ks) key 99) m sp tt kw d fs ∧ ∀ j, j = xf ∨ Zr j → V4.heap.size ≤ j ∧ j ≠ b ∧ j ≠ g) (fun _ _ _ kv _ => ps.length + 500 - (intOf kv).toNat)
            case atStart => exact ⟨q0, x0, 0, 0, di, kw0, .root, fun _ => False, rfl, rfl, by rw [show decide (di = 0) = false from by simp; have := HID.out; omega], rfl, hql, HKW.out, by omega, by omega, HD40S.out, .inl (Nat.zero_le _), HJ0.out, HFA0.out, FI.root, HSX.out⟩
            case round =>
              rename World => V2
              obtain ⟨q, xf, k, na, d, kw, fs, Zr, rfl, rfl, rfl, rfl, hq, hkq, hk, hna, hd40, hpb, hJ, hFA, hFJ, hSX⟩ := hrel
              clear HJ0 HFA0
              have HJ := Lib.hid hJ
              have HFA := Lib.hid hFA
              have HFJ := Lib.hid hFJ
              have HSX := Lib.hid hSX
              have HQL := Lib.hid hq
              have HKQ := Lib.hid hkq
              have HNA0 := Lib.hid hna
              have HD400 := Lib.hid hd40
              have HPB0 := Lib.hid hpb
              have HV2 := Lib.hid (show V4.heap.size ≤ V2.heap.size from Nat.le_trans HV6.out hJ.out.size)
              have hw4 : IntKind.i64.wrap ((ps.length : Int) + 400) = (ps.length : Int) + 400 := by rw [IntKind.wrap_i64]; omega
              clear hJ hFA hFJ hSX hq hkq hna hd40 hpb
              by_cases hk4 : k < ps.length + 400
              · have hkl : (k : Int) < (ps.length : Int) + 400 := by omega
                obtain ⟨k1, hk1⟩ : ∃ k1, k + 1 = k1 := ⟨_, rfl⟩
                have hkw : IntKind.i64.wrap ((k : Int) + 1) = (k1 : Int) := by rw [IntKind.wrap_i64]; omega
                have HKN := Lib.hid hk1
                have HKL := Lib.hid hk4
                clear hk1 hk
                go_upto_region 23 with fail
                clear hw4 hkl
                have HK4 := Lib.hid hk4
                clear hk4
                go_cut [139] from 128 to 139 (fun v wx => ∃ e : Bool, v = .bool e ∧ (ps.length ≤ k → e = true) ∧ wx = V2)
                case first =>
                  by_cases hkp : k < ps.length
                  · have hkI : ¬ (ps.length : Int) ≤ (k : Int) := by omega
                    obtain ⟨g0, off0, rfl, hg0, hcell⟩ := HPA.out (by omega)
                    obtain ⟨p, hp⟩ : ∃ p, p = ps[k] := ⟨_, rfl⟩
                    have hp256 : p < 256 := by rw [hp]; exact HPS.out _ (List.getElem_mem _)
                    have hpc : V2.cell? ⟨g0, off0 + k, none⟩ = some (.int .u8 (p : Int)) := by
                      rw [HJ.out.out.cell (p := ⟨g0, off0 + k, none⟩) (show g0 < _ by have := HKV6.out.size; omega) (fun h => by
                        have h1 := HB4.out
                        have h2 := HR.out
                        have h5 : V4.heap.size ≤ g0 ∨ g0 = b ∨ g0 = g := h
                        omega), HKV6.out.cell (p := ⟨g0, off0 + k, none⟩) hg0 (fun h => by have h2 : w.heap.size ≤ g0 := h; omega)]
                      exact hcell k p (by rw [List.getElem?_eq_getElem hkp, hp])
                    have hs2 : (p : Int).tmod 2 = ((p % 2 : Nat) : Int) := rfl
                    have hs3 : IntKind.u8.wrap ((p % 2 : Nat) : Int) = ((p % 2 : Nat) : Int) := by rw [IntKind.wrap_u8]; omega
                    clear hp hcell
                    go_wp2
                    go_meet
                    exact ⟨_, rfl, fun h => by omega, rfl⟩
                  · have hkI : (ps.length : Int) ≤ (k : Int) := by omega
                    go_wp2
                    go_meet
                    exact ⟨true, rfl, fun _ => rfl, rfl⟩
                case rest =>
                  obtain ⟨e1, rfl, he1, rfl⟩ := hcut
                  rename World => V2
                  have HE1 := Lib.hid he1
                  clear he1
                  go_upto_if 139 with fail
                  go_cut [20] from 140 to 142 (fun v wx => ∃ d2 na2 : Nat, v = .bool (decide (d2 = 0)) ∧ JB F V4.heap.size b g V6 fb fd i (pgP ks) (npg (pgP ks) key 99) m sp l0 tt (fun j => j = xf ∨ Zr j) d2 na2 wx ∧ FAt Zr wx F fb fd xf kw 0 fs ∧ FJ F (pgP ks) (npg (pgP ks) key 99) m sp tt kw d2 fs ∧ d2 ≤ d ∧ na2 ≤ na + 1 ∧ (e1 = true → d2 = 0 ∨ d2 + 1 = d))
                  case first =>
                    have HKL := HKL
                    have HNA := HNA0
                    cases e1 with
                    | false =>
                      go_wp2
                      go_meet
                      exact ⟨d, na, rfl, HJ.out, HFA.out, HFJ.out, Nat.le_refl _, Nat.le_succ _, fun h => by cases h⟩
                    | true =>
                      by_cases hd0 : d = 0
                      · have HJ0 := Lib.hid (show JB F V4.heap.size b g V6 fb fd i (pgP ks) (npg (pgP ks) key 99) m sp l0 tt (fun j => j = xf ∨ Zr j) 0 na V2 from by have := HJ.out; rw [hd0] at this; exact this)
                        have HFJ0 := Lib.hid (show FJ F (pgP ks) (npg (pgP ks) key 99) m sp tt kw 0 fs from by have := HFJ.out; rw [hd0] at this; exact this)
                        have HD0 := Lib.hid hd0
                        clear hd0
                        go_wp2_with fail
                        refine (jb_done HJ0.out).mono ?_; rintro e V3 ⟨rfl, hJ3, hK3⟩
                        have HJ3 := Lib.hid hJ3
                        have HFA3 := Lib.hid (HFA.out.kept hK3 (fun h => h) (fun _ _ h => h))
                        clear hJ3 hK3
                        go_wp2
                        go_meet
                        exact ⟨0, na + 1, rfl, HJ3.out, HFA3.out, HFJ0.out, Nat.zero_le _, Nat.le_refl _, fun _ => .inl rfl⟩
                      · have HD0 := Lib.hid (show 0 < d by omega)
                        have hdec : (decide (d = 1)) = decide (d - 1 = 0) := decide_eq_decide.2 (by omega)
                        clear hd0
                        have HST := Lib.hid (jb_step HKON.out.iok HJ.out HD0.out HV2.out (fun j hj => by
                          have h1 := HSX.out j hj
                          have h2 := HFA.out.lt
                          have h3 := HFA.out.out
                          rcases hj with hj | hj
                          · exact ⟨by rw [hj]; exact h3.2, h1.2⟩
                          · exact ⟨h2 j hj, h1.2⟩) (by have h1 := HNA.out; have h2 := HKL.out; omega))
                        rw [hdec] at HST
                        clear hdec
                        go_wp2_with fail
                        refine HST.out.mono ?_; rintro e V3 ⟨rfl, hJ3, hK3⟩
                        have HJ3 := Lib.hid hJ3
                        have HFA3 := Lib.hid (HFA.out.kept hK3 (fun h => h (.inl rfl)) (fun j hj h => h (.inr hj)))
                        have HFJ3 := Lib.hid (HFJ.out.next HKON.out HD0.out)
                        clear hJ3 hK3 HST
                        go_wp2
                        go_meet
                        exact ⟨d - 1, na + 1, rfl, HJ3.out, HFA3.out, HFJ3.out, Nat.sub_le _ _, Nat.le_refl _, fun _ => .inr (by have := HD0.out; omega)⟩
                  case rest =>
                    obtain ⟨d2, na2, rfl, hJ2, hFA2, hFJ2, hd2, hna2, he2⟩ := hcut
                    rename World => V3
                    have HJ2 := Lib.hid hJ2
                    have HFA2 := Lib.hid hFA2
                    have HFJ2 := Lib.hid hFJ2
                    have HNA := Lib.hid (show na2 ≤ 2 * k + 1 from by have := HNA0.out; omega)
                    have HD40 := Lib.hid (show d2 ≤ 40 from by have := HD400.out; omega)
                    have HPB := Lib.hid (show k + 1 ≤ ps.length ∨ d2 + (k + 1 - ps.length) ≤ 40 ∨ d2 = 0 from by
                      rcases Nat.lt_or_ge k ps.length with h | h
                      · exact .inl h
                      · have h1 := HE1.out h
                        have h2 := he2 h1
                        have h3 := HPB0.out
                        have h5 := HD400.out
                        omega)
                    clear hJ2 hFA2 hFJ2 hd2 hna2 he2 HJ HFA HFJ
                    go_upto_region 25 with fail
                    go_cut [154] from 143 to 154 (fun v wx => ∃ e : Bool, v = .bool e ∧ (ps.length ≤ k → e = true) ∧ wx = V3)
                    case first =>
                      by_cases hkp : k < ps.length
                      · have hkI : ¬ (ps.length : Int) ≤ (k : Int) := by omega
                        obtain ⟨g0, off0, rfl, hg0, hcell⟩ := HPA.out (by omega)
                        obtain ⟨p, hp⟩ : ∃ p, p = ps[k] := ⟨_, rfl⟩
                        have hp256 : p < 256 := by rw [hp]; exact HPS.out _ (List.getElem_mem _)
                        have hpc : V3.cell? ⟨g0, off0 + k, none⟩ = some (.int .u8 (p : Int)) := by
                          rw [HJ2.out.out.cell (p := ⟨g0, off0 + k, none⟩) (show g0 < _ by have := HKV6.out.size; omega) (fun h => by
                            have h1 := HB4.out
                            have h2 := HR.out
                            have h5 : V4.heap.size ≤ g0 ∨ g0 = b ∨ g0 = g := h
                            omega), HKV6.out.cell (p := ⟨g0, off0 + k, none⟩) hg0 (fun h => by have h2 : w.heap.size ≤ g0 := h; omega)]
                          exact hcell k p (by rw [List.getElem?_eq_getElem hkp, hp])
                        have hs2 : (p : Int).tmod 2 = ((p % 2 : Nat) : Int) := rfl
                        have hs3 : IntKind.u8.wrap ((p % 2 : Nat) : Int) = ((p % 2 : Nat) : Int) := by rw [IntKind.wrap_u8]; omega
                        clear hp hcell
                        go_wp2
                        go_meet
                        exact ⟨_, rfl, fun h => by omega, rfl⟩
                      · have hkI : (ps.length : Int) ≤ (k : Int) := by omega
                        go_wp2
                        go_meet
                        exact ⟨true, rfl, fun _ => rfl, rfl⟩
                    case rest =>
                      obtain ⟨e2, rfl, he2, rfl⟩ := hcut
                      rename World => V3
                      clear he2
                      cases e2 with
                      | false =>
                        go_wp2
                        go_roundw
                        case rel => exact ⟨q, xf, k1, na2, d2, kw, fs, Zr, rfl, rfl, rfl, rfl, HQL.out, HKQ.out, by have h1 := HKN.out; have h2 := HKL.out; omega, by have h1 := HKN.out; have h2 := HNA.out; omega, HD40.out, by have h1 := HKN.out; have h2 := HPB.out; omega, HJ2.out, HFA2.out, HFJ2.out, HSX.out⟩
                        case measure => have h1 := HKN.out; have h2 := HKL.out; simp [intOf]; omega
                      | true =>
                        have HV3 := Lib.hid (show V4.heap.size ≤ V3.heap.size from Nat.le_trans HV6.out HJ2.out.out.size)
                        go_wp2_with fail
                        refine (jf_step HKON.out xf Zr HJ2.out kw fs HFA2.out HFJ2.out HSX.out HV3.out HB4.out.1 HB4.out.2.1 (by have h1 := HNA.out; have h2 := HKL.out; omega) (q + 1) (slot_in HKQ.out).2.1 (fun _ => (slot_in (key := key) HKQ.out).1)).mono ?_; rintro e V4c ⟨fs3, Zr3, rfl, hA3, hJ3, hS3, hr3⟩
                        have HJ3 := Lib.hid hJ3
                        have HFA3 := Lib.hid hA3
                        have HSX3 := Lib.hid hS3
                        clear hJ3 hA3 hS3
                        rcases hr3 with ⟨hf3, hI3, -⟩ | ⟨hf3, n3, wd3, Y, rfl, hin, hYa, hYl⟩
                        · have HFJ3 := Lib.hid hI3
                          rw [hf3]
                          clear hf3 hI3
                          go_wp2
                          go_roundw
                          case rel => exact ⟨q, xf, k1, (na2 + 1), d2, kw, fs3, Zr3, rfl, rfl, rfl, rfl, HQL.out, HKQ.out, by have h1 := HKN.out; have h2 := HKL.out; omega, by have h1 := HKN.out; have h2 := HNA.out; omega, HD40.out, by have h1 := HKN.out; have h2 := HPB.out; omega, HJ3.out, HFA3.out, HFJ3.out, HSX3.out⟩
                          case measure => have h1 := HKN.out; have h2 := HKL.out; simp [intOf]; omega
                        · rw [hf3]
                          have HYF := Lib.hid (show (kw, q + 1) ∈ Y.xs ∧ Asc Y.xs ∧ Y.xs.length ≤ F from ⟨hin, hYa, hYl⟩)
                          have HIN := Lib.hid (in_find hYa hin)
                          obtain ⟨cn, hcn⟩ : ∃ cn, cnt kw Y.xs = cn := ⟨_, rfl⟩
                          have HCN := Lib.hid hcn
                          clear hf3 hin hYa hYl hcn
                          go_wp2_with fail
                          refine (find_page F h6 fb fd Zr3 xf kw 0 n3 wd3 Y (by have := HYF.out.2.2; omega) _ HFA3.out).mono ?_; rintro e V5c ⟨A5, c5, rfl, hR5, hA5, hK5⟩
                          have hal := hK5.alloc (.cells #[.int .i64 (Y.lv : Int), .slice A5 Y.xs.length c5, .string Y.hi, .bool Y.la, .int .u64 (Y.rt : Int)] 40)
                          have HJ4 := Lib.hid (HJ3.out.calm hal)
                          have H23 := Lib.hid (Blk.new V5c [.int .i64 (Y.lv : Int), .slice A5 Y.xs.length c5, .string Y.hi, .bool Y.la, .int .u64 (Y.rt : Int)] 40)
                          have HR5 := Lib.hid (hR5.keptF ((Kept.refl (fun _ => False) V5c).alloc (.cells #[.int .i64 (Y.lv : Int), .slice A5 Y.xs.length c5, .string Y.hi, .bool Y.la, .int .u64 (Y.rt : Int)] 40)) (fun _ _ h => h))
                          go_upto_region 28 with fail
                          generalize V5c.heap.size = r23 at *
                          generalize V5c.alloc (.cells #[.int .i64 (Y.lv : Int), .slice A5 Y.xs.length c5, .string Y.hi, .bool Y.la, .int .u64 (Y.rt : Int)] 40) = V6c at *
                          clear hal hR5 hA5 hK5
                          have HGK9 := Lib.hid (show gk < V6c.heap.size from by have h1 := HGK7.out; have h2 := HV6.out; have h3 := HJ4.out.out.size; omega)
                          have HKC9 := Lib.hid (show V6c.cell? ⟨gk, off + q, none⟩ = some (.string kw) from (HJ4.out.out.cell (p := ⟨gk, off + q, none⟩) (show gk < _ by have h1 := HGK7.out; have h2 := HV6.out; omega) (fun h => by have h1 := HGK7.out; have h2 : V4.heap.size ≤ gk ∨ gk = b ∨ gk = g := h; omega)).trans (HKC6.out q kw HKQ.out))
                          have hqI : (q : Int) < (nk : Int) := by have := HQL.out; omega
                          have hqJ := HQL.out
                          refine wp_region_held_drew (S := (fun w' => Kept (fun _ => False) V6c w')) (by kernel_rfl) ?_ (fun hHeld => ?_)
                          · exact (Kept.refl _ _).drew
                          have HW := Lib.hid ((Kept.refl (fun _ => False) V6c).drew)
                          generalize V6c.drew = G at *
                          refine wpAnyH_take (i := 0) (oi := ⟨some 164, _, _, _, _, _⟩) (v := ?_) rfl (by kernel_rfl) (by kernel_rfl) (by kernel_rfl) (fun _ _ _ h => h) (Or.inl ⟨by rfl, ?_⟩) hHeld ?_
                          rotate_left
                          · (intro wq hSw; have hb9 := hSw.blk H23.out (fun h => h); have p0 := hb9.cell (i := 0) rfl; have p1 := hb9.cell (i := 1) rfl; have p2 := hb9.cell (i := 2) rfl; have p3 := hb9.cell (i := 3) rfl; have p4 := hb9.cell (i := 4) rfl; clear hb9; have y1 := (hSw.cell (p := ⟨gk, off + q, none⟩) HGK9.out (fun h => h)).trans HKC9.out; go_simp; try with_reducible rfl)
                          try simp only [Act.put, List.setIfInBounds_toArray, List.set_cons_zero, List.set_cons_succ]
                          refine wpAnyH_take (i := 1) (oi := ⟨some 165, _, _, _, _, _⟩) (v := ?_) rfl (by kernel_rfl) (by kernel_rfl) (by kernel_rfl) (fun _ _ _ h => h) (Or.inl ⟨by rfl, ?_⟩) hHeld ?_
                          rotate_left
                          · (intro wq hSw; go_simp; try with_reducible rfl)
                          try simp only [Act.put, List.setIfInBounds_toArray, List.set_cons_zero, List.set_cons_succ]
                          refine wpAnyH_take (i := 2) (oi := ⟨some 166, _, _, _, _, _⟩) (v := ?_) rfl (by kernel_rfl) (by kernel_rfl) (by kernel_rfl) (fun _ _ _ h => h) (Or.inl ⟨by rfl, ?_⟩) hHeld ?_
                          rotate_left
                          · (intro wq hSw; go_simp; try with_reducible rfl)
                          try simp only [Act.put, List.setIfInBounds_toArray, List.set_cons_zero, List.set_cons_succ]
                          refine wpAnyH_take (i := 3) (oi := ⟨some 167, _, _, _, _, _⟩) (v := ?_) rfl (by kernel_rfl) (by kernel_rfl) (by kernel_rfl) (fun _ _ _ h => h) (Or.inl ⟨by rfl, ?_⟩) hHeld ?_
                          rotate_left
                          · (intro wq hSw; go_simp; try with_reducible rfl)
                          try simp only [Act.put, List.setIfInBounds_toArray, List.set_cons_zero, List.set_cons_succ]
                          refine wpAnyH_take (i := 4) (oi := ⟨some 168, _, _, _, _, _⟩) (v := ?_) rfl (by kernel_rfl) (by kernel_rfl) (by kernel_rfl) (fun _ _ _ h => h) (Or.inl ⟨by rfl, ?_⟩) hHeld ?_
                          rotate_left
                          · (intro wq hSw; have hb9 := hSw.blk H23.out (fun h => h); have p0 := hb9.cell (i := 0) rfl; have p1 := hb9.cell (i := 1) rfl; have p2 := hb9.cell (i := 2) rfl; have p3 := hb9.cell (i := 3) rfl; have p4 := hb9.cell (i := 4) rfl; clear hb9; have y1 := (hSw.cell (p := ⟨gk, off + q, none⟩) HGK9.out (fun h => h)).trans HKC9.out; go_simp; try with_reducible rfl)
                          try simp only [Act.put, List.setIfInBounds_toArray, List.set_cons_zero, List.set_cons_succ]
                          refine wpAnyH_ready (rs := [5]) (by kernel_rfl) (by simp) ?_
                          refine AllReadyH.cons (o := ⟨some 169, _, _, _, _, _⟩) rfl (fun KK hK => ?_) AllReadyH.nil
                          go_simp
                          have HRF := Lib.hid (refFind_any (Y.lv : Int) A5 c5 Y.hi Y.la Y.rt Y.xs kw G Y.xs.length rfl (by have := HYF.out.2.2; omega) (HR5.out.keptF HW.out (fun _ _ h => h)))
                          rw [HIN.out.1, HCN.out] at HRF
                          go_at_call 34
                          refine HRF.out.mono ?_; rintro e V7c ⟨rfl, hB9⟩
                          have hK9 := Below.kept hB9 (S := fun _ => False) (fun i hi h => by omega)
                          replace HW := Lib.hid (HW.out.trans hK9 (fun _ _ h => h))
                          clear hB9 hK9 HRF
                          refine hK.out _ _ ?_ (fun hHeld2 => ?_)
                          · exact HW.out
                          clear hK KK hHeld
                          have hHeld := hHeld2
                          clear hHeld2
                          try simp only [Act.put, List.setIfInBounds_toArray, List.set_cons_zero, List.set_cons_succ]
                          refine wpAnyH_take (i := 6) (oi := ⟨some 163, _, _, _, _, _⟩) (v := ?_) rfl (by kernel_rfl) (by kernel_rfl) (by kernel_rfl) (fun _ _ _ h => h) (Or.inl ⟨by rfl, ?_⟩) hHeld ?_
                          rotate_left
                          · (intro wq hSw; go_simp; try with_reducible rfl)
                          try simp only [Act.put, List.setIfInBounds_toArray, List.set_cons_zero, List.set_cons_succ]
                          refine wpAnyH_take (i := 7) (oi := ⟨some 170, _, _, _, _, _⟩) (v := ?_) rfl (by kernel_rfl) (by kernel_rfl) (by kernel_rfl) (fun _ _ _ h => h) (Or.inl ⟨by rfl, ?_⟩) hHeld ?_
                          rotate_left
                          · (intro wq hSw; go_simp; try with_reducible rfl)
                          try simp only [Act.put, List.setIfInBounds_toArray, List.set_cons_zero, List.set_cons_succ]
                          refine wpAnyH_take (i := 8) (oi := ⟨some 171, _, _, _, _, _⟩) (v := ?_) rfl (by kernel_rfl) (by kernel_rfl) (by kernel_rfl) (fun _ _ _ h => h) (Or.inl ⟨by rfl, ?_⟩) hHeld ?_
                          rotate_left
                          · (intro wq hSw; go_simp; try with_reducible rfl)
                          try simp only [Act.put, List.setIfInBounds_toArray, List.set_cons_zero, List.set_cons_succ]
                          refine wpAnyH_take (i := 9) (oi := ⟨some 24, _, _, _, _, _⟩) (v := ?_) rfl (by kernel_rfl) (by kernel_rfl) (by kernel_rfl) (fun _ _ _ h => h) (Or.inl ⟨by rfl, ?_⟩) hHeld ?_
                          rotate_left
                          · (intro wq hSw; go_simp; try with_reducible rfl)
                          try simp only [Act.put, List.setIfInBounds_toArray, List.set_cons_zero, List.set_cons_succ]
                          refine wpAnyH_take (i := 10) (oi := ⟨some 25, _, _, _, _, _⟩) (v := ?_) rfl (by kernel_rfl) (by kernel_rfl) (by kernel_rfl) (fun _ _ _ h => h) (Or.inl ⟨by rfl, ?_⟩) hHeld ?_
                          rotate_left
                          · (intro wq hSw; go_simp; try with_reducible rfl)
                          try simp only [Act.put, List.setIfInBounds_toArray, List.set_cons_zero, List.set_cons_succ]
                          refine wpAnyH_done (by kernel_rfl) ?_ _
                          clear hHeld
                          have HJ5 := Lib.hid (HJ4.out.calm HW.out)
                          have H23c := Lib.hid (HW.out.blk H23.out (fun h => h))
                          have HR6 := Lib.hid (HR5.out.keptF HW.out (fun _ _ h => h))
                          clear HJ4 H23 HR5 HKC9
                          try clear hHeld
                          have hcl : cn < Y.xs.length := by rw [← HCN.out]; exact (List.getElem?_eq_some_iff.1 HIN.out.2).1
                          obtain ⟨g5, o5, rfl, hg5, hc5⟩ := HR6.out.at (by omega)
                          have hcell5 := (hc5 cn (kw, q + 1) (by rw [← HCN.out]; exact HIN.out.2)).2
                          have hcI : (cn : Int) < (Y.xs.length : Int) := by omega
                          obtain ⟨qq, hqq⟩ : ∃ qq, q + 1 = qq := ⟨_, rfl⟩
                          have hcell6 : V7c.cell? ⟨g5, o5 + cn * 2 + 1, none⟩ = some (.int .u64 (qq : Int)) := by rw [← hqq]; exact hcell5
                          have hq64 : IntKind.u64.wrap (qq : Int) = (qq : Int) := by rw [IntKind.wrap_u64]; omega
                          have hqi64 : IntKind.i64.wrap ((q : Int) + 1) = (qq : Int) := by rw [IntKind.wrap_i64]; omega
                          have HQQ := Lib.hid hqq
                          obtain ⟨q2, hq2⟩ : ∃ q2 : Nat, q2 = qq % nk := ⟨_, rfl⟩
                          have hq2l : q2 < nk := by rw [hq2]; exact Nat.mod_lt _ (by omega)
                          have hq2m : (qq : Int).tmod (nk : Int) = (q2 : Int) := by rw [hq2]; rfl
                          have hq2I : (q2 : Int) < (nk : Int) := by omega
                          have hb9 := H23c.out
                          have p1 := hb9.cell (i := 1) rfl
                          clear hb9 hc5 hcell5 hqq hq2
                          have hcY : Y.xs.length ≤ 6 := by have := HYF.out.2.2; omega
                          go_upto_region 32 with fail
                          clear p1 hcell6
                          obtain ⟨kw2, hkw2⟩ : ∃ k', ks[q2]? = some k' := ⟨_, List.getElem?_eq_getElem (by rw [HNK.out]; exact hq2l)⟩
                          have HKQ2 := Lib.hid hkw2
                          have HGK9 := Lib.hid (show gk < V7c.heap.size from by have h1 := HGK7.out; have h2 := HV6.out; have h3 := HJ5.out.out.size; omega)
                          have HKC9 := Lib.hid (show V7c.cell? ⟨gk, off + q2, none⟩ = some (.string kw2) from (HJ5.out.out.cell (p := ⟨gk, off + q2, none⟩) (show gk < _ by have h1 := HGK7.out; have h2 := HV6.out; omega) (fun h => by have h1 := HGK7.out; have h2 : V4.heap.size ≤ gk ∨ gk = b ∨ gk = g := h; omega)).trans (HKC6.out q2 kw2 hkw2))
                          have H12c := Lib.hid (HJ5.out.out.blk H126.out (fun h => by have h1 := HB4.out; have h2 := HR.out; rcases h with h | h | h <;> omega))
                          clear hkw2
                          refine wp_region_held_drew (S := (fun w' => Kept (fun _ => False) V7c w')) (by kernel_rfl) ?_ (fun hHeld => ?_)
                          · exact (Kept.refl _ _).drew
                          have HW := Lib.hid ((Kept.refl (fun _ => False) V7c).drew)
                          generalize V7c.drew = G at *
                          refine wpAnyH_take (i := 0) (oi := ⟨some 191, _, _, _, _, _⟩) (v := ?_) rfl (by kernel_rfl) (by kernel_rfl) (by kernel_rfl) (fun _ _ _ h => h) (Or.inl ⟨by rfl, ?_⟩) hHeld ?_
                          rotate_left
                          · (intro wq hSw; have hb9 := hSw.blk H12c.out (fun h => h); have x0 := hb9.cell (i := 0) rfl; have x1 := hb9.cell (i := 1) rfl; have x2 := hb9.cell (i := 2) rfl; have x3 := hb9.cell (i := 3) rfl; have x4 := hb9.cell (i := 4) rfl; have x5 := hb9.cell (i := 5) rfl; have x6 := hb9.cell (i := 6) rfl; have x7 := hb9.cell (i := 7) rfl; have x8 := hb9.cell (i := 8) rfl; have x9 := hb9.cell (i := 9) rfl; clear hb9; have y1 := (hSw.cell (p := ⟨gk, off + q2, none⟩) HGK9.out (fun h => h)).trans HKC9.out; go_simp; try with_reducible rfl)
                          try simp only [Act.put, List.setIfInBounds_toArray, List.set_cons_zero, List.set_cons_succ]
                          refine wpAnyH_take (i := 1) (oi := ⟨some 192, _, _, _, _, _⟩) (v := ?_) rfl (by kernel_rfl) (by kernel_rfl) (by kernel_rfl) (fun _ _ _ h => h) (Or.inl ⟨by rfl, ?_⟩) hHeld ?_
                          rotate_left
                          · (intro wq hSw; go_simp; try with_reducible rfl)
                          try simp only [Act.put, List.setIfInBounds_toArray, List.set_cons_zero, List.set_cons_succ]
                          refine wpAnyH_take (i := 2) (oi := ⟨some 193, _, _, _, _, _⟩) (v := ?_) rfl (by kernel_rfl) (by kernel_rfl) (by kernel_rfl) (fun _ _ _ h => h) (Or.inl ⟨by rfl, ?_⟩) hHeld ?_
                          rotate_left
                          · (intro wq hSw; go_simp; try with_reducible rfl)
                          try simp only [Act.put, List.setIfInBounds_toArray, List.set_cons_zero, List.set_cons_succ]
                          refine wpAnyH_take (i := 3) (oi := ⟨some 194, _, _, _, _, _⟩) (v := ?_) rfl (by kernel_rfl) (by kernel_rfl) (by kernel_rfl) (fun _ _ _ h => h) (Or.inl ⟨by rfl, ?_⟩) hHeld ?_
                          rotate_left
                          · (intro wq hSw; go_simp; try with_reducible rfl)
                          try simp only [Act.put, List.setIfInBounds_toArray, List.set_cons_zero, List.set_cons_succ]
                          refine wpAnyH_take (i := 4) (oi := ⟨some 195, _, _, _, _, _⟩) (v := ?_) rfl (by kernel_rfl) (by kernel_rfl) (by kernel_rfl) (fun _ _ _ h => h) (Or.inl ⟨by rfl, ?_⟩) hHeld ?_
                          rotate_left
                          · (intro wq hSw; have hb9 := hSw.blk H12c.out (fun h => h); have x0 := hb9.cell (i := 0) rfl; have x1 := hb9.cell (i := 1) rfl; have x2 := hb9.cell (i := 2) rfl; have x3 := hb9.cell (i := 3) rfl; have x4 := hb9.cell (i := 4) rfl; have x5 := hb9.cell (i := 5) rfl; have x6 := hb9.cell (i := 6) rfl; have x7 := hb9.cell (i := 7) rfl; have x8 := hb9.cell (i := 8) rfl; have x9 := hb9.cell (i := 9) rfl; clear hb9; have y1 := (hSw.cell (p := ⟨gk, off + q2, none⟩) HGK9.out (fun h => h)).trans HKC9.out; go_simp; try with_reducible rfl)
                          try simp only [Act.put, List.setIfInBounds_toArray, List.set_cons_zero, List.set_cons_succ]
                          refine wpAnyH_ready (rs := [5]) (by kernel_rfl) (by simp) ?_
                          refine AllReadyH.cons (o := ⟨some 196, _, _, _, _, _⟩) rfl (fun KK hK => ?_) AllReadyH.nil
                          go_simp
                          go_at_call 30
                          refine (newFind_any F fb fd kw2 0 _).mono ?_; rintro e V8c ⟨x2, rfl, hx9, hb9, hK9⟩
                          have HXB := Lib.hid hb9
                          have HXG := Lib.hid (show V7c.heap.size ≤ x2 from Nat.le_trans HW.out.size hx9)
                          replace HW := Lib.hid (HW.out.trans hK9 (fun _ _ h => h))
                          clear hx9 hb9 hK9
                          refine hK.out _ _ ?_ (fun hHeld2 => ?_)
                          · exact HW.out
                          clear hK KK hHeld
                          have hHeld := hHeld2
                          clear hHeld2
                          try simp only [Act.put, List.setIfInBounds_toArray, List.set_cons_zero, List.set_cons_succ]
                          refine wpAnyH_take (i := 6) (oi := ⟨some 19, _, _, _, _, _⟩) (v := ?_) rfl (by kernel_rfl) (by kernel_rfl) (by kernel_rfl) (fun _ _ _ h => h) (Or.inl ⟨by rfl, ?_⟩) hHeld ?_
                          rotate_left
                          · (intro wq hSw; go_simp; try with_reducible rfl)
                          try simp only [Act.put, List.setIfInBounds_toArray, List.set_cons_zero, List.set_cons_succ]
                          refine wpAnyH_done (by kernel_rfl) ?_ _
                          clear hHeld
                          have HJ6 := Lib.hid (HJ5.out.reader HXG.out HW.out)
                          have HFA6 := Lib.hid (show FAt (fun _ => False) V8c F fb fd x2 kw2 0 .root from .root (fun _ h => h.elim) (fun h => h) HXB.out)
                          have HSX6 := Lib.hid (show ∀ j, j = x2 ∨ False → V4.heap.size ≤ j ∧ j ≠ b ∧ j ≠ g from fun j hj => by
                            have h1 := HXG.out
                            have h2 := HB4.out
                            have h3 := HV6.out
                            have h5 := HJ5.out.out.size
                            rcases hj with hj | hj
                            · omega
                            · exact hj.elim)
                          have HQ2L := Lib.hid hq2l
                          clear HJ5 HW HXB HXG HKC9
                          try clear hHeld
                          go_wp2
                          go_roundw
                          case rel => exact ⟨q2, x2, k1, (na2 + 1), d2, kw2, .root, (fun _ => False), rfl, rfl, rfl, rfl, HQ2L.out, HKQ2.out, by have h1 := HKN.out; have h2 := HKL.out; omega, by have h1 := HKN.out; have h2 := HNA.out; omega, HD40.out, by have h1 := HKN.out; have h2 := HPB.out; omega, HJ6.out, HFA6.out, FI.root, HSX6.out⟩
                          case measure => have h1 := HKN.out; have h2 := HKL.out; simp [intOf]; omega
              · have hkl : ¬ (k : Int) < (ps.length : Int) + 400 := by omega
                have hd0 : d = 0 := by have := HPB0.out; omega
                have HJE := Lib.hid (show JB F V4.heap.size b g V6 fb fd i (pgP ks) (npg (pgP ks) key 99) m sp l0 tt (fun j => j = xf ∨ Zr j) 0 na V2 from by have := HJ.out; rw [hd0] at this; exact this)
                have hdd : (decide (d = 0)) = true := by simp [hd0]
                rw [hdd]
                have HNA := Lib.hid (show na ≤ 2000 from by have := HNA0.out; omega)
                clear hdd hd0 HJ HFJ HPB0 hk4
                go_upto_region 33 with fail
                have h12 := HJE.out.out.blk H126.out (fun h => by have h1 := HB4.out; have h2 := HR.out; rcases h with h | h | h <;> omega)
                have u0 := h12.cell (i := 0) rfl
                have u1 := h12.cell (i := 1) rfl
                have u2 := h12.cell (i := 2) rfl
                have u3 := h12.cell (i := 3) rfl
                have u4 := h12.cell (i := 4) rfl
                have u5 := h12.cell (i := 5) rfl
                have u6 := h12.cell (i := 6) rfl
                have u7 := h12.cell (i := 7) rfl
                have u8 := h12.cell (i := 8) rfl
                have u9 := h12.cell (i := 9) rfl
                clear h12 hw4 hkl
                go_wp2_with fail
                refine (newFind_any F fb fd key 0 _).mono ?_; rintro e V3 ⟨x9, rfl, hx9, hb9, hK9⟩
                have HJ9 := Lib.hid (HJE.out.reader hx9 hK9)
                have HFA9 := Lib.hid (show FAt (fun _ => False) V3 F fb fd x9 key 0 .root from .root (fun _ h => h.elim) (fun h => h) hb9)
                have HSX9 := Lib.hid (show ∀ j, j = x9 ∨ False → V4.heap.size ≤ j ∧ j ≠ b ∧ j ≠ g from fun j hj => by
                  have h2 := HB4.out
                  have h3 := HV2.out
                  rcases hj with hj | hj
                  · omega
                  · exact hj.elim)
                clear hx9 hb9 hK9 u0 u1 u2 u3 u4 u5 u6 u7 u8 u9 HJE
                go_wp2_with fail
                go_loopw [27] (fun kv wr => ∃ (k na : Nat) (fs : Fs) (Zr : Nat → Prop), kv = .int .i64 (k : Int) ∧ k + dF F fs ≤ 60 ∧ na ≤ 2000 + k ∧ JB F V4.heap.size b g V6 fb fd i (pgP ks) (npg (pgP ks) key 99) m sp l0 tt (fun j => j = x9 ∨ Zr j) 0 na wr ∧ FAt Zr wr F fb fd x9 key 0 fs ∧ FJ F (pgP ks) (npg (pgP ks) key 99) m sp tt key 0 fs ∧ ∀ j, j = x9 ∨ Zr j → V4.heap.size ≤ j ∧ j ≠ b ∧ j ≠ g) (fun kv _ => 400 - (intOf kv).toNat)
                case atStart => exact ⟨0, na, .root, fun _ => False, rfl, by show 0 + (3 * F + 20) ≤ 60; omega, by have := HNA.out; omega, HJ9.out, HFA9.out, FI.root, HSX9.out⟩
                case round =>
                  rename World => U1
                  obtain ⟨k2, na2, fs2, Zr2, rfl, hkd, hna2, hJ, hFA, hFJ, hSX⟩ := hrel
                  clear HJ9 HFA9
                  have HJ := Lib.hid hJ
                  have HFA2 := Lib.hid hFA
                  have HFJ2 := Lib.hid hFJ
                  have HSX2 := Lib.hid hSX
                  have HV3 := Lib.hid (show V4.heap.size ≤ U1.heap.size from Nat.le_trans HV6.out hJ.out.size)
                  have hk3 : (k2 : Int) < 300 := by omega
                  have HKD := Lib.hid hkd
                  have HNA2 := Lib.hid hna2
                  obtain ⟨k3, hk3'⟩ : ∃ k3, k2 + 1 = k3 := ⟨_, rfl⟩
                  have hkw : IntKind.i64.wrap ((k2 : Int) + 1) = (k3 : Int) := by rw [IntKind.wrap_i64]; omega
                  have HKN2 := Lib.hid hk3'
                  clear hJ hFA hFJ hSX hkd hna2 hk3'
                  go_wp2_with fail
                  refine (jf_step HKON.out x9 Zr2 HJ.out key fs2 HFA2.out HFJ2.out HSX2.out HV3.out HB4.out.1 HB4.out.2.1 (by have h1 := HNA2.out; have h2 := HKD.out; omega) 99 (slot_in HKQ.out).2.2 (fun h => absurd rfl h)).mono ?_; rintro e U2 ⟨fs3, Zr3, rfl, hA3, hJ3, hS3, hr3⟩
                  have HJ3 := Lib.hid hJ3
                  have HFA3 := Lib.hid hA3
                  have HSX3 := Lib.hid hS3
                  clear hJ3 hA3 hS3
                  rcases hr3 with ⟨hf3, hI3, hl3⟩ | ⟨hf3, n3, wd3, Y, rfl, hin, hYa, hYl⟩
                  · have HFJ3 := Lib.hid hI3
                    have HLS := Lib.hid (hl3 rfl)
                    rw [hf3]
                    clear hf3 hI3 hl3
                    go_wp2
                    go_roundw
                    case rel => exact ⟨k3, na2 + 1, fs3, Zr3, rfl, by have h1 := HKD.out; have h2 := HKN2.out; have h3 := HLS.out; omega, by have h1 := HNA2.out; have h2 := HKN2.out; omega, HJ3.out, HFA3.out, HFJ3.out, HSX3.out⟩
                    case measure => have h2 := HKN2.out; simp [intOf]; omega
                  · rw [hf3]
                    have HYF := Lib.hid (show (key, 99) ∈ Y.xs ∧ Asc Y.xs ∧ Y.xs.length ≤ F from ⟨hin, hYa, hYl⟩)
                    have HIN := Lib.hid (in_find hYa hin)
                    obtain ⟨cn, hcn⟩ : ∃ cn, cnt key Y.xs = cn := ⟨_, rfl⟩
                    have HCN := Lib.hid hcn
                    clear hf3 hin hYa hYl hcn
                    go_wp2_with fail
                    refine (find_page F h6 fb fd Zr3 x9 key 0 n3 wd3 Y (by have := HYF.out.2.2; omega) _ HFA3.out).mono ?_; rintro e U3 ⟨A5, c5, rfl, hR5, hA5, hK5⟩
                    have hal := hK5.alloc (.cells #[.int .i64 (Y.lv : Int), .slice A5 Y.xs.length c5, .string Y.hi, .bool Y.la, .int .u64 (Y.rt : Int)] 40)
                    have HJ4 := Lib.hid (HJ3.out.calm hal)
                    have H29 := Lib.hid (Blk.new U3 [.int .i64 (Y.lv : Int), .slice A5 Y.xs.length c5, .string Y.hi, .bool Y.la, .int .u64 (Y.rt : Int)] 40)
                    have HR5 := Lib.hid (hR5.keptF ((Kept.refl (fun _ => False) U3).alloc (.cells #[.int .i64 (Y.lv : Int), .slice A5 Y.xs.length c5, .string Y.hi, .bool Y.la, .int .u64 (Y.rt : Int)] 40)) (fun _ _ h => h))
                    go_upto_region 38 with fail
                    generalize U3.heap.size = r29 at *
                    generalize U3.alloc (.cells #[.int .i64 (Y.lv : Int), .slice A5 Y.xs.length c5, .string Y.hi, .bool Y.la, .int .u64 (Y.rt : Int)] 40) = U4 at *
                    clear hal hR5 hA5 hK5
                    have hb9 := H29.out
                    have p0 := hb9.cell (i := 0) rfl
                    have p1 := hb9.cell (i := 1) rfl
                    have p2 := hb9.cell (i := 2) rfl
                    have p3 := hb9.cell (i := 3) rfl
                    have p4 := hb9.cell (i := 4) rfl
                    clear hb9
                    have HRF := Lib.hid (refFind_any (Y.lv : Int) A5 c5 Y.hi Y.la Y.rt Y.xs key U4 Y.xs.length rfl (by have := HYF.out.2.2; omega) HR5.out)
                    rw [HIN.out.1, HCN.out] at HRF
                    go_wp2_with fail
                    refine HRF.out.mono ?_; rintro e U5 ⟨rfl, hB9⟩
                    have hK9 := Below.kept hB9 (S := fun _ => False) (fun i hi h => by omega)
                    have HJ5 := Lib.hid (HJ4.out.calm hK9)
                    replace H29 := Lib.hid (hK9.blk H29.out (fun h => h))
                    replace HR5 := Lib.hid (HR5.out.keptF hK9 (fun _ _ h => h))
                    clear hB9 hK9 HRF HJ4 p0 p1 p2 p3 p4
                    go_wp2_with fail
                    refine (jb_err HJ5.out).mono ?_; rintro e U6 ⟨rfl, hK9⟩
                    replace HJ5 := Lib.hid (HJ5.out.calm hK9)
                    replace H29 := Lib.hid (hK9.blk H29.out (fun h => h))
                    replace HR5 := Lib.hid (HR5.out.keptF hK9 (fun _ _ h => h))
                    clear hK9
                    have hcl : cn < Y.xs.length := by rw [← HCN.out]; exact (List.getElem?_eq_some_iff.1 HIN.out.2).1
                    obtain ⟨g5, o5, rfl, hg5, hc5⟩ := HR5.out.at (by omega)
                    have hcell5 : U6.cell? ⟨g5, o5 + cn * 2 + 1, none⟩ = some (.int .u64 99) := (hc5 cn (key, 99) (by rw [← HCN.out]; exact HIN.out.2)).2
                    have hcI : (cn : Int) < (Y.xs.length : Int) := by omega
                    have hcY : Y.xs.length ≤ 6 := by have := HYF.out.2.2; omega
                    have hb9 := H29.out
                    have p1 := hb9.cell (i := 1) rfl
                    clear hb9 hc5
                    go_wp2
                    go_ret
                    exact ⟨rfl, (HKV6.out.trans HJ5.out.out (fun j hj h => by have h1 := HB4.out; have h2 := HR.out; rcases h with h | h | h <;> omega)).below (Nat.le_refl _) (fun _ h => h)⟩

end Go.Proofs.YtkpbbnpfdighjaaGreat
