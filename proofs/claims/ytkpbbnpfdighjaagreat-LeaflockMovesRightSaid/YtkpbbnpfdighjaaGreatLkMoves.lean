/-
  LeaflockMovesRight, walked. Condition: arguments within the model's reach.
-/
import Derived.Test.YtkpbbnpfdighjaaGreatLkLaw0
import Derived.Test.YtkpbbnpfdighjaaGreatLkMvq
import Derived.Test.YtkpbbnpfdighjaaGreatLkMcs
import Derived.Deep.CutBlock
namespace Go.Proofs.YtkpbbnpfdighjaaGreat
open Go.RowKit Go.Deep Plain
set_option linter.unusedVariables false

set_option maxRecDepth 100000 in
set_option maxHeartbeats 8000000 in
theorem lawMoves (w : World) (AR : Option Addr) (nR cR : Nat) (ss : List ByteArray) (hnR : ss.length = nR) (hrd : Rdv w w.heap.size (.slice AR nR cR) nR (ss.map Value.string)) (hsz : ∀ s ∈ ss, s.size ≤ maxLen) (f : Int) (key0 : ByteArray) (hkey : key0.size ≤ maxLen) (at' : Int) (AP : Option Addr) (cP : Nat) (ps : List Nat) (hpm : ps.length ≤ maxLen) (hps : ∀ x ∈ ps, x < 256) (hpa : 0 < ps.length → ∃ g off, AP = some ⟨g, off, none⟩ ∧ g < w.heap.size ∧ ∀ (j p : Nat), ps[j]? = some p → w.cell? ⟨g, off + j, none⟩ = some (.int .u8 (p : Int))) :
    Calls Tryz.prog 3 #[.slice AR nR cR, .int .i64 f, .string key0, .int .i64 at', .slice AP ps.length cP] w fun e w' => e = .returned (.bool true) ∧ Below w.heap.size w w' := by
  unfold maxLen at hkey hpm
  have HPS := Lib.hid hps
  have HPA := Lib.hid hpa
  clear hps hpa
  obtain ⟨F, hF⟩ : ∃ F : Nat, 4 + f % 3 = (F : Int) := ⟨(4 + f % 3).toNat, by omega⟩
  have h4 : 4 ≤ F := by omega
  have h6 : F ≤ 6 := by omega
  have HF := Lib.hid hF
  have HRD := Lib.hid hrd
  have HSS := Lib.hid hsz
  clear hF hrd hsz
  go_enter Tryz.func3, Tryz.ntmps3
  go_wp2_with fail
  refine (kitConfig_any 1 f F HF.out _).mono ?_; rintro e w1 ⟨rfl, hK1⟩
  have HK := Lib.hid (hK1.mono (T := (fun i => w.heap.size ≤ i)) (fun _ h => h.elim))
  replace HRD := Lib.hid (HRD.out.keptN hK1 (Nat.le_refl _))
  have HW1 := Lib.hid HK.out.size
  clear hK1 HF
  go_wp2_with fail
  have hal := (Kept.refl (fun _ => False) w1).alloc (.cells #[.int .i64 1, .int .i64 2, .int .i64 100, .int .i64 100, .int .i64 200, .int .i64 (F : Int), .int .u64 1000] 26)
  have H11 := Lib.hid (Blk.new w1 [.int .i64 1, .int .i64 2, .int .i64 100, .int .i64 100, .int .i64 200, .int .i64 (F : Int), .int .u64 1000] 26)
  replace HRD := Lib.hid (HRD.out.keptN hal (Nat.le_refl _))
  replace HK := Lib.hid (HK.out.trans hal (fun _ _ h => h.elim))
  clear hal
  generalize hr11 : w1.heap.size = r11 at *
  generalize w1.alloc (.cells #[.int .i64 1, .int .i64 2, .int .i64 100, .int .i64 100, .int .i64 200, .int .i64 (F : Int), .int .u64 1000] 26) = W1 at *
  have HR11 := Lib.hid (show w.heap.size ≤ r11 ∧ r11 < W1.heap.size from ⟨HW1.out, H11.out.lt⟩)
  clear hr11
  refine (kitMem2 F h4 h6 _).mono ?_
  rintro e w2 ⟨b, g, l, fb, fd, rfl, hM2, hS2, hr2, hd, hb2, hg2, hK2⟩
  have HM := Lib.hid hM2
  have HS := Lib.hid hS2
  have HRT := Lib.hid hr2
  have HD := Lib.hid hd
  have HBG := Lib.hid (show r11 < b ∧ r11 < g ∧ b < w2.heap.size ∧ g < w2.heap.size by have h1 := HR11.out; have h2 := hM2.obj.lt; have h3 := hM2.row.lt; omega)
  replace HRD := Lib.hid (HRD.out.keptN hK2 (Nat.le_refl _))
  replace HK := Lib.hid (HK.out.trans hK2 (fun _ _ h => h.elim))
  replace H11 := Lib.hid (hK2.blk H11.out (fun h => h))
  clear hM2 hS2 hr2 hd hb2 hg2 hK2
  go_upto_region 3 with fail
  have hal := (Kept.refl (fun _ => False) w2).alloc (.cells #[.int .i64 1, .int .i64 2, .int .i64 100, .int .i64 100, .int .i64 200, .int .i64 (F : Int), .int .u64 1000, .int .i64 10, .int .i64 fb, .int .i64 fd] 29)
  have H12 := Lib.hid (Blk.new w2 [.int .i64 1, .int .i64 2, .int .i64 100, .int .i64 100, .int .i64 200, .int .i64 (F : Int), .int .u64 1000, .int .i64 10, .int .i64 fb, .int .i64 fd] 29)
  replace HRD := Lib.hid (HRD.out.keptN hal (Nat.le_refl _))
  replace HK := Lib.hid (HK.out.trans hal (fun _ _ h => h.elim))
  replace H11 := Lib.hid (hal.blk H11.out (fun h => h))
  replace HM := Lib.hid (HM.out.kept hal (fun h => h) (fun h => h))
  clear hal
  generalize hr12 : w2.heap.size = r12 at *
  have HR := Lib.hid (show w.heap.size ≤ r11 ∧ r11 < b ∧ r11 < g ∧ b < r12 ∧ g < r12 by have h1 := HR11.out; have h2 := HBG.out; omega)
  clear hr12 HBG HR11
  generalize w2.alloc (.cells #[.int .i64 1, .int .i64 2, .int .i64 100, .int .i64 100, .int .i64 200, .int .i64 (F : Int), .int .u64 1000, .int .i64 10, .int .i64 fb, .int .i64 fd] 29) = W2 at *
  have HM0 := Lib.hid HM.out
  have hx11 := H11.out
  have x0 := hx11.cell (i := 0) rfl
  have x1 := hx11.cell (i := 1) rfl
  have x2 := hx11.cell (i := 2) rfl
  have x3 := hx11.cell (i := 3) rfl
  have x4 := hx11.cell (i := 4) rfl
  have x5 := hx11.cell (i := 5) rfl
  have x6 := hx11.cell (i := 6) rfl
  clear hx11
  go_wp2_with fail
  refine (keys_any AR nR cR ss F _ hnR (by omega) HRD.out HSS.out).mono ?_; rintro e w5 ⟨vk, rfl, hO3, hB3⟩
  have hK3 := Below.kept hB3 (S := fun _ => False) (fun i hi h => by omega)
  replace HK := Lib.hid (HK.out.trans hK3 (fun _ _ h => h.elim))
  replace H11 := Lib.hid (hK3.blk H11.out (fun h => h))
  replace H12 := Lib.hid (hK3.blk H12.out (fun h => h))
  replace HM := Lib.hid (HM.out.kept hK3 (fun h => h) (fun h => h))
  obtain ⟨AK, cK, rfl, hKr, hAK⟩ := keys_read hO3
  obtain ⟨ks, hks⟩ : ∃ ks, keysOf (ss.take F) = ks := ⟨_, rfl⟩
  have hks' : (PlainE.keysE (ss.take F)).map (·.1) = ks := by rw [← hks]; unfold keysOf; rw [List.take_take, show min 40 F = F from by omega]
  have hkF : ks.length ≤ F := by
    rw [← hks', List.length_map]
    have := PlainE.keysE_len (ss.take F)
    rw [List.length_take] at this; omega
  rw [hks'] at hKr
  rw [hks']
  obtain ⟨nk, hnk⟩ : ∃ nk, ks.length = nk := ⟨_, rfl⟩
  rw [hnk] at hkF ⊢
  have HKR := Lib.hid hKr
  have HAK := Lib.hid (show ∀ a, AK = some a → a.block ≠ b ∧ a.block ≠ g from fun a ha => by
    have h1 := hAK a ha
    have h2 := HM0.out.obj.lt
    have h3 := HM0.out.row.lt
    omega)
  have HKF := Lib.hid (show (∀ k ∈ ks, k.size ≤ 32) ∧ ∀ i a b, ks[i]? = some a → ks[i + 1]? = some b → kl a b = true from by rw [← hks]; exact keysOf_facts _)
  have HNK := Lib.hid hnk
  clear hO3 hB3 hK3 hKr hAK hks hks' hnk HRD HSS HM0 x0 x1 x2 x3 x4 x5 x6
  go_wp2_with fail
  refine (awake_any _).mono ?_; rintro e w6 ⟨rfl, hKa⟩
  replace HK := Lib.hid (HK.out.trans hKa (fun _ _ h => h.elim))
  replace H11 := Lib.hid (hKa.blk H11.out (fun h => h))
  replace H12 := Lib.hid (hKa.blk H12.out (fun h => h))
  replace HM := Lib.hid (HM.out.kept hKa (fun h => h) (fun h => h))
  replace HKR := Lib.hid (HKR.out.kept hKa (fun _ _ h => h))
  clear hKa
  by_cases hn2 : nk < 2
  · have d0 : (nk : Int) < 2 := by omega
    go_wp2_with fail
    refine (awake_any _).mono ?_; rintro e w9 ⟨rfl, hKa⟩
    replace HK := Lib.hid (HK.out.trans hKa (fun _ _ h => h.elim))
    go_wp2
    go_ret
    exact ⟨rfl, HK.out.below (Nat.le_refl _) (fun _ h => h)⟩
  · have d0 : ¬ (nk : Int) < 2 := by omega
    by_cases hp100 : 100 < ps.length
    · have d1 : (100 : Int) < (ps.length : Int) := by omega
      go_wp2_with fail
      refine (awake_any _).mono ?_; rintro e w9 ⟨rfl, hKa⟩
      replace HK := Lib.hid (HK.out.trans hKa (fun _ _ h => h.elim))
      go_wp2
      go_ret
      exact ⟨rfl, HK.out.below (Nat.le_refl _) (fun _ h => h)⟩
    · have d1 : ¬ (100 : Int) < (ps.length : Int) := by omega
      by_cases hk100 : 100 < key0.size
      · have d2 : (100 : Int) < (key0.size : Int) := by omega
        go_wp2_with fail
        refine (awake_any _).mono ?_; rintro e w9 ⟨rfl, hKa⟩
        replace HK := Lib.hid (HK.out.trans hKa (fun _ _ h => h.elim))
        go_wp2
        go_ret
        exact ⟨rfl, HK.out.below (Nat.le_refl _) (fun _ h => h)⟩
      · have d2 : ¬ (100 : Int) < (key0.size : Int) := by omega
        go_upto_region 6 with fail
        rename World => W3
        go_cut [70] from 68 to 70 (fun v wx => ∃ e : Bool, v = .bool e ∧ wx = W3)
        case first =>
          by_cases h3 : at'.tmod 3 = 0
          · have e0 : (at'.tmod 3 == 0) = true := by simp [h3]
            have e1 : (!(at'.tmod 3 == 0)) = false := by simp [h3]
            go_wp2
            go_meet
            exact ⟨_, rfl, rfl⟩
          · have e0 : (at'.tmod 3 == 0) = false := by simpa using h3
            have e1 : (!(at'.tmod 3 == 0)) = true := by simp [h3]
            go_wp2
            go_meet
            exact ⟨_, rfl, rfl⟩
        case rest =>
          obtain ⟨ee, rfl, rfl⟩ := hcut
          rename World => W3
          go_upto_if 70 with fail
          go_cut [2] from 71 to 77 (fun v wx => ∃ kk : ByteArray, v = .string kk ∧ wx = W3)
          case first =>
            cases ee with
            | false =>
              go_wp2
              go_meet
              exact ⟨key0, rfl, rfl⟩
            | true =>
              obtain ⟨r, hr⟩ : ∃ r : Nat, at' % (nk : Int) = (r : Int) := ⟨(at' % (nk : Int)).toNat, by have := Int.emod_nonneg at' (b := (nk : Int)) (by omega); omega⟩
              have hrl : r < nk := by have := Int.emod_lt_of_pos at' (b := (nk : Int)) (by omega); omega
              have HRM := Lib.hid hr
              clear hr
              obtain ⟨gk, ok, rfl, hgk, hkc⟩ := HKR.out (by rw [HNK.out]; omega)
              obtain ⟨k', hk'⟩ : ∃ k', ks[r]? = some k' := ⟨_, List.getElem?_eq_getElem (by rw [HNK.out]; exact hrl)⟩
              have hkc1 := hkc r k' hk'
              clear hkc hk'
              go_wp2_with fail
              refine (mod_of at' (nk : Int) r _ (by omega) (by omega) HRM.out).mono ?_; rintro e w9 ⟨rfl, rfl⟩
              go_wp2
              go_meet
              exact ⟨k', rfl, rfl⟩
          case rest =>
            obtain ⟨key, rfl, rfl⟩ := hcut
            rename World => W3
            have hb3 := HM.out.obj.lt
            have hg3 := HM.out.row.lt
            have h113 := H11.out.lt
            have h123 := H12.out.lt
            have hw3 := HK.out.size
            have HS3 := Lib.hid (show b < W3.heap.size ∧ g < W3.heap.size ∧ r11 < W3.heap.size ∧ r12 < W3.heap.size ∧ w.heap.size ≤ W3.heap.size from ⟨hb3, hg3, h113, h123, hw3⟩)
            clear hb3 hg3 h113 h123 hw3 HAK
            go_wp2_with fail
            go_loopw [15, 16] (fun v iv wr => ∃ i : Nat, i ≤ nk ∧ iv = .int .i64 i ∧ slLen v = i ∧ wr.ownsRow W3.heap.size 38 2 v i (flat (slotsOf (ks.take i))) ∧ Below W3.heap.size W3 wr) (fun _ iv _ => nk - (intOf iv).toNat)
            case atStart => exact ⟨0, Nat.zero_le _, rfl, rfl, World.ownsRow_nil _ _ _ _, Below.refl _ _⟩
            case round =>
              obtain ⟨i, hi, rfl, hsl, hO, hB⟩ := hrel
              have HO := Lib.hid hO
              have HB := Lib.hid hB
              have hzr := hB.size
              obtain ⟨A0, c0, rfl, -, -, -⟩ := Rs.own hO
              clear hO hB hsl
              by_cases hlt : i < nk
              · obtain ⟨gk, off, rfl, hgk, hkc⟩ := HKR.out (by have := HNK.out; omega)
                obtain ⟨ki, hki⟩ : ∃ k, ks[i]? = some k := ⟨_, List.getElem?_eq_getElem (by have := HNK.out; omega)⟩
                have hkc1 : wr.cell? ⟨gk, off + i, none⟩ = some (.string ki) := (HB.out.cell (p := ⟨gk, off + i, none⟩) hgk).trans (hkc i ki hki)
                have HKI := Lib.hid hki
                have hwi : IntKind.u64.wrap ((i : Int) + 1) = ((i + 1 : Nat) : Int) := by rw [IntKind.wrap_u64]; omega
                clear hkc hki
                go_wp2_with (at_builtin; go_must (refine wpList_snoc rfl (.tmp 84) (.tmp 93) rfl W3.heap.size _ i (slotsOf (ks.take i)) rfl (HO.out.alloc _) ⟨wr.heap.size, 0, none⟩ ki (i + 1) rfl (Rs.one _ ki (i + 1)) (by omega) (by rw [nblk_alloc]; omega) ?_))
                intro v7 w7 hO7 hK7
                obtain ⟨A7, c7, rfl, -, -, -⟩ := Rs.own hO7
                have hB7 : Below W3.heap.size wr w7 := ((Below.refl W3.heap.size wr).alloc hzr (.cells #[.string ki, .int .u64 ((i + 1 : Nat) : Int)] 38)).trans (hK7.below (by rw [nblk_alloc]; omega) (fun j e => (HO.out.lt j e.symm).1))
                have HB7 := Lib.hid (HB.out.trans hB7)
                have HO7 := Lib.hid (show w7.ownsRow W3.heap.size 38 2 (.slice A7 (i + 1) c7) (i + 1) (flat (slotsOf (ks.take (i + 1)))) from by rw [← flat_take_snoc HKI.out]; exact hO7)
                clear hO7 hK7 hB7 HO HB
                go_wp2
                go_roundw
                case rel => exact ⟨i + 1, by omega, by go_num, rfl, HO7.out, HB7.out⟩
                case measure => simp [intOf]; omega
              · obtain rfl : nk = i := by omega
                rename World => V0
                rw [List.take_of_length_le (by rw [HNK.out]; exact Nat.le_refl _)] at HO
                have hKb := Below.kept HB.out (S := fun i => W3.heap.size ≤ i) (fun i _ h => h)
                replace HM := Lib.hid (HM.out.kept hKb (by have := HS3.out; omega) (by have := HS3.out; omega))
                replace H11 := Lib.hid (hKb.blk H11.out (by have := HS3.out; omega))
                replace H12 := Lib.hid (hKb.blk H12.out (by have := HS3.out; omega))
                replace HK := Lib.hid (HK.out.trans hKb (fun j hj h => by have := HS3.out; omega))
                obtain ⟨A, c, he, hlS, hRS, hAS⟩ := Rs.own HO.out
                cases he
                have HRS := Lib.hid hRS
                have HAS := Lib.hid (show ∀ a, A0 = some a → W3.heap.size ≤ a.block from hAS)
                have HV0 := Lib.hid (show W3.heap.size ≤ V0.heap.size from HB.out.size)
                clear hRS hAS HO HB hKb hlS HKR hzr
                go_upto_region 14 with fail
                have hal := (Kept.refl (fun _ => False) V0).alloc (.cells #[.int .i64 0, .slice A0 nk c0, .string ⟨#[]⟩, .bool true, .int .u64 0] 40)
                have H17 := Lib.hid (Blk.new V0 [.int .i64 0, .slice A0 nk c0, .string ⟨#[]⟩, .bool true, .int .u64 0] 40)
                replace HK := Lib.hid (HK.out.trans hal (fun _ _ h => h.elim))
                replace H11 := Lib.hid (hal.blk H11.out (fun h => h))
                replace H12 := Lib.hid (hal.blk H12.out (fun h => h))
                replace HM := Lib.hid (HM.out.kept hal (fun h => h) (fun h => h))
                replace HRS := Lib.hid (HRS.out.keptF hal (fun _ _ h => h))
                clear hal
                have HZ17 := Lib.hid (show V0.heap.size = V0.heap.size from rfl)
                generalize hr17 : V0.heap.size = r17 at *
                generalize V0.alloc (.cells #[.int .i64 0, .slice A0 nk c0, .string ⟨#[]⟩, .bool true, .int .u64 0] 40) = V1 at *
                replace HZ17 := Lib.hid (show W3.heap.size ≤ r17 from HV0.out)
                clear hr17
                have hx11 := H11.out
                have x0 := hx11.cell (i := 0) rfl
                have x1 := hx11.cell (i := 1) rfl
                have x2 := hx11.cell (i := 2) rfl
                have x3 := hx11.cell (i := 3) rfl
                have x4 := hx11.cell (i := 4) rfl
                have x5 := hx11.cell (i := 5) rfl
                have x6 := hx11.cell (i := 6) rfl
                have hx17 := H17.out
                have p0 := hx17.cell (i := 0) rfl
                have p1 := hx17.cell (i := 1) rfl
                have p2 := hx17.cell (i := 2) rfl
                have p3 := hx17.cell (i := 3) rfl
                have p4 := hx17.cell (i := 4) rfl
                clear hx11 hx17
                have hn1 : (slotsOf ks).length = nk := by rw [slotsOf_length]; exact HNK.out
                have HN1 := Lib.hid hn1
                clear hn1
                go_wp2_with fail
                refine (kput_to F 1 h4 h6 (by omega) (by omega) 0 A0 c0 ⟨#[]⟩ true 0 (slotsOf ks) nk HN1.out (fun _ => rfl) hkF (by omega) b g l 0 _ HM.out HRS.out (fun a ha h => by have h1 := HAS.out a ha; have h2 := HS3.out; rcases h with h | h <;> omega)).mono ?_; rintro e V2 ⟨rfl, hM2, hK2⟩
                replace HM := Lib.hid hM2
                replace H11 := Lib.hid (hK2.blk H11.out (fun h => by have h1 := HR.out; have h2 := HS3.out; have h3 := HV0.out; have h4 := HZ17.out; rcases h with h | h <;> omega))
                replace H12 := Lib.hid (hK2.blk H12.out (fun h => by have h1 := HR.out; have h2 := HS3.out; have h3 := HV0.out; have h4 := HZ17.out; rcases h with h | h <;> omega))
                replace H17 := Lib.hid (hK2.blk H17.out (fun h => by have h1 := HR.out; have h2 := HS3.out; have h3 := HV0.out; have h4 := HZ17.out; rcases h with h | h <;> omega))
                replace HRS := Lib.hid (HRS.out.keptF hK2 (fun a ha h => by have h1 := HAS.out a ha; have h2 := HS3.out; rcases h with h | h <;> omega))
                replace HK := Lib.hid (HK.out.trans hK2 (fun i hi h => by have h1 := HR.out; rcases h with h | h <;> omega))
                clear hM2 hK2 x0 x1 x2 x3 x4 x5 x6 p0 p1 p2 p3 p4
                obtain ⟨l1, hl1⟩ : ∃ l1, app l (pst (nad F 1) (⟨0, ⟨#[]⟩, true, 0, slotsOf ks⟩ : Pg)) = l1 := ⟨_, rfl⟩
                rw [hl1] at HM
                have HL1 := Lib.hid hl1
                clear hl1
                go_upto_region 15 with fail
                have hx11 := H11.out
                have x0 := hx11.cell (i := 0) rfl
                have x1 := hx11.cell (i := 1) rfl
                have x2 := hx11.cell (i := 2) rfl
                have x3 := hx11.cell (i := 3) rfl
                have x4 := hx11.cell (i := 4) rfl
                have x5 := hx11.cell (i := 5) rfl
                have x6 := hx11.cell (i := 6) rfl
                clear hx11
                go_wp2_with fail
                refine (node1_at h4 h6 _).mono ?_; rintro e V3 ⟨rfl, hK3⟩
                replace HK := Lib.hid (HK.out.trans hK3 (fun _ _ h => h.elim))
                replace H11 := Lib.hid (hK3.blk H11.out (fun h => h))
                replace H12 := Lib.hid (hK3.blk H12.out (fun h => h))
                replace HM := Lib.hid (HM.out.kept hK3 (fun h => h) (fun h => h))
                replace H17 := Lib.hid (hK3.blk H17.out (fun h => h))
                replace HRS := Lib.hid (HRS.out.keptF hK3 (fun _ _ h => h))
                clear hK3 x0 x1 x2 x3 x4 x5 x6
                go_wp2_with fail
                refine (lock_of 0 1 (by decide) (by decide) _).mono ?_; rintro e V4 ⟨rfl, rfl⟩
                go_wp2_with fail
                refine (poke_any b g l1 0 (nla F 1) 1 0 ⟨#[]⟩ _ HM.out).mono ?_; rintro e V4 ⟨rfl, hM4, hK4⟩
                replace HM := Lib.hid hM4
                replace H11 := Lib.hid (hK4.blk H11.out (fun h => by have h1 := HR.out; have h2 := HS3.out; have h3 := HV0.out; have h4 := HZ17.out; rcases h with h | h <;> omega))
                replace H12 := Lib.hid (hK4.blk H12.out (fun h => by have h1 := HR.out; have h2 := HS3.out; have h3 := HV0.out; have h4 := HZ17.out; rcases h with h | h <;> omega))
                replace H17 := Lib.hid (hK4.blk H17.out (fun h => by have h1 := HR.out; have h2 := HS3.out; have h3 := HV0.out; have h4 := HZ17.out; rcases h with h | h <;> omega))
                replace HRS := Lib.hid (HRS.out.keptF hK4 (fun a ha h => by have h1 := HAS.out a ha; have h2 := HS3.out; rcases h with h | h <;> omega))
                replace HK := Lib.hid (HK.out.trans hK4 (fun i hi h => by have h1 := HR.out; rcases h with h | h <;> omega))
                clear hM4 hK4
                go_wp2_with fail
                refine (poke_any b g _ 0 4 2 0 ⟨#[]⟩ _ HM.out).mono ?_; rintro e V5 ⟨rfl, hM5, hK5⟩
                replace HM := Lib.hid hM5
                replace H11 := Lib.hid (hK5.blk H11.out (fun h => by have h1 := HR.out; have h2 := HS3.out; have h3 := HV0.out; have h4 := HZ17.out; rcases h with h | h <;> omega))
                replace H12 := Lib.hid (hK5.blk H12.out (fun h => by have h1 := HR.out; have h2 := HS3.out; have h3 := HV0.out; have h4 := HZ17.out; rcases h with h | h <;> omega))
                replace H17 := Lib.hid (hK5.blk H17.out (fun h => by have h1 := HR.out; have h2 := HS3.out; have h3 := HV0.out; have h4 := HZ17.out; rcases h with h | h <;> omega))
                replace HRS := Lib.hid (HRS.out.keptF hK5 (fun a ha h => by have h1 := HAS.out a ha; have h2 := HS3.out; rcases h with h | h <;> omega))
                replace HK := Lib.hid (HK.out.trans hK5 (fun i hi h => by have h1 := HR.out; rcases h with h | h <;> omega))
                clear hM5 hK5
                have hML : putAt (putAt l1 (nla F 1) (1, ⟨#[]⟩, 0)) 4 (2, ⟨#[]⟩, 0) = memL F l (pgP ks) := by rw [← HL1.out]; rfl
                rw [hML] at HM
                clear hML HL1
                go_upto_region 17 with fail
                have hx17 := H17.out
                have p0 := hx17.cell (i := 0) rfl
                have p1 := hx17.cell (i := 1) rfl
                have p2 := hx17.cell (i := 2) rfl
                have p3 := hx17.cell (i := 3) rfl
                have p4 := hx17.cell (i := 4) rfl
                clear hx17
                obtain ⟨m, hm⟩ : ∃ m, m = nk - nk / 2 := ⟨_, rfl⟩
                have HMM := Lib.hid hm
                have hm1 : 1 ≤ m ∧ m < nk := by omega
                clear hm
                obtain ⟨sp, hsp⟩ : ∃ sp, ∀ x0 x1, (slotsOf ks)[m - 1]? = some x0 → (slotsOf ks)[m]? = some x1 → sepB x0.1 x1.1 = sp := by
                  obtain ⟨y0, hy0⟩ : ∃ y, (slotsOf ks)[m - 1]? = some y := ⟨_, List.getElem?_eq_getElem (by rw [HN1.out]; omega)⟩
                  obtain ⟨y1, hy1⟩ : ∃ y, (slotsOf ks)[m]? = some y := ⟨_, List.getElem?_eq_getElem (by rw [HN1.out]; omega)⟩
                  exact ⟨sepB y0.1 y1.1, fun a b ha hb => by rw [hy0] at ha; rw [hy1] at hb; cases ha; cases hb; rfl⟩
                have HSP := Lib.hid hsp
                clear hsp
                go_wp2_with fail
                refine (refSplit_low A0 c0 ⟨#[]⟩ true 0 2 (slotsOf ks) nk m sp _ HN1.out (by omega) (by omega) HMM.out HRS.out (fun x hx => by
                  obtain ⟨i, hi⟩ := List.getElem?_of_mem hx
                  have h1 := HKF.out.1 x.1 (List.mem_of_getElem? (slotsOf_at hi).1)
                  omega) HSP.out).mono ?_; rintro e V6 ⟨gs, os, hgs, rfl, hK6⟩
                replace HK := Lib.hid (HK.out.trans hK6 (fun _ _ h => h.elim))
                replace H11 := Lib.hid (hK6.blk H11.out (fun h => h))
                replace H12 := Lib.hid (hK6.blk H12.out (fun h => h))
                replace HM := Lib.hid (HM.out.kept hK6 (fun h => h) (fun h => h))
                replace H17 := Lib.hid (hK6.blk H17.out (fun h => h))
                replace HRS := Lib.hid (HRS.out.keptF hK6 (fun _ _ h => h))
                have HGS := Lib.hid (show W3.heap.size ≤ gs from HAS.out _ hgs)
                subst hgs
                have hcn := HRS.out.le
                rw [HN1.out] at hcn
                have HRQ := Lib.hid ((HRS.out.take m).cap (m := m) (by rw [List.length_take]; omega) (by omega))
                have HRR := Lib.hid (show Rs V6 (some ⟨gs, os + m * 2, none⟩) (c0 - m) ((slotsOf ks).drop m) from by
                  have := HRS.out.drop m (by rw [HN1.out]; omega)
                  rw [if_neg (by omega)] at this
                  simp [Addr.add] at this
                  rw [if_neg (by omega)] at this
                  exact this)
                clear hK6 hcn HMM HSP p0 p1 p2 p3 p4
                go_upto_region 18 with fail
                have hal := ((Kept.refl (fun _ => False) V6).alloc (.cells #[.int .i64 0, .slice (some ⟨gs, os, none⟩) m m, .string sp, .bool false, .int .u64 2] 40)).alloc (.cells #[.int .i64 0, .slice (some ⟨gs, os + m * 2, none⟩) (nk - m) (c0 - m), .string ⟨#[]⟩, .bool true, .int .u64 0] 40)
                have hz6 : (V6.alloc (.cells #[.int .i64 0, .slice (some ⟨gs, os, none⟩) m m, .string sp, .bool false, .int .u64 2] 40)).heap.size = V6.heap.size + 1 := nblk_alloc _ _
                have H18 := Lib.hid ((Blk.new V6 [.int .i64 0, .slice (some ⟨gs, os, none⟩) m m, .string sp, .bool false, .int .u64 2] 40).alloc (.cells #[.int .i64 0, .slice (some ⟨gs, os + m * 2, none⟩) (nk - m) (c0 - m), .string ⟨#[]⟩, .bool true, .int .u64 0] 40))
                have H19 := Lib.hid (show Blk ((V6.alloc (.cells #[.int .i64 0, .slice (some ⟨gs, os, none⟩) m m, .string sp, .bool false, .int .u64 2] 40)).alloc (.cells #[.int .i64 0, .slice (some ⟨gs, os + m * 2, none⟩) (nk - m) (c0 - m), .string ⟨#[]⟩, .bool true, .int .u64 0] 40)) (V6.heap.size + 1) 40 [.int .i64 0, .slice (some ⟨gs, os + m * 2, none⟩) (nk - m) (c0 - m), .string ⟨#[]⟩, .bool true, .int .u64 0] from by
                  have h := Blk.new (V6.alloc (.cells #[.int .i64 0, .slice (some ⟨gs, os, none⟩) m m, .string sp, .bool false, .int .u64 2] 40)) [.int .i64 0, .slice (some ⟨gs, os + m * 2, none⟩) (nk - m) (c0 - m), .string ⟨#[]⟩, .bool true, .int .u64 0] 40
                  rw [hz6] at h
                  exact h)
                replace HK := Lib.hid (HK.out.trans hal (fun _ _ h => h.elim))
                replace H11 := Lib.hid (hal.blk H11.out (fun h => h))
                replace H12 := Lib.hid (hal.blk H12.out (fun h => h))
                replace HM := Lib.hid (HM.out.kept hal (fun h => h) (fun h => h))
                replace H17 := Lib.hid (hal.blk H17.out (fun h => h))
                replace HRS := Lib.hid (HRS.out.keptF hal (fun _ _ h => h))
                replace HRQ := Lib.hid (HRQ.out.keptF hal (fun _ _ h => h))
                replace HRR := Lib.hid (HRR.out.keptF hal (fun _ _ h => h))
                clear hal hz6
                generalize V6.heap.size = r18 at *
                generalize (V6.alloc (.cells #[.int .i64 0, .slice (some ⟨gs, os, none⟩) m m, .string sp, .bool false, .int .u64 2] 40)).alloc (.cells #[.int .i64 0, .slice (some ⟨gs, os + m * 2, none⟩) (nk - m) (c0 - m), .string ⟨#[]⟩, .bool true, .int .u64 0] 40) = V7 at *
                have hx12 := H12.out
                have y0 := hx12.cell (i := 0) rfl
                have y1 := hx12.cell (i := 1) rfl
                have y2 := hx12.cell (i := 2) rfl
                have y3 := hx12.cell (i := 3) rfl
                have y4 := hx12.cell (i := 4) rfl
                have y5 := hx12.cell (i := 5) rfl
                have y6 := hx12.cell (i := 6) rfl
                have y7 := hx12.cell (i := 7) rfl
                have y8 := hx12.cell (i := 8) rfl
                have y9 := hx12.cell (i := 9) rfl
                clear hx12
                have hb7 := HM.out.obj.lt
                have hg7 := HM.out.row.lt
                have h117 := H11.out.lt
                have hw7 := HK.out.size
                have HB7 := Lib.hid (show b < V7.heap.size ∧ g < V7.heap.size ∧ r11 < V7.heap.size ∧ w.heap.size ≤ V7.heap.size from ⟨hb7, hg7, h117, hw7⟩)
                clear hb7 hg7 h117 hw7
                go_wp2_with fail
                refine (newLock_at F fb fd key 0 _).mono ?_; rintro e V8 ⟨x, Zx, rfl, hA, hZ, hK⟩
                have HX := Lib.hid hA
                have HZX := Lib.hid hZ
                have HB8 := Lib.hid hK.size
                replace HK := Lib.hid (HK.out.trans hK (fun _ _ h => h.elim))
                replace H11 := Lib.hid (hK.blk H11.out (fun h => h))
                replace H12 := Lib.hid (hK.blk H12.out (fun h => h))
                replace HM := Lib.hid (HM.out.kept hK (fun h => h) (fun h => h))
                replace H17 := Lib.hid (hK.blk H17.out (fun h => h))
                replace H18 := Lib.hid (hK.blk H18.out (fun h => h))
                replace H19 := Lib.hid (hK.blk H19.out (fun h => h))
                replace HRS := Lib.hid (HRS.out.keptF hK (fun _ _ h => h))
                replace HRQ := Lib.hid (HRQ.out.keptF hK (fun _ _ h => h))
                replace HRR := Lib.hid (HRR.out.keptF hK (fun _ _ h => h))
                clear hA hZ hK y0 y1 y2 y3 y4 y5 y6 y7 y8 y9
                go_upto_region 19 with fail
                have hx12 := H12.out
                have y0 := hx12.cell (i := 0) rfl
                have y1 := hx12.cell (i := 1) rfl
                have y2 := hx12.cell (i := 2) rfl
                have y3 := hx12.cell (i := 3) rfl
                have y4 := hx12.cell (i := 4) rfl
                have y5 := hx12.cell (i := 5) rfl
                have y6 := hx12.cell (i := 6) rfl
                have y7 := hx12.cell (i := 7) rfl
                have y8 := hx12.cell (i := 8) rfl
                have y9 := hx12.cell (i := 9) rfl
                have hx19 := H19.out
                have p0 := hx19.cell (i := 0) rfl
                have p1 := hx19.cell (i := 1) rfl
                have p2 := hx19.cell (i := 2) rfl
                have p3 := hx19.cell (i := 3) rfl
                have p4 := hx19.cell (i := 4) rfl
                clear hx12 hx19
                go_wp2_with fail
                refine (newFresh_any 1 2 100 100 200 F 1000 10 fb fd (limF h4 h6) HD.out 2 0 (some ⟨gs, os + m * 2, none⟩) (c0 - m) ⟨#[]⟩ true 0 ((slotsOf ks).drop m) _ (nk - m) (by rw [List.length_drop, HN1.out]) (by omega) (by omega) HRR.out).mono ?_; rintro e V9 ⟨qf, Zf, rfl, hS, hZ, hK⟩
                have HFS := Lib.hid (show Stm Zf V9 qf 108 (frs F (pgR ks m)) 0 2 1 (pgR ks m) from hS)
                have HZF := Lib.hid (show ∀ i, Zf i → V8.heap.size ≤ i ∧ i < V9.heap.size from fun i hi => ⟨hZ i hi, hS.lt i hi⟩)
                have HB9 := Lib.hid hK.size
                replace HX := Lib.hid (HX.out.kept hK (fun _ _ h => h))
                replace HK := Lib.hid (HK.out.trans hK (fun _ _ h => h.elim))
                replace H11 := Lib.hid (hK.blk H11.out (fun h => h))
                replace H12 := Lib.hid (hK.blk H12.out (fun h => h))
                replace HM := Lib.hid (HM.out.kept hK (fun h => h) (fun h => h))
                replace H17 := Lib.hid (hK.blk H17.out (fun h => h))
                replace H18 := Lib.hid (hK.blk H18.out (fun h => h))
                replace H19 := Lib.hid (hK.blk H19.out (fun h => h))
                replace HRS := Lib.hid (HRS.out.keptF hK (fun _ _ h => h))
                replace HRQ := Lib.hid (HRQ.out.keptF hK (fun _ _ h => h))
                replace HRR := Lib.hid (HRR.out.keptF hK (fun _ _ h => h))
                clear hS hZ hK y0 y1 y2 y3 y4 y5 y6 y7 y8 y9 p0 p1 p2 p3 p4
                go_upto_region 20 with fail
                refine wp_region_held_drew (S := (fun w' => Kept (fun _ => False) V9 w')) (by kernel_rfl) ?_ (fun hHeld => ?_)
                · exact (Kept.refl _ _).drew
                have HW := Lib.hid ((Kept.refl (fun _ => False) V9).drew)
                generalize V9.drew = G at *
                refine wpAnyH_take (i := 0) (oi := ⟨some 123, _, _, _, _, _⟩) (v := ?_) rfl (by kernel_rfl) (by kernel_rfl) (by kernel_rfl) (fun _ _ _ h => h) (Or.inl ⟨by rfl, ?_⟩) hHeld ?_
                rotate_left
                · (intro wq hSw; have hb9 := hSw.blk H12.out (fun h => h); have y0 := hb9.cell (i := 0) rfl; have y1 := hb9.cell (i := 1) rfl; have y2 := hb9.cell (i := 2) rfl; have y3 := hb9.cell (i := 3) rfl; have y4 := hb9.cell (i := 4) rfl; have y5 := hb9.cell (i := 5) rfl; have y6 := hb9.cell (i := 6) rfl; have y7 := hb9.cell (i := 7) rfl; have y8 := hb9.cell (i := 8) rfl; have y9 := hb9.cell (i := 9) rfl; clear hb9; have hb9 := hSw.blk H17.out (fun h => h); have p0 := hb9.cell (i := 0) rfl; have p1 := hb9.cell (i := 1) rfl; have p2 := hb9.cell (i := 2) rfl; have p3 := hb9.cell (i := 3) rfl; have p4 := hb9.cell (i := 4) rfl; clear hb9; have hb9 := hSw.blk H18.out (fun h => h); have q0 := hb9.cell (i := 0) rfl; have q1 := hb9.cell (i := 1) rfl; have q2 := hb9.cell (i := 2) rfl; have q3 := hb9.cell (i := 3) rfl; have q4 := hb9.cell (i := 4) rfl; clear hb9; go_simp; try with_reducible rfl)
                try simp only [Act.put, List.setIfInBounds_toArray, List.set_cons_zero, List.set_cons_succ]
                refine wpAnyH_take (i := 2) (oi := ⟨some 125, _, _, _, _, _⟩) (v := ?_) rfl (by kernel_rfl) (by kernel_rfl) (by kernel_rfl) (fun _ _ _ h => h) (Or.inl ⟨by rfl, ?_⟩) hHeld ?_
                rotate_left
                · (intro wq hSw; have hb9 := hSw.blk H12.out (fun h => h); have y0 := hb9.cell (i := 0) rfl; have y1 := hb9.cell (i := 1) rfl; have y2 := hb9.cell (i := 2) rfl; have y3 := hb9.cell (i := 3) rfl; have y4 := hb9.cell (i := 4) rfl; have y5 := hb9.cell (i := 5) rfl; have y6 := hb9.cell (i := 6) rfl; have y7 := hb9.cell (i := 7) rfl; have y8 := hb9.cell (i := 8) rfl; have y9 := hb9.cell (i := 9) rfl; clear hb9; have hb9 := hSw.blk H17.out (fun h => h); have p0 := hb9.cell (i := 0) rfl; have p1 := hb9.cell (i := 1) rfl; have p2 := hb9.cell (i := 2) rfl; have p3 := hb9.cell (i := 3) rfl; have p4 := hb9.cell (i := 4) rfl; clear hb9; have hb9 := hSw.blk H18.out (fun h => h); have q0 := hb9.cell (i := 0) rfl; have q1 := hb9.cell (i := 1) rfl; have q2 := hb9.cell (i := 2) rfl; have q3 := hb9.cell (i := 3) rfl; have q4 := hb9.cell (i := 4) rfl; clear hb9; go_simp; try with_reducible rfl)
                try simp only [Act.put, List.setIfInBounds_toArray, List.set_cons_zero, List.set_cons_succ]
                refine wpAnyH_take (i := 4) (oi := ⟨some 127, _, _, _, _, _⟩) (v := ?_) rfl (by kernel_rfl) (by kernel_rfl) (by kernel_rfl) (fun _ _ _ h => h) (Or.inl ⟨by rfl, ?_⟩) hHeld ?_
                rotate_left
                · (intro wq hSw; have hb9 := hSw.blk H12.out (fun h => h); have y0 := hb9.cell (i := 0) rfl; have y1 := hb9.cell (i := 1) rfl; have y2 := hb9.cell (i := 2) rfl; have y3 := hb9.cell (i := 3) rfl; have y4 := hb9.cell (i := 4) rfl; have y5 := hb9.cell (i := 5) rfl; have y6 := hb9.cell (i := 6) rfl; have y7 := hb9.cell (i := 7) rfl; have y8 := hb9.cell (i := 8) rfl; have y9 := hb9.cell (i := 9) rfl; clear hb9; have hb9 := hSw.blk H17.out (fun h => h); have p0 := hb9.cell (i := 0) rfl; have p1 := hb9.cell (i := 1) rfl; have p2 := hb9.cell (i := 2) rfl; have p3 := hb9.cell (i := 3) rfl; have p4 := hb9.cell (i := 4) rfl; clear hb9; have hb9 := hSw.blk H18.out (fun h => h); have q0 := hb9.cell (i := 0) rfl; have q1 := hb9.cell (i := 1) rfl; have q2 := hb9.cell (i := 2) rfl; have q3 := hb9.cell (i := 3) rfl; have q4 := hb9.cell (i := 4) rfl; clear hb9; go_simp; try with_reducible rfl)
                try simp only [Act.put, List.setIfInBounds_toArray, List.set_cons_zero, List.set_cons_succ]
                refine wpAnyH_ready (rs := [1]) (by kernel_rfl) (by simp) ?_
                refine AllReadyH.cons (o := ⟨some 124, _, _, _, _, _⟩) rfl (fun KK hK => ?_) AllReadyH.nil
                go_simp
                go_at_call 14
                refine (lock_of 0 1 (by decide) (by decide) _).mono ?_; rintro e G1 ⟨rfl, rfl⟩
                refine hK.out _ _ ?_ (fun hHeld2 => ?_)
                · exact HW.out
                clear hK KK hHeld
                have hHeld := hHeld2
                clear hHeld2
                try simp only [Act.put, List.setIfInBounds_toArray, List.set_cons_zero, List.set_cons_succ]
                refine wpAnyH_take (i := 3) (oi := ⟨some 126, _, _, _, _, _⟩) (v := ?_) rfl (by kernel_rfl) (by kernel_rfl) (by kernel_rfl) (fun _ _ _ h => h) (Or.inl ⟨by rfl, ?_⟩) hHeld ?_
                rotate_left
                · (intro wq hSw; go_simp; try with_reducible rfl)
                try simp only [Act.put, List.setIfInBounds_toArray, List.set_cons_zero, List.set_cons_succ]
                refine wpAnyH_ready (rs := [5]) (by kernel_rfl) (by simp) ?_
                refine AllReadyH.cons (o := ⟨some 128, _, _, _, _, _⟩) rfl (fun KK hK => ?_) AllReadyH.nil
                go_simp
                go_at_call 18
                refine (newWrite_any 1 2 100 100 200 F 1000 10 fb fd (limF h4 h6) HD.out 1 1 0 (some ⟨gs, os, none⟩) c0 ⟨#[]⟩ true 0 (slotsOf ks) 0 (some ⟨gs, os, none⟩) m sp false 2 ((slotsOf ks).take m) _ nk m HN1.out (by rw [List.length_take, HN1.out]; omega) (by omega) (by omega) (by omega) (by omega) (by decide) (HRS.out.keptF HW.out (fun _ _ h => h)) (HRQ.out.keptF HW.out (fun _ _ h => h))).mono ?_; rintro e V10 ⟨qw, Zw, rfl, hS, hZ, hK⟩
                have HWS := Lib.hid (show Stm Zw V10 qw 110 (wrs F (pgP ks) (pgQ ks m sp)) 0 1 5 (pgQ ks m sp) from hS)
                have HZW := Lib.hid (show ∀ i, Zw i → V9.heap.size ≤ i ∧ i < V10.heap.size from fun i hi => ⟨Nat.le_trans HW.out.size (hZ i hi), hS.lt i hi⟩)
                replace HW := Lib.hid (HW.out.trans hK (fun _ _ h => h))
                clear hS hZ hK
                refine hK.out _ _ ?_ (fun hHeld2 => ?_)
                · exact HW.out
                clear hK KK hHeld
                have hHeld := hHeld2
                clear hHeld2
                try simp only [Act.put, List.setIfInBounds_toArray, List.set_cons_zero, List.set_cons_succ]
                refine wpAnyH_take (i := 6) (oi := ⟨some 24, _, _, _, _, _⟩) (v := ?_) rfl (by kernel_rfl) (by kernel_rfl) (by kernel_rfl) (fun _ _ _ h => h) (Or.inl ⟨by rfl, ?_⟩) hHeld ?_
                rotate_left
                · (intro wq hSw; go_simp; try with_reducible rfl)
                try simp only [Act.put, List.setIfInBounds_toArray, List.set_cons_zero, List.set_cons_succ]
                refine wpAnyH_done (by kernel_rfl) ?_ _
                clear hHeld
                have HB10 := Lib.hid HW.out.size
                replace HX := Lib.hid (HX.out.kept HW.out (fun _ _ h => h))
                replace HFS := Lib.hid (HFS.out.kept HW.out (fun _ _ h => h))
                replace HK := Lib.hid (HK.out.trans HW.out (fun _ _ h => h.elim))
                replace H11 := Lib.hid (HW.out.blk H11.out (fun h => h))
                replace H12 := Lib.hid (HW.out.blk H12.out (fun h => h))
                replace HM := Lib.hid (HM.out.kept HW.out (fun h => h) (fun h => h))
                clear HRS HRQ HRR H12 H17 H18 H19 HAS HGS HN1
                try clear hHeld
                go_upto_region 21 with fail
                have hx11 := H11.out
                have x0 := hx11.cell (i := 0) rfl
                have x1 := hx11.cell (i := 1) rfl
                have x2 := hx11.cell (i := 2) rfl
                have x3 := hx11.cell (i := 3) rfl
                have x4 := hx11.cell (i := 4) rfl
                have x5 := hx11.cell (i := 5) rfl
                have x6 := hx11.cell (i := 6) rfl
                clear hx11
                go_wp2_with fail
                refine (node2_at h4 h6 _).mono ?_; rintro e V11 ⟨rfl, hK⟩
                have HB11 := Lib.hid hK.size
                replace HX := Lib.hid (HX.out.kept hK (fun _ _ h => h))
                replace HFS := Lib.hid (HFS.out.kept hK (fun _ _ h => h))
                replace HWS := Lib.hid (HWS.out.kept hK (fun _ _ h => h))
                replace HK := Lib.hid (HK.out.trans hK (fun _ _ h => h.elim))
                replace H11 := Lib.hid (hK.blk H11.out (fun h => h))
                replace HM := Lib.hid (HM.out.kept hK (fun h => h) (fun h => h))
                clear hK x0 x1 x2 x3 x4 x5 x6
                go_wp2_with fail
                refine (lock_of 0 1 (by decide) (by decide) _).mono ?_; rintro e V12 ⟨rfl, rfl⟩
                go_wp2_with fail
                refine (newRelease_any (nla F 2) 1 _).mono ?_; rintro e V12 ⟨rfl, rfl⟩
                go_upto_region 22 with fail
                have hal := ((Kept.refl (fun _ => False) V11).alloc (.cells ⟨relv (nla F 2) 1 false⟩ 112)).alloc (.cells #[.pointer (some ⟨V11.heap.size, 0, none⟩), .pointer none] 57)
                have hz11 : (V11.alloc (.cells ⟨relv (nla F 2) 1 false⟩ 112)).heap.size = V11.heap.size + 1 := nblk_alloc _ _
                have HR0 := Lib.hid (show RelB ((V11.alloc (.cells ⟨relv (nla F 2) 1 false⟩ 112)).alloc (.cells #[.pointer (some ⟨V11.heap.size, 0, none⟩), .pointer none] 57)) V11.heap.size (nla F 2) 1 false from (Blk.new V11 (relv (nla F 2) 1 false) 112).alloc _)
                have HROW := Lib.hid (show Blk ((V11.alloc (.cells ⟨relv (nla F 2) 1 false⟩ 112)).alloc (.cells #[.pointer (some ⟨V11.heap.size, 0, none⟩), .pointer none] 57)) (V11.heap.size + 1) 57 [.pointer (some ⟨V11.heap.size, 0, none⟩), .pointer none] from by
                  have h := Blk.new (V11.alloc (.cells ⟨relv (nla F 2) 1 false⟩ 112)) [.pointer (some ⟨V11.heap.size, 0, none⟩), .pointer none] 57
                  rw [hz11] at h
                  exact h)
                replace HX := Lib.hid (HX.out.kept hal (fun _ _ h => h))
                replace HFS := Lib.hid (HFS.out.kept hal (fun _ _ h => h))
                replace HWS := Lib.hid (HWS.out.kept hal (fun _ _ h => h))
                replace HK := Lib.hid (HK.out.trans hal (fun _ _ h => h.elim))
                replace H11 := Lib.hid (hal.blk H11.out (fun h => h))
                replace HM := Lib.hid (HM.out.kept hal (fun h => h) (fun h => h))
                have hB12 := hal.size
                clear hal hz11
                generalize hr0 : V11.heap.size = r0 at *
                generalize (V11.alloc (.cells ⟨relv (nla F 2) 1 false⟩ 112)).alloc (.cells #[.pointer (some ⟨r0, 0, none⟩), .pointer none] 57) = W0 at *
                have hks6 : ks.length ≤ 6 := by rw [HNK.out]; omega
                have HSPL := Lib.hid (spl_pages h6 (by rw [HNK.out]; exact hkF) HKF.out.2 m sp)
                have HFIT := Lib.hid (fit_pages hks6 m sp)
                have hmx := mvx_start (key := key) (Q := pgQ ks m sp) (R := pgR ks m) h4 h6 HS.out HRT.out HSPL.out.gp.2.1 HFIT.out.1
                have HMW := Lib.hid (mw_start (B := V7.heap.size) (B1 := V8.heap.size) (B2 := V9.heap.size) (B3 := V10.heap.size) hmx HM.out rfl HX.out HFS.out HWS.out HROW.out HR0.out HZX.out HZF.out HZW.out (by have := HB11.out; omega) (Nat.lt_succ_self r0) HB7.out.1 HB7.out.2.1 HB8.out HB9.out HB10.out)
                have HCV := Lib.hid (show cv key (pgQ ks m sp) = ltB key.toList sp.toList from rfl)
                have HBW := Lib.hid (show V7.heap.size ≤ W0.heap.size from by have h1 := HB8.out; have h2 := HB9.out; have h3 := HB10.out; have h5 := HB11.out; omega)
                have HLO := Lib.hid HS.out.lo
                obtain ⟨n0, hn0⟩ : ∃ n0, l.length = n0 := ⟨_, rfl⟩
                obtain ⟨PP, hPP⟩ : ∃ PP, pgP ks = PP := ⟨_, rfl⟩
                obtain ⟨QQ, hQQ⟩ : ∃ QQ, pgQ ks m sp = QQ := ⟨_, rfl⟩
                obtain ⟨RR, hRR⟩ : ∃ RR, pgR ks m = RR := ⟨_, rfl⟩
                obtain ⟨B, hB⟩ : ∃ B, V7.heap.size = B := ⟨_, rfl⟩
                obtain ⟨rr, hrr⟩ : ∃ rr, r0 + 1 = rr := ⟨_, rfl⟩
                rw [hn0, hPP, hQQ, hRR, hB, hrr] at HMW
                rw [hPP, hQQ, hRR] at HSPL HFIT
                rw [hQQ] at HCV
                rw [hB] at HBW HB7
                rw [hn0] at HLO
                rw [hrr]
                clear hmx HM HX HFS HWS HROW HR0 HZX HZF HZW HB8 HB9 HB10 HB11 HS HRT hn0 hPP hQQ hRR hB hrr hr0 hB12 hks6 hm1 HKF HNK HS3 HV0 HZ17
                try clear H12
                go_wp2_with fail
                go_loopw [26, 27, 28] (fun sv dv kv wr => ∃ (st j k : Nat) (s : Ls), sv = .int .i64 (st : Int) ∧ dv = .bool s.fin ∧ kv = .int .i64 (k : Int) ∧ st ≤ 4 ∧ k ≤ ps.length + 84 ∧ MW F n0 B b g W0 fb fd key PP QQ RR x qf qw rr st j (pzS st) s k wr ∧ (k ≤ ps.length ∨ k + phi F (frs F RR).length (wrs F PP QQ).length st j s ≤ ps.length + 84)) (fun _ _ kv _ => ps.length + 400 - (intOf kv).toNat)
                case atStart => exact ⟨0, 0, 0, .fnd .root, rfl, rfl, rfl, by omega, by omega, HMW.out, .inl (Nat.zero_le _)⟩
                case round =>
                  rename World => V2
                  obtain ⟨st, j, k, s, rfl, rfl, rfl, hst, hk, hV, hpot⟩ := hrel
                  clear HMW
                  have HV := Lib.hid hV
                  have HPOT := Lib.hid hpot
                  have HK84 := Lib.hid hk
                  have HBV := Lib.hid (show B ≤ V2.heap.size from Nat.le_trans HBW.out hV.outx.size)
                  obtain ⟨df, hdf⟩ : ∃ df, s.fin = df := ⟨_, rfl⟩
                  have HDF := Lib.hid hdf
                  have hkl : (k : Int) < (ps.length : Int) + 300 := by omega
                  have hw3 : IntKind.i64.wrap ((ps.length : Int) + 300) = (ps.length : Int) + 300 := by rw [IntKind.wrap_i64]; omega
                  obtain ⟨k1, hk1⟩ : ∃ k1, k + 1 = k1 := ⟨_, rfl⟩
                  have hkw : IntKind.i64.wrap ((k : Int) + 1) = (k1 : Int) := by rw [IntKind.wrap_i64]; omega
                  have HKN := Lib.hid hk1
                  rw [hdf]
                  clear hV hpot hk hdf hk1
                  cases df with
                  | true =>
                    obtain ⟨l9, ac9, hm9, hM9⟩ := HV.out.memx
                    have HM9 := Lib.hid hm9
                    have HOUT := Lib.hid HV.out.outx
                    rcases hM9.atEnd hst HDF.out with ⟨rfl, rfl, hk9, hc1, hc2⟩ | ⟨rfl, h34, hk9, hc2, w1, K1, M1, hw5, hc1, h3, h4'⟩
                    · have hkl9 : ltB key.toList sp.toList = true := by rw [← HCV.out]; exact hk9
                      have hge : Op.bytesLess key.toList sp.toList = true := by rw [bytesLess_ltB]; exact hkl9
                      have HC1 := Lib.hid hc1
                      have HC2 := Lib.hid hc2
                      clear hk9 hc1 hc2 hm9 hM9
                      go_upto_region 46 with fail
                      go_wp2_with fail
                      refine (mw_held h6 HV.out).mono ?_; rintro e V4 ⟨A4, c4, rfl, hV4, hK4⟩
                      have hK5 := hK4.alloc (.cells #[.int .u64 1, .int .u64 5, .int .i64 ((got QQ (QQ.xs.length + 3)).lv : Int), .slice A4 (got QQ (QQ.xs.length + 3)).xs.length c4, .string (got QQ (QQ.xs.length + 3)).hi, .bool (got QQ (QQ.xs.length + 3)).la, .int .u64 ((got QQ (QQ.xs.length + 3)).rt : Int)] 56)
                      have HME := Lib.hid (HM9.out.kept hK5 (fun h => h) (fun h => h))
                      have HE := Lib.hid (HOUT.out.trans hK5 (fun _ _ h => h.elim))
                      have H30 := Lib.hid (Blk.new V4 [.int .u64 1, .int .u64 5, .int .i64 ((got QQ (QQ.xs.length + 3)).lv : Int), .slice A4 (got QQ (QQ.xs.length + 3)).xs.length c4, .string (got QQ (QQ.xs.length + 3)).hi, .bool (got QQ (QQ.xs.length + 3)).la, .int .u64 ((got QQ (QQ.xs.length + 3)).rt : Int)] 56)
                      go_upto_region 47 with fail
                      generalize hr30 : V4.heap.size = r30 at *
                      generalize V4.alloc (.cells #[.int .u64 1, .int .u64 5, .int .i64 ((got QQ (QQ.xs.length + 3)).lv : Int), .slice A4 (got QQ (QQ.xs.length + 3)).xs.length c4, .string (got QQ (QQ.xs.length + 3)).hi, .bool (got QQ (QQ.xs.length + 3)).la, .int .u64 ((got QQ (QQ.xs.length + 3)).rt : Int)] 56) = V5 at *
                      clear hV4 hK4 hK5
                      have z0 := H30.out.cell (i := 0) rfl
                      have hx11 := HE.out.blk H11.out (fun h => by have h1 := HB7.out; have h2 := HR.out; rcases h with h | h | h <;> omega)
                      have x0 := hx11.cell (i := 0) rfl
                      have x1 := hx11.cell (i := 1) rfl
                      have x2 := hx11.cell (i := 2) rfl
                      have x3 := hx11.cell (i := 3) rfl
                      have x4 := hx11.cell (i := 4) rfl
                      have x5 := hx11.cell (i := 5) rfl
                      have x6 := hx11.cell (i := 6) rfl
                      clear hx11
                      go_wp2_with fail
                      refine (node1_at h4 h6 _).mono ?_; rintro e V6 ⟨rfl, hK6⟩
                      replace HME := Lib.hid (HME.out.kept hK6 (fun h => h) (fun h => h))
                      replace HE := Lib.hid (HE.out.trans hK6 (fun _ _ h => h.elim))
                      clear hK6 x0 x1 x2 x3 x4 x5 x6 z0
                      go_wp2_with fail
                      refine (peek_any b g l9 ac9 (nla F 1) 5 0 ⟨#[]⟩ _ HME.out HC1.out).mono ?_; rintro e V7 ⟨rfl, hK7⟩
                      replace HME := Lib.hid (HME.out.kept hK7 (fun h => h) (fun h => h))
                      replace HE := Lib.hid (HE.out.trans hK7 (fun _ _ h => h.elim))
                      clear hK7
                      have hfa := field0 5 0 ⟨#[]⟩
                      go_wp2_with fail
                      clear hfa
                      refine (locked_of 5 true (by omega) (by rfl) _).mono ?_; rintro e V8 ⟨rfl, rfl⟩
                      have hx11 := HE.out.blk H11.out (fun h => by have h1 := HB7.out; have h2 := HR.out; rcases h with h | h | h <;> omega)
                      have x0 := hx11.cell (i := 0) rfl
                      have x1 := hx11.cell (i := 1) rfl
                      have x2 := hx11.cell (i := 2) rfl
                      have x3 := hx11.cell (i := 3) rfl
                      have x4 := hx11.cell (i := 4) rfl
                      have x5 := hx11.cell (i := 5) rfl
                      have x6 := hx11.cell (i := 6) rfl
                      clear hx11
                      go_wp2_with fail
                      refine (node2_at h4 h6 _).mono ?_; rintro e V6 ⟨rfl, hK6⟩
                      replace HME := Lib.hid (HME.out.kept hK6 (fun h => h) (fun h => h))
                      replace HE := Lib.hid (HE.out.trans hK6 (fun _ _ h => h.elim))
                      clear hK6 x0 x1 x2 x3 x4 x5 x6
                      go_wp2_with fail
                      refine (peek_any b g l9 ac9 (nla F 2) 0 0 ⟨#[]⟩ _ HME.out HC2.out).mono ?_; rintro e V7 ⟨rfl, hK7⟩
                      replace HE := Lib.hid (HE.out.trans hK7 (fun _ _ h => h.elim))
                      clear hK7
                      have hfa := field0 0 0 ⟨#[]⟩
                      go_wp2_with fail
                      clear hfa
                      refine (locked_of 0 false (by omega) (by rfl) _).mono ?_; rintro e V8 ⟨rfl, rfl⟩
                      go_wp2
                      go_ret
                      exact ⟨rfl, (HK.out.trans HE.out (fun i hi h => by have h1 := HB7.out; have h2 := HR.out; rcases h with h | h | h <;> omega)).below (Nat.le_refl _) (fun _ h => h)⟩
                    · have hkl9 : ltB key.toList sp.toList = false := by rw [← HCV.out]; exact hk9
                      have hge : Op.bytesLess key.toList sp.toList = false := by rw [bytesLess_ltB]; exact hkl9
                      have HC1 := Lib.hid hc1
                      have HC2 := Lib.hid hc2
                      have HW5 := Lib.hid hw5
                      clear hk9 hc1 hc2 hm9 hM9 hw5
                      rcases h34 with rfl | rfl
                      · have h31 := h3 rfl
                        clear h3 h4'
                        go_upto_region 46 with fail
                        go_wp2_with fail
                        refine (mw_held h6 HV.out).mono ?_; rintro e V4 ⟨A4, c4, rfl, hV4, hK4⟩
                        have hK5 := hK4.alloc (.cells #[.int .u64 2, .int .u64 1, .int .i64 ((got RR (RR.xs.length + 3)).lv : Int), .slice A4 (got RR (RR.xs.length + 3)).xs.length c4, .string (got RR (RR.xs.length + 3)).hi, .bool (got RR (RR.xs.length + 3)).la, .int .u64 ((got RR (RR.xs.length + 3)).rt : Int)] 56)
                        have HME := Lib.hid (HM9.out.kept hK5 (fun h => h) (fun h => h))
                        have HE := Lib.hid (HOUT.out.trans hK5 (fun _ _ h => h.elim))
                        have H30 := Lib.hid (Blk.new V4 [.int .u64 2, .int .u64 1, .int .i64 ((got RR (RR.xs.length + 3)).lv : Int), .slice A4 (got RR (RR.xs.length + 3)).xs.length c4, .string (got RR (RR.xs.length + 3)).hi, .bool (got RR (RR.xs.length + 3)).la, .int .u64 ((got RR (RR.xs.length + 3)).rt : Int)] 56)
                        go_upto_region 47 with fail
                        generalize hr30 : V4.heap.size = r30 at *
                        generalize V4.alloc (.cells #[.int .u64 2, .int .u64 1, .int .i64 ((got RR (RR.xs.length + 3)).lv : Int), .slice A4 (got RR (RR.xs.length + 3)).xs.length c4, .string (got RR (RR.xs.length + 3)).hi, .bool (got RR (RR.xs.length + 3)).la, .int .u64 ((got RR (RR.xs.length + 3)).rt : Int)] 56) = V5 at *
                        clear hV4 hK4 hK5
                        have z0 := H30.out.cell (i := 0) rfl
                        have hx11 := HE.out.blk H11.out (fun h => by have h1 := HB7.out; have h2 := HR.out; rcases h with h | h | h <;> omega)
                        have x0 := hx11.cell (i := 0) rfl
                        have x1 := hx11.cell (i := 1) rfl
                        have x2 := hx11.cell (i := 2) rfl
                        have x3 := hx11.cell (i := 3) rfl
                        have x4 := hx11.cell (i := 4) rfl
                        have x5 := hx11.cell (i := 5) rfl
                        have x6 := hx11.cell (i := 6) rfl
                        clear hx11
                        go_wp2_with fail
                        refine (node2_at h4 h6 _).mono ?_; rintro e V6 ⟨rfl, hK6⟩
                        replace HME := Lib.hid (HME.out.kept hK6 (fun h => h) (fun h => h))
                        replace HE := Lib.hid (HE.out.trans hK6 (fun _ _ h => h.elim))
                        clear hK6 x0 x1 x2 x3 x4 x5 x6 z0
                        go_wp2_with fail
                        refine (peek_any b g l9 ac9 (nla F 2) 1 0 ⟨#[]⟩ _ HME.out HC2.out).mono ?_; rintro e V7 ⟨rfl, hK7⟩
                        replace HME := Lib.hid (HME.out.kept hK7 (fun h => h) (fun h => h))
                        replace HE := Lib.hid (HE.out.trans hK7 (fun _ _ h => h.elim))
                        clear hK7
                        have hfa := field0 1 0 ⟨#[]⟩
                        go_wp2_with fail
                        clear hfa
                        refine (locked_of 1 true (by omega) (by rfl) _).mono ?_; rintro e V8 ⟨rfl, rfl⟩
                        have hx11 := HE.out.blk H11.out (fun h => by have h1 := HB7.out; have h2 := HR.out; rcases h with h | h | h <;> omega)
                        have x0 := hx11.cell (i := 0) rfl
                        have x1 := hx11.cell (i := 1) rfl
                        have x2 := hx11.cell (i := 2) rfl
                        have x3 := hx11.cell (i := 3) rfl
                        have x4 := hx11.cell (i := 4) rfl
                        have x5 := hx11.cell (i := 5) rfl
                        have x6 := hx11.cell (i := 6) rfl
                        clear hx11
                        go_wp2_with fail
                        refine (node1_at h4 h6 _).mono ?_; rintro e V6 ⟨rfl, hK6⟩
                        replace HME := Lib.hid (HME.out.kept hK6 (fun h => h) (fun h => h))
                        replace HE := Lib.hid (HE.out.trans hK6 (fun _ _ h => h.elim))
                        clear hK6 x0 x1 x2 x3 x4 x5 x6
                        go_wp2_with fail
                        refine (peek_any b g l9 ac9 (nla F 1) (w1 : Int) M1 K1 _ HME.out HC1.out).mono ?_; rintro e V7 ⟨rfl, hK7⟩
                        replace HE := Lib.hid (HE.out.trans hK7 (fun _ _ h => h.elim))
                        clear hK7
                        have hfa := field0 (w1 : Int) M1 K1
                        go_wp2_with fail
                        clear hfa
                        refine (locked_of w1 true (by have := HW5.out; omega) (by simp; omega) _).mono ?_; rintro e V8 ⟨rfl, rfl⟩
                        go_wp2
                        go_ret
                        exact ⟨rfl, (HK.out.trans HE.out (fun i hi h => by have h1 := HB7.out; have h2 := HR.out; rcases h with h | h | h <;> omega)).below (Nat.le_refl _) (fun _ h => h)⟩
                      · have h41 := h4' rfl
                        subst h41
                        clear h3 h4'
                        go_upto_region 46 with fail
                        go_wp2_with fail
                        refine (mw_held h6 HV.out).mono ?_; rintro e V4 ⟨A4, c4, rfl, hV4, hK4⟩
                        have hK5 := hK4.alloc (.cells #[.int .u64 2, .int .u64 1, .int .i64 ((got RR (RR.xs.length + 3)).lv : Int), .slice A4 (got RR (RR.xs.length + 3)).xs.length c4, .string (got RR (RR.xs.length + 3)).hi, .bool (got RR (RR.xs.length + 3)).la, .int .u64 ((got RR (RR.xs.length + 3)).rt : Int)] 56)
                        have HME := Lib.hid (HM9.out.kept hK5 (fun h => h) (fun h => h))
                        have HE := Lib.hid (HOUT.out.trans hK5 (fun _ _ h => h.elim))
                        have H30 := Lib.hid (Blk.new V4 [.int .u64 2, .int .u64 1, .int .i64 ((got RR (RR.xs.length + 3)).lv : Int), .slice A4 (got RR (RR.xs.length + 3)).xs.length c4, .string (got RR (RR.xs.length + 3)).hi, .bool (got RR (RR.xs.length + 3)).la, .int .u64 ((got RR (RR.xs.length + 3)).rt : Int)] 56)
                        go_upto_region 47 with fail
                        generalize hr30 : V4.heap.size = r30 at *
                        generalize V4.alloc (.cells #[.int .u64 2, .int .u64 1, .int .i64 ((got RR (RR.xs.length + 3)).lv : Int), .slice A4 (got RR (RR.xs.length + 3)).xs.length c4, .string (got RR (RR.xs.length + 3)).hi, .bool (got RR (RR.xs.length + 3)).la, .int .u64 ((got RR (RR.xs.length + 3)).rt : Int)] 56) = V5 at *
                        clear hV4 hK4 hK5
                        have z0 := H30.out.cell (i := 0) rfl
                        have hx11 := HE.out.blk H11.out (fun h => by have h1 := HB7.out; have h2 := HR.out; rcases h with h | h | h <;> omega)
                        have x0 := hx11.cell (i := 0) rfl
                        have x1 := hx11.cell (i := 1) rfl
                        have x2 := hx11.cell (i := 2) rfl
                        have x3 := hx11.cell (i := 3) rfl
                        have x4 := hx11.cell (i := 4) rfl
                        have x5 := hx11.cell (i := 5) rfl
                        have x6 := hx11.cell (i := 6) rfl
                        clear hx11
                        go_wp2_with fail
                        refine (node2_at h4 h6 _).mono ?_; rintro e V6 ⟨rfl, hK6⟩
                        replace HME := Lib.hid (HME.out.kept hK6 (fun h => h) (fun h => h))
                        replace HE := Lib.hid (HE.out.trans hK6 (fun _ _ h => h.elim))
                        clear hK6 x0 x1 x2 x3 x4 x5 x6 z0
                        go_wp2_with fail
                        refine (peek_any b g l9 ac9 (nla F 2) 1 0 ⟨#[]⟩ _ HME.out HC2.out).mono ?_; rintro e V7 ⟨rfl, hK7⟩
                        replace HME := Lib.hid (HME.out.kept hK7 (fun h => h) (fun h => h))
                        replace HE := Lib.hid (HE.out.trans hK7 (fun _ _ h => h.elim))
                        clear hK7
                        have hfa := field0 1 0 ⟨#[]⟩
                        go_wp2_with fail
                        clear hfa
                        refine (locked_of 1 true (by omega) (by rfl) _).mono ?_; rintro e V8 ⟨rfl, rfl⟩
                        have hx11 := HE.out.blk H11.out (fun h => by have h1 := HB7.out; have h2 := HR.out; rcases h with h | h | h <;> omega)
                        have x0 := hx11.cell (i := 0) rfl
                        have x1 := hx11.cell (i := 1) rfl
                        have x2 := hx11.cell (i := 2) rfl
                        have x3 := hx11.cell (i := 3) rfl
                        have x4 := hx11.cell (i := 4) rfl
                        have x5 := hx11.cell (i := 5) rfl
                        have x6 := hx11.cell (i := 6) rfl
                        clear hx11
                        go_wp2_with fail
                        refine (node1_at h4 h6 _).mono ?_; rintro e V6 ⟨rfl, hK6⟩
                        replace HME := Lib.hid (HME.out.kept hK6 (fun h => h) (fun h => h))
                        replace HE := Lib.hid (HE.out.trans hK6 (fun _ _ h => h.elim))
                        clear hK6 x0 x1 x2 x3 x4 x5 x6
                        go_wp2_with fail
                        refine (peek_any b g l9 ac9 (nla F 1) 4 M1 K1 _ HME.out HC1.out).mono ?_; rintro e V7 ⟨rfl, hK7⟩
                        replace HE := Lib.hid (HE.out.trans hK7 (fun _ _ h => h.elim))
                        clear hK7
                        have hfa := field0 4 M1 K1
                        go_wp2_with fail
                        clear hfa
                        refine (locked_of 4 false (by omega) (by rfl) _).mono ?_; rintro e V8 ⟨rfl, rfl⟩
                        go_wp2
                        go_ret
                        exact ⟨rfl, (HK.out.trans HE.out (fun i hi h => by have h1 := HB7.out; have h2 := HR.out; rcases h with h | h | h <;> omega)).below (Nat.le_refl _) (fun _ h => h)⟩
                  | false =>
                    go_upto_region 26 with fail
                    clear hw3
                    go_cut [156] from 145 to 156 (fun v wx => ∃ e : Bool, v = .bool e ∧ (ps.length ≤ k → e = false) ∧ wx = V2)
                    case first =>
                      by_cases hkp : k < ps.length
                      · obtain ⟨g0, off0, rfl, hg0, hcell⟩ := HPA.out (by omega)
                        obtain ⟨p, hp⟩ : ∃ p, p = ps[k] := ⟨_, rfl⟩
                        have hp256 : p < 256 := by rw [hp]; exact HPS.out _ (List.getElem_mem _)
                        have hpc : V2.cell? ⟨g0, off0 + k, none⟩ = some (.int .u8 (p : Int)) := by
                          rw [HV.out.outx.cell (p := ⟨g0, off0 + k, none⟩) (show g0 < _ by have := HK.out.size; omega) (fun h => by
                            have h1 := HB7.out
                            have h2 := HR.out
                            have h5 : B ≤ g0 ∨ g0 = b ∨ g0 = g := h
                            omega), HK.out.cell (p := ⟨g0, off0 + k, none⟩) hg0 (fun h => by have h2 : w.heap.size ≤ g0 := h; omega)]
                          exact hcell k p (by rw [List.getElem?_eq_getElem hkp, hp])
                        have hs2 : (p : Int).tmod 2 = ((p % 2 : Nat) : Int) := rfl
                        have hs3 : IntKind.u8.wrap ((p % 2 : Nat) : Int) = ((p % 2 : Nat) : Int) := by rw [IntKind.wrap_u8]; omega
                        clear hp hcell
                        go_wp2
                        go_meet
                        exact ⟨_, rfl, fun h => by omega, rfl⟩
                      · have hkd : decide (k < ps.length) = false := by simpa using hkp
                        go_wp2
                        go_meet
                        exact ⟨false, rfl, fun _ => rfl, rfl⟩
                    case rest =>
                      obtain ⟨ee, rfl, hee, rfl⟩ := hcut
                      rename World => V2
                      have HEE := Lib.hid hee
                      clear hee
                      cases ee with
                      | true =>
                        have HKP := Lib.hid (show k < ps.length from by
                          rcases Nat.lt_or_ge k ps.length with h | h
                          · exact h
                          · exact absurd (HEE.out h) (by decide))
                        go_wp2_with fail
                        refine (mw_x HSPL.out h4 h6 HLO.out HD.out HV.out HBV.out hst (by have := HK84.out; omega) HDF.out).mono ?_; rintro e V3 ⟨s', rfl, hV3, hdl⟩
                        have HV3 := Lib.hid hV3
                        obtain ⟨bb, hbb⟩ : ∃ bb, s'.fin = bb := ⟨_, rfl⟩
                        have HBB := Lib.hid hbb
                        rw [hbb]
                        clear hV3 hdl hbb
                        cases bb with
                        | false =>
                          have HPT := Lib.hid (show k + 1 ≤ ps.length ∨ k + 1 + phi F (frs F RR).length (wrs F PP QQ).length (st) (j) (s') ≤ ps.length + 84 from .inl (by have := HKP.out; omega))
                          have HKB1 := Lib.hid (show k1 ≤ ps.length + 84 from by have h1 := HPT.out; have h2 := HKN.out; rcases h1 with h1 | h1 <;> omega)
                          go_wp2
                          go_roundw
                          case rel => exact ⟨st, j, k1, s', by first | rfl | go_num, by first | rfl | rw [HBB.out], rfl, by omega, HKB1.out, by rw [← HKN.out]; exact HV3.out, by rw [← HKN.out]; exact HPT.out⟩
                          case measure => have := HKN.out; have := HK84.out; simp [intOf]; omega
                        | true =>
                          obtain ⟨l9, ac9, -, hM9⟩ := HV3.out.memx
                          have hce : (∃ sc, s' = .lck 2 1 sc ∧ st = 3) ∨ st = 4 := by
                            rcases hM9.atEnd hst HBB.out with ⟨h1, h2, -⟩ | ⟨h1, h2, -⟩
                            · exact .inr h2
                            · rcases h2 with h2 | h2
                              · exact .inl ⟨_, h1, h2⟩
                              · exact .inr h2
                          clear hM9
                          rcases hce with ⟨sc, rfl, rfl⟩ | rfl
                          · go_wp2_with fail
                            refine (mw_held h6 HV3.out).mono ?_; rintro e V4 ⟨A4, c4, rfl, hV4, hK4⟩
                            have HV4 := Lib.hid hV4
                            have hf4 := hfieldI 2 1 (sc.lv : Int) A4 sc.xs.length c4 sc.hi sc.la (sc.rt : Int)
                            have hne4 : ((2 : Int) == 1) = false := by decide
                            clear hV4 hK4
                            have HPT := Lib.hid (show k + 1 ≤ ps.length ∨ k + 1 + phi F (frs F RR).length (wrs F PP QQ).length (3) (j) (.lck 2 1 sc) ≤ ps.length + 84 from .inl (by have := HKP.out; omega))
                            have HKB1 := Lib.hid (show k1 ≤ ps.length + 84 from by have h1 := HPT.out; have h2 := HKN.out; rcases h1 with h1 | h1 <;> omega)
                            go_wp2
                            go_roundw
                            case rel => exact ⟨3, j, k1, .lck 2 1 sc, by first | rfl | go_num, by first | rfl | rw [HBB.out], rfl, by omega, HKB1.out, by rw [← HKN.out]; exact HV4.out, by rw [← HKN.out]; exact HPT.out⟩
                            case measure => have := HKN.out; have := HK84.out; simp [intOf]; omega
                          · skip
                            have HPT := Lib.hid (show k + 1 ≤ ps.length ∨ k + 1 + phi F (frs F RR).length (wrs F PP QQ).length (4) (j) (s') ≤ ps.length + 84 from .inl (by have := HKP.out; omega))
                            have HKB1 := Lib.hid (show k1 ≤ ps.length + 84 from by have h1 := HPT.out; have h2 := HKN.out; rcases h1 with h1 | h1 <;> omega)
                            go_wp2
                            go_roundw
                            case rel => exact ⟨4, j, k1, s', by first | rfl | go_num, by first | rfl | rw [HBB.out], rfl, by omega, HKB1.out, by rw [← HKN.out]; exact HV3.out, by rw [← HKN.out]; exact HPT.out⟩
                            case measure => have := HKN.out; have := HK84.out; simp [intOf]; omega
                      | false =>
                        rcases (by omega : st = 0 ∨ st = 1 ∨ st = 2 ∨ st = 3 ∨ st = 4) with rfl | rfl | rfl | rfl | rfl
                        · skip
                          go_wp2_with fail
                          refine (mw_f HSPL.out h4 h6 HLO.out HFIT.out.2.2 HV.out (by have := HK84.out; omega)).mono ?_; rintro e V3 ⟨r, rfl, hr0, hr1⟩
                          cases r with
                          | false =>
                            have HV3 := Lib.hid (hr0 rfl)
                            clear hr0 hr1
                            have HPT := Lib.hid (show k + 1 ≤ ps.length ∨ k + 1 + phi F (frs F RR).length (wrs F PP QQ).length (0) ((j + 1)) (s) ≤ ps.length + 84 from pot_step HPOT.out (phi_le HSPL.out h6 _ _ _) (by have := HV3.out.2; simp only [phi]; omega))
                            have HKB1 := Lib.hid (show k1 ≤ ps.length + 84 from by have h1 := HPT.out; have h2 := HKN.out; rcases h1 with h1 | h1 <;> omega)
                            go_wp2
                            go_roundw
                            case rel => exact ⟨0, (j + 1), k1, s, by first | rfl | go_num, by first | rfl | rw [HDF.out], rfl, by omega, HKB1.out, by rw [← HKN.out]; exact HV3.out.1, by rw [← HKN.out]; exact HPT.out⟩
                            case measure => have := HKN.out; have := HK84.out; simp [intOf]; omega
                          | true =>
                            have HV3 := Lib.hid (hr1 rfl)
                            clear hr0 hr1
                            have HPT := Lib.hid (show k + 1 ≤ ps.length ∨ k + 1 + phi F (frs F RR).length (wrs F PP QQ).length (1) (0) (s) ≤ ps.length + 84 from pot_step HPOT.out (phi_le HSPL.out h6 _ _ _) (by have := HV3.out.2; simp only [phi]; omega))
                            have HKB1 := Lib.hid (show k1 ≤ ps.length + 84 from by have h1 := HPT.out; have h2 := HKN.out; rcases h1 with h1 | h1 <;> omega)
                            go_wp2
                            go_roundw
                            case rel => exact ⟨1, 0, k1, s, by first | rfl | go_num, by first | rfl | rw [HDF.out], rfl, by omega, HKB1.out, by rw [← HKN.out]; exact HV3.out.1, by rw [← HKN.out]; exact HPT.out⟩
                            case measure => have := HKN.out; have := HK84.out; simp [intOf]; omega
                        · skip
                          go_wp2_with fail
                          refine (mw_w HSPL.out h4 h6 HLO.out HFIT.out.2.1 HV.out (by have := HK84.out; omega)).mono ?_; rintro e V3 ⟨r, rfl, hr0, hr1⟩
                          cases r with
                          | false =>
                            have HV3 := Lib.hid (hr0 rfl)
                            clear hr0 hr1
                            have HPT := Lib.hid (show k + 1 ≤ ps.length ∨ k + 1 + phi F (frs F RR).length (wrs F PP QQ).length (1) ((j + 1)) (s) ≤ ps.length + 84 from pot_step HPOT.out (phi_le HSPL.out h6 _ _ _) (by have := HV3.out.2; simp only [phi]; omega))
                            have HKB1 := Lib.hid (show k1 ≤ ps.length + 84 from by have h1 := HPT.out; have h2 := HKN.out; rcases h1 with h1 | h1 <;> omega)
                            go_wp2
                            go_roundw
                            case rel => exact ⟨1, (j + 1), k1, s, by first | rfl | go_num, by first | rfl | rw [HDF.out], rfl, by omega, HKB1.out, by rw [← HKN.out]; exact HV3.out.1, by rw [← HKN.out]; exact HPT.out⟩
                            case measure => have := HKN.out; have := HK84.out; simp [intOf]; omega
                          | true =>
                            have HV3 := Lib.hid (hr1 rfl).1
                            have HJ3 := Lib.hid (hr1 rfl).2
                            clear hr0 hr1
                            go_upto_region 38 with fail
                            have hx11 := HV3.out.outx.blk H11.out (fun h => by have h1 := HB7.out; have h2 := HR.out; rcases h with h | h | h <;> omega)
                            have x0 := hx11.cell (i := 0) rfl
                            have x1 := hx11.cell (i := 1) rfl
                            have x2 := hx11.cell (i := 2) rfl
                            have x3 := hx11.cell (i := 3) rfl
                            have x4 := hx11.cell (i := 4) rfl
                            have x5 := hx11.cell (i := 5) rfl
                            have x6 := hx11.cell (i := 6) rfl
                            clear hx11
                            go_wp2_with fail
                            refine (node1_at h4 h6 _).mono ?_; rintro e V4 ⟨rfl, hK4⟩
                            replace HV3 := Lib.hid (HV3.out.calm hK4)
                            clear hK4 x0 x1 x2 x3 x4 x5 x6
                            go_wp2_with fail
                            refine (mw_wheld HSPL.out h6 HV3.out).mono ?_; rintro e V5 ⟨A5, c5, rfl, hV5, hz5⟩
                            have hg5 := hfieldW 1 5 (QQ.lv : Int) A5 QQ.xs.length c5 QQ.hi QQ.la (QQ.rt : Int)
                            have HV5 := Lib.hid hV5
                            have HB5 := Lib.hid (show B ≤ V5.heap.size from Nat.le_trans HBW.out hV5.outx.size)
                            clear hV5 hz5
                            go_wp2_with fail
                            refine (newRelease_any (nla F 1) 5 _).mono ?_; rintro e V6 ⟨rfl, rfl⟩
                            have HV6 := Lib.hid (HV5.out.set1 HB5.out)
                            obtain ⟨v0, v1, hrw⟩ := HV5.out.rowx
                            have hrw2 := hrw.alloc (.cells ⟨relv (nla F 1) 5 false⟩ 112)
                            have xs := hrw2.cell (i := 1) rfl
                            have zs := hrw2.frozen 1
                            clear hrw hrw2 hg5
                            have HPT := Lib.hid (show k + 1 ≤ ps.length ∨ k + 1 + phi F (frs F RR).length (wrs F PP QQ).length (2) (0) (s) ≤ ps.length + 84 from pot_step HPOT.out (phi_le HSPL.out h6 _ _ _) (by have := HJ3.out; simp only [phi]; omega))
                            have HKB1 := Lib.hid (show k1 ≤ ps.length + 84 from by have h1 := HPT.out; have h2 := HKN.out; rcases h1 with h1 | h1 <;> omega)
                            go_wp2
                            go_roundw
                            case rel => exact ⟨2, 0, k1, s, by first | rfl | go_num, by first | rfl | rw [HDF.out], rfl, by omega, HKB1.out, by rw [← HKN.out]; exact HV6.out, by rw [← HKN.out]; exact HPT.out⟩
                            case measure => have := HKN.out; have := HK84.out; simp [intOf]; omega
                        · skip
                          obtain ⟨rq, hcq, hcl⟩ := mw_r2 HSPL.out h4 h6 HLO.out HV.out (by have := HK84.out; omega)
                          have HCL := Lib.hid hcl
                          clear hcl
                          go_wp2_with fail
                          refine HCL.out.mono ?_; rintro e V3 ⟨rfl, hV3⟩
                          have HV3 := Lib.hid hV3
                          clear hV3 HCL hcq
                          have HPT := Lib.hid (show k + 1 ≤ ps.length ∨ k + 1 + phi F (frs F RR).length (wrs F PP QQ).length (3) (0) (s) ≤ ps.length + 84 from pot_step HPOT.out (phi_le HSPL.out h6 _ _ _) (by have := dL_le (F := F) s; simp only [phi]; omega))
                          have HKB1 := Lib.hid (show k1 ≤ ps.length + 84 from by have h1 := HPT.out; have h2 := HKN.out; rcases h1 with h1 | h1 <;> omega)
                          go_wp2
                          go_roundw
                          case rel => exact ⟨3, 0, k1, s, by first | rfl | go_num, by first | rfl | rw [HDF.out], rfl, by omega, HKB1.out, by rw [← HKN.out]; exact HV3.out, by rw [← HKN.out]; exact HPT.out⟩
                          case measure => have := HKN.out; have := HK84.out; simp [intOf]; omega
                        · skip
                          obtain ⟨rq, hcq, hcl⟩ := mw_r1 HSPL.out h4 h6 HLO.out HV.out (by have := HK84.out; omega)
                          have HCL := Lib.hid hcl
                          clear hcl
                          go_wp2_with fail
                          refine HCL.out.mono ?_; rintro e V3 ⟨rfl, hV3⟩
                          have HV3 := Lib.hid hV3
                          clear hV3 HCL hcq
                          have HPT := Lib.hid (show k + 1 ≤ ps.length ∨ k + 1 + phi F (frs F RR).length (wrs F PP QQ).length (4) (0) (s) ≤ ps.length + 84 from pot_step HPOT.out (phi_le HSPL.out h6 _ _ _) (by have := dL_le (F := F) s; simp only [phi]; omega))
                          have HKB1 := Lib.hid (show k1 ≤ ps.length + 84 from by have h1 := HPT.out; have h2 := HKN.out; rcases h1 with h1 | h1 <;> omega)
                          go_wp2
                          go_roundw
                          case rel => exact ⟨4, 0, k1, s, by first | rfl | go_num, by first | rfl | rw [HDF.out], rfl, by omega, HKB1.out, by rw [← HKN.out]; exact HV3.out, by rw [← HKN.out]; exact HPT.out⟩
                          case measure => have := HKN.out; have := HK84.out; simp [intOf]; omega
                        · skip
                          go_wp2_with fail
                          refine (mw_x HSPL.out h4 h6 HLO.out HD.out HV.out HBV.out (by omega) (by have := HK84.out; omega) HDF.out).mono ?_; rintro e V3 ⟨s', rfl, hV3, hdl⟩
                          have HV3 := Lib.hid hV3
                          have HDL := Lib.hid (hdl rfl)
                          clear hV3 hdl
                          have HPT := Lib.hid (show k + 1 ≤ ps.length ∨ k + 1 + phi F (frs F RR).length (wrs F PP QQ).length (4) (j) (s') ≤ ps.length + 84 from pot_step HPOT.out (phi_le HSPL.out h6 _ _ _) (by have := HDL.out; simp only [phi]; omega))
                          have HKB1 := Lib.hid (show k1 ≤ ps.length + 84 from by have h1 := HPT.out; have h2 := HKN.out; rcases h1 with h1 | h1 <;> omega)
                          go_wp2
                          go_roundw
                          case rel => exact ⟨4, j, k1, s', by first | rfl | go_num, rfl, rfl, by omega, HKB1.out, by rw [← HKN.out]; exact HV3.out, by rw [← HKN.out]; exact HPT.out⟩
                          case measure => have := HKN.out; have := HK84.out; simp [intOf]; omega

end Go.Proofs.YtkpbbnpfdighjaaGreat
