/-
  ModelIsPersistent answers yes for every list of batches, list of steps and time. Condition: none beside the form's own reach.
-/
import Derived.Test.YtodenkamlbihnaaModAwake
import Derived.Test.YtodenkamlbihnaaModOpens
import Derived.Test.YtodenkamlbihnaaModList
import Derived.Test.YtodenkamlbihnaaBatSame
import Derived.Deep.Cut
import Derived.BigQuiet
namespace Go.Proofs.Ytodenkamlbihnaa
open Go.RowKit Go.Deep Plain PlainE
set_option linter.unusedVariables false


theorem RE.keptZ {Z : Nat → Prop} {w w' : World} {A : Option Addr} {c : Nat} {xs : List Ent} (h : RE w A c xs) (hk : Kept Z w w') (hA : ∀ a, A = some a → ¬ Z a.block) : RE w' A c xs :=
  ⟨h.le, h.max, h.none', fun hp => by
    obtain ⟨g, off, e, hg, hc⟩ := h.some' hp
    exact ⟨g, off, e, Nat.lt_of_lt_of_le hg hk.size, fun j u hu => (hk.cell (p := ⟨g, off + j, none⟩) hg (hA ⟨g, off, none⟩ e)).trans (hc j u hu)⟩⟩

set_option maxRecDepth 100000 in
set_option maxHeartbeats 8000000 in
theorem lawModelIsPersistent (w : World) (ab : Option Addr) (cb : Nat) (ysb : List Stp) (nb : Nat) (hnb : ysb.length = nb) (hmb : nb ≤ maxLen) (hSb : Bts w ab ysb) (a : Option Addr) (c : Nat) (ys : List Stp) (n : Nat) (hn : ys.length = n) (hm : n ≤ maxLen) (hS : Stps w a ys) (t : Nat) (ht : t < 18446744073709551616) :
    Calls Try.prog 6 #[.slice ab nb cb, .slice a n c, .int .u64 (t : Int)] w fun e w' => e = .returned (.bool true) ∧ Below w.heap.size w w' := by
  unfold maxLen at hm hmb
  have HST := Lib.hid hS
  have HN := Lib.hid hn
  have HSTb := Lib.hid hSb
  have HNb := Lib.hid hnb
  clear hS hn hSb hnb
  go_enter Try.func6, Try.ntmps6
  go_wp2_with fail
  refine (mnew_any _).mono ?_; rintro e w1 ⟨p, rfl, hM1, hB1⟩
  have HM1 := Lib.hid hM1
  have HB1 := Lib.hid hB1
  clear hM1 hB1
  go_wp2_with fail
  refine (awake_any _).mono ?_; rintro e w2 ⟨rfl, hB2⟩
  have HM2 := Lib.hid (HM1.out.below hB2 (Nat.le_refl _))
  have HB2 := Lib.hid (HB1.out.trans (hB2.mono HB1.out.size))
  clear hB2 HM1 HB1
  by_cases h10 : 10 < nb
  · have h41 : ((nb : Int) ≤ 10) = False := by simp; omega
    go_wp2_with fail
    refine (awake_any _).mono ?_; rintro e w3 ⟨rfl, hB3⟩
    have HB3 := Lib.hid (HB2.out.trans (hB3.mono HB2.out.size))
    clear hB3
    go_wp2
    go_ret
    exact ⟨by first | rfl | simp, HB3.out⟩
  · have h41 : ¬ (10 : Int) < (nb : Int) := by omega
    by_cases h30 : 30 < n
    · have h42 : ((n : Int) ≤ 30) = False := by simp; omega
      go_wp2_with fail
      refine (awake_any _).mono ?_; rintro e w3 ⟨rfl, hB3⟩
      have HB3 := Lib.hid (HB2.out.trans (hB3.mono HB2.out.size))
      clear hB3
      go_wp2
      go_ret
      exact ⟨by first | rfl | simp, HB3.out⟩
    · have h42 : ¬ (30 : Int) < (n : Int) := by omega
      go_wp2_with fail
      go_loopw [8] (fun i wr => ∃ (k : Nat) (Z : Nat → Prop) (m : Nat) (bs : List (List Wri)), i = .int .i64 k ∧ k ≤ nb ∧ MdS wr p w.heap.size Z m bs 0 (fun _ => none) ∧ m ≤ 5 * k ∧ bs.length = k ∧ Below w.heap.size w wr) (fun i _ => nb - (intOf i).toNat)
      case atStart => exact ⟨0, _, 0, [], rfl, Nat.zero_le _, HM2.out, Nat.le_refl _, rfl, HB2.out⟩
      case round =>
        obtain ⟨k, Z, m, bs, rfl, hk, hM, hm5, hbl, hbel⟩ := hrel
        have HMr := Lib.hid hM
        have HBr := Lib.hid hbel
        have HBL := Lib.hid hbl
        clear hM hbel HM2 HB2 hbl
        by_cases hlt : k < nb
        · obtain ⟨y, hy⟩ : ∃ y, ysb[k]? = some y := ⟨_, List.getElem?_eq_getElem (by have := HNb.out; omega)⟩
          obtain ⟨g, off, eA, hg, hcell⟩ := HSTb.out.at' (by have := HNb.out; omega)
          have hc0 := (HBr.out.cell (p := ⟨g, off + k, none⟩) hg).trans (hcell k y hy)
          have HMEM := Lib.hid (List.mem_of_getElem? hy)
          have HR3 := Lib.hid ((HSTb.out.row y HMEM.out).1.below HBr.out (Nat.le_refl _))
          have HYR := Lib.hid (HSTb.out.row y HMEM.out).2
          subst eA
          clear hcell hy hg
          go_wp2_with fail
          refine (fit_any y.A y.c y.b _ y.n HYR.out.1 HYR.out.2.1 HR3.out HYR.out.2.2).mono ?_; rintro e w4 ⟨A4, c4, r4, rfl, hr4, hr5, hR4, hB4⟩
          have HM4 := Lib.hid (HMr.out.below hB4 (Nat.le_refl _))
          have HB4 := Lib.hid (HBr.out.trans (hB4.mono HBr.out.size))
          have HR4 := Lib.hid hR4
          have HRL := Lib.hid hr4
          clear hB4 hR4 hr4 hc0
          go_wp2_with fail
          refine (mapply_any _ HM4.out (by have := HBL.out; omega) (by omega) A4 c4 (fitL y.b) r4 HRL.out (by omega) HR4.out (fitL_sz _) (fitL_chk _)).mono ?_; rintro e w5 ⟨rfl, hM5, hK5⟩
          have HM5 := Lib.hid hM5
          have HB5 := Lib.hid (HB4.out.trans (hK5.below HB4.out.size (fun i hi => (HM4.out.lt hi).1)))
          clear hM5 hK5
          go_wp2
          go_roundw
          case rel => exact ⟨k + 1, _, _, _, by go_num, by omega, HM5.out, by omega, by have := HBL.out; simp; omega, HB5.out⟩
          case measure => simp [intOf]; omega
        · have hkn : k = nb := by omega
          have hbn : bs.length ≤ 10 := by have := HBL.out; omega
          have HKN := Lib.hid hkn
          clear hkn
          go_wp2_with fail
          refine (mtime_any _ HMr.out).mono ?_; rintro e w3 ⟨rfl, rfl⟩
          obtain ⟨T, hT⟩ : ∃ T, bs.length = T := ⟨_, rfl⟩
          rw [hT]
          obtain ⟨tq, htm⟩ : ∃ tq : Nat, (t : Int).tmod ((T : Int) + 1) = (tq : Int) := ⟨t % (T + 1), by rw [show ((T : Int) + 1) = ((T + 1 : Nat) : Int) by omega]; rfl⟩
          have htm2 : (t : Int) % ((T : Int) + 1) = (tq : Int) := by rw [← htm]; exact (Int.tmod_eq_emod_of_nonneg (by omega)).symm
          have htl : (tq : Int) ≤ (T : Int) := by rw [← htm2]; have := Int.emod_lt_of_pos (t : Int) (show (0 : Int) < (T : Int) + 1 by omega); omega
          have ew : IntKind.u64.wrap ((T : Int) + 1) = (T : Int) + 1 := by rw [IntKind.wrap_u64]; omega
          have ew2 : IntKind.u64.wrap (tq : Int) = (tq : Int) := by rw [IntKind.wrap_u64]; omega
          have hne2 : ((T : Int) + 1 == 0) = false := by simp; omega
          have HTT := Lib.hid hT
          go_wp2_with fail
          refine (mlist_any _ HMr.out (by have := HTT.out; omega) (by omega) tq).mono ?_; rintro e W ⟨A1, r, c1, rfl, hR1, hL1, hB1, _, hxl⟩
          clear htm htm2 ew ew2 hne2 hT
          obtain ⟨xs0, hxs⟩ : ∃ xs, stateL bs tq = xs := ⟨_, rfl⟩
          have HMW := Lib.hid (HMr.out.below hB1 (Nat.le_refl _))
          have HBW := Lib.hid (HBr.out.trans (hB1.mono HBr.out.size))
          rw [hxs] at hR1 hL1
          have HXS := Lib.hid hxs
          have HR1 := Lib.hid hR1
          have HL1 := Lib.hid hL1
          clear hR1 hL1 hB1 hxs HMr HBr
          go_wp2_with (at_builtin; go_must (refine wpList_appE rfl (.const (.slice none 0 0)) (.tmp 53) rfl W.heap.size _ 0 [] rfl (World.ownsRow_nil _ _ _ _) _ r c1 xs0 rfl HL1.out HR1.out (by omega) (Nat.le_refl _) ?_))
          intro v9 W2 hown9 hB9
          obtain ⟨A9, c9, rfl, hn9, hR9, hf9⟩ := RE.own hown9
          have HMW2 := Lib.hid (HMW.out.below hB9 (Nat.le_refl _))
          have HBW2 := Lib.hid (HBW.out.trans (hB9.mono HBW.out.size))
          have HFA0 := Lib.hid (show ∀ a, A9 = some a → ¬ Z a.block ∧ a.block < W2.heap.size from fun a ha => by
            subst ha
            refine ⟨fun h => ?_, (own_cells hown9 rfl).2.1⟩
            have h1 := hf9 a rfl
            have h2 := (HMW.out.lt h).2
            omega)
          have HR9 := Lib.hid hR9
          have HN9 := Lib.hid (show xs0.length = r from HL1.out)
          have HN9b := Lib.hid (show r ≤ 1000000 by omega)
          try rw [Nat.zero_add]
          clear hown9 hB9 hn9 hR9 hf9
          go_wp2_with fail
          go_loopw [10] (fun i wr => ∃ (k : Nat) (Z : Nat → Prop) (m : Nat) (bs : List (List Wri)) (fl : Nat) (sn : Lit → Option Nat), i = .int .i64 k ∧ k ≤ n ∧ MdS wr p w.heap.size Z m bs fl sn ∧ m ≤ 50 + 6 * k ∧ bs.length ≤ 10 + k ∧ tq ≤ bs.length ∧ stateL bs tq = xs0 ∧ RE wr A9 c9 xs0 ∧ (∀ a, A9 = some a → ¬ Z a.block ∧ a.block < wr.heap.size) ∧ Below w.heap.size w wr) (fun i _ => n - (intOf i).toNat)
          case atStart => exact ⟨0, Z, m, bs, 0, _, rfl, Nat.zero_le _, HMW2.out, by omega, by have := HTT.out; omega, by have := HTT.out; omega, HXS.out, HR9.out, HFA0.out, HBW2.out⟩
          case round =>
            clear HMW HBW HMW2 HBW2 HFA0 HR9 HXS HR1 HL1 HTT htl hbn HBL HKN
            clear hm5 hk hlt
            obtain ⟨k, Z, m, bs, fl, sn, rfl, hk, hM, hm6, hbl, htq, hst, hrw, hfa, hbel⟩ := hrel
            have HM3 := Lib.hid hM
            have HB3 := Lib.hid hbel
            have HRW := Lib.hid hrw
            have HFA := Lib.hid hfa
            have HSTT := Lib.hid hst
            have HS3 := Lib.hid (Nat.le_refl wr.heap.size)
            have HL9 := Lib.hid (show bs.length ≤ 10 + k ∧ k ≤ 30 ∧ m ≤ 50 + 6 * k by omega)
            clear hM hbel hrw hfa hst hm6 hbl
            by_cases hlt : k < n
            · obtain ⟨y, hy⟩ : ∃ y, ys[k]? = some y := ⟨_, List.getElem?_eq_getElem (by have := HN.out; omega)⟩
              obtain ⟨g, off, eA, hg, hcell⟩ := HST.out.at' (by have := HN.out; omega)
              have HC0 := Lib.hid (hcell k 0 y _ hy rfl)
              have HC1 := Lib.hid (hcell k 1 y _ hy rfl)
              have HC4 := Lib.hid (hcell k 4 y _ hy rfl)
              have HMEM := Lib.hid (List.mem_of_getElem? hy)
              have HGLw := Lib.hid hg
              subst eA
              clear hcell hy hg
              have c0 := (HB3.out.cell (p := ⟨g, off + k * 5, none⟩) HGLw.out).trans HC0.out
              go_wp2_with fail
              refine (mod_any y.kind 5 _ (by omega) (by omega)).mono ?_; rintro e w9 ⟨rfl, rfl⟩
              obtain ⟨q, hq⟩ : ∃ q, y.kind % 5 = q := ⟨_, rfl⟩
              rw [hq]
              have hq5 : 0 ≤ q ∧ q < 5 := by omega
              clear hq c0
              by_cases hq2 : q = 2
              · subst hq2
                go_wp2_with fail
                refine (mopen_any _ HM3.out (by have := HL9.out; omega) (by have := HL9.out; omega) 0 0 (by omega) (by omega)).mono ?_; rintro e w4 ⟨rfl, hM4, hK4⟩
                have HMz := Lib.hid hM4
                have HKz := Lib.hid hK4
                have HBz := Lib.hid (HB3.out.trans (hK4.below HB3.out.size (fun i hi => (HM3.out.lt hi).1)))
                clear hM4 hK4
                have HKR := Lib.hid (RE.keptZ HRW.out HKz.out (fun a ha => (HFA.out a ha).1))
                have hbT : (stateL bs tq) = xs0 := HSTT.out
                have HST2 := Lib.hid hbT
                clear hbT
                go_wp2_with fail
                refine (mlist_any _ HMz.out (by have := HL9.out; first | omega | (simp; omega)) (by have := HL9.out; omega) tq).mono ?_; rintro e w8 ⟨A8, r8, c8, rfl, hR8, hL8, hB8, _, hr8⟩
                rw [HST2.out] at hR8 hL8
                have HMy := Lib.hid (HMz.out.below hB8 (Nat.le_refl _))
                have HBy := Lib.hid (HBz.out.trans (hB8.mono HBz.out.size))
                have HRy := Lib.hid (HKR.out.below hB8 (Nat.le_refl _))
                have HR8 := Lib.hid hR8
                have HL8 := Lib.hid hL8
                have HSy := Lib.hid hB8.size
                clear hB8 hR8 hL8
                go_wp2_with fail
                refine (sameE_any A8 A9 c8 c9 xs0 xs0 _ r8 r HL8.out HN9.out (by omega) (by have := HN9b.out; omega) HR8.out HRy.out true (by simp)).mono ?_; rintro e w9 ⟨rfl, hB9⟩
                have HMx := Lib.hid (HMy.out.below hB9 (Nat.le_refl _))
                have HBx := Lib.hid (HBy.out.trans (hB9.mono HBy.out.size))
                have HRx := Lib.hid (HRy.out.below hB9 (Nat.le_refl _))
                have HSx := Lib.hid hB9.size
                clear hB9
                go_wp2
                go_roundw
                case rel => exact ⟨k + 1, _, _, _, _, _, by go_num, by omega, HMx.out, by have := HL9.out; omega, by have := HL9.out; first | omega | (simp; omega), by first | omega | (simp; omega), HST2.out, HRx.out, fun a ha => ⟨(HFA.out a ha).1, by have h1 := (HFA.out a ha).2; have h2 := HKz.out.size; have h3 := HSy.out; have h4 := HSx.out; have h5 := HS3.out; omega⟩, HBx.out⟩
                case measure => simp [intOf]; omega
              · have hn2 : (q == 2) = false := by simp [hq2]
                by_cases hq3 : q = 3
                · subst hq3
                  go_wp2_with fail
                  refine (mrelease_any _ HM3.out 0 0 (by omega) (by omega)).mono ?_; rintro e w4 ⟨rfl, hM4, hK4⟩
                  have HMz := Lib.hid hM4
                  have HKz := Lib.hid hK4
                  have HBz := Lib.hid (HB3.out.trans (hK4.below HB3.out.size (fun i hi => (HM3.out.lt hi).1)))
                  clear hM4 hK4
                  have HKR := Lib.hid (RE.keptZ HRW.out HKz.out (fun a ha => (HFA.out a ha).1))
                  have hbT : (stateL bs tq) = xs0 := HSTT.out
                  have HST2 := Lib.hid hbT
                  clear hbT
                  go_wp2_with fail
                  refine (mlist_any _ HMz.out (by have := HL9.out; first | omega | (simp; omega)) (by have := HL9.out; omega) tq).mono ?_; rintro e w8 ⟨A8, r8, c8, rfl, hR8, hL8, hB8, _, hr8⟩
                  rw [HST2.out] at hR8 hL8
                  have HMy := Lib.hid (HMz.out.below hB8 (Nat.le_refl _))
                  have HBy := Lib.hid (HBz.out.trans (hB8.mono HBz.out.size))
                  have HRy := Lib.hid (HKR.out.below hB8 (Nat.le_refl _))
                  have HR8 := Lib.hid hR8
                  have HL8 := Lib.hid hL8
                  have HSy := Lib.hid hB8.size
                  clear hB8 hR8 hL8
                  go_wp2_with fail
                  refine (sameE_any A8 A9 c8 c9 xs0 xs0 _ r8 r HL8.out HN9.out (by omega) (by have := HN9b.out; omega) HR8.out HRy.out true (by simp)).mono ?_; rintro e w9 ⟨rfl, hB9⟩
                  have HMx := Lib.hid (HMy.out.below hB9 (Nat.le_refl _))
                  have HBx := Lib.hid (HBy.out.trans (hB9.mono HBy.out.size))
                  have HRx := Lib.hid (HRy.out.below hB9 (Nat.le_refl _))
                  have HSx := Lib.hid hB9.size
                  clear hB9
                  go_wp2
                  go_roundw
                  case rel => exact ⟨k + 1, _, _, _, _, _, by go_num, by omega, HMx.out, by have := HL9.out; omega, by have := HL9.out; first | omega | (simp; omega), by first | omega | (simp; omega), HST2.out, HRx.out, fun a ha => ⟨(HFA.out a ha).1, by have h1 := (HFA.out a ha).2; have h2 := HKz.out.size; have h3 := HSy.out; have h4 := HSx.out; have h5 := HS3.out; omega⟩, HBx.out⟩
                  case measure => simp [intOf]; omega
                · have hn3 : (q == 3) = false := by simp [hq3]
                  by_cases hq4 : q = 4
                  · subst hq4
                    have c4 := (HB3.out.cell (p := ⟨g, off + k * 5 + 4, none⟩) HGLw.out).trans HC4.out
                    obtain ⟨uq, hum⟩ : ∃ uq : Nat, (y.to : Int).tmod 12 = (uq : Int) := ⟨y.to % 12, rfl⟩
                    have hum2 : (y.to : Int) % 12 = (uq : Int) := by rw [← hum]; exact (Int.tmod_eq_emod_of_nonneg (by omega)).symm
                    have ew2 : IntKind.u64.wrap (uq : Int) = (uq : Int) := by rw [IntKind.wrap_u64]; omega
                    go_wp2_with fail
                    refine (mraise_any _ HM3.out uq).mono ?_; rintro e w4 ⟨x4, hx4, rfl, hM4, hK4⟩
                    clear c4 hum hum2 ew2 hx4
                    have HMz := Lib.hid hM4
                    have HKz := Lib.hid hK4
                    have HBz := Lib.hid (HB3.out.trans (hK4.below HB3.out.size (fun i hi => (HM3.out.lt hi).1)))
                    clear hM4 hK4
                    have HKR := Lib.hid (RE.keptZ HRW.out HKz.out (fun a ha => (HFA.out a ha).1))
                    have hbT : (stateL bs tq) = xs0 := HSTT.out
                    have HST2 := Lib.hid hbT
                    clear hbT
                    go_wp2_with fail
                    refine (mlist_any _ HMz.out (by have := HL9.out; first | omega | (simp; omega)) (by have := HL9.out; omega) tq).mono ?_; rintro e w8 ⟨A8, r8, c8, rfl, hR8, hL8, hB8, _, hr8⟩
                    rw [HST2.out] at hR8 hL8
                    have HMy := Lib.hid (HMz.out.below hB8 (Nat.le_refl _))
                    have HBy := Lib.hid (HBz.out.trans (hB8.mono HBz.out.size))
                    have HRy := Lib.hid (HKR.out.below hB8 (Nat.le_refl _))
                    have HR8 := Lib.hid hR8
                    have HL8 := Lib.hid hL8
                    have HSy := Lib.hid hB8.size
                    clear hB8 hR8 hL8
                    go_wp2_with fail
                    refine (sameE_any A8 A9 c8 c9 xs0 xs0 _ r8 r HL8.out HN9.out (by omega) (by have := HN9b.out; omega) HR8.out HRy.out true (by simp)).mono ?_; rintro e w9 ⟨rfl, hB9⟩
                    have HMx := Lib.hid (HMy.out.below hB9 (Nat.le_refl _))
                    have HBx := Lib.hid (HBy.out.trans (hB9.mono HBy.out.size))
                    have HRx := Lib.hid (HRy.out.below hB9 (Nat.le_refl _))
                    have HSx := Lib.hid hB9.size
                    clear hB9
                    go_wp2
                    go_roundw
                    case rel => exact ⟨k + 1, _, _, _, _, _, by go_num, by omega, HMx.out, by have := HL9.out; omega, by have := HL9.out; first | omega | (simp; omega), by first | omega | (simp; omega), HST2.out, HRx.out, fun a ha => ⟨(HFA.out a ha).1, by have h1 := (HFA.out a ha).2; have h2 := HKz.out.size; have h3 := HSy.out; have h4 := HSx.out; have h5 := HS3.out; omega⟩, HBx.out⟩
                    case measure => simp [intOf]; omega
                  · have hn4 : (q == 4) = false := by simp [hq4]
                    have HR3 := Lib.hid ((HST.out.row y HMEM.out).1.below HB3.out (Nat.le_refl _))
                    have hyr := (HST.out.row y HMEM.out).2
                    have HYR := Lib.hid hyr
                    have c1 := (HB3.out.cell (p := ⟨g, off + k * 5 + 1, none⟩) HGLw.out).trans HC1.out
                    clear hyr
                    go_wp2_with fail
                    refine (fit_any y.A y.c y.b _ y.n HYR.out.1 HYR.out.2.1 HR3.out HYR.out.2.2).mono ?_; rintro e w4 ⟨A4, c4, r4, rfl, hr4, hr5, hR4, hB4⟩
                    have HM4 := Lib.hid (HM3.out.below hB4 (Nat.le_refl _))
                    have HB4 := Lib.hid (HB3.out.trans (hB4.mono HB3.out.size))
                    replace HRW := Lib.hid (HRW.out.below hB4 (Nat.le_refl _))
                    have HS4 := Lib.hid (show wr.heap.size ≤ w4.heap.size from hB4.size)
                    have HR4 := Lib.hid hR4
                    have HRL := Lib.hid hr4
                    clear hB4 hR4 hr4 c1
                    go_wp2_with fail
                    refine (mapply_any _ HM4.out (by have := HL9.out; omega) (by have := HL9.out; omega) A4 c4 (fitL y.b) r4 HRL.out (by omega) HR4.out (fitL_sz _) (fitL_chk _)).mono ?_; rintro e w5 ⟨rfl, hM5, hK5⟩
                    have HMz := Lib.hid hM5
                    have HKz := Lib.hid hK5
                    have HBz := Lib.hid (HB4.out.trans (hK5.below HB4.out.size (fun i hi => (HM4.out.lt hi).1)))
                    clear hM5 hK5
                    have HKR := Lib.hid (RE.keptZ HRW.out HKz.out (fun a ha => (HFA.out a ha).1))
                    have hbT : (stateL (bs ++ [fitL y.b]) tq) = xs0 := by rw [stateL_old (by omega)]; exact HSTT.out
                    have HST2 := Lib.hid hbT
                    clear hbT
                    go_wp2_with fail
                    refine (mlist_any _ HMz.out (by have := HL9.out; first | omega | (simp; omega)) (by have := HL9.out; omega) tq).mono ?_; rintro e w8 ⟨A8, r8, c8, rfl, hR8, hL8, hB8, _, hr8⟩
                    rw [HST2.out] at hR8 hL8
                    have HMy := Lib.hid (HMz.out.below hB8 (Nat.le_refl _))
                    have HBy := Lib.hid (HBz.out.trans (hB8.mono HBz.out.size))
                    have HRy := Lib.hid (HKR.out.below hB8 (Nat.le_refl _))
                    have HR8 := Lib.hid hR8
                    have HL8 := Lib.hid hL8
                    have HSy := Lib.hid hB8.size
                    clear hB8 hR8 hL8
                    go_wp2_with fail
                    refine (sameE_any A8 A9 c8 c9 xs0 xs0 _ r8 r HL8.out HN9.out (by omega) (by have := HN9b.out; omega) HR8.out HRy.out true (by simp)).mono ?_; rintro e w9 ⟨rfl, hB9⟩
                    have HMx := Lib.hid (HMy.out.below hB9 (Nat.le_refl _))
                    have HBx := Lib.hid (HBy.out.trans (hB9.mono HBy.out.size))
                    have HRx := Lib.hid (HRy.out.below hB9 (Nat.le_refl _))
                    have HSx := Lib.hid hB9.size
                    clear hB9
                    go_wp2
                    go_roundw
                    case rel => exact ⟨k + 1, _, _, _, _, _, by go_num, by omega, HMx.out, by have := HL9.out; omega, by have := HL9.out; first | omega | (simp; omega), by first | omega | (simp; omega), HST2.out, HRx.out, fun a ha => ⟨fun h => h.elim (HFA.out a ha).1 (fun h => by have h1 := (HFA.out a ha).2; have h2 := HS4.out; omega), by have h1 := (HFA.out a ha).2; have h2 := HKz.out.size; have h3 := HSy.out; have h4 := HSx.out; have h5 := HS4.out; omega⟩, HBx.out⟩
                    case measure => simp [intOf]; omega
            · clear HM3 HRW HFA HSTT
              go_wp2
              go_ret
              exact ⟨by first | rfl | simp, HB3.out⟩
end Go.Proofs.Ytodenkamlbihnaa
