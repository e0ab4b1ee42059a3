/-
  ModelGets answers yes for every list of batches, key and time. Condition: none beside the form's own reach.
-/
import Derived.Test.YtodenkamlbihnaaModAwake
import Derived.Test.YtodenkamlbihnaaModOpens
import Derived.Test.YtodenkamlbihnaaModList
import Derived.Deep.Cut
import Derived.BigQuiet
namespace Go.Proofs.Ytodenkamlbihnaa
open Go.RowKit Go.Deep Plain PlainE
set_option linter.unusedVariables false

theorem MdS.keysz {w : World} {p B m : Nat} {Z : Nat → Prop} {bs : List (List Wri)} {fl : Nat} {sn : Lit → Option Nat} (h : MdS w p B Z m bs fl sn) {t : Nat} {e : Ent} (he : e ∈ stateL bs t) : e.1.size ≤ maxLen := by
  obtain ⟨bc, bn, nc, nn, Dc, Dn, sl, ch, hp, hc, hs', h1, _⟩ := h
  have hv : valAt (ch e.1) t = some e.2 := by rw [h1.val]; exact getL_of_mem (stateL_asc _ _) he
  have hne : ch e.1 ≠ [] := fun h => by rw [h] at hv; cases hv
  have hh := (hc.has e.1).2 hne
  obtain ⟨es, clock, hb, F, hs, rfl⟩ := hc.own
  obtain ⟨q, hq, hqk⟩ := List.any_eq_true.1 hh
  obtain ⟨x, hx, rfl⟩ := List.mem_map.1 (mem_sorted.1 hq)
  obtain ⟨y, hy⟩ := F.reads x hx
  have e1 := WideAt.sameKey_eq hqk
  rw [WideElems.rg_of hy] at e1
  have hk := WideElems.rd_key hy
  rw [e1] at hk
  obtain ⟨s, _, h2, h3⟩ := keyOf_str_inv hk
  rw [litB_inj h2]; exact h3
theorem below_drewN {B : Nat} {w w' : World} (h : Below B w w') (n : Nat) : Below B w (w'.drewN n) := ⟨h.os, h.tape, h.output, h.size, h.block⟩
/-- A key among the first entries. -/
def inTo (xs : List Ent) (k : ByteArray) (i : Nat) : Bool := (xs.take i).any fun e => eqk e.1 k
theorem inTo_nx {xs : List Ent} {k : ByteArray} {i : Nat} {x : Ent} (hx : xs[i]? = some x) : inTo xs k (i + 1) = (inTo xs k i || eqk x.1 k) := by
  unfold inTo; rw [take_nx hx, List.any_append]; simp
theorem inTo_all (k : ByteArray) : ∀ xs : List Ent, inTo xs k xs.length = (getL xs k).isSome := by
  intro xs
  unfold inTo
  rw [List.take_length]
  cases h : getL xs k with
  | some v =>
    exact List.any_eq_true.2 ⟨(k, v), getL_some h, eqk_iff.2 rfl⟩
  | none =>
    exact List.any_eq_false.2 fun y hy => by rw [getL_isSome h y hy]; simp

set_option maxRecDepth 100000 in
set_option maxHeartbeats 8000000 in
theorem lawModelGets (w : World) (a : Option Addr) (c : Nat) (ys : List Stp) (n : Nat) (hn : ys.length = n) (hm : n ≤ maxLen) (hS : Bts w a ys) (key : ByteArray) (hkey : key.size ≤ maxLen) (t : Nat) (ht : t < 18446744073709551616) :
    Calls Try.prog 7 #[.slice a n c, .string key, .int .u64 (t : Int)] w fun e w' => e = .returned (.bool true) ∧ Below w.heap.size w w' := by
  unfold maxLen at hm
  have HST := Lib.hid hS
  have HN := Lib.hid hn
  have HKEY := Lib.hid hkey
  clear hS hn hkey
  go_enter Try.func7, Try.ntmps7
  go_wp2_with fail
  refine (mnew_any _).mono ?_; rintro e w1 ⟨p, rfl, hM1, hB1⟩
  have HM1 := Lib.hid hM1
  have HB1 := Lib.hid hB1
  clear hM1 hB1
  go_wp2_with fail
  refine (awake_any _).mono ?_; rintro e w2 ⟨rfl, hB2⟩
  have HM2 := Lib.hid (HM1.out.below hB2 (Nat.le_refl _))
  have HB2 := Lib.hid (HB1.out.trans (hB2.mono HB1.out.size))
  clear hB2 HM1 HB1
  by_cases h40 : 12 < n
  · have h41 : ((n : Int) ≤ 12) = False := by simp; omega
    go_wp2_with fail
    refine (awake_any _).mono ?_; rintro e w3 ⟨rfl, hB3⟩
    have HB3 := Lib.hid (HB2.out.trans (hB3.mono HB2.out.size))
    clear hB3
    go_wp2
    go_ret
    exact ⟨by first | rfl | simp, HB3.out⟩
  · have h41 : ¬ (12 : Int) < (n : Int) := by omega
    go_wp2_with fail
    go_loopw [8] (fun i wr => ∃ (k : Nat) (Z : Nat → Prop) (m : Nat) (bs : List (List Wri)), i = .int .i64 k ∧ k ≤ n ∧ MdS wr p w.heap.size Z m bs 0 (fun _ => none) ∧ m ≤ 5 * k ∧ bs.length = k ∧ Below w.heap.size w wr) (fun i _ => n - (intOf i).toNat)
    case atStart => exact ⟨0, _, 0, [], rfl, Nat.zero_le _, HM2.out, Nat.le_refl _, rfl, HB2.out⟩
    case round =>
      obtain ⟨k, Z, m, bs, rfl, hk, hM, hm5, hbl, hbel⟩ := hrel
      have HMr := Lib.hid hM
      have HBr := Lib.hid hbel
      have HBL := Lib.hid hbl
      clear hM hbel HM2 HB2 hbl
      by_cases hlt : k < n
      · obtain ⟨y, hy⟩ : ∃ y, ys[k]? = some y := ⟨_, List.getElem?_eq_getElem (by have := HN.out; omega)⟩
        obtain ⟨g, off, eA, hg, hcell⟩ := HST.out.at' (by have := HN.out; omega)
        have hc0 := (HBr.out.cell (p := ⟨g, off + k, none⟩) hg).trans (hcell k y hy)
        have HMEM := Lib.hid (List.mem_of_getElem? hy)
        have HR3 := Lib.hid ((HST.out.row y HMEM.out).1.below HBr.out (Nat.le_refl _))
        have HYR := Lib.hid (HST.out.row y HMEM.out).2
        subst eA
        clear hcell hy hg
        go_wp2_with fail
        refine (fit_any y.A y.c y.b _ y.n HYR.out.1 HYR.out.2.1 HR3.out HYR.out.2.2).mono ?_; rintro e w4 ⟨A4, c4, r4, rfl, hr4, hr5, hR4, hB4⟩
        have HM4 := Lib.hid (HMr.out.below hB4 (Nat.le_refl _))
        have HB4 := Lib.hid (HBr.out.trans (hB4.mono HBr.out.size))
        have HR4 := Lib.hid hR4
        have HRL := Lib.hid hr4
        clear hB4 hR4 hr4 hc0
        go_wp2_with fail
        refine (mapply_any _ HM4.out (by have := HBL.out; omega) (by omega) A4 c4 (fitL y.b) r4 HRL.out (by omega) HR4.out (fitL_sz _) (fitL_chk _)).mono ?_; rintro e w5 ⟨rfl, hM5, hK5⟩
        have HM5 := Lib.hid hM5
        have HB5 := Lib.hid (HB4.out.trans (hK5.below HB4.out.size (fun i hi => (HM4.out.lt hi).1)))
        clear hM5 hK5
        rw [HBL.out]
        have ew : IntKind.u64.wrap ((k : Int) + 1) = (k : Int) + 1 := by rw [IntKind.wrap_u64]; omega
        go_wp2
        go_roundw
        case rel => exact ⟨k + 1, _, _, _, by go_num, by omega, HM5.out, by omega, by have := HBL.out; simp; omega, HB5.out⟩
        case measure => simp [intOf]; omega
      · obtain rfl : k = n := by omega
        have hbT : bs.length ≤ 1000000 := by have := HBL.out; omega
        have HBT := Lib.hid hbT
        clear hbT
        go_wp2_with fail
        refine (mlist_any _ HMr.out HBT.out (by omega) t).mono ?_; rintro e W ⟨A1, r, c1, rfl, hR1, hL1, hB1, _⟩
        have HMW := Lib.hid (HMr.out.below hB1 (Nat.le_refl _))
        have HBW := Lib.hid (HBr.out.trans (hB1.mono HBr.out.size))
        obtain ⟨xs, hxs⟩ : ∃ xs, stateL bs t = xs := ⟨_, rfl⟩
        have hasc : Asc xs := hxs ▸ stateL_asc bs t
        have hksz : ∀ e ∈ xs, e.1.size ≤ maxLen := fun e he => HMW.out.keysz (hxs ▸ he)
        rw [hxs] at hR1 hL1
        have HXS := Lib.hid hxs
        have HR1 := Lib.hid hR1
        have HL1 := Lib.hid hL1
        have HA := Lib.hid hasc
        have HKZ := Lib.hid hksz
        have hr63 : r ≤ 9223372036854775807 := by have h1 := hR1.le; have h2 := hR1.max; unfold maxLen at h2; omega
        have hs1 := HBW.out.size
        clear hR1 hL1 hB1 hxs hasc hksz HMr HBr
        go_wp2_with fail
        go_loopw [10, 11] (fun b i wr => ∃ j : Nat, j ≤ r ∧ b = .bool (inTo xs key j) ∧ i = .int .i64 j ∧ Below W.heap.size W wr) (fun _ i _ => r - (intOf i).toNat)
        case atStart => exact ⟨0, Nat.zero_le _, rfl, rfl, Below.refl _ _⟩
        case round =>
          obtain ⟨j, hj, rfl, rfl, hbel⟩ := hrel
          have HB := Lib.hid hbel
          have hsz := hbel.size
          clear hbel
          by_cases hlt2 : j < r
          · obtain ⟨x, hx⟩ : ∃ x, xs[j]? = some x := ⟨_, List.getElem?_eq_getElem (by have := HL1.out; omega)⟩
            obtain ⟨g, off, eA, hg, hcell⟩ := (HR1.out.below HB.out (Nat.le_refl _)).at (by have := HL1.out; omega)
            subst eA
            obtain ⟨d0, d1⟩ := hcell j x hx
            have hget : getL (stateL bs t) x.1 = some x.2 := by rw [HXS.out]; exact getL_of_mem HA.out (List.mem_of_getElem? hx)
            have hkx := HKZ.out x (List.mem_of_getElem? hx)
            have HX := Lib.hid hx
            have HCL := Lib.hid hcell
            obtain ⟨x0, x1⟩ := x
            have HGET := Lib.hid hget
            have HKX := Lib.hid hkx
            clear hx hcell hget hkx
            go_wp2_with fail
            refine (mget_any _ (HMW.out.below HB.out (Nat.le_refl _)) HBT.out x0 HKX.out t x1 (by rw [HGET.out]; rfl) true (by rw [HGET.out]; rfl)).mono ?_; rintro e W2 ⟨rfl, hB2⟩
            have HB2 := Lib.hid (HB.out.trans (hB2.mono hsz))
            have d0' := (hB2.cell (p := ⟨g, off + j * 2, none⟩) hg).trans d0
            have d1' := (hB2.cell (p := ⟨g, off + j * 2 + 1, none⟩) hg).trans d1
            have ev : (x1.toList == x1.toList) = true := by simp
            have HJ := Lib.hid (inTo_nx (k := key) HX.out)
            obtain ⟨q, hq⟩ : ∃ q, eqk x0 key = q := ⟨_, rfl⟩
            have hq2 : (x0.toList == key.toList) = q := hq
            by_cases hj0 : 0 < j
            · obtain ⟨y, hy⟩ : ∃ y, xs[j - 1]? = some y := ⟨_, List.getElem?_eq_getElem (by have := (List.getElem?_eq_some_iff.1 HX.out).1; omega)⟩
              have hlt3 := asc_nx HA.out (j - 1) y (x0, x1) hy (by rw [Nat.sub_add_cancel hj0]; exact HX.out)
              have e9 := (hB2.cell (p := ⟨g, off + (j - 1) * 2, none⟩) hg).trans (HCL.out (j - 1) y hy).1
              obtain ⟨y0, y1⟩ := y
              have hle : ltB x0.toList y0.toList = false := ltB_asymm _ _ hlt3
              have hb1 := bytesLess_ltB x0.toList y0.toList
              rw [hle] at hb1
              have hb2 : (x0.toList == y0.toList) = false := by
                cases hh : x0.toList == y0.toList
                · rfl
                · rw [beq_iff_eq] at hh
                  have hl3 : ltB y0.toList x0.toList = true := hlt3
                  rw [hh, ltB_self] at hl3; cases hl3
              obtain ⟨i, rfl⟩ : ∃ i, j = i + 1 := ⟨j - 1, by omega⟩
              rw [Nat.add_sub_cancel] at e9
              have ei : IntKind.i64.wrap (((i + 1 : Nat) : Int) - 1) = (i : Int) := by rw [IntKind.wrap_i64]; omega
              have hj3 : (0 : Int) < ((i + 1 : Nat) : Int) := by omega
              clear d0 d1 hy hlt3 hle hB2 hq
              go_upto_region 15 with fail
              go_quiet (fail)
              cases hin : inTo xs key (i + 1)
              · go_wp2
                go_roundw
                case rel => exact ⟨i + 2, by omega, by rw [show i + 2 = i + 1 + 1 by omega, HJ.out, hin]; first | (rw [show eqk x0 key = q from hq2]; rfl) | (simp [hq2, eqk]), by go_num, below_drewN HB2.out _⟩
                case measure => simp [intOf]; omega
              · go_wp2
                go_roundw
                case rel => exact ⟨i + 2, by omega, by rw [show i + 2 = i + 1 + 1 by omega, HJ.out, hin]; simp, by go_num, below_drewN HB2.out _⟩
                case measure => simp [intOf]; omega
            · obtain rfl : j = 0 := by omega
              simp only [Nat.zero_mul, Nat.add_zero] at d0' d1'
              clear d0 d1 hB2 hq
              go_upto_region 15 with fail
              go_quiet (fail)
              have hin : inTo xs key 0 = false := rfl
              go_wp2
              go_roundw
              case rel => exact ⟨1, by omega, by rw [show 1 = 0 + 1 by omega, HJ.out, hin]; first | (rw [show eqk x0 key = q from hq2]; rfl) | (simp [hq2, eqk]), by go_num, below_drewN HB2.out _⟩
              case measure => simp [intOf]; omega
          · obtain rfl : j = r := by omega
            have hin := inTo_all key xs
            rw [HL1.out] at hin
            rw [hin]
            have hgo : (getL (stateL bs t) key).isSome = (getL xs key).isSome := by rw [HXS.out]
            obtain ⟨b9, hb9⟩ : ∃ b9, (getL xs key).isSome = b9 := ⟨_, rfl⟩
            rw [hb9] at hgo ⊢
            have HGO := Lib.hid hgo
            clear hin hgo hb9
            go_wp2_with fail
            refine (mget_any _ (HMW.out.below HB.out (Nat.le_refl _)) HBT.out key HKEY.out t _ rfl b9 HGO.out).mono ?_; rintro e W2 ⟨rfl, hB2⟩
            have HB2 := Lib.hid (HBW.out.trans ((HB.out.trans (hB2.mono hsz)).mono hs1))
            clear hB2
            go_wp2
            go_ret
            exact ⟨by first | rfl | simp, HB2.out⟩
end Go.Proofs.Ytodenkamlbihnaa
