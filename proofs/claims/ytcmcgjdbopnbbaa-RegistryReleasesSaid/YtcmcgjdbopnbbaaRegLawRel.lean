/-
  The walk of the statement of layer 18 'releasing a snapshot never makes the watermark smaller'. Condition: a word below 2^64, bytes below 256.
-/
import Derived.Test.YtcmcgjdbopnbbaaRegJv
import Derived.Test.YtcmcgjdbopnbbaaKeptRegion
import Derived.Deep.RegionWith
import Derived.Deep.CutBlock
namespace Go.Proofs.Ytcmcgjdbopnbbaa
open Go.RowKit Go.Deep
set_option linter.unusedVariables false

theorem kitConfig_of (X : Int) (T : Nat) (h : X = (T : Int)) (w : World) :
    Calls Try.prog 8 #[.int .i64 X, .int .i64 0] w fun e w' => e = .returned (.agg #[.int .i64 (T : Int), .int .i64 2, .int .i64 100, .int .i64 100, .int .i64 200, .int .i64 4, .int .u64 1000]) ∧ Kept (fun _ => False) w w' := by
  subst h; exact kitConfig_any T w
theorem rem_of (p n : Nat) : (p : Int) % (2 * (n : Int)) = ((p % (n * 2) : Nat) : Int) := by
  rw [Nat.mul_comm]; simp

set_option maxRecDepth 100000 in
set_option maxHeartbeats 8000000 in
theorem lawRel (th : Int) (tm : Nat) (htm : tm < 18446744073709551616) (A : Option Addr) (cp : Nat) (ps : List Nat) (m : Nat) (hps : ps.length = m) (hmx : m ≤ maxLen) (hb : ∀ p ∈ ps, p < 256) (A2 : Option Addr) (cp2 : Nat) (qs : List Nat) (m2 : Nat) (hqs : qs.length = m2) (hmx2 : m2 ≤ maxLen) (hb2 : ∀ p ∈ qs, p < 256) (w : World)
    (hA : 0 < m → ∃ ga off, A = some ⟨ga, off, none⟩ ∧ ga < w.heap.size ∧ ∀ (i p : Nat), ps[i]? = some p → w.cell? ⟨ga, off + i, none⟩ = some (.int .u8 (p : Int)))
    (hA2 : 0 < m2 → ∃ ga off, A2 = some ⟨ga, off, none⟩ ∧ ga < w.heap.size ∧ ∀ (i p : Nat), qs[i]? = some p → w.cell? ⟨ga, off + i, none⟩ = some (.int .u8 (p : Int))) :
    Calls Try.prog 6 #[.int .i64 th, .int .u64 (tm : Int), .slice A m cp, .slice A2 m2 cp2] w fun e w' => e = .returned (.bool true) ∧ Below w.heap.size w w' := by
  obtain ⟨r, hr, hr4⟩ := mod_ex th 4 (by omega)
  obtain ⟨T, hT⟩ : ∃ T, T = r + 1 := ⟨_, rfl⟩
  obtain ⟨V, hV⟩ : ∃ V, V = tm % 300 := ⟨_, rfl⟩
  have hV2 : V < 300 := by omega
  have hV3 : (tm : Int) % 300 = (V : Int) := by omega
  have hT1 : 1 ≤ T := by omega
  have hT4 : T ≤ 4 := by omega
  have HTR := Lib.hid (show 1 + (r : Int) = (T : Int) by omega)
  have hl := lim_of (T := T) (S := 2) (by omega) (by omega) (by omega) (by omega)
  have HL := Lib.hid hl
  have HR := Lib.hid hr
  have HA := Lib.hid hA
  have HA2 := Lib.hid hA2
  have HP := Lib.hid hps
  have HB := Lib.hid hb
  have HP2 := Lib.hid hqs
  have HBB := Lib.hid hb2
  unfold maxLen at hmx hmx2
  clear hr hA hA2 hps hqs hb hb2 hT hl hV
  go_enter Try.func6, Try.ntmps6
  go_wp2_with fail
  refine (mod_of _ _ r _ (by omega) (by omega) HR.out).mono ?_; rintro e w0 ⟨rfl, rfl⟩
  go_wp2_with fail
  refine (kitConfig_of _ T (by have := HTR.out; omega) _).mono ?_; rintro e w1 ⟨rfl, hK1⟩
  have hK1a := hK1.alloc (.cells #[.int .i64 (T : Int), .int .i64 ((2 : Nat) : Int), .int .i64 100, .int .i64 100, .int .i64 200, .int .i64 4, .int .u64 1000] 25)
  have hC1 := Blk.new w1 [.int .i64 (T : Int), .int .i64 ((2 : Nat) : Int), .int .i64 100, .int .i64 100, .int .i64 200, .int .i64 4, .int .u64 1000] 25
  have HK1 := Lib.hid hK1a
  have HC1 := Lib.hid hC1
  have hwz := hK1.size
  have y0 := hC1.cell (i := 0) rfl
  have y1 := hC1.cell (i := 1) rfl
  have y2 := hC1.cell (i := 2) rfl
  have y3 := hC1.cell (i := 3) rfl
  have y4 := hC1.cell (i := 4) rfl
  have y5 := hC1.cell (i := 5) rfl
  have y6 := hC1.cell (i := 6) rfl
  clear hK1 hK1a hC1 HR HTR hr4
  go_wp2_with fail
  generalize w1.alloc (.cells #[.int .i64 (T : Int), .int .i64 ((2 : Nat) : Int), .int .i64 100, .int .i64 100, .int .i64 200, .int .i64 4, .int .u64 1000] 25) = W1 at *
  generalize hhh : w1.heap.size = h at *
  refine (kitMem T 2 HL.out _).mono ?_
  intro e w2 hok
  obtain ⟨b, g, l, fa, fb, fd, rfl, hM2, hS2, hb2, hg2, hK2⟩ := hok
  have hh1 := HC1.out.lt
  have hz := HK1.out.size
  have HM2 := Lib.hid hM2
  have HS2 := Lib.hid hS2
  have HC2 := Lib.hid (hK2.blk HC1.out id)
  have HNE := Lib.hid (show w.heap.size ≤ b ∧ w.heap.size ≤ g ∧ w.heap.size ≤ h ∧ b ≠ h ∧ g ≠ h by omega)
  have HK2 := Lib.hid (HK1.out.trans hK2 (fun _ _ h => h))
  clear hM2 hS2 hb2 hg2 hz hK2 hh1 y0 y1 y2 y3 y4 y5 y6 hwz hhh HC1 HK1
  go_wp2_with fail
  have hv := (show JV w (w2.alloc (.cells #[.int .i64 (T : Int), .int .i64 ((2 : Nat) : Int), .int .i64 100, .int .i64 100, .int .i64 200, .int .i64 4, .int .u64 1000, .int .i64 fa, .int .i64 fb, .int .i64 fd] 29)) b g w2.heap.size h (T * 2) 0 0 [.int .i64 (T : Int), .int .i64 ((2 : Nat) : Int), .int .i64 100, .int .i64 100, .int .i64 200, .int .i64 4, .int .u64 1000, .int .i64 fa, .int .i64 fb, .int .i64 fd] 25 [.int .i64 (T : Int), .int .i64 ((2 : Nat) : Int), .int .i64 100, .int .i64 100, .int .i64 200, .int .i64 4, .int .u64 1000] (fun _ => 0) from
    ⟨⟨l, HM2.out.alloc _, HS2.out⟩, Blk.new w2 _ _, HC2.out.alloc _, by have := HNE.out; omega, by have := HNE.out; have := HM2.out.obj.lt; have := HM2.out.row.lt; have := HC2.out.lt; omega, HK2.out.alloc _⟩)
  have HV := Lib.hid hv
  clear hv HM2 HS2 HC2 HK2 HNE
  generalize w2.alloc (.cells #[.int .i64 (T : Int), .int .i64 ((2 : Nat) : Int), .int .i64 100, .int .i64 100, .int .i64 200, .int .i64 4, .int .u64 1000, .int .i64 fa, .int .i64 fb, .int .i64 fd] 29) = W3 at *
  generalize w2.heap.size = s at *
  refine (awake_any _).mono ?_; rintro e w4 ⟨rfl, hK4⟩
  have HV4 := Lib.hid (HV.out.same0 hK4)
  clear hK4 HV
  go_wp2_with fail
  refine (jv_poke HV4.out _ V (by first | rfl | omega)).mono ?_; rintro e w5 ⟨rfl, hv5⟩
  have HV5 := Lib.hid hv5
  clear hv5 HV4
  go_upto_block 0 with fail
  go_cut [] (fun wx => ∃ x : Nat → Nat, (∀ i : Nat, x i ≤ 301) ∧ JV w wx b g s h (T * 2) 0 V [.int .i64 (T : Int), .int .i64 ((2 : Nat) : Int), .int .i64 100, .int .i64 100, .int .i64 200, .int .i64 4, .int .u64 1000, .int .i64 fa, .int .i64 fb, .int .i64 fd] 25 [.int .i64 (T : Int), .int .i64 ((2 : Nat) : Int), .int .i64 100, .int .i64 100, .int .i64 200, .int .i64 4, .int .u64 1000] x)
  case first =>
    go_wp2_with fail
    go_loopw [12] (fun v wr => ∃ (k : Nat) (x : Nat → Nat), k ≤ T * 2 ∧ v = .int .i64 (k : Int) ∧ (∀ i : Nat, x i ≤ 301) ∧ JV w wr b g s h (T * 2) 0 V [.int .i64 (T : Int), .int .i64 ((2 : Nat) : Int), .int .i64 100, .int .i64 100, .int .i64 200, .int .i64 4, .int .u64 1000, .int .i64 fa, .int .i64 fb, .int .i64 fd] 25 [.int .i64 (T : Int), .int .i64 ((2 : Nat) : Int), .int .i64 100, .int .i64 100, .int .i64 200, .int .i64 4, .int .u64 1000] x) (fun v _ => T * 2 - (intOf v).toNat)
    case atStart => exact ⟨0, fun _ => 0, by omega, rfl, fun _ => Nat.zero_le _, HV5.out⟩
    case round =>
      obtain ⟨k, x, hk, rfl, hx, hv⟩ := hrel
      have HV := Lib.hid hv
      have HX := Lib.hid hx
      have y0 := hv.own.cell (i := 0) rfl
      clear hv hx HV5
      by_cases hkt : k < T * 2
      · by_cases hkm : k < m
        · obtain ⟨ga, off, rfl, hga, hcell⟩ := HA.out (by omega)
          obtain ⟨p, hp⟩ : ∃ p, ps[k]? = some p := ⟨_, List.getElem?_eq_getElem (by have := HP.out; omega)⟩
          have hp2 := HB.out p (List.mem_of_getElem? hp)
          have c0 := (HV.out.kept.cell (p := ⟨ga, off + k, none⟩) hga id).trans (hcell k p hp)
          clear hcell hp
          have hq := Nat.mod_lt p (show 0 < V + 2 by omega)
          go_wp2_with fail
          refine (jv_put HV.out hkt _ _ (p % (V + 2)) (by first | rfl | omega) (by first | rfl | (rw [Int.natCast_emod]; rfl) | simp)).mono ?_; rintro e w6 ⟨rfl, hv6⟩
          have HV6 := Lib.hid hv6
          clear hv6 HV
          go_wp2
          go_roundw
          case rel => exact ⟨k + 1, upd x k (p % (V + 2)), by omega, by go_num, fun i => by have := HX.out i; unfold upd; split <;> omega, HV6.out⟩
          case measure => simp [intOf]; omega
        · go_wp2
          go_meet
          exact ⟨x, HX.out, HV.out⟩
      · go_wp2
        go_meet
        exact ⟨x, HX.out, HV.out⟩
  case rest =>
    obtain ⟨x, hx, hv⟩ := hcut
    have HV := Lib.hid hv
    have HX := Lib.hid hx
    clear hx hv HV5
    go_wp2_with fail
    go_loopw [13, 14] (fun u v wr => ∃ (k last c : Nat) (x : Nat → Nat), k ≤ T * 2 + 21 ∧ c ≤ 12 * k ∧ u = .int .u64 (last : Int) ∧ v = .int .i64 (k : Int) ∧ (∀ i : Nat, x i ≤ 301) ∧ Rl (T * 2) V k last x ∧ JV w wr b g s h (T * 2) c V [.int .i64 (T : Int), .int .i64 ((2 : Nat) : Int), .int .i64 100, .int .i64 100, .int .i64 200, .int .i64 4, .int .u64 1000, .int .i64 fa, .int .i64 fb, .int .i64 fd] 25 [.int .i64 (T : Int), .int .i64 ((2 : Nat) : Int), .int .i64 100, .int .i64 100, .int .i64 200, .int .i64 4, .int .u64 1000] x) (fun _ v _ => T * 2 + 21 - (intOf v).toNat)
    case atStart => exact ⟨0, 0, 0, x, by omega, by omega, rfl, rfl, HX.out, ⟨Nat.zero_le _, fun t h1 h2 => by omega, fun h => by omega⟩, HV.out⟩
    case round =>
      obtain ⟨k, last, c, x, hk, hc, rfl, rfl, hx, hrl, hv⟩ := hrel
      clear HV HX
      have HV := Lib.hid hv
      have HX := Lib.hid hx
      have HRL := Lib.hid hrl
      have y0 := hv.own.cell (i := 0) rfl
      have hL := hv.lay
      have x0 := hL.cell (i := 0) rfl
      have x1 := hL.cell (i := 1) rfl
      have x2 := hL.cell (i := 2) rfl
      have x3 := hL.cell (i := 3) rfl
      have x4 := hL.cell (i := 4) rfl
      have x5 := hL.cell (i := 5) rfl
      have x6 := hL.cell (i := 6) rfl
      have x7 := hL.cell (i := 7) rfl
      have x8 := hL.cell (i := 8) rfl
      have x9 := hL.cell (i := 9) rfl
      clear hv hx hrl hL
      by_cases hkt : k ≤ T * 2 + 20
      · go_wp2_with fail
        refine (newWatermark_any T 2 100 100 200 4 fa fb fd 1000 HL.out _).mono ?_
        rintro e w7 ⟨o, q, r, rfl, hW7, ho7, hq7, hr7, hK7⟩
        have hlt := HV.out.lts
        have HSEP : Hid (∀ i, i = b ∨ i = g ∨ i = s ∨ i = h ∨ i < w.heap.size → o ≠ i ∧ q ≠ i ∧ r ≠ i) := Lib.hid (fun i hi => by omega)
        have HV7 := Lib.hid (HV.out.same0 hK7)
        have HW7 : Hid (WmAt w7 o q r (T * 2) V x 0) := Lib.hid (.inl ⟨rfl, 0, hW7⟩)
        clear x0 x1 x2 x3 x4 x5 x6 x7 x8 x9 y0 hW7 ho7 hq7 hr7 hK7 HV hlt
        go_upto_block 4 with fail
        go_cut [] (fun wx => WmAt wx o q r (T * 2) V x (T * 2 + 1) ∧ JV w wx b g s h (T * 2) (c + T * 2 + 1) V [.int .i64 (T : Int), .int .i64 ((2 : Nat) : Int), .int .i64 100, .int .i64 100, .int .i64 200, .int .i64 4, .int .u64 1000, .int .i64 fa, .int .i64 fb, .int .i64 fd] 25 [.int .i64 (T : Int), .int .i64 ((2 : Nat) : Int), .int .i64 100, .int .i64 100, .int .i64 200, .int .i64 4, .int .u64 1000] x)
        case first =>
          go_wp2_with fail
          go_loopw [16] (fun v wr => ∃ j : Nat, j ≤ T * 2 ∧ v = .int .i64 (j : Int) ∧ WmAt wr o q r (T * 2) V x j ∧ JV w wr b g s h (T * 2) (c + j) V [.int .i64 (T : Int), .int .i64 ((2 : Nat) : Int), .int .i64 100, .int .i64 100, .int .i64 200, .int .i64 4, .int .u64 1000, .int .i64 fa, .int .i64 fb, .int .i64 fd] 25 [.int .i64 (T : Int), .int .i64 ((2 : Nat) : Int), .int .i64 100, .int .i64 100, .int .i64 200, .int .i64 4, .int .u64 1000] x) (fun v _ => T * 2 + 1 - (intOf v).toNat)
          case atStart => exact ⟨0, by omega, rfl, HW7.out, HV7.out⟩
          case round =>
            obtain ⟨j, hj, rfl, hW, hv⟩ := hrel
            have HW := Lib.hid hW
            have HV8 := Lib.hid hv
            obtain ⟨r1, hr1⟩ : ∃ r1, decide (j = T * 2) = r1 := ⟨_, rfl⟩
            clear hW hv HW7 HV7
            go_wp2_with fail
            refine (jv_wstep HV8.out HW.out (fun k _ => by have := HX.out k; omega) (by omega) hj HSEP.out (by omega) hr1).mono ?_
            rintro e w9 ⟨rfl, hv9, hW9⟩
            have HV9 := Lib.hid hv9
            have HW9 := Lib.hid hW9
            clear hv9 hW9 HW HV8
            cases r1
            · have hj4 : j ≠ T * 2 := by simpa using hr1
              go_wp2
              go_roundw
              case rel => exact ⟨j + 1, by omega, by go_num, HW9.out, HV9.out⟩
              case measure => simp [intOf]; omega
            · obtain rfl : j = T * 2 := by simpa using hr1
              go_wp2
              go_meet
              exact ⟨HW9.out, HV9.out⟩
        case rest =>
          obtain ⟨hW, hv⟩ := hcut
          have HW := Lib.hid hW
          have HV8 := Lib.hid hv
          have y0 := hv.own.cell (i := 0) rfl
          obtain ⟨lo, hlo⟩ : ∃ lo, lowN V x (T * 2) = lo := ⟨_, rfl⟩
          have hlV : lo ≤ V := by rw [← hlo]; exact lowN_le V x _
          have hll : last ≤ lo := by rw [← hlo]; exact HRL.out.le
          have HLO := Lib.hid hlo
          clear hW hv HW7 HV7 hlo
          rename World => w8
          go_wp2_with fail
          refine (wm_end HW.out HLO.out).mono ?_; rintro e w10 ⟨rfl, rfl⟩
          go_wp2_with fail
          refine (wm_end HW.out HLO.out).mono ?_; rintro e w10 ⟨rfl, rfl⟩
          go_wp2_with fail
          refine (wm_end HW.out HLO.out).mono ?_; rintro e w10 ⟨rfl, rfl⟩
          have hL := HV8.out.lay
          have x0 := hL.cell (i := 0) rfl
          have x1 := hL.cell (i := 1) rfl
          have x2 := hL.cell (i := 2) rfl
          have x3 := hL.cell (i := 3) rfl
          have x4 := hL.cell (i := 4) rfl
          have x5 := hL.cell (i := 5) rfl
          have x6 := hL.cell (i := 6) rfl
          have x7 := hL.cell (i := 7) rfl
          have x8 := hL.cell (i := 8) rfl
          have x9 := hL.cell (i := 9) rfl
          clear hL
          obtain ⟨i, hi⟩ : ∃ i, i = k % (T * 2) := ⟨_, rfl⟩
          have hi2 : i < T * 2 := by rw [hi]; exact Nat.mod_lt _ (by omega)
          have HI := Lib.hid hi
          clear hi
          go_upto_region 22 with fail
          go_cut [17] (fun v wx => v = .int .i64 (i : Int) ∧ wx = w8)
          case first =>
            go_wp2
            go_meet
            exact ⟨by rw [HI.out, ← rem_of], rfl⟩
          case rest =>
            obtain ⟨rfl, rfl⟩ := hcut
            by_cases hkm : k < m2
            · by_cases hk20 : k < 20
              · obtain ⟨ga, off, rfl, hga, hcell⟩ := HA2.out (by omega)
                obtain ⟨p, hp⟩ : ∃ p, qs[k]? = some p := ⟨_, List.getElem?_eq_getElem (by have := HP2.out; omega)⟩
                have hp2 := HBB.out p (List.mem_of_getElem? hp)
                have c0 := (HV8.out.kept.cell (p := ⟨ga, off + k, none⟩) hga id).trans (hcell k p hp)
                clear hcell hp
                have hp3 : p % (T * 2) < T * 2 := Nat.mod_lt _ (by omega)
                clear hi2
                go_upto_region 24 with fail
                go_quiet (fail)
                have HV0 := HV8
                clear HV8
                have HV8 := Lib.hid (HV0.out.same0 ((Kept.refl _ _).drewN nq))
                simp only [rem_of]
                generalize p % (T * 2) = i2 at *
                have hi2 := hp3
                clear HV0
                go_wp2_with fail
                refine (rel_new2 T HL.out fa fb fd (i2) hi2 _ _ (by first | rfl | omega) (by first | rfl | omega) _).mono ?_; rintro e w6 ⟨o2, rfl, hO, ho, hK6⟩
                have hlt := HV8.out.lts
                have HSEP2 : Hid (∀ i, i = b ∨ i = g ∨ i = s ∨ i = h ∨ i < w.heap.size → o2 ≠ i) := Lib.hid (fun i hi => by omega)
                have HV6 := Lib.hid (HV8.out.same0 hK6)
                have HO6 := Lib.hid hO
                clear x0 x1 x2 x3 x4 x5 x6 x7 x8 x9 y0 hO ho hK6 HV8 hlt
                go_wp2_with fail
                refine (jv_rel HV6.out HO6.out hi2 HSEP2.out (by omega)).mono ?_; rintro e w9 ⟨rfl, hv9⟩
                have HV9 := Lib.hid hv9
                have HRN := Lib.hid (HRL.out.next (i := i2) (by omega) (fun h => by omega))
                have hlo := HLO.out
                have HRN2 : Hid (Rl (T * 2) V (k + 1) lo (upd x (i2) 0)) := Lib.hid (by rw [← hlo]; exact HRN.out)
                clear hv9 HV6 HO6 HRN hlo
                go_wp2
                go_roundw
                case rel => exact ⟨k + 1, lo, c + T * 2 + 2, upd x (i2) 0, by omega, by omega, rfl, by go_num, fun i => by have := HX.out i; unfold upd; split <;> omega, HRN2.out, HV9.out⟩
                case measure => simp [intOf]; omega
              · go_wp2_with fail
                refine (rel_new2 T HL.out fa fb fd (i) hi2 _ _ (by first | rfl | omega) (by first | rfl | omega) _).mono ?_; rintro e w6 ⟨o2, rfl, hO, ho, hK6⟩
                have hlt := HV8.out.lts
                have HSEP2 : Hid (∀ i, i = b ∨ i = g ∨ i = s ∨ i = h ∨ i < w.heap.size → o2 ≠ i) := Lib.hid (fun i hi => by omega)
                have HV6 := Lib.hid (HV8.out.same0 hK6)
                have HO6 := Lib.hid hO
                clear x0 x1 x2 x3 x4 x5 x6 x7 x8 x9 y0 hO ho hK6 HV8 hlt
                go_wp2_with fail
                refine (jv_rel HV6.out HO6.out hi2 HSEP2.out (by omega)).mono ?_; rintro e w9 ⟨rfl, hv9⟩
                have HV9 := Lib.hid hv9
                have HRN := Lib.hid (HRL.out.next (i := i) (by omega) (fun _ => HI.out))
                have hlo := HLO.out
                have HRN2 : Hid (Rl (T * 2) V (k + 1) lo (upd x (i) 0)) := Lib.hid (by rw [← hlo]; exact HRN.out)
                clear hv9 HV6 HO6 HRN hlo
                go_wp2
                go_roundw
                case rel => exact ⟨k + 1, lo, c + T * 2 + 2, upd x (i) 0, by omega, by omega, rfl, by go_num, fun i => by have := HX.out i; unfold upd; split <;> omega, HRN2.out, HV9.out⟩
                case measure => simp [intOf]; omega
            · go_wp2_with fail
              refine (rel_new2 T HL.out fa fb fd (i) hi2 _ _ (by first | rfl | omega) (by first | rfl | omega) _).mono ?_; rintro e w6 ⟨o2, rfl, hO, ho, hK6⟩
              have hlt := HV8.out.lts
              have HSEP2 : Hid (∀ i, i = b ∨ i = g ∨ i = s ∨ i = h ∨ i < w.heap.size → o2 ≠ i) := Lib.hid (fun i hi => by omega)
              have HV6 := Lib.hid (HV8.out.same0 hK6)
              have HO6 := Lib.hid hO
              clear x0 x1 x2 x3 x4 x5 x6 x7 x8 x9 y0 hO ho hK6 HV8 hlt
              go_wp2_with fail
              refine (jv_rel HV6.out HO6.out hi2 HSEP2.out (by omega)).mono ?_; rintro e w9 ⟨rfl, hv9⟩
              have HV9 := Lib.hid hv9
              have HRN := Lib.hid (HRL.out.next (i := i) (by omega) (fun _ => HI.out))
              have hlo := HLO.out
              have HRN2 : Hid (Rl (T * 2) V (k + 1) lo (upd x (i) 0)) := Lib.hid (by rw [← hlo]; exact HRN.out)
              clear hv9 HV6 HO6 HRN hlo
              go_wp2
              go_roundw
              case rel => exact ⟨k + 1, lo, c + T * 2 + 2, upd x (i) 0, by omega, by omega, rfl, by go_num, fun i => by have := HX.out i; unfold upd; split <;> omega, HRN2.out, HV9.out⟩
              case measure => simp [intOf]; omega
      · obtain rfl : k = T * 2 + 21 := by omega
        obtain rfl : last = V := HRL.out.fin rfl
        go_wp2
        go_ret
        exact ⟨rfl, HV.out.kept.below (Nat.le_refl _) (fun _ h => h.elim)⟩

theorem lawRel_all (w : World) (th : Int) (tm : Nat) (htm : tm < 18446744073709551616) (A : Option Addr) (c : Nat) (ps : List Nat) (hm : ps.length ≤ maxLen) (hr : ∀ p ∈ ps, p < 256) (hc : 0 < ps.length → ∃ ga off, A = some ⟨ga, off, none⟩ ∧ ga < w.heap.size ∧ ∀ (i p : Nat), ps[i]? = some p → w.cell? ⟨ga, off + i, none⟩ = some (.int .u8 (p : Int))) (A2 : Option Addr) (c2 : Nat) (qs : List Nat) (hm2 : qs.length ≤ maxLen) (hr2 : ∀ p ∈ qs, p < 256) (hc2 : 0 < qs.length → ∃ ga off, A2 = some ⟨ga, off, none⟩ ∧ ga < w.heap.size ∧ ∀ (i p : Nat), qs[i]? = some p → w.cell? ⟨ga, off + i, none⟩ = some (.int .u8 (p : Int))) :
    Calls Try.prog 6 #[.int .i64 th, .int .u64 (tm : Int), .slice A ps.length c, .slice A2 qs.length c2] w fun e w' => e = .returned (.bool true) ∧ Below w.heap.size w w' := lawRel th tm htm A c ps _ rfl hm hr A2 c2 qs _ rfl hm2 hr2 w hc hc2

end Go.Proofs.Ytcmcgjdbopnbbaa
