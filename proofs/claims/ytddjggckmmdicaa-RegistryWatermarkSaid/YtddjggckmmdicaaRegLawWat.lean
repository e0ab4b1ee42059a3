/-
  The walk of the statement of layer 18 about the watermark and Live. Condition: words below 2^64.
-/
import Derived.Test.YtddjggckmmdicaaRegWat
import Derived.Test.YtddjggckmmdicaaRegAwake
import Derived.Test.YtddjggckmmdicaaKeptRegion
import Derived.Deep.RegionWith
import Derived.Deep.CutBlock
namespace Go.Proofs.Ytddjggckmmdicaa
open Go.RowKit Go.Deep
open Go.Sort (swp size_swp insInner)
set_option linter.unusedVariables false

theorem kitConfig_of (X : Int) (T : Nat) (h : X = (T : Int)) (w : World) :
    Calls Try.prog 4 #[.int .i64 X, .int .i64 0] w fun e w' => e = .returned (.agg #[.int .i64 (T : Int), .int .i64 2, .int .i64 100, .int .i64 100, .int .i64 200, .int .i64 4, .int .u64 1000]) ∧ Kept (fun _ => False) w w' := by
  subst h; exact kitConfig_any T w

set_option maxRecDepth 100000 in
set_option maxHeartbeats 8000000 in
theorem lawWat (th sn : Int) (tm : Nat) (htm : tm < 18446744073709551616) (A : Option Addr) (cp : Nat) (ps : List Nat) (m : Nat) (hps : ps.length = m) (hmx : m ≤ maxLen) (hb : ∀ p ∈ ps, p < 18446744073709551616) (w : World)
    (hA : 0 < m → ∃ ga off, A = some ⟨ga, off, none⟩ ∧ ga < w.heap.size ∧ ∀ (i p : Nat), ps[i]? = some p → w.cell? ⟨ga, off + i, none⟩ = some (.int .u64 (p : Int))) :
    Calls Try.prog 3 #[.int .i64 th, .int .i64 sn, .int .u64 (tm : Int), .slice A m cp] w fun e w' => e = .returned (.bool true) ∧ Below w.heap.size w w' := by
  obtain ⟨r, hr, hr4⟩ := mod_ex th 5 (by omega)
  obtain ⟨T, hT⟩ : ∃ T, T = r + 1 := ⟨_, rfl⟩
  obtain ⟨r2, hr2, hr5⟩ := mod_ex sn 5 (by omega)
  obtain ⟨S, hS⟩ : ∃ S, S = r2 + 1 := ⟨_, rfl⟩
  have hT1 : 1 ≤ T := by omega
  have hT4 : T ≤ 5 := by omega
  have hS1 : 1 ≤ S := by omega
  have hS4 : S ≤ 5 := by omega
  obtain ⟨N, hN⟩ : ∃ N, T * S = N := ⟨_, rfl⟩
  have hN1 : 0 < N := by rw [← hN]; exact Nat.mul_pos (by omega) (by omega)
  have hN25 : N ≤ 25 := by rw [← hN]; exact Nat.mul_le_mul hT4 hS4
  have HN := Lib.hid hN
  have HTR := Lib.hid (show 1 + (r : Int) = (T : Int) by omega)
  have HSR := Lib.hid (show 1 + (r2 : Int) = (S : Int) by omega)
  have HL := Lib.hid (lim_of (T := T) (S := S) (by omega) (by omega) (by omega) (by omega))
  have HR := Lib.hid hr
  have HR2 := Lib.hid hr2
  have HA := Lib.hid hA
  have HP := Lib.hid hps
  have HB := Lib.hid hb
  unfold maxLen at hmx
  clear hr hr2 hA hps hb hT hS hN
  go_enter Try.func3, Try.ntmps3
  go_wp2_with fail
  refine (mod_of _ _ r _ (by omega) (by omega) HR.out).mono ?_; rintro e w0 ⟨rfl, rfl⟩
  go_wp2_with fail
  refine (kitConfig_of _ T (by have := HTR.out; omega) _).mono ?_; rintro e w1 ⟨rfl, hK1⟩
  have hC1 := Blk.new w1 [.int .i64 (T : Int), .int .i64 2, .int .i64 100, .int .i64 100, .int .i64 200, .int .i64 4, .int .u64 1000] 25
  have hwz : w.heap.size ≤ w1.heap.size := hK1.size
  have HK1 := Lib.hid (hK1.alloc (.cells #[.int .i64 (T : Int), .int .i64 2, .int .i64 100, .int .i64 100, .int .i64 200, .int .i64 4, .int .u64 1000] 25))
  have HC1 := Lib.hid hC1
  have y0 := hC1.cell (i := 0) rfl
  have y1 := hC1.cell (i := 1) rfl
  have y2 := hC1.cell (i := 2) rfl
  have y3 := hC1.cell (i := 3) rfl
  have y4 := hC1.cell (i := 4) rfl
  have y5 := hC1.cell (i := 5) rfl
  have y6 := hC1.cell (i := 6) rfl
  have z1 := hC1.frozen 1
  clear hK1 hC1 HR HTR hr4
  go_wp2_with fail
  generalize w1.alloc (.cells #[.int .i64 (T : Int), .int .i64 2, .int .i64 100, .int .i64 100, .int .i64 200, .int .i64 4, .int .u64 1000] 25) = W1 at *
  generalize hhh : w1.heap.size = h at *
  refine (mod_of _ _ r2 _ (by omega) (by omega) HR2.out).mono ?_; rintro e w0 ⟨rfl, rfl⟩
  go_wp2_with fail
  simp only [show (1 + (r2 : Int)) = (S : Int) from HSR.out]
  have HC2 : Hid (Blk (W1.setCell ⟨h, 1, none⟩ (.int .i64 (S : Int))) h 25 [.int .i64 (T : Int), .int .i64 (S : Int), .int .i64 100, .int .i64 100, .int .i64 200, .int .i64 4, .int .u64 1000]) := Lib.hid (HC1.out.set 1 _)
  have HK2 := Lib.hid (HK1.out.setCell (a := ⟨h, 1, none⟩) (fun hh => by simp only at hh; omega) (.int .i64 (S : Int)))
  have hcl := HC2.out.lt
  clear HC1 HK1 HR2 HSR hr5 y0 y1 y2 y3 y4 y5 y6 z1
  generalize W1.setCell ⟨h, 1, none⟩ (.int .i64 (S : Int)) = W2 at *
  refine (kitMem T S HL.out _).mono ?_
  intro e w2 hok
  obtain ⟨b, g, l0, fa, fb, fd, rfl, hM2, hS2, hb2, hg2, hK2⟩ := hok
  rw [HN.out] at hS2
  have hz := HK2.out.size
  have HM2 := Lib.hid hM2
  have HS2 := Lib.hid hS2
  have HC3 := Lib.hid (hK2.blk HC2.out id)
  have HNE := Lib.hid (show w.heap.size ≤ b ∧ w.heap.size ≤ g ∧ w.heap.size ≤ h ∧ b ≠ h ∧ g ≠ h by omega)
  have HK3 := Lib.hid (HK2.out.trans hK2 (fun _ _ h => h))
  clear hM2 hS2 hb2 hg2 hz hK2 HC2 HK2 hcl hhh hwz
  go_wp2_with fail
  have hv := (show JV w (w2.alloc (.cells #[.int .i64 (T : Int), .int .i64 (S : Int), .int .i64 100, .int .i64 100, .int .i64 200, .int .i64 4, .int .u64 1000, .int .i64 fa, .int .i64 fb, .int .i64 fd] 29)) b g w2.heap.size h N 0 0 [.int .i64 (T : Int), .int .i64 (S : Int), .int .i64 100, .int .i64 100, .int .i64 200, .int .i64 4, .int .u64 1000, .int .i64 fa, .int .i64 fb, .int .i64 fd] 25 [.int .i64 (T : Int), .int .i64 (S : Int), .int .i64 100, .int .i64 100, .int .i64 200, .int .i64 4, .int .u64 1000] (fun _ => 0) from
    ⟨⟨l0, HM2.out.alloc _, HS2.out⟩, Blk.new w2 _ _, HC3.out.alloc _, by have := HNE.out; omega, by have := HNE.out; have := HM2.out.obj.lt; have := HM2.out.row.lt; have := HC3.out.lt; omega, HK3.out.alloc _⟩)
  have HV := Lib.hid hv
  clear hv HM2 HS2 HC3 HK3 HNE
  generalize w2.alloc (.cells #[.int .i64 (T : Int), .int .i64 (S : Int), .int .i64 100, .int .i64 100, .int .i64 200, .int .i64 4, .int .u64 1000, .int .i64 fa, .int .i64 fb, .int .i64 fd] 29) = W3 at *
  generalize w2.heap.size = s at *
  refine (awake_any _).mono ?_; rintro e w4 ⟨rfl, hK4⟩
  have HV4 := Lib.hid (HV.out.same0 hK4)
  clear hK4 HV
  go_wp2_with fail
  refine (jv_poke HV4.out _ tm (by first | rfl | omega)).mono ?_; rintro e w5 ⟨rfl, hv5⟩
  have HV5 := Lib.hid hv5
  obtain ⟨B0, hB0⟩ : ∃ B0, w5.heap.size = B0 := ⟨_, rfl⟩
  have HLT : Hid (b < B0 ∧ g < B0 ∧ s < B0 ∧ h < B0 ∧ w.heap.size ≤ B0) := Lib.hid (by have := hv5.lts; omega)
  clear hv5 HV4
  go_upto_block 0 with fail
  go_cut [12, 13] (fun u v wx => ∃ (t lo : Nat) (x : Nat → Nat) (d : Array Nat), u = .int .u64 (lo : Int) ∧ lowN tm x N = lo ∧ wx.ownsRow B0 22 1 v t (words d.toList) ∧ Bub (raw x N) d ∧ (∀ j : Nat, x j < 18446744073709551616) ∧ JV w wx b g s h N 0 tm [.int .i64 (T : Int), .int .i64 (S : Int), .int .i64 100, .int .i64 100, .int .i64 200, .int .i64 4, .int .u64 1000, .int .i64 fa, .int .i64 fb, .int .i64 fd] 25 [.int .i64 (T : Int), .int .i64 (S : Int), .int .i64 100, .int .i64 100, .int .i64 200, .int .i64 4, .int .u64 1000] x)
  case first =>
    go_wp2_with fail
    go_loopw [12, 13, 14] (fun u v i wr => ∃ (k t lo : Nat) (x : Nat → Nat) (d : Array Nat), k ≤ N ∧ t ≤ k ∧ i = .int .i64 (k : Int) ∧ u = .int .u64 (lo : Int) ∧ lowN tm x k = lo ∧ lo < 18446744073709551616 ∧ wr.ownsRow B0 22 1 v t (words d.toList) ∧ Bub (raw x k) d ∧ (∀ j : Nat, x j < 18446744073709551616) ∧ (∀ j : Nat, k ≤ j → x j = 0) ∧ B0 ≤ wr.heap.size ∧ JV w wr b g s h N 0 tm [.int .i64 (T : Int), .int .i64 (S : Int), .int .i64 100, .int .i64 100, .int .i64 200, .int .i64 4, .int .u64 1000, .int .i64 fa, .int .i64 fb, .int .i64 fd] 25 [.int .i64 (T : Int), .int .i64 (S : Int), .int .i64 100, .int .i64 100, .int .i64 200, .int .i64 4, .int .u64 1000] x) (fun _ _ i _ => N - (intOf i).toNat)
    case atStart => exact ⟨0, 0, tm, fun _ => 0, #[], by omega, by omega, rfl, rfl, rfl, htm, World.ownsRow_nil _ _ _ _, Bub.nil, fun _ => Nat.zero_lt_succ _, fun _ _ => rfl, by omega, HV5.out⟩
    case round =>
      obtain ⟨k, t, lo, x, d, hk, htk, rfl, rfl, hlo, hlo2, hown, hbub, hx, hxz, hBz, hv⟩ := hrel
      have HV := Lib.hid hv
      have HX := Lib.hid hx
      have HXZ := Lib.hid hxz
      have HO := Lib.hid hown
      have HBU := Lib.hid hbub
      have HLO := Lib.hid hlo
      have y0 := hv.own.cell (i := 0) rfl
      have y1 := hv.own.cell (i := 1) rfl
      have y2 := hv.own.cell (i := 2) rfl
      have y3 := hv.own.cell (i := 3) rfl
      have y4 := hv.own.cell (i := 4) rfl
      have y5 := hv.own.cell (i := 5) rfl
      have y6 := hv.own.cell (i := 6) rfl
      clear hv hx hxz hown hbub hlo HV5
      by_cases hkm : k < m
      · obtain ⟨ga, off, rfl, hga, hcell⟩ := HA.out (by omega)
        go_wp2_with fail
        refine (refA_any (T : Int) (S : Int) 100 100 200 4 1000 HL.out _).mono ?_; rintro e w6 ⟨rfl, hK6⟩
        have hfn : firstNode (T : Int) (S : Int) = ((8 + N : Nat) : Int) := by unfold firstNode; rw [← HN.out]; simp
        simp only [hfn]
        have hz6 := hK6.size
        have HV6 := Lib.hid (HV.out.same0 hK6)
        have HO6 := Lib.hid (own_kept HO.out hK6 (fun _ _ h => h))
        have hBz6 : B0 ≤ w6.heap.size := by omega
        clear hK6 HV HO hfn y0 y1 y2 y3 y4 y5 y6 hBz hz6
        by_cases hkn : k < N
        · obtain ⟨p, hp⟩ : ∃ p, ps[k]? = some p := ⟨_, List.getElem?_eq_getElem (by have := HP.out; omega)⟩
          have hp2 := HB.out p (List.mem_of_getElem? hp)
          have HPV := Lib.hid hp
          have HCE := Lib.hid hcell
          have c0 := (HV6.out.kept.cell (p := ⟨ga, off + k, none⟩) hga id).trans (hcell k p hp)
          clear hp hcell
          go_wp2_with fail
          refine (jv_putK HV6.out hkn _ _ p (by first | rfl | omega) (by first | rfl | omega)).mono ?_; rintro e w7 ⟨rfl, hv7, hK7⟩
          have HO7 := Lib.hid (own_kept HO6.out hK7 (fun i hi => by have := HLT.out; unfold Own; omega))
          have hBz7 : B0 ≤ w7.heap.size := by have := hK7.size; omega
          have HV7 := Lib.hid hv7
          clear c0 hv7 hK7 HV6 HO6 hBz6
          have c0 := (HV7.out.kept.cell (p := ⟨ga, off + k, none⟩) hga id).trans (HCE.out k p HPV.out)
          have HX7 : Hid (∀ j : Nat, upd x k p j < 18446744073709551616) := Lib.hid (fun j => by unfold upd; split; exact hp2; exact HX.out j)
          have HZ7 : Hid (∀ j : Nat, k + 1 ≤ j → upd x k p j = 0) := Lib.hid (fun j hj => by rw [upd_ne x p (by omega)]; exact HXZ.out j (by omega))
          have HR7 : Hid (raw (upd x k p) (k + 1) = if p = 0 then raw x k else raw x k ++ [p - 1]) := Lib.hid (raw_upd x k p)
          have HL7 : Hid (lowN tm (upd x k p) (k + 1) = low lo p) := Lib.hid (by rw [lowN_upd, HLO.out])
          clear HX HXZ HLO HPV HCE
          generalize upd x k p = x7 at *
          by_cases hp0 : p = 0
          · subst hp0
            have hr7 := HR7.out
            rw [if_pos rfl] at hr7
            have HR8 := Lib.hid hr7
            clear hr7
            go_wp2
            go_roundw
            case rel => exact ⟨k + 1, t, lo, x7, d, by omega, by omega, by go_num, rfl, HL7.out, hlo2, HO7.out, by rw [HR8.out]; exact HBU.out, HX7.out, HZ7.out, hBz7, HV7.out⟩
            case measure => simp [intOf]; omega
          · obtain ⟨y, rfl⟩ : ∃ y, p = y + 1 := ⟨p - 1, by omega⟩
            have hr7 := HR7.out
            rw [if_neg hp0, Nat.add_sub_cancel] at hr7
            have HR8 := Lib.hid hr7
            have hl7 := HL7.out
            have hl8 : low lo (y + 1) = min lo y := by unfold low; rw [if_neg (by omega)]; rfl
            rw [hl8] at hl7
            obtain ⟨lo2, hlo2e⟩ : ∃ lo2, min lo y = lo2 := ⟨_, rfl⟩
            rw [hlo2e] at hl7
            have HL8 := Lib.hid hl7
            have HLE := Lib.hid hlo2e
            clear hr7 hl7 hl8 hlo2e HR7 HL7 hp0
            rw [Int.natCast_add] at c0
            have hy2 : ((y : Int) + ((1 : Nat) : Int)) = (y : Int) + 1 := rfl
            rw [hy2] at c0
            clear hy2
            have hl2b : lo2 < 18446744073709551616 := by have := HLE.out; omega
            go_upto_region 14 with fail
            go_cut [12] (fun v wx => v = .int .u64 (lo2 : Int) ∧ wx = w7)
            case first =>
              go_wp2
              all_goals (go_meet; refine ⟨?_, rfl⟩; have := HLE.out; congr 1; omega)
            case rest =>
              obtain ⟨rfl, rfl⟩ := hcut
              rename World => w7
              have hts : d.size = t := by have := HO7.out.1; unfold words at this; simp at this; omega
              go_wp2_with (at_builtin; go_must (refine wpList_appw rfl (.tmp 77) (.tmp 83) rfl B0 _ t d.toList rfl (HO7.out.alloc _) w7.heap.size 0 y rfl ((Blk.new w7 [.int .u64 (y : Int)] 22).cell (i := 0) rfl) (by omega) (by rw [nblk_alloc]; omega) ?_))
              intro v2 w8 hown8 hB8
              rw [show d.toList ++ [y] = (d.push y).toList by simp] at hown8
              obtain ⟨gl, of, cap, rfl, hgl, hgl2, how⟩ := ow_start hown8
              have HV8 := Lib.hid (HV7.out.off (((Kept.refl (fun i => B0 ≤ i) w7).alloc (.cells #[.int .u64 (y : Int)] 22)).trans (Below.kept hB8 (S := fun i => B0 ≤ i) (fun _ _ h => h)) (fun _ _ h => h)) HLT.out (fun i hi hk => by omega))
              have hBz8 : B0 ≤ w8.heap.size := by have := how.own.lt gl rfl; omega
              obtain ⟨E, hE⟩ : ∃ E, bub d y = E := ⟨_, rfl⟩
              have HE0 : Hid (insInner ltW 0 t (d.push y) = E) := Lib.hid (by rw [← hE, ← hts]; rfl)
              have HBE : Hid (Bub (raw x7 (k + 1)) E) := Lib.hid (by rw [HR8.out, ← hE]; exact HBU.out.put y)
              have HOW := Lib.hid how
              have hsz0 : (d.push y).size = t + 1 := by simp; omega
              generalize d.push y = d0 at *
              clear how hown8 hB8 hE HO7 HV7 HBU c0 HR8 hts
              go_wp2_with fail
              go_loopw [15] (fun u wr => ∃ (i : Nat) (di : Array Nat), u = .int .i64 (i : Int) ∧ i ≤ t ∧ di.size = t + 1 ∧ Ow w8 wr B0 gl of cap (t + 1) di ∧ insInner ltW 0 i di = E) (fun u _ => (intOf u).toNat)
              case atStart => exact ⟨t, d0, by go_num, by omega, hsz0, HOW.out, HE0.out⟩
              case round =>
                obtain ⟨i, di, rfl, hit, hsi, hR, hI⟩ := hrel
                have HR := Lib.hid hR
                have HI := Lib.hid hI
                clear hR hI HOW HE0
                obtain ⟨n, hn⟩ : ∃ n, n = t + 1 := ⟨_, rfl⟩
                have hnn : (n : Int) = (t : Int) + 1 := by omega
                by_cases hja : 0 < i
                · obtain ⟨jp, rfl⟩ : ∃ jp, i = jp + 1 := ⟨i - 1, by omega⟩
                  have hda : decide ((jp : Int) + 1 > 0) = true := decide_eq_true (by omega)
                  have hdb : decide ((0 : Int) < (jp : Int) + 1) = true := decide_eq_true (by omega)
                  cases hlv : ltW di[jp + 1]! di[jp]! with
                  | true =>
                    have HNX := Lib.hid (insInner_go 0 jp di (by omega) hlv)
                    obtain ⟨ni, hni⟩ : ∃ ni, ni = jp + 1 := ⟨_, rfl⟩
                    obtain ⟨nj, hnj⟩ : ∃ nj, nj = jp := ⟨_, rfl⟩
                    obtain ⟨vx, hvx⟩ : ∃ vx, di[ni]! = vx := ⟨_, rfl⟩
                    obtain ⟨vy, hvy⟩ : ∃ vy, di[nj]! = vy := ⟨_, rfl⟩
                    have l0 := HR.out.cl ni (by omega)
                    have l1 := HR.out.cl nj (by omega)
                    have hi1 : ((jp : Int) + 1).toNat = ni := by omega
                    have hi2 : (0 : Int) ≤ (jp : Int) + 1 := by omega
                    have hi3 : (jp : Int) + 1 < (t : Int) + 1 := by omega
                    have hi4 : IntKind.i64.wrap ((jp : Int) + 1) = (jp : Int) + 1 := by rw [IntKind.wrap_i64]; omega
                    have hj1 : ((jp : Int)).toNat = nj := by omega
                    have hj2 : (0 : Int) ≤ (jp : Int) := by omega
                    have hj3 : (jp : Int) < (t : Int) + 1 := by omega
                    have hj4 : IntKind.i64.wrap ((jp : Int)) = (jp : Int) := by rw [IntKind.wrap_i64]; omega
                    rw [hvx] at l0
                    rw [hvy] at l1
                    have hlt0 : ltW vx vy = true := by rw [← hvx, ← hvy, hni, hnj]; exact hlv
                    have hlt : decide ((vx : Int) < (vy : Int)) = true := by rw [← hlt0]; unfold ltW; by_cases hh : vx < vy <;> simp [hh]
                    have hlt2 : decide ((vy : Int) > (vx : Int)) = true := hlt
                    have hlt3 : vx < vy := by have := hlt0; unfold ltW at this; simpa using this
                    clear hvx hvy hni hnj hlt0
                    go_wp2_with fail
                    go_quiet (fail)
                    have HR2 := Lib.hid (HR.out.drewN nq)
                    clear l0 l1 HR hi1 hi2 hi3 hi4 hj1 hj2 hj3 hj4
                    rename Hid (Ow _ _ _ _ _ _ _ _) => HR
                    generalize wr.drewN nq = wq at *
                    obtain ⟨ni, hni⟩ : ∃ ni, ni = jp := ⟨_, rfl⟩
                    obtain ⟨nj, hnj⟩ : ∃ nj, nj = jp + 1 := ⟨_, rfl⟩
                    obtain ⟨vx, hvx⟩ : ∃ vx, di[ni]! = vx := ⟨_, rfl⟩
                    obtain ⟨vy, hvy⟩ : ∃ vy, di[nj]! = vy := ⟨_, rfl⟩
                    have l0 := HR.out.cl ni (by omega)
                    have l1 := HR.out.cl nj (by omega)
                    have f0 := HR.out.fr ni (by omega)
                    have f1 := HR.out.fr nj (by omega)
                    obtain ⟨vu, l2⟩ := HR.out.st ni nj (by omega) (by omega) (.int .u64 (vy : Int))
                    have hsw := HR.out.swap ni nj vx vy (by omega) (by omega) hvx hvy
                    obtain ⟨dq, hdq⟩ : ∃ dq, swp di ni nj = dq := ⟨_, rfl⟩
                    rw [hdq] at hsw
                    have hsz : dq.size = t + 1 := by rw [← hdq, size_swp]; omega
                    have HDQ : Hid (swp di (jp) (jp + 1) = dq) := Lib.hid (by rw [← hdq, hni, hnj])
                    rw [hvx] at l0
                    rw [hvy] at l1
                    have hi1 : ((jp : Int)).toNat = ni := by omega
                    have hi2 : (0 : Int) ≤ (jp : Int) := by omega
                    have hi3 : (jp : Int) < (t : Int) + 1 := by omega
                    have hi4 : IntKind.i64.wrap ((jp : Int)) = (jp : Int) := by rw [IntKind.wrap_i64]; omega
                    have hj1 : ((jp : Int) + 1).toNat = nj := by omega
                    have hj2 : (0 : Int) ≤ (jp : Int) + 1 := by omega
                    have hj3 : (jp : Int) + 1 < (t : Int) + 1 := by omega
                    have hj4 : IntKind.i64.wrap ((jp : Int) + 1) = (jp : Int) + 1 := by rw [IntKind.wrap_i64]; omega
                    have HSW := Lib.hid hsw
                    clear hvx hvy HR hni hnj hsw hdq
                    have mixed : Try.prog.follows .mixedOrders = true := by kernel_rfl
                    go_wp2_with fail
                    go_big_region_o
                    clear mixed
                    clear l0 l1 l2 f0 f1 hi1 hi2 hi3 hi4 hj1 hj2 hj3 hj4
                    rename Hid (Ow _ _ _ _ _ _ _ _) => HR
                    go_wp2
                    go_roundw
                    case rel => exact ⟨jp, dq, by go_num, by omega, by omega, HR.out, by rw [← HDQ.out, swp_sym _ _ _ (by omega) (by omega), ← HNX.out]; exact HI.out⟩
                    case measure => simp [intOf]
                  | false =>
                    have HNX := Lib.hid (insInner_stop 0 jp di hlv)
                    obtain ⟨ni, hni⟩ : ∃ ni, ni = jp + 1 := ⟨_, rfl⟩
                    obtain ⟨nj, hnj⟩ : ∃ nj, nj = jp := ⟨_, rfl⟩
                    obtain ⟨vx, hvx⟩ : ∃ vx, di[ni]! = vx := ⟨_, rfl⟩
                    obtain ⟨vy, hvy⟩ : ∃ vy, di[nj]! = vy := ⟨_, rfl⟩
                    have l0 := HR.out.cl ni (by omega)
                    have l1 := HR.out.cl nj (by omega)
                    have hi1 : ((jp : Int) + 1).toNat = ni := by omega
                    have hi2 : (0 : Int) ≤ (jp : Int) + 1 := by omega
                    have hi3 : (jp : Int) + 1 < (t : Int) + 1 := by omega
                    have hi4 : IntKind.i64.wrap ((jp : Int) + 1) = (jp : Int) + 1 := by rw [IntKind.wrap_i64]; omega
                    have hj1 : ((jp : Int)).toNat = nj := by omega
                    have hj2 : (0 : Int) ≤ (jp : Int) := by omega
                    have hj3 : (jp : Int) < (t : Int) + 1 := by omega
                    have hj4 : IntKind.i64.wrap ((jp : Int)) = (jp : Int) := by rw [IntKind.wrap_i64]; omega
                    rw [hvx] at l0
                    rw [hvy] at l1
                    have hlt0 : ltW vx vy = false := by rw [← hvx, ← hvy, hni, hnj]; exact hlv
                    have hlt : decide ((vx : Int) < (vy : Int)) = false := by rw [← hlt0]; unfold ltW; by_cases hh : vx < vy <;> simp [hh]
                    have hlt2 : decide ((vy : Int) > (vx : Int)) = false := hlt
                    have hlt3 : vy ≤ vx := by have := hlt0; unfold ltW at this; simpa using this
                    clear hvx hvy hni hnj hlt0
                    go_wp2_with fail
                    go_quiet (fail)
                    have HR2 := Lib.hid (HR.out.drewN nq)
                    clear l0 l1 HR hi1 hi2 hi3 hi4 hj1 hj2 hj3 hj4
                    rename Hid (Ow _ _ _ _ _ _ _ _) => HR
                    generalize wr.drewN nq = wq at *
                    go_wp2
                    go_roundw
                    case rel => exact ⟨k + 1, t + 1, lo2, x7, di, by omega, by omega, by go_num, rfl, HL8.out, hl2b, by have h1 := HR.out.own; have h2 := HR.out.z; rw [h2]; exact h1, by have := HI.out; rw [HNX.out] at this; rw [this]; exact HBE.out, HX7.out, HZ7.out, by have := HR.out.kept.size; omega, HV8.out.off HR.out.kept HLT.out (fun i hi h => by omega)⟩
                    case measure => simp [intOf] <;> omega
                · obtain rfl : i = 0 := by omega
                  have hda : decide ((0 : Int) > 0) = false := rfl
                  go_wp2_with fail
                  go_quiet (fail)
                  have HR2 := Lib.hid (HR.out.drewN nq)
                  clear HR
                  rename Hid (Ow _ _ _ _ _ _ _ _) => HR
                  generalize wr.drewN nq = wq at *
                  go_wp2
                  go_roundw
                  case rel => exact ⟨k + 1, t + 1, lo2, x7, di, by omega, by omega, by go_num, rfl, HL8.out, hl2b, by have h1 := HR.out.own; have h2 := HR.out.z; rw [h2]; exact h1, by have := HI.out; rw [insInner_end _ _ _ (by omega)] at this; rw [this]; exact HBE.out, HX7.out, HZ7.out, by have := HR.out.kept.size; omega, HV8.out.off HR.out.kept HLT.out (fun i hi h => by omega)⟩
                  case measure => simp [intOf] <;> omega
        · obtain rfl : k = N := by omega
          go_wp2
          go_meet
          exact ⟨t, lo, x, d, rfl, HLO.out, HO6.out, HBU.out, HX.out, HV6.out⟩
      · go_wp2
        go_meet
        exact ⟨t, lo, x, d, rfl, by rw [lowN_tail HXZ.out N hk]; exact HLO.out, HO.out, by rw [raw_tail HXZ.out N hk]; exact HBU.out, HX.out, HV.out⟩
  case rest =>
    obtain ⟨t, lo, x, d, rfl, hlo, hown, hbub, hx, hv⟩ := hcut
    rename World => wx
    obtain ⟨A3, c3, rfl, hl3, hR3, hA3⟩ := own2 hown
    obtain ⟨l, hM, hs⟩ := hv.mem
    have hrl : (raw x N).length = t := by rw [← hbub.sz, ← hl3]; simp
    have hrt := raw_len x N
    have HBS : Hid ((raw x N).mergeSort (fun x y => decide (x ≤ y)) = d.toList) := Lib.hid hbub.sorted
    have HRL := Lib.hid hrl
    have HLO := Lib.hid hlo
    have HX := Lib.hid hx
    have HS := Lib.hid hs
    have HL3 := Lib.hid hl3
    have HV := Lib.hid hv
    have HM := Lib.hid hM
    have HR3 := Lib.hid hR3
    have HA3 : Hid (∀ q off, A3 = some ⟨q, off, none⟩ → B0 ≤ q ∧ q < wx.heap.size) := Lib.hid (fun q off e => by subst e; exact hown.lt q rfl)
    have ht25 : t ≤ 25 := by omega
    clear hlo hown hbub hx hv hM hs hrl hrt hl3 hR3 hA3 HV5
    go_wp2_with fail
    refine (kitCells_any b g l 0 _ HM.out (by have := HS.out.top; omega)).mono ?_; rintro e w6 ⟨rfl, hB6, hK6⟩
    have HW6 : Hid (WV w w6 b g s wx.heap.size w6.heap.size A3 c3 d.toList l 0 [.int .i64 (T : Int), .int .i64 (S : Int), .int .i64 100, .int .i64 100, .int .i64 200, .int .i64 4, .int .u64 1000, .int .i64 fa, .int .i64 fb, .int .i64 fd]) := Lib.hid ⟨HM.out.kept hK6 id id, hK6.blk HV.out.lay id, hB6, ⟨HR3.out.le, HR3.out.max, fun hp => by
        obtain ⟨q, off, e, hq, hc⟩ := HR3.out.some' hp
        exact ⟨q, off, e, Nat.lt_of_lt_of_le hq hK6.size, fun j u hu => (hK6.cell (p := ⟨q, off + j, none⟩) hq id).trans (hc j u hu)⟩⟩,
      HV.out.kept.trans hK6 (fun _ _ h => h), by have := HV.out.lt; omega, by have := HV.out.ne; have := HV.out.lts; omega, by have := HV.out.lts; have := hK6.size; have := hB6.lt; omega, fun q off e => by
        have h1 := HA3.out q off e; have h2 := HLT.out
        have := hK6.size; omega⟩
    clear hB6 hK6 HV HM HR3 HA3
    generalize wx.heap.size = hb at *
    have hL := HW6.out.lay
    have x0 := hL.cell (i := 0) rfl
    have x1 := hL.cell (i := 1) rfl
    have x2 := hL.cell (i := 2) rfl
    have x3 := hL.cell (i := 3) rfl
    have x4 := hL.cell (i := 4) rfl
    have x5 := hL.cell (i := 5) rfl
    have x6 := hL.cell (i := 6) rfl
    have x7 := hL.cell (i := 7) rfl
    have x8 := hL.cell (i := 8) rfl
    have x9 := hL.cell (i := 9) rfl
    clear hL
    go_wp2_with fail
    refine (newWatermark_any T S 100 100 200 4 fa fb fd 1000 HL.out _).mono ?_
    rintro e w7 ⟨o, q, r, rfl, hW7, ho7, hq7, hr7, hK7⟩
    rw [HN.out] at hW7
    have HW7 : Hid (WmAt w7 o q r N tm x 0) := Lib.hid (.inl ⟨rfl, 0, hW7⟩)
    have HV7 := Lib.hid (HW6.out.same0 hK7)
    have HSEP := Lib.hid (show w6.heap.size ≤ o ∧ w6.heap.size ≤ q ∧ w6.heap.size ≤ r from ⟨ho7, hq7, hr7⟩)
    clear x0 x1 x2 x3 x4 x5 x6 x7 x8 x9 hW7 ho7 hq7 hr7 hK7 HW6
    generalize w6.heap.size = B1 at *
    go_upto_block 4 with fail
    go_cut [18] (fun u wx => u = .int .i64 ((N + 1 : Nat) : Int) ∧ WmAt wx o q r N tm x (N + 1) ∧ WV w wx b g s hb B1 A3 c3 d.toList l (N + 1) [.int .i64 (T : Int), .int .i64 (S : Int), .int .i64 100, .int .i64 100, .int .i64 200, .int .i64 4, .int .u64 1000, .int .i64 fa, .int .i64 fb, .int .i64 fd])
    case first =>
      go_wp2_with fail
      go_loopw [18] (fun v wr => ∃ j : Nat, j ≤ N ∧ v = .int .i64 ((j + 1 : Nat) : Int) ∧ WmAt wr o q r N tm x j ∧ WV w wr b g s hb B1 A3 c3 d.toList l j [.int .i64 (T : Int), .int .i64 (S : Int), .int .i64 100, .int .i64 100, .int .i64 200, .int .i64 4, .int .u64 1000, .int .i64 fa, .int .i64 fb, .int .i64 fd]) (fun v _ => N + 2 - (intOf v).toNat)
      case atStart => exact ⟨0, by omega, rfl, HW7.out, HV7.out⟩
      case round =>
        obtain ⟨j, hj, rfl, hW, hv⟩ := hrel
        have HW := Lib.hid hW
        have HV8 := Lib.hid hv
        obtain ⟨r1, hr1⟩ : ∃ r1, decide (j = N) = r1 := ⟨_, rfl⟩
        clear hW hv HW7 HV7
        go_wp2_with fail
        refine (wv_step HV8.out HS.out HW.out (fun k _ => HX.out k) (by omega) hj HSEP.out (by omega) hr1).mono ?_
        rintro e w9 ⟨rfl, hv9, hW9⟩
        have HV9 := Lib.hid hv9
        have HW9 := Lib.hid hW9
        clear hv9 hW9 HW HV8
        cases r1
        · have hj4 : j ≠ N := by simpa using hr1
          go_wp2
          go_roundw
          case rel => exact ⟨j + 1, by omega, by go_num, HW9.out, HV9.out⟩
          case measure => simp [intOf]; omega
        · obtain rfl : j = N := by simpa using hr1
          go_wp2
          go_meet
          exact ⟨by first | rfl | go_num, HW9.out, HV9.out⟩
    case rest =>
      obtain ⟨rfl, hW, hv⟩ := hcut
      have HW := Lib.hid hW
      have HV8 := Lib.hid hv
      clear hW hv HW7 HV7
      rename World => w8
      go_wp2_with fail
      refine (accesses_any b g l (N + 1) _ HV8.out.mem).mono ?_; rintro e w10 ⟨rfl, rfl⟩
      go_wp2_with fail
      refine (wm_end HW.out HLO.out).mono ?_; rintro e w10 ⟨rfl, rfl⟩
      have hL := HV8.out.lay
      have x0 := hL.cell (i := 0) rfl
      have x1 := hL.cell (i := 1) rfl
      have x2 := hL.cell (i := 2) rfl
      have x3 := hL.cell (i := 3) rfl
      have x4 := hL.cell (i := 4) rfl
      have x5 := hL.cell (i := 5) rfl
      have x6 := hL.cell (i := 6) rfl
      have x7 := hL.cell (i := 7) rfl
      have x8 := hL.cell (i := 8) rfl
      have x9 := hL.cell (i := 9) rfl
      clear hL HW
      go_wp2_with fail
      refine (live_srt T S 100 100 200 4 1000 fa fb fd HL.out b g l (N + 1) x N HN.out (HS.out.snaps (fun k _ => HX.out k)) t HRL.out (by omega) _ HV8.out.mem).mono ?_
      rintro e w11 ⟨A4, c4, rfl, hR4, hB4⟩
      rw [HBS.out] at hR4
      have HV11 := Lib.hid (HV8.out.below hB4)
      have HR4 := Lib.hid hR4
      clear hR4 hB4 HV8 x0 x1 x2 x3 x4 x5 x6 x7 x8 x9
      go_wp2_with fail
      refine (sameW_any A4 A3 c4 c3 d.toList _ t HL3.out (by omega) HR4.out HV11.out.row).mono ?_; rintro e w12 ⟨rfl, hB12⟩
      have HV12 := Lib.hid (HV11.out.below hB12)
      clear hB12 HR4 HV11
      go_wp2_with fail
      refine (kitCells_any b g l (N + 1) _ HV12.out.mem (by have := HS.out.top; omega)).mono ?_; rintro e w13 ⟨rfl, hB13, hK13⟩
      have HV13 := Lib.hid (HV12.out.same0 hK13)
      have HB13 := Lib.hid hB13
      clear hB13 hK13 HV12
      generalize w12.heap.size = hq at *
      go_wp2_with fail
      refine (same_yes hq hb l.length l.length l _ (fun i u hu => HB13.out.cell hu) (fun i u hu => HV13.out.was.cell hu) (by have := HS.out.top; omega)).mono ?_; rintro e w14 ⟨rfl, nn, rfl⟩
      go_wp2
      go_ret
      exact ⟨rfl, (HV13.out.kept.drewN nn).below (Nat.le_refl _) (fun _ h => h.elim)⟩

theorem lawWat_all (w : World) (th sn : Int) (tm : Nat) (htm : tm < 18446744073709551616) (A : Option Addr) (c : Nat) (ps : List Nat) (hm : ps.length ≤ maxLen) (hr : ∀ p ∈ ps, p < 18446744073709551616) (hc : 0 < ps.length → ∃ ga off, A = some ⟨ga, off, none⟩ ∧ ga < w.heap.size ∧ ∀ (i p : Nat), ps[i]? = some p → w.cell? ⟨ga, off + i, none⟩ = some (.int .u64 (p : Int))) :
    Calls Try.prog 3 #[.int .i64 th, .int .i64 sn, .int .u64 (tm : Int), .slice A ps.length c] w fun e w' => e = .returned (.bool true) ∧ Below w.heap.size w w' := lawWat th sn tm htm A c ps _ rfl hm hr w hc

end Go.Proofs.Ytddjggckmmdicaa
