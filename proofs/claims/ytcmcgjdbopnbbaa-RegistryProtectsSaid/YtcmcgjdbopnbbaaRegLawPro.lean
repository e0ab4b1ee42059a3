/-
  The walk of the statement of layer 18 'a snapshot has a timestamp that is at least the watermark'. Condition: bytes below 256.
-/
import Derived.Test.YtcmcgjdbopnbbaaRegPro
import Derived.Test.YtcmcgjdbopnbbaaKeptRegion
import Derived.Deep.RegionWith
import Derived.Deep.CutBlock
namespace Go.Proofs.Ytcmcgjdbopnbbaa
open Go.RowKit Go.Deep
set_option linter.unusedVariables false

theorem made_row (z : Value) (n : Nat) : madeCells #[z] n = ⟨List.replicate n z⟩ := by
  apply Array.ext'
  apply List.ext_getElem?
  intro i
  by_cases hi : i < n
  · simp [madeCells, hi, Nat.mod_one]
  · rw [List.getElem?_eq_none (by simp [madeCells]; omega), List.getElem?_eq_none (by simp; omega)]
theorem rowF_const (z : Value) (n : Nat) : rowF (fun _ => z) n = List.replicate n z := by unfold rowF; apply List.ext_getElem <;> simp
theorem Try.info37 : (Try.prog.info? 37).map (fun i => (i.zero, i.size, i.bytes)) = some (some (.pointer none), 1, 8) := by kernel_rfl
theorem Try.info4 : (Try.prog.info? 4).map (fun i => (i.zero, i.size, i.bytes)) = some (some (.bool false), 1, 1) := by kernel_rfl
theorem make_ptr (n : Nat) (hn : n ≤ 1099511627776) (w : World) :
    (Instr.makeSlice 58 (.int .i64 (n : Int)) (.int .i64 (n : Int))).run Try.prog w = .ok (.slice (some ⟨w.heap.size, 0, none⟩) n n) (w.alloc (.cells ⟨rowF (fun _ => .pointer none) n⟩ 37)) := by
  rw [run_make_row' (P := Try.prog) 58 37 _ 8 Try.underlying58 Try.info37 rfl .i64 .i64 n (by omega) (by omega) w, made_row, rowF_const]
theorem make_bool (n : Nat) (hn : n ≤ 1099511627776) (w : World) :
    (Instr.makeSlice 59 (.int .i64 (n : Int)) (.int .i64 (n : Int))).run Try.prog w = .ok (.slice (some ⟨w.heap.size, 0, none⟩) n n) (w.alloc (.cells ⟨rowF (fun _ => .bool false) n⟩ 4)) := by
  rw [run_make_row' (P := Try.prog) 59 4 _ 1 Try.underlying59 Try.info4 rfl .i64 .i64 n (by omega) (by omega) w, made_row, rowF_const]

/-- The statement's state ahead of pick j. -/
def PS (w wr : World) (b g s ho hb n : Nat) (lay : List Value) (j V wo : Nat) : Prop :=
  ∃ (wq wg c cw L : Nat) (oo qq ph v x : Nat → Nat) (hd : Nat → Bool) (ld : Bool) (col : Nat → Nat), V ≤ j ∧ c ≤ 2 * j ∧ (∀ t, t < n → v t ≤ V) ∧ Pl n ph v x V ld cw L ∧ (∀ t, t < n → ph t ≤ 4 ∧ hd t = decide (ph t = 4)) ∧ (ld = true → cw < n * 2) ∧ (ld = false → cw = 0) ∧ PW w wr b g s ho hb n wo wq wg c lay oo qq ph v hd x V ld cw L col
theorem PS.start {w wr : World} {b g s ho hb n wo wq wg : Nat} {lay : List Value} (hM : ∃ l, Mem wr b g l 0 ∧ Sn l (n * 2) 0 (fun _ => 0)) (hl : Blk wr s 29 lay) (h1 : Blk wr ho 37 (rowF (fun _ => .pointer none) n)) (h2 : Blk wr hb 4 (rowF (fun _ => .bool false) n)) (hW : Wm wr wo wq wg false (n * 2) 0 0) (hK : Kept (fun _ => False) w wr)
    (hlt : w.heap.size ≤ b ∧ w.heap.size ≤ g ∧ w.heap.size ≤ ho ∧ w.heap.size ≤ hb ∧ w.heap.size ≤ wo ∧ w.heap.size ≤ wq) (d1 : b ≠ ho ∧ b ≠ hb ∧ g ≠ ho ∧ g ≠ hb ∧ ho ≠ hb) (d2 : s ≠ b ∧ s ≠ g ∧ s ≠ ho ∧ s ≠ hb ∧ s ≠ wo ∧ s ≠ wq) (d3 : ∀ i, i = wo ∨ i = wq ∨ i = wg → i ≠ b ∧ i ≠ g ∧ i ≠ ho ∧ i ≠ hb) :
    PS w wr b g s ho hb n lay 0 0 wo := by
  obtain ⟨o1, o2, o3, o4⟩ := d3 wo (by omega)
  obtain ⟨q1, q2, q3, q4⟩ := d3 wq (by omega)
  obtain ⟨r1, r2, r3, r4⟩ := d3 wg (by omega)
  have e1 := hW.og
  have e2 := hW.qg
  refine ⟨wq, wg, 0, 0, 0, fun _ => 0, fun _ => 0, fun _ => 0, fun _ => 0, fun _ => 0, fun _ => false, false, fun k => if k = b ∨ k = g then 1 else if k = ho then 2 else if k = hb then 3 else if k = wo ∨ k = wq then 4 else 0, Nat.le_refl _, Nat.le_refl _, fun _ _ => Nat.le_refl _,
    ⟨fun _ _ => rfl, fun _ => Nat.zero_le _, fun _ _ _ => Nat.le_refl _, (fun e => by cases e), (fun e => by cases e)⟩, fun _ _ => ⟨Nat.zero_le _, rfl⟩, (fun e => by cases e), fun _ => rfl, hM, hl, ?_, h2, fun i _ hp => absurd rfl hp, hW, ⟨?_, ?_, ?_, ?_, ?_, ?_, ?_, ?_⟩, fun i hi => ?_, hK⟩
  · exact h1
  · exact if_pos (.inl rfl)
  · exact if_pos (.inr rfl)
  · obtain ⟨s1, s2, s3, s4, s5, s6⟩ := d2
    rw [if_neg (fun h => h.elim s1 s2), if_neg s3, if_neg s4, if_neg (fun h => h.elim s5 s6)]
  · rw [if_neg (fun h => h.elim (fun e => d1.1 e.symm) (fun e => d1.2.2.1 e.symm)), if_pos rfl]
  · rw [if_neg (fun h => h.elim (fun e => d1.2.1 e.symm) (fun e => d1.2.2.2.1 e.symm)), if_neg (fun e => d1.2.2.2.2 e.symm), if_pos rfl]
  · rw [if_neg (fun h => h.elim o1 o2), if_neg o3, if_neg o4, if_pos (.inl rfl)]
  · rw [if_neg (fun h => h.elim q1 q2), if_neg q3, if_neg q4, if_pos (.inr rfl)]
  · rw [if_neg (fun h => h.elim r1 r2), if_neg r3, if_neg r4, if_neg (fun h => h.elim (fun e => e1 e.symm) (fun e => e2 e.symm))]
  · obtain ⟨l1, l2, l3, l4, l5, l6⟩ := hlt
    clear d1 d2 d3 o1 o2 o3 o4 q1 q2 q3 q4 r1 r2 r3 r4 e1 e2
    rw [if_neg (fun h => h.elim (fun e => by omega) (fun e => by omega)), if_neg (fun e => by omega), if_neg (fun e => by omega), if_neg (fun h => h.elim (fun e => by omega) (fun e => by omega))]
theorem step_vb {n V p i : Nat} {v : Nat → Nat} (hi : i < n) (h : ∀ t, t < n → v t ≤ V) : ∀ t, t < n → upd v i (opV p (v i) V) t ≤ V := fun t ht => by
  by_cases e : t = i
  · subst e; rw [upd_at]; unfold opV; split
    · exact Nat.le_refl _
    · exact h t ht
  · rw [upd_ne _ _ e]; exact h t ht
theorem rem_n (p n : Nat) : (p : Int) % ((n : Int) + 2) = ((p % (n + 2) : Nat) : Int) := by simp

set_option maxRecDepth 100000 in
set_option maxHeartbeats 8000000 in
theorem lawPro (th : Int) (A : Option Addr) (cp : Nat) (ps : List Nat) (m : Nat) (hps : ps.length = m) (hmx : m ≤ maxLen) (hbb : ∀ p ∈ ps, p < 256) (w : World)
    (hA : 0 < m → ∃ ga off, A = some ⟨ga, off, none⟩ ∧ ga < w.heap.size ∧ ∀ (i p : Nat), ps[i]? = some p → w.cell? ⟨ga, off + i, none⟩ = some (.int .u8 (p : Int))) :
    Calls Try.prog 5 #[.int .i64 th, .slice A m cp] w fun e w' => e = .returned (.bool true) ∧ Below w.heap.size w w' := by
  obtain ⟨r, hr, hr4⟩ := mod_ex th 4 (by omega)
  obtain ⟨n, hT⟩ : ∃ n, n = r + 1 := ⟨_, rfl⟩
  have HR := Lib.hid hr
  have HA := Lib.hid hA
  have HP := Lib.hid hps
  have HB := Lib.hid hbb
  unfold maxLen at hmx
  clear hr hA hps hbb
  go_enter Try.func5, Try.ntmps5
  go_upto_region 1 with fail
  go_cut [5] (fun x wx => x = .int .i64 (n : Int) ∧ wx = w)
  case first =>
    go_wp2_with fail
    refine (mod_of _ _ r _ (by omega) (by omega) HR.out).mono ?_; rintro e w2 ⟨rfl, rfl⟩
    go_wp2
    go_meet
    exact ⟨by rw [hT]; first | rfl | (congr 1; omega) | go_num, rfl⟩
  case rest =>
    obtain ⟨rfl, rfl⟩ := hcut
    rename World => w
    clear HR
    have hT1 : 1 ≤ n := by omega
    have hT4 : n ≤ 4 := by omega
    clear hT hr4
    have HL := Lib.hid (lim_of (T := n) (S := 2) (by omega) (by omega) (by omega) (by omega))
    go_wp2_with fail
    refine (kitConfig_any n _).mono ?_; rintro e w1 ⟨rfl, hK1⟩
    have hC1 := Blk.new w1 [.int .i64 (n : Int), .int .i64 ((2 : Nat) : Int), .int .i64 100, .int .i64 100, .int .i64 200, .int .i64 4, .int .u64 1000] 25
    have HK1 := Lib.hid (hK1.alloc (.cells #[.int .i64 (n : Int), .int .i64 ((2 : Nat) : Int), .int .i64 100, .int .i64 100, .int .i64 200, .int .i64 4, .int .u64 1000] 25))
    have y0 := hC1.cell (i := 0) rfl
    have y1 := hC1.cell (i := 1) rfl
    have y2 := hC1.cell (i := 2) rfl
    have y3 := hC1.cell (i := 3) rfl
    have y4 := hC1.cell (i := 4) rfl
    have y5 := hC1.cell (i := 5) rfl
    have y6 := hC1.cell (i := 6) rfl
    clear hK1 hC1
    go_wp2_with fail
    generalize w1.alloc (.cells #[.int .i64 (n : Int), .int .i64 ((2 : Nat) : Int), .int .i64 100, .int .i64 100, .int .i64 200, .int .i64 4, .int .u64 1000] 25) = W1 at *
    generalize w1.heap.size = cb at *
    refine (kitMem n 2 HL.out _).mono ?_
    intro e w2 hok
    obtain ⟨b, g, l, fa, fb, fd, rfl, hM2, hS2, hb2, hg2, hK2⟩ := hok
    have hz := HK1.out.size
    have HM2 := Lib.hid hM2
    have HS2 := Lib.hid hS2
    have HB2 := Lib.hid (show w.heap.size ≤ b ∧ w.heap.size ≤ g by omega)
    have HK2 := Lib.hid (HK1.out.trans hK2 (fun _ _ h => h))
    clear hM2 hS2 hb2 hg2 hz hK2 HK1 y0 y1 y2 y3 y4 y5 y6
    go_wp2_with fail
    have HLY := Lib.hid (Blk.new w2 [.int .i64 (n : Int), .int .i64 ((2 : Nat) : Int), .int .i64 100, .int .i64 100, .int .i64 200, .int .i64 4, .int .u64 1000, .int .i64 fa, .int .i64 fb, .int .i64 fd] 29)
    have HM3 := Lib.hid (HM2.out.alloc (.cells #[.int .i64 (n : Int), .int .i64 ((2 : Nat) : Int), .int .i64 100, .int .i64 100, .int .i64 200, .int .i64 4, .int .u64 1000, .int .i64 fa, .int .i64 fb, .int .i64 fd] 29))
    have HK3 := Lib.hid (HK2.out.alloc (.cells #[.int .i64 (n : Int), .int .i64 ((2 : Nat) : Int), .int .i64 100, .int .i64 100, .int .i64 200, .int .i64 4, .int .u64 1000, .int .i64 fa, .int .i64 fb, .int .i64 fd] 29))
    have HBS : Hid (b < w2.heap.size ∧ g < w2.heap.size ∧ w.heap.size ≤ w2.heap.size) := Lib.hid ⟨HM2.out.obj.lt, HM2.out.row.lt, HK2.out.size⟩
    clear HM2 HK2
    generalize w2.alloc (.cells #[.int .i64 (n : Int), .int .i64 ((2 : Nat) : Int), .int .i64 100, .int .i64 100, .int .i64 200, .int .i64 4, .int .u64 1000, .int .i64 fa, .int .i64 fb, .int .i64 fd] 29) = W3 at *
    generalize w2.heap.size = s at *
    refine (awake_any _).mono ?_; rintro e w4 ⟨rfl, hK4⟩
    have HL4 := Lib.hid (hK4.blk HLY.out id)
    have HM4 := Lib.hid (HM3.out.kept hK4 id id)
    have HK4 := Lib.hid (HK3.out.trans hK4 (fun _ _ h => h))
    clear hK4 HLY HM3 HK3
    by_cases h200 : 200 < m
    · go_wp2_with fail
      refine (awake_any _).mono ?_; rintro e w5 ⟨rfl, hK5⟩
      have HK5 := Lib.hid (HK4.out.trans hK5 (fun _ _ h => h))
      clear hK5
      go_wp2
      go_ret
      exact ⟨rfl, HK5.out.below (Nat.le_refl _) (fun _ h => h.elim)⟩
    · have hmk1 := make_ptr n (by omega) w4
      have hmk2 := make_bool n (by omega) (w4.alloc (.cells ⟨rowF (fun _ => .pointer none) n⟩ 37))
      have hO5 := (Blk.new w4 (rowF (fun _ => .pointer none) n) 37).alloc (.cells ⟨rowF (fun _ => .bool false) n⟩ 4)
      have hB5 := Blk.new (w4.alloc (.cells ⟨rowF (fun _ => .pointer none) n⟩ 37)) (rowF (fun _ => .bool false) n) 4
      have hL5 := (HL4.out.alloc (.cells ⟨rowF (fun _ => .pointer none) n⟩ 37)).alloc (.cells ⟨rowF (fun _ => .bool false) n⟩ 4)
      have HM5 := Lib.hid ((HM4.out.alloc (.cells ⟨rowF (fun _ => .pointer none) n⟩ 37)).alloc (.cells ⟨rowF (fun _ => .bool false) n⟩ 4))
      have HK5 := Lib.hid ((HK4.out.alloc (.cells ⟨rowF (fun _ => .pointer none) n⟩ 37)).alloc (.cells ⟨rowF (fun _ => .bool false) n⟩ 4))
      have HD := Lib.hid (show b < w4.heap.size ∧ g < w4.heap.size ∧ s < w4.heap.size ∧ w.heap.size ≤ w4.heap.size ∧ (w4.alloc (.cells ⟨rowF (fun _ => .pointer none) n⟩ 37)).heap.size = w4.heap.size + 1 from ⟨HM4.out.obj.lt, HM4.out.row.lt, HL4.out.lt, HK4.out.size, nblk_alloc _ _⟩)
      have x0 := hL5.cell (i := 0) rfl
      have x1 := hL5.cell (i := 1) rfl
      have x2 := hL5.cell (i := 2) rfl
      have x3 := hL5.cell (i := 3) rfl
      have x4 := hL5.cell (i := 4) rfl
      have x5 := hL5.cell (i := 5) rfl
      have x6 := hL5.cell (i := 6) rfl
      have x7 := hL5.cell (i := 7) rfl
      have x8 := hL5.cell (i := 8) rfl
      have x9 := hL5.cell (i := 9) rfl
      have HO5 := Lib.hid hO5
      have HB5 := Lib.hid hB5
      have HL5 := Lib.hid hL5
      clear hO5 hB5 hL5 HM4 HL4 HK4
      go_wp2_with fail
      generalize (w4.alloc (.cells ⟨rowF (fun _ => .pointer none) n⟩ 37)).alloc (.cells ⟨rowF (fun _ => .bool false) n⟩ 4) = W5 at *
      generalize (w4.alloc (.cells ⟨rowF (fun _ => .pointer none) n⟩ 37)).heap.size = hb at *
      generalize w4.heap.size = ho at *
      clear hmk1 hmk2
      have hhb : hb = ho + 1 := HD.out.2.2.2.2
      subst hhb
      refine (newWatermark_any n 2 100 100 200 4 fa fb fd 1000 HL.out _).mono ?_
      rintro e w6 ⟨o, q, rg, rfl, hW6, ho6, hq6, hr6, hK6⟩
      have hbl := HB5.out.lt
      have hml := HM5.out.obj.lt
      have hgl := HM5.out.row.lt
      have hll := HL5.out.lt
      have hol := HO5.out.lt
      have hks := HK5.out.size
      have HPS : Hid (PS w w6 b g s ho (ho + 1) n [.int .i64 (n : Int), .int .i64 ((2 : Nat) : Int), .int .i64 100, .int .i64 100, .int .i64 200, .int .i64 4, .int .u64 1000, .int .i64 fa, .int .i64 fb, .int .i64 fd] 0 0 o) := Lib.hid (PS.start ⟨l, HM5.out.kept hK6 id id, HS2.out⟩ (hK6.blk HL5.out id) (hK6.blk HO5.out id) (hK6.blk HB5.out id) hW6 (HK5.out.trans hK6 (fun _ _ h => h)) (by have := HB2.out; have := HD.out; omega) (by have := HD.out; omega) (by have := HD.out; have := HBS.out; omega) (fun i hi => by omega))
      clear x0 x1 x2 x3 x4 x5 x6 x7 x8 x9 hW6 ho6 hq6 hr6 hK6 hbl hml hgl hll hol hks HB5 HM5 HL5 HO5 HK5 HD HBS HB2 HS2
      go_wp2_with fail
      go_loopw [11, 12, 13] (fun a u v wr => ∃ (j V wo : Nat), j ≤ m ∧ a = .pointer (some ⟨wo, 0, none⟩) ∧ u = .int .u64 (V : Int) ∧ v = .int .i64 (j : Int) ∧ PS w wr b g s ho (ho + 1) n [.int .i64 (n : Int), .int .i64 ((2 : Nat) : Int), .int .i64 100, .int .i64 100, .int .i64 200, .int .i64 4, .int .u64 1000, .int .i64 fa, .int .i64 fb, .int .i64 fd] j V wo) (fun _ _ i _ => m - (intOf i).toNat)
      case atStart => exact ⟨0, 0, o, by omega, rfl, rfl, rfl, HPS.out⟩
      case round =>
        obtain ⟨j, V, wo, hj, rfl, rfl, rfl, hps⟩ := hrel
        clear HPS
        obtain ⟨wq, wg, c, cw, L, oo, qq, ph, v, x, hd, ld, col, hVj, hcj, hvb, hpl, hph, hcw, hcf, hpw⟩ := hps
        have HV := Lib.hid hpw
        have HPL := Lib.hid hpl
        have HPH := Lib.hid hph
        have HCW := Lib.hid hcw
        have HCF := Lib.hid hcf
        have HVB := Lib.hid hvb
        clear hpl hph hcw hcf hpw hvb
        by_cases hlt : j < m
        · obtain ⟨ga, off, rfl, hga, hcell⟩ := HA.out (by omega)
          obtain ⟨p, hp⟩ : ∃ p, ps[j]? = some p := ⟨_, List.getElem?_eq_getElem (by have := HP.out; omega)⟩
          have hp2 := HB.out p (List.mem_of_getElem? hp)
          have c0 := (HV.out.kept.cell (p := ⟨ga, off + j, none⟩) hga id).trans (hcell j p hp)
          obtain ⟨i, hi⟩ : ∃ i, i = p % (n + 2) := ⟨_, rfl⟩
          have hi2 : i < n + 2 := by rw [hi]; exact Nat.mod_lt _ (by omega)
          have HI := Lib.hid hi
          clear hcell hp hi
          go_upto_block 1 with fail
          go_cut [11, 12] (fun a u wx => ∃ (V' wo' : Nat), a = .pointer (some ⟨wo', 0, none⟩) ∧ u = .int .u64 (V' : Int) ∧ PS w wx b g s ho (ho + 1) n [.int .i64 (n : Int), .int .i64 ((2 : Nat) : Int), .int .i64 100, .int .i64 100, .int .i64 200, .int .i64 4, .int .u64 1000, .int .i64 fa, .int .i64 fb, .int .i64 fd] (j + 1) V' wo')
          case first =>
            go_upto_region 13 with fail
            go_cut [14] (fun v wx => v = .int .i64 (i : Int) ∧ wx = wr)
            case first =>
              go_wp2
              go_meet
              exact ⟨by rw [HI.out, ← rem_n], rfl⟩
            case rest =>
              obtain ⟨rfl, rfl⟩ := hcut
              rename World => wr
              clear HI
              by_cases hin : i = n
              · subst hin
                go_wp2_with fail
                refine (pw_poke HV.out _ (V + 1) (by first | rfl | omega)).mono ?_; rintro e w7 ⟨rfl, hv7⟩
                have HV7 := Lib.hid hv7
                clear hv7 HV
                go_wp2
                go_meet
                exact ⟨V + 1, wo, rfl, by first | rfl | go_num, wq, wg, c, cw, L, oo, qq, ph, v, x, hd, ld, col, by omega, by omega, (fun t ht => Nat.le_succ_of_le (HVB.out t ht)), HPL.out.pub, HPH.out, HCW.out, HCF.out, HV7.out⟩
              · by_cases hin1 : i = n + 1
                · subst hin1
                  cases ld
                  · obtain rfl := HCF.out rfl
                    go_wp2_with fail
                    refine (pw_w0 HV.out (by omega) (by omega)).mono ?_; rintro e w7 ⟨rfl, hv7⟩
                    have HV7 := Lib.hid hv7
                    clear hv7 HV
                    go_wp2
                    go_meet
                    exact ⟨V, wo, rfl, rfl, wq, wg, c + 1, 0, V, oo, qq, ph, v, x, hd, true, col, by omega, by omega, HVB.out, HPL.out.w0, HPH.out, (fun _ => by omega), (fun e => by cases e), HV7.out⟩
                  · have hcn := HCW.out rfl
                    obtain ⟨r1, hr1⟩ : ∃ r1, decide (cw + 1 = n * 2) = r1 := ⟨_, rfl⟩
                    obtain ⟨L2, hL2⟩ : ∃ L2, low L (x cw) = L2 := ⟨_, rfl⟩
                    have HP1 := Lib.hid HPL.out.w1
                    rw [hL2] at HP1
                    go_wp2_with fail
                    have hst := pw_w1 HV.out hcn (fun k => by have := HPL.out.xb k; omega) (by omega) hr1
                    rw [hL2] at hst
                    refine hst.mono ?_; rintro e w7 ⟨rfl, hv7⟩
                    have HV7 := Lib.hid hv7
                    clear hst hv7 HV hL2
                    cases r1
                    · have hne : cw + 1 ≠ n * 2 := by simpa using hr1
                      go_wp2
                      go_meet
                      exact ⟨V, wo, rfl, rfl, wq, wg, c + 1, cw + 1, L2, oo, qq, ph, v, x, hd, true, col, by omega, by omega, HVB.out, HP1.out, HPH.out, (fun _ => by omega), (fun e => by cases e), HV7.out⟩
                    · have he : cw + 1 = n * 2 := by simpa using hr1
                      have HWN : Hid (Wm w7 wo wq wg true (n * 2) (n * 2) L2) := Lib.hid (by have := HV7.out.wm; rwa [he] at this)
                      have hLV : L2 ≤ V := HP1.out.le rfl
                      have hok : ∀ t, t < n → hd t = true → L2 ≤ v t := fun t ht h4 => by
                        have h5 := (HPH.out t ht).2
                        rw [h4] at h5
                        have h6 : ph t = 4 := by simpa using h5.symm
                        exact HP1.out.ok rfl t ht (by omega) (by omega)
                      have HOK := Lib.hid hok
                      clear hok
                      go_wp2_with fail
                      rename World => w7
                      go_loopw [15] (fun v wr => ∃ t : Nat, t ≤ n ∧ v = .int .i64 (t : Int) ∧ wr = w7) (fun v _ => n - (intOf v).toNat)
                      case atStart => exact ⟨0, by omega, rfl, rfl⟩
                      case round =>
                        obtain ⟨t, ht, rfl, rfl⟩ := hrel
                        have hL := HV7.out.lay
                        have x0 := hL.cell (i := 0) rfl
                        have x1 := hL.cell (i := 1) rfl
                        have x2 := hL.cell (i := 2) rfl
                        have x3 := hL.cell (i := 3) rfl
                        have x4 := hL.cell (i := 4) rfl
                        have x5 := hL.cell (i := 5) rfl
                        have x6 := hL.cell (i := 6) rfl
                        have x7 := hL.cell (i := 7) rfl
                        have x8 := hL.cell (i := 8) rfl
                        have x9 := hL.cell (i := 9) rfl
                        clear hL
                        by_cases htn : t < n
                        · have b0 : _ = some (Value.bool (hd t)) := HV7.out.hrow.cell (rowF_at (fun i => Value.bool (hd i)) htn)
                          obtain ⟨ht4, hhd⟩ := HPH.out t htn
                          obtain ⟨hdt, hhdt⟩ : ∃ hdt, hd t = hdt := ⟨_, rfl⟩
                          rw [hhdt] at b0 hhd
                          cases hdt
                          · clear hhd hhdt ht4
                            go_wp2
                            go_roundw
                            case rel => exact ⟨t + 1, by omega, by go_num, by first | trivial | rfl⟩
                            case measure => simp [intOf]; omega
                          · have hp4 : ph t = 4 := by simpa using hhd.symm
                            have o0 := HV7.out.orow.cell (rowF_at (opv ph oo) htn)
                            have e0 : opv ph oo t = Value.pointer (some ⟨oo t, 0, none⟩) := by unfold opv; rw [if_neg (by omega)]
                            rw [e0] at o0
                            clear e0
                            obtain ⟨hOt, -, -⟩ := HV7.out.mach t htn (by omega)
                            rw [hp4] at hOt
                            have hle := HOK.out t htn hhdt
                            obtain ⟨vt, hvt⟩ : ∃ vt, v t = vt := ⟨_, rfl⟩
                            rw [hvt] at hOt hle
                            have HOT := Lib.hid hOt
                            have hnl : ¬ ((vt : Int) < (L2 : Int)) := by omega
                            clear hOt hvt hhd hhdt ht4 hp4
                            go_wp2_with fail
                            refine (op_time HOT.out).mono ?_; rintro e w8 ⟨rfl, rfl⟩
                            go_wp2_with fail
                            refine (wm_time HWN.out).mono ?_; rintro e w8 ⟨rfl, rfl⟩
                            go_wp2
                            go_roundw
                            case rel => exact ⟨t + 1, by omega, by go_num, by first | trivial | rfl⟩
                            case measure => simp [intOf]; omega
                        · obtain rfl : t = n := by omega
                          have hng : ¬ ((L2 : Int) > (V : Int)) := by omega
                          go_wp2_with fail
                          refine (wm_time HWN.out).mono ?_; rintro e w8 ⟨rfl, rfl⟩
                          go_wp2_with fail
                          refine (newWatermark_any t 2 100 100 200 4 fa fb fd 1000 HL.out _).mono ?_
                          rintro e w9 ⟨o2, q2, g2, rfl, hW9, ho9, hq9, hr9, hK9⟩
                          have HV9 := Lib.hid (HV7.out.anew hK9 hW9 ho9 hq9 hr9)
                          have HP9 := Lib.hid HP1.out.anew
                          clear x0 x1 x2 x3 x4 x5 x6 x7 x8 x9 hW9 ho9 hq9 hr9 hK9 HV7
                          go_wp2
                          go_meet
                          exact ⟨V, o2, rfl, rfl, q2, g2, c + 1, 0, 0, oo, qq, ph, v, x, hd, false, _, by omega, by omega, HVB.out, HP9.out, HPH.out, (fun e => by cases e), fun _ => rfl, HV9.out⟩
                · have hin2 : i < n := by omega
                  have o0 : wr.cell? ⟨ho, i, none⟩ = some (opv ph oo i) := HV.out.orow.cell (rowF_at (opv ph oo) hin2)
                  have hL := HV.out.lay
                  have x0 := hL.cell (i := 0) rfl
                  have x1 := hL.cell (i := 1) rfl
                  have x2 := hL.cell (i := 2) rfl
                  have x3 := hL.cell (i := 3) rfl
                  have x4 := hL.cell (i := 4) rfl
                  have x5 := hL.cell (i := 5) rfl
                  have x6 := hL.cell (i := 6) rfl
                  have x7 := hL.cell (i := 7) rfl
                  have x8 := hL.cell (i := 8) rfl
                  have x9 := hL.cell (i := 9) rfl
                  clear hL
                  obtain ⟨ht4, hhd⟩ := HPH.out i hin2
                  by_cases hp0 : ph i = 0
                  · have o1 : wr.cell? ⟨ho, i, none⟩ = some (.pointer none) := by rw [o0]; unfold opv; rw [if_pos hp0]
                    clear o0
                    go_wp2_with fail
                    have hop := op_new n 2 HL.out fa fb fd i 0 hin2 (by omega) wr
                    refine hop.mono ?_; rintro e w7 ⟨o2, q2, rfl, hO7, hq7, ho7, hK7⟩
                    have hv7 := HV.out.put hin2 hK7 hO7 ho7 hq7
                    have hvs := HV.out.same0 hK7
                    have o2c := hvs.orow.cell (rowF_at (opv ph oo) hin2)
                    have z2 := hvs.orow.frozen i
                    have o3 := hv7.orow.cell (i := i) (rowF_at (opv (upd ph i 1) (upd oo i o2)) hin2)
                    have e3 : opv (upd ph i 1) (upd oo i o2) i = .pointer (some ⟨o2, 0, none⟩) := by unfold opv; rw [upd_at, upd_at, if_neg (by omega)]
                    rw [e3] at o3
                    have hst := pw_ostep hv7 (p := 0) (r := false) hin2 (upd_at _ _ _) (by omega) (by have := HVB.out i hin2; omega) (by omega) rfl
                    rw [upd_at] at hst
                    have HST := Lib.hid hst
                    have HP8 := Lib.hid ((HPL.out.put hp0).step hin2 (p := 0) (upd_at _ _ _) (by omega))
                    have HV2 := Lib.hid (step_vb (p := 0) hin2 HVB.out)
                    clear hop hO7 hq7 ho7 hK7 hv7 hvs hst e3 x0 x1 x2 x3 x4 x5 x6 x7 x8 x9 o1 HV
                    go_wp2_with fail
                    refine HST.out.mono ?_; rintro e w8 ⟨rfl, hv8⟩
                    have HV8 := Lib.hid hv8
                    clear hv8 HST o2c o3
                    go_wp2
                    go_meet
                    exact ⟨V, wo, rfl, rfl, wq, wg, c + 1, cw, L, _, _, _, _, _, hd, ld, _, by omega, by omega, HV2.out, HP8.out, fun t ht => by
                      by_cases e : t = i
                      · subst e; rw [upd_at]; exact ⟨by omega, by rw [hhd, hp0]; rfl⟩
                      · rw [upd_ne _ _ e, upd_ne _ _ e]; exact HPH.out t ht, HCW.out, HCF.out, HV8.out⟩
                  · have o1 : wr.cell? ⟨ho, i, none⟩ = some (.pointer (some ⟨oo i, 0, none⟩)) := by rw [o0]; unfold opv; rw [if_neg hp0]
                    have b0 : wr.cell? ⟨ho + 1, i, none⟩ = some (.bool (hd i)) := HV.out.hrow.cell (rowF_at _ hin2)
                    have zb := HV.out.hrow.frozen i
                    have zo := HV.out.orow.frozen i
                    clear o0
                    obtain ⟨hdi, hhdi⟩ : ∃ hdi, hd i = hdi := ⟨_, rfl⟩
                    rw [hhdi] at b0 hhd
                    cases hdi
                    · have hp3 : ph i ≠ 4 := by simpa using hhd.symm
                      clear hhd
                      obtain ⟨q0, hq0⟩ : ∃ q0, ph i = q0 + 1 := ⟨ph i - 1, by omega⟩
                      obtain ⟨r1, hr1⟩ : ∃ r1, decide (q0 = 2) = r1 := ⟨_, rfl⟩
                      have HP8 := Lib.hid (HPL.out.step hin2 hq0 (by omega))
                      have HV2 := Lib.hid (step_vb (p := q0) hin2 HVB.out)
                      go_wp2_with fail
                      refine (pw_ostep HV.out hin2 hq0 (by omega) (by have := HVB.out i hin2; omega) (by omega) hr1).mono ?_; rintro e w7 ⟨rfl, hv7⟩
                      have b7 : w7.cell? ⟨ho + 1, i, none⟩ = some (.bool (hd i)) := hv7.hrow.cell (rowF_at _ hin2)
                      have z7 := hv7.hrow.frozen i
                      have HV8 := Lib.hid (hv7.hset hin2 r1)
                      clear hv7 HV o1 b0 zb zo x0 x1 x2 x3 x4 x5 x6 x7 x8 x9
                      go_wp2
                      go_meet
                      exact ⟨V, wo, rfl, rfl, wq, wg, c + 1, cw, L, _, _, _, _, _, _, ld, _, by omega, by omega, HV2.out, HP8.out, fun t ht => by
                        by_cases e : t = i
                        · subst e; rw [upd_at, if_pos rfl, ← hr1]; exact ⟨by omega, by congr 1; simp⟩
                        · rw [upd_ne _ _ e, if_neg e]; exact HPH.out t ht, HCW.out, HCF.out, HV8.out⟩
                    · have hp4 : ph i = 4 := by simpa using hhd.symm
                      clear hhd
                      by_cases hp128 : 128 ≤ p
                      · go_wp2_with fail
                        refine (rel_new n 2 HL.out fa fb fd i 0 hin2 (by omega) _).mono ?_; rintro e w7 ⟨o2, rfl, hO7, ho7, hK7⟩
                        have HST := Lib.hid (pw_rstep HV.out hin2 hK7 hO7 ho7 (by omega))
                        have HP8 := Lib.hid (HPL.out.rel (i := i))
                        have HV2 := HVB
                        clear hO7 ho7 hK7 HV o1 b0 zb zo x0 x1 x2 x3 x4 x5 x6 x7 x8 x9
                        go_wp2_with fail
                        refine HST.out.mono ?_; rintro e w8 ⟨rfl, hv8⟩
                        have o8 := hv8.orow.cell (rowF_at (opv ph oo) hin2)
                        have b8 : w8.cell? ⟨ho + 1, i, none⟩ = some (.bool (hd i)) := hv8.hrow.cell (rowF_at _ hin2)
                        have zo8 := hv8.orow.frozen i
                        have hv9 := hv8.nil hin2
                        have b9 : (w8.setCell ⟨ho, i, none⟩ (.pointer none)).cell? ⟨ho + 1, i, none⟩ = some (.bool (hd i)) := hv9.hrow.cell (rowF_at _ hin2)
                        have zb9 := hv9.hrow.frozen i
                        have HV9 := Lib.hid (hv9.hset hin2 false)
                        clear hv8 hv9 HST
                        go_wp2
                        go_meet
                        exact ⟨V, wo, rfl, rfl, wq, wg, c + 1, cw, L, _, _, _, _, _, _, ld, _, by omega, by omega, HV2.out, HP8.out, fun t ht => by
                          by_cases e : t = i
                          · subst e; rw [upd_at, if_pos rfl]; exact ⟨by omega, rfl⟩
                          · rw [upd_ne _ _ e, if_neg e]; exact HPH.out t ht, HCW.out, HCF.out, HV9.out⟩
                      · go_wp2
                        go_meet
                        exact ⟨V, wo, rfl, rfl, wq, wg, c, cw, L, oo, qq, ph, v, x, hd, ld, col, by omega, by omega, HVB.out, HPL.out, HPH.out, HCW.out, HCF.out, HV.out⟩
          case rest =>
            obtain ⟨V2, wo2, rfl, rfl, hps2⟩ := hcut
            have HPS2 := Lib.hid hps2
            clear hps2 HV
            go_wp2
            go_roundw
            case rel => exact ⟨j + 1, V2, wo2, by omega, rfl, rfl, by go_num, HPS2.out⟩
            case measure => simp [intOf]; omega
        · obtain rfl : j = m := by omega
          go_wp2
          go_ret
          exact ⟨rfl, HV.out.kept.below (Nat.le_refl _) (fun _ h => h.elim)⟩

theorem lawPro_all (w : World) (th : Int) (A : Option Addr) (c : Nat) (ps : List Nat) (hm : ps.length ≤ maxLen) (hr : ∀ p ∈ ps, p < 256) (hc : 0 < ps.length → ∃ ga off, A = some ⟨ga, off, none⟩ ∧ ga < w.heap.size ∧ ∀ (i p : Nat), ps[i]? = some p → w.cell? ⟨ga, off + i, none⟩ = some (.int .u8 (p : Int))) :
    Calls Try.prog 5 #[.int .i64 th, .slice A ps.length c] w fun e w' => e = .returned (.bool true) ∧ Below w.heap.size w w' := lawPro th A c ps _ rfl hm hr w hc

end Go.Proofs.Ytcmcgjdbopnbbaa
