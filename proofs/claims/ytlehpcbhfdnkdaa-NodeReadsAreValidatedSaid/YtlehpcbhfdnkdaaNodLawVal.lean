/-
  The walk of the statement of layer 8 'a reader gets exactly one of the pages that a node had'. Condition: words below 2^64, bytes below 256.
-/
import Derived.Test.YtlehpcbhfdnkdaaNodVal
namespace Go.Proofs.Ytlehpcbhfdnkdaa
open Go.RowKit Go.Deep Plain
set_option linter.unusedVariables false

theorem infoPage : (Try.prog.info? 25).map (fun i => (i.zero, i.size, i.bytes)) = some (some (.agg #[.int .i64 0, .slice none 0 0, .string ByteArray.empty, .bool false, .int .u64 0]), 5, 64) := by kernel_rfl
theorem one_page (lv : Int) (A : Option Addr) (n c : Nat) (hi : ByteArray) (la : Bool) (rt : Int) : ∀ u ∈ [Value.int .i64 lv, .slice A n c, .string hi, .bool la, .int .u64 rt], u.oneCell' = true := by
  intro u hu; simp at hu; rcases hu with rfl | rfl | rfl | rfl | rfl <;> rfl

set_option maxRecDepth 100000 in
set_option maxHeartbeats 8000000 in
theorem lawVal (w : World) (f : Int) (F : Nat) (h4 : 4 ≤ F) (h6 : F ≤ 6) (hf : 4 + f % 3 = (F : Int)) (pA : Option Addr) (pC N : Nat) (rs : List Rp) (hrs : rs.length = N) (hRw : Raws w pA rs) (kA : Option Addr) (kC np : Nat) (ps : List Nat) (hps : ps.length = np) (hpx : ∀ x ∈ ps, x < 256) (hpc : 0 < ps.length → ∃ g off, kA = some ⟨g, off, none⟩ ∧ g < w.heap.size ∧ ∀ (j x : Nat), ps[j]? = some x → w.cell? ⟨g, off + j, none⟩ = some (.int .u8 (x : Int))) :
    Calls Try.prog 4 #[.int .i64 f, .slice pA N pC, .slice kA np kC] w fun e w' => e = .returned (.bool true) ∧ Below w.heap.size w w' := by
  have HRW := Lib.hid hRw
  clear hRw
  have HK := Lib.hid (Kept.refl (fun _ => False) w)
  go_enter Try.func4, Try.ntmps4
  go_wp2_with fail
  refine (kitConfig_any 1 f F hf _).mono ?_; rintro e w1 ⟨rfl, hK1⟩
  replace HK := Lib.hid (HK.out.trans hK1 (fun _ _ h => h.elim))
  clear hK1
  go_wp2_with fail
  have hal := (Kept.refl (fun _ => False) w1).alloc (.cells #[.int .i64 1, .int .i64 2, .int .i64 100, .int .i64 100, .int .i64 200, .int .i64 (F : Int), .int .u64 1000] 27)
  have B9 := Lib.hid (Blk.new w1 [.int .i64 1, .int .i64 2, .int .i64 100, .int .i64 100, .int .i64 200, .int .i64 (F : Int), .int .u64 1000] 27)
  replace HK := Lib.hid (HK.out.trans hal (fun _ _ h => h.elim))
  clear hal
  generalize w1.alloc (.cells #[.int .i64 1, .int .i64 2, .int .i64 100, .int .i64 100, .int .i64 200, .int .i64 (F : Int), .int .u64 1000] 27) = W1 at *
  generalize w1.heap.size = b9 at *
  refine (kitMem F h4 h6 _).mono ?_
  intro e w2 hok
  obtain ⟨b, g, l, fb, fd, rfl, hM2, hS2, hd, hb2, hg2, hK2⟩ := hok
  have HM := Lib.hid hM2
  have HST := Lib.hid hS2
  have HD := Lib.hid hd
  have HBG := Lib.hid (show w.heap.size ≤ b ∧ w.heap.size ≤ g ∧ b9 < b ∧ b9 < g by have := HK.out.size; have := B9.out.lt; omega)
  replace B9 := Lib.hid (hK2.blk B9.out (fun h => h))
  replace HK := Lib.hid (HK.out.trans hK2 (fun _ _ h => h.elim))
  clear hM2 hS2 hd hb2 hg2 hK2
  go_wp2_with fail
  have hal := (Kept.refl (fun _ => False) w2).alloc (.cells #[.int .i64 1, .int .i64 2, .int .i64 100, .int .i64 100, .int .i64 200, .int .i64 (F : Int), .int .u64 1000, .int .i64 10, .int .i64 fb, .int .i64 fd] 30)
  have B10 := Lib.hid (Blk.new w2 [.int .i64 1, .int .i64 2, .int .i64 100, .int .i64 100, .int .i64 200, .int .i64 (F : Int), .int .u64 1000, .int .i64 10, .int .i64 fb, .int .i64 fd] 30)
  have HN10 := Lib.hid (show ¬ Own b g w2.heap.size by have := HM.out.obj.lt; have := HM.out.row.lt; unfold Own; omega)
  replace B9 := Lib.hid (hal.blk B9.out (fun h => h))
  replace HM := Lib.hid (HM.out.kept hal (fun h => h) (fun h => h))
  replace HK := Lib.hid (HK.out.trans hal (fun _ _ h => h.elim))
  clear hal
  generalize w2.alloc (.cells #[.int .i64 1, .int .i64 2, .int .i64 100, .int .i64 100, .int .i64 200, .int .i64 (F : Int), .int .u64 1000, .int .i64 10, .int .i64 fb, .int .i64 fd] 30) = W2 at *
  generalize w2.heap.size = b10 at *
  refine (awake_any _).mono ?_; rintro e w4 ⟨rfl, hK4⟩
  replace B9 := Lib.hid (hK4.blk B9.out (fun h => h))
  replace B10 := Lib.hid (hK4.blk B10.out (fun h => h))
  replace HM := Lib.hid (HM.out.kept hK4 (fun h => h) (fun h => h))
  replace HK := Lib.hid (HK.out.trans hK4 (fun _ _ h => h.elim))
  clear hK4
  have E := Lib.hid (show Ev w w4 F fb fd b g b9 b10 from ⟨B9.out, B10.out, HK.out, ⟨HBG.out.1, HBG.out.2.1⟩, by have := HBG.out; unfold Own; omega, HN10.out⟩)
  clear B9 B10 HK HN10
  by_cases hN8 : N ≤ 8
  case neg =>
    have hN9 : (8 : Int) < (N : Int) := by omega
    go_wp2_with fail
    refine (awake_any _).mono ?_; rintro e w5 ⟨rfl, hK5⟩
    go_wp2
    go_ret
    exact ⟨rfl, (E.out.none hK5).kept.below (Nat.le_refl _) (fun _ h => h.elim)⟩
  by_cases hp3 : np ≤ 300
  case neg =>
    have hp4 : (300 : Int) < (np : Int) := by omega
    have hN9 : (N : Int) ≤ 8 := by omega
    go_wp2_with fail
    refine (awake_any _).mono ?_; rintro e w5 ⟨rfl, hK5⟩
    go_wp2
    go_ret
    exact ⟨rfl, (E.out.none hK5).kept.below (Nat.le_refl _) (fun _ h => h.elim)⟩
  have hN9 : (N : Int) ≤ 8 := by omega
  have hp4 : (np : Int) ≤ 300 := by omega
  go_wp2_with fail
  refine (lock_of 0 1 (by omega) (by rfl) _).mono ?_; rintro e w8 ⟨rfl, rfl⟩
  go_upto_region 6 with fail
  have hal := (Kept.refl (fun _ => False) w4).alloc (.cells #[.int .u64 1, .int .u64 1, .int .i64 0, .slice none 0 0, .string ⟨#[]⟩, .bool true, .int .u64 0] 48)
  have HBH := Lib.hid (Blk.new w4 [.int .u64 1, .int .u64 1, .int .i64 0, .slice none 0 0, .string ⟨#[]⟩, .bool true, .int .u64 0] 48)
  have HO := Lib.hid (show w.heap.size ≤ w4.heap.size ∧ b < w4.heap.size ∧ g < w4.heap.size ∧ b9 < w4.heap.size ∧ b10 < w4.heap.size from ⟨E.out.kept.size, HM.out.obj.lt, HM.out.row.lt, E.out.cfg.lt, E.out.lay.lt⟩)
  replace E := Lib.hid (E.out.none hal)
  replace HM := Lib.hid (HM.out.kept hal (fun h => h) (fun h => h))
  clear hal
  generalize w4.alloc (.cells #[.int .u64 1, .int .u64 1, .int .i64 0, .slice none 0 0, .string ⟨#[]⟩, .bool true, .int .u64 0] 48) = W4 at *
  generalize w4.heap.size = bh at *
  have x0 := E.out.cfg.cell (i := 0) rfl
  have x1 := E.out.cfg.cell (i := 1) rfl
  have x2 := E.out.cfg.cell (i := 2) rfl
  have x3 := E.out.cfg.cell (i := 3) rfl
  have x4 := E.out.cfg.cell (i := 4) rfl
  have x5 := E.out.cfg.cell (i := 5) rfl
  have x6 := E.out.cfg.cell (i := 6) rfl
  go_wp2_with fail
  refine (ref_to F 1 0 h4 h6 (by omega) (nla F 1) rfl _).mono ?_; rintro e w5 ⟨rfl, hK5⟩
  clear x0 x1 x2 x3 x4 x5 x6
  replace E := Lib.hid (E.out.none hK5)
  replace HM := Lib.hid (HM.out.kept hK5 (fun h => h) (fun h => h))
  replace HBH := Lib.hid (hK5.blk HBH.out (fun h => h))
  clear hK5
  obtain ⟨la0, hla0⟩ : ∃ x, nla F 1 = x := ⟨_, rfl⟩
  rw [hla0]
  have HLA := Lib.hid hla0
  clear hla0
  go_wp2_with fail
  refine (lock_of 0 1 (by omega) (by rfl) _).mono ?_; rintro e w8 ⟨rfl, rfl⟩
  go_wp2_with fail
  refine (poke_any b g l 0 la0 1 0 ⟨#[]⟩ _ HM.out).mono ?_; rintro e w6 ⟨rfl, hM6, hK6⟩
  obtain ⟨l6, hl6⟩ : ∃ x, putAt l la0 ((1 : Int), (⟨#[]⟩ : ByteArray), (0 : Int)) = x := ⟨_, rfl⟩
  rw [hl6] at hM6
  have HADS := Lib.hid (HST.out.ads (nid := 1) h4 h6 (by omega) (by omega))
  have HN6 := Lib.hid (show Nats l6 by rw [← hl6]; exact HST.out.nats.put _ ⟨1, 0, _, rfl, by omega, by omega⟩)
  have HL6 := Lib.hid (show l6.length = l.length by rw [← hl6, putAt_length])
  have HND := Lib.hid (show Nd1 F l6 pg0 0 false from ⟨fun _ => ⟨fun r hr => by
      have hr3 : r < 3 := hr
      have hne := HADS.out.ne r (by omega)
      rw [← hl6, ← HLA.out, cellAt_other (Ne.symm hne)]; exact (HST.out.one h4 h6).1 r hr, by
      rw [← hl6, ← HLA.out, cellAt_same HADS.out.lat]; rfl⟩, fun e => (by cases e)⟩)
  replace E := Lib.hid (E.out.own hK6)
  replace HM := Lib.hid hM6
  replace HBH := Lib.hid (hK6.blk HBH.out (fun e => by have := HO.out; unfold Own at e; omega))
  clear hl6 hM6 hK6
  have y0 := HBH.out.cell (i := 0) rfl
  have y1 := HBH.out.cell (i := 1) rfl
  have y2 := HBH.out.cell (i := 2) rfl
  have y3 := HBH.out.cell (i := 3) rfl
  have y4 := HBH.out.cell (i := 4) rfl
  have y5 := HBH.out.cell (i := 5) rfl
  have y6 := HBH.out.cell (i := 6) rfl
  go_upto_region 9 with fail
  clear y0 y1 y2 y3 y4 y5 y6
  have hal := (Kept.refl (fun _ => False) w6).alloc (.cells #[.int .i64 0, .slice none 0 0, .string ⟨#[]⟩, .bool true, .int .u64 0] 25)
  have HGH := Lib.hid (Blk.new w6 [.int .i64 0, .slice none 0 0, .string ⟨#[]⟩, .bool true, .int .u64 0] 25)
  have HO2 := Lib.hid (show bh < w6.heap.size ∧ b < w6.heap.size ∧ g < w6.heap.size ∧ b9 < w6.heap.size ∧ b10 < w6.heap.size ∧ w.heap.size ≤ w6.heap.size from ⟨HBH.out.lt, HM.out.obj.lt, HM.out.row.lt, E.out.cfg.lt, E.out.lay.lt, E.out.kept.size⟩)
  replace E := Lib.hid (E.out.none hal)
  replace HM := Lib.hid (HM.out.kept hal (fun h => h) (fun h => h))
  replace HBH := Lib.hid (hal.blk HBH.out (fun h => h))
  clear hal
  generalize w6.alloc (.cells #[.int .i64 0, .slice none 0 0, .string ⟨#[]⟩, .bool true, .int .u64 0] 25) = W6 at *
  generalize w6.heap.size = gh at *
  have x0 := E.out.lay.cell (i := 0) rfl
  have x1 := E.out.lay.cell (i := 1) rfl
  have x2 := E.out.lay.cell (i := 2) rfl
  have x3 := E.out.lay.cell (i := 3) rfl
  have x4 := E.out.lay.cell (i := 4) rfl
  have x5 := E.out.lay.cell (i := 5) rfl
  have x6 := E.out.lay.cell (i := 6) rfl
  have x7 := E.out.lay.cell (i := 7) rfl
  have x8 := E.out.lay.cell (i := 8) rfl
  have x9 := E.out.lay.cell (i := 9) rfl
  go_wp2_with fail
  refine (newRead_any 1 2 100 100 200 F 1000 10 fb fd (limF h4 h6) HD.out 1 _).mono ?_; rintro e w7 ⟨qr, rfl, hC9, hq9, hK9⟩
  clear x0 x1 x2 x3 x4 x5 x6 x7 x8 x9
  have HO3 := Lib.hid (show gh < W6.heap.size from HGH.out.lt)
  replace E := Lib.hid (E.out.none hK9)
  replace HM := Lib.hid (HM.out.kept hK9 (fun h => h) (fun h => h))
  replace HBH := Lib.hid (hK9.blk HBH.out (fun h => h))
  replace HGH := Lib.hid (hK9.blk HGH.out (fun h => h))
  have HV := Lib.hid (vstart (n0 := l.length) E.out HM.out HN6.out HL6.out HND.out HBH.out HGH.out (show Rd (fun i => i = qr) w7 F fb fd qr 1 rst0 from hC9) (by have := HO.out; have := HO2.out; have := HO3.out; omega) (by have := HO.out; have := HO2.out; have := HO3.out; omega) (by have := HO.out; have := HO2.out; have := HO3.out; omega) (by have := HO.out; have := HO2.out; have := HO3.out; omega) (by have := HO.out; have := HO2.out; have := HO3.out; omega) 0 0 pg0)
  obtain ⟨n0, hn0⟩ : ∃ x, l.length = x := ⟨_, rfl⟩
  rw [hn0] at HV HADS
  clear hC9 hq9 hK9 hn0 E HM HBH HGH HO HO2 HO3 HST HN6 HL6 HND HLA HBG
  go_wp2_with fail
  go_loopw [11, 12, 13, 14, 15, 16] (fun v11 v12 v13 v14 v15 v16 wr => ∃ (t gh cap C fr qr a qw r nx k : Nat) (P Q Ph : Pg) (Ah : Option Addr) (c : Nat), v11 = .slice (some ⟨gh, 0, none⟩) (nx + 1) cap ∧ v12 = .pointer (wp t qw) ∧ v13 = .pointer (some ⟨qr, 0, none⟩) ∧ v14 = .int .i64 (fr : Int) ∧ v15 = .int .i64 (nx : Int) ∧ v16 = .int .i64 (k : Int) ∧ k ≤ np + 900 ∧ Rn N t C nx r a (2 * k) ∧ (potv N nx r = 0 ∨ potv N nx r + (k - np) ≤ 88) ∧ VV (fun _ => False) t false w F fb fd b g b9 b10 bh n0 wr gh cap (nx + 1) C fr qr a P qw r Q Ph Ah c) (fun _ _ _ _ _ v _ => 2000 - (intOf v).toNat)
  case atStart => exact ⟨0, gh, 1, 0, 0, qr, 0, 0, 0, 0, 0, pg0, pg0, pg0, none, 0, rfl, rfl, rfl, rfl, rfl, rfl, by omega, ⟨.inl ⟨rfl, rfl, rfl⟩, by omega, by omega⟩, by unfold potv; omega, HV.out⟩
  case round =>
    obtain ⟨t, gh, cap, C, fr, qr, a, qw, r, nx, k, P, Q, Ph, Ah, c, rfl, rfl, rfl, rfl, rfl, rfl, hk9, hRn, hPt, hV⟩ := hrel
    clear HV
    rename World => wr
    have HV := Lib.hid hV
    have HRN := Lib.hid hRn
    have HPT := Lib.hid hPt
    have hnx : nx ≤ N := hRn.nx
    clear hV hRn hPt
    by_cases hk : k < np + 900
    · obtain ⟨x, hx⟩ : ∃ x : Nat, (k < np → ps[k]? = some x) ∧ x < 256 := by
        by_cases h : k < np
        · exact ⟨ps[k]'(by omega), fun _ => List.getElem?_eq_getElem _, hpx _ (List.getElem_mem _)⟩
        · exact ⟨0, fun h' => absurd h' h, by omega⟩
      obtain ⟨m3, hm3⟩ : ∃ m : Nat, x % 3 = m := ⟨_, rfl⟩
      have hm4 : (x : Int).tmod 3 = (m3 : Int) := by rw [← hm3]; rfl
      have hm5 : (x : Int) % 3 = (m3 : Int) := by omega
      have hm6 : m3 < 3 := by omega
      obtain ⟨dA, hdA⟩ : ∃ d : Bool, (decide (np ≤ k) || decide (m3 = 0)) = d := ⟨_, rfl⟩
      obtain ⟨dB, hdB⟩ : ∃ d : Bool, (decide (np ≤ k) || !decide (m3 = 0)) = d := ⟨_, rfl⟩
      have HX := Lib.hid hx
      have HDA := Lib.hid hdA
      have HDB := Lib.hid hdB
      have HPK := Lib.hid (show np ≤ k → dA = true ∧ dB = true from fun h => by rw [← hdA, ← hdB]; simp [h])
      clear hx hdA hdB hm3
      go_upto_region 13 with fail
      go_cut [77] from 59 to 149 (fun v wx => v = .bool dA ∧ wx = wr)
      case first =>
        by_cases hnp : np ≤ k
        · obtain rfl : dA = true := by rw [← HDA.out]; simp [hnp]
          have hnp2 : (np : Int) ≤ (k : Int) := by omega
          go_wp2
          go_meet
          exact ⟨rfl, rfl⟩
        · obtain ⟨pg, off, rfl, hpg, hpcell⟩ := hpc (by omega)
          have hpck : wr.cell? ⟨pg, off + k, none⟩ = some (.int .u8 (x : Int)) := (HV.out.ev.kept.cell (p := ⟨pg, off + k, none⟩) hpg (fun h => h)).trans (hpcell k x (HX.out.1 (by omega)))
          have hx256 : (x : Int) < 256 := by have := HX.out.2; omega
          have hnp2 : ¬ (np : Int) ≤ (k : Int) := by omega
          have hnp3 : (k : Int) < (np : Int) := by omega
          clear hpcell
          by_cases hm0 : m3 = 0
          · obtain rfl : dA = true := by rw [← HDA.out]; simp [hnp, hm0]
            subst hm0
            go_wp2
            go_meet
            exact ⟨rfl, rfl⟩
          · obtain rfl : dA = false := by rw [← HDA.out]; simp [hnp, hm0]
            have hm7 : ((m3 : Int) == 0) = false := by simp; omega
            have hm9 : ((m3 : Int) != 0) = true := by simp; omega
            have hm8 : ¬ (m3 : Int) = 0 := by omega
            go_wp2
            go_meet
            exact ⟨rfl, rfl⟩
      case rest =>
        obtain ⟨rfl, hwx⟩ := hcut
        subst hwx
        rename World => wr
        go_upto_if 77 with fail
        go_cut [11, 12, 15] from 59 to 149 (fun v11 v12 v15 wx => ∃ (t' gh' cap' C' a' qw' r' nx' : Nat) (P' Q' Ph' : Pg) (Ah' : Option Addr) (c' : Nat), v11 = .slice (some ⟨gh', 0, none⟩) (nx' + 1) cap' ∧ v12 = .pointer (wp t' qw') ∧ v15 = .int .i64 (nx' : Int) ∧ Rn N t' C' nx' r' a' (2 * k + 1) ∧ potv N nx' r' ≤ potv N nx r ∧ (dA = true → potv N nx' r' = 0 ∨ potv N nx' r' + 1 ≤ potv N nx r) ∧ VV (fun _ => False) t' false w F fb fd b g b9 b10 bh n0 wx gh' cap' (nx' + 1) C' fr qr a' P' qw' r' Q' Ph' Ah' c')
        case first =>
          cases dA with
          | false =>
            go_wp2_with fail
            go_meet
            exact ⟨t, gh, cap, C, a, qw, r, nx, P, Q, Ph, Ah, c, rfl, rfl, rfl, ⟨HRN.out.t, HRN.out.nx, by have := HRN.out.a; omega⟩, Nat.le_refl _, fun h => (by cases h), HV.out⟩
          | true =>
            rcases HRN.out.t with h | h
            · obtain ⟨rfl, rfl, rfl⟩ := h
              have e0 : wp 0 qw = none := rfl
              rw [e0]
              by_cases hnN : C < N
              · obtain ⟨x1, hx1⟩ : ∃ x, rs[C]? = some x := ⟨_, List.getElem?_eq_getElem (by omega)⟩
                obtain ⟨pg, off, rfl, hpg, hpcell⟩ := HRW.out.row (by omega)
                have HPG := Lib.hid hpg
                have HX1 := Lib.hid (List.mem_of_getElem? hx1)
                have HR1 := Lib.hid (HRW.out.sl x1 HX1.out)
                obtain ⟨Pn, hPn⟩ : ∃ P, cut F 0 x1.hi x1.la x1.rt x1.xs = P := ⟨_, rfl⟩
                have HGD := Lib.hid (HRW.out.good (F := F) (by omega) HX1.out hPn)
                have HPC := Lib.hid hPn
                have HP0 := Lib.hid (show w.cell? ⟨pg, off + C * 5, none⟩ = some (.int .i64 x1.lv) from hpcell C 0 x1 _ hx1 rfl)
                have HP1 := Lib.hid (show w.cell? ⟨pg, off + C * 5 + 1, none⟩ = some (.slice x1.A x1.xs.length x1.c) from hpcell C 1 x1 _ hx1 rfl)
                have HP2 := Lib.hid (show w.cell? ⟨pg, off + C * 5 + 2, none⟩ = some (.string x1.hi) from hpcell C 2 x1 _ hx1 rfl)
                have HP3 := Lib.hid (show w.cell? ⟨pg, off + C * 5 + 3, none⟩ = some (.bool x1.la) from hpcell C 3 x1 _ hx1 rfl)
                have HP4 := Lib.hid (show w.cell? ⟨pg, off + C * 5 + 4, none⟩ = some (.int .u64 (x1.rt : Int)) from hpcell C 4 x1 _ hx1 rfl)
                clear hPn hx1 hpcell hpg
                have hnI : (C : Int) < (N : Int) := by omega
                obtain ⟨hPP, hRI, hBI⟩ := HV.out.idle
                subst hPP
                have HBI := Lib.hid hBI
                clear hRI hBI
                go_upto_region 15 with fail
                have hdr := (Kept.refl (fun _ => False) wr).drew
                replace HV := Lib.hid ((HV.out.none hdr).less (S2 := fun _ => False) (fun _ h => h.elim))
                replace HBI := Lib.hid (hdr.blk HBI.out (fun h => h))
                clear hdr
                refine wp_region_held_drew (S := (fun w' => Blk w' b9 27 [.int .i64 1, .int .i64 2, .int .i64 100, .int .i64 100, .int .i64 200, .int .i64 (F : Int), .int .u64 1000] ∧ Blk w' b10 30 [.int .i64 1, .int .i64 2, .int .i64 100, .int .i64 100, .int .i64 200, .int .i64 (F : Int), .int .u64 1000, .int .i64 10, .int .i64 fb, .int .i64 fd] ∧ Blk w' bh 48 [.int .u64 1, .int .u64 ((1 + 4 * C : Nat) : Int), .int .i64 (Ph.lv : Int), .slice Ah Ph.xs.length c, .string Ph.hi, .bool Ph.la, .int .u64 (Ph.rt : Int)] ∧ w'.cell? ⟨pg, off + C * 5, none⟩ = some (.int .i64 x1.lv) ∧ w'.cell? ⟨pg, off + C * 5 + 1, none⟩ = some (.slice x1.A x1.xs.length x1.c) ∧ w'.cell? ⟨pg, off + C * 5 + 2, none⟩ = some (.string x1.hi) ∧ w'.cell? ⟨pg, off + C * 5 + 3, none⟩ = some (.bool x1.la) ∧ w'.cell? ⟨pg, off + C * 5 + 4, none⟩ = some (.int .u64 (x1.rt : Int)))) (by kernel_rfl) ?_ (fun hHeld => ?_)
                · exact ⟨HV.out.ev.cfg, HV.out.ev.lay, HBI.out, (HV.out.ev.kept.cell (p := ⟨pg, off + C * 5, none⟩) HPG.out (fun h => h)).trans HP0.out, (HV.out.ev.kept.cell (p := ⟨pg, off + C * 5 + 1, none⟩) HPG.out (fun h => h)).trans HP1.out, (HV.out.ev.kept.cell (p := ⟨pg, off + C * 5 + 2, none⟩) HPG.out (fun h => h)).trans HP2.out, (HV.out.ev.kept.cell (p := ⟨pg, off + C * 5 + 3, none⟩) HPG.out (fun h => h)).trans HP3.out, (HV.out.ev.kept.cell (p := ⟨pg, off + C * 5 + 4, none⟩) HPG.out (fun h => h)).trans HP4.out⟩
                generalize wr.drew = G at *
                refine wpAnyH_take (i := 0) (oi := ⟨some 86, _, _, _, _, _⟩) (v := ?_) rfl (by kernel_rfl) (by kernel_rfl) (by kernel_rfl) (fun _ _ _ h => h) (Or.inl ⟨by rfl, ?_⟩) hHeld ?_
                rotate_left
                · (intro wq hSw; obtain ⟨h1, h2, h3, d0, d1, d2, d3, d4⟩ := hSw; have x0c := h1.cell (i := 0) rfl; have x1c := h1.cell (i := 1) rfl; have x2c := h1.cell (i := 2) rfl; have x3c := h1.cell (i := 3) rfl; have x4c := h1.cell (i := 4) rfl; have x5c := h1.cell (i := 5) rfl; have x6c := h1.cell (i := 6) rfl; have v0c := h2.cell (i := 0) rfl; have v1c := h2.cell (i := 1) rfl; have v2c := h2.cell (i := 2) rfl; have v3c := h2.cell (i := 3) rfl; have v4c := h2.cell (i := 4) rfl; have v5c := h2.cell (i := 5) rfl; have v6c := h2.cell (i := 6) rfl; have v7c := h2.cell (i := 7) rfl; have v8c := h2.cell (i := 8) rfl; have v9c := h2.cell (i := 9) rfl; have y0c := h3.cell (i := 0) rfl; have y1c := h3.cell (i := 1) rfl; have y2c := h3.cell (i := 2) rfl; have y3c := h3.cell (i := 3) rfl; have y4c := h3.cell (i := 4) rfl; have y5c := h3.cell (i := 5) rfl; have y6c := h3.cell (i := 6) rfl; clear h1 h2 h3; go_simp; try with_reducible rfl)
                try simp only [Act.put, List.setIfInBounds_toArray, List.set_cons_zero, List.set_cons_succ]
                refine wpAnyH_take (i := 1) (oi := ⟨some 87, _, _, _, _, _⟩) (v := ?_) rfl (by kernel_rfl) (by kernel_rfl) (by kernel_rfl) (fun _ _ _ h => h) (Or.inl ⟨by rfl, ?_⟩) hHeld ?_
                rotate_left
                · (intro wq hSw; obtain ⟨h1, h2, h3, d0, d1, d2, d3, d4⟩ := hSw; have x0c := h1.cell (i := 0) rfl; have x1c := h1.cell (i := 1) rfl; have x2c := h1.cell (i := 2) rfl; have x3c := h1.cell (i := 3) rfl; have x4c := h1.cell (i := 4) rfl; have x5c := h1.cell (i := 5) rfl; have x6c := h1.cell (i := 6) rfl; have v0c := h2.cell (i := 0) rfl; have v1c := h2.cell (i := 1) rfl; have v2c := h2.cell (i := 2) rfl; have v3c := h2.cell (i := 3) rfl; have v4c := h2.cell (i := 4) rfl; have v5c := h2.cell (i := 5) rfl; have v6c := h2.cell (i := 6) rfl; have v7c := h2.cell (i := 7) rfl; have v8c := h2.cell (i := 8) rfl; have v9c := h2.cell (i := 9) rfl; have y0c := h3.cell (i := 0) rfl; have y1c := h3.cell (i := 1) rfl; have y2c := h3.cell (i := 2) rfl; have y3c := h3.cell (i := 3) rfl; have y4c := h3.cell (i := 4) rfl; have y5c := h3.cell (i := 5) rfl; have y6c := h3.cell (i := 6) rfl; clear h1 h2 h3; go_simp; try with_reducible rfl)
                try simp only [Act.put, List.setIfInBounds_toArray, List.set_cons_zero, List.set_cons_succ]
                refine wpAnyH_take (i := 2) (oi := ⟨some 88, _, _, _, _, _⟩) (v := ?_) rfl (by kernel_rfl) (by kernel_rfl) (by kernel_rfl) (fun _ _ _ h => h) (Or.inl ⟨by rfl, ?_⟩) hHeld ?_
                rotate_left
                · (intro wq hSw; obtain ⟨h1, h2, h3, d0, d1, d2, d3, d4⟩ := hSw; have x0c := h1.cell (i := 0) rfl; have x1c := h1.cell (i := 1) rfl; have x2c := h1.cell (i := 2) rfl; have x3c := h1.cell (i := 3) rfl; have x4c := h1.cell (i := 4) rfl; have x5c := h1.cell (i := 5) rfl; have x6c := h1.cell (i := 6) rfl; have v0c := h2.cell (i := 0) rfl; have v1c := h2.cell (i := 1) rfl; have v2c := h2.cell (i := 2) rfl; have v3c := h2.cell (i := 3) rfl; have v4c := h2.cell (i := 4) rfl; have v5c := h2.cell (i := 5) rfl; have v6c := h2.cell (i := 6) rfl; have v7c := h2.cell (i := 7) rfl; have v8c := h2.cell (i := 8) rfl; have v9c := h2.cell (i := 9) rfl; have y0c := h3.cell (i := 0) rfl; have y1c := h3.cell (i := 1) rfl; have y2c := h3.cell (i := 2) rfl; have y3c := h3.cell (i := 3) rfl; have y4c := h3.cell (i := 4) rfl; have y5c := h3.cell (i := 5) rfl; have y6c := h3.cell (i := 6) rfl; clear h1 h2 h3; go_simp; try with_reducible rfl)
                try simp only [Act.put, List.setIfInBounds_toArray, List.set_cons_zero, List.set_cons_succ]
                refine wpAnyH_take (i := 3) (oi := ⟨some 89, _, _, _, _, _⟩) (v := ?_) rfl (by kernel_rfl) (by kernel_rfl) (by kernel_rfl) (fun _ _ _ h => h) (Or.inl ⟨by rfl, ?_⟩) hHeld ?_
                rotate_left
                · (intro wq hSw; go_simp; try with_reducible rfl)
                try simp only [Act.put, List.setIfInBounds_toArray, List.set_cons_zero, List.set_cons_succ]
                refine wpAnyH_take (i := 4) (oi := ⟨some 90, _, _, _, _, _⟩) (v := ?_) rfl (by kernel_rfl) (by kernel_rfl) (by kernel_rfl) (fun _ _ _ h => h) (Or.inl ⟨by rfl, ?_⟩) hHeld ?_
                rotate_left
                · (intro wq hSw; go_simp; try with_reducible rfl)
                try simp only [Act.put, List.setIfInBounds_toArray, List.set_cons_zero, List.set_cons_succ]
                refine wpAnyH_take (i := 5) (oi := ⟨some 91, _, _, _, _, _⟩) (v := .pointer (some ⟨pg, off + C * 5, none⟩)) rfl (by kernel_rfl) (by kernel_rfl) (by kernel_rfl) (fun _ _ _ h => h) (Or.inl ⟨by rfl, ?_⟩) hHeld ?_
                · (intro wq hSw; go_simp; try first | (with_reducible rfl) | (simp; omega) | (intros; omega) | simp [*])
                try simp only [Act.put, List.setIfInBounds_toArray, List.set_cons_zero, List.set_cons_succ]
                refine wpAnyH_take (i := 6) (oi := ⟨some 92, _, _, _, _, _⟩) (v := ?_) rfl (by kernel_rfl) (by kernel_rfl) (by kernel_rfl) (fun _ _ _ h => h) (Or.inl ⟨by rfl, ?_⟩) hHeld ?_
                rotate_left
                · (intro wq hSw; obtain ⟨h1, h2, h3, d0, d1, d2, d3, d4⟩ := hSw; have x0c := h1.cell (i := 0) rfl; have x1c := h1.cell (i := 1) rfl; have x2c := h1.cell (i := 2) rfl; have x3c := h1.cell (i := 3) rfl; have x4c := h1.cell (i := 4) rfl; have x5c := h1.cell (i := 5) rfl; have x6c := h1.cell (i := 6) rfl; have v0c := h2.cell (i := 0) rfl; have v1c := h2.cell (i := 1) rfl; have v2c := h2.cell (i := 2) rfl; have v3c := h2.cell (i := 3) rfl; have v4c := h2.cell (i := 4) rfl; have v5c := h2.cell (i := 5) rfl; have v6c := h2.cell (i := 6) rfl; have v7c := h2.cell (i := 7) rfl; have v8c := h2.cell (i := 8) rfl; have v9c := h2.cell (i := 9) rfl; have y0c := h3.cell (i := 0) rfl; have y1c := h3.cell (i := 1) rfl; have y2c := h3.cell (i := 2) rfl; have y3c := h3.cell (i := 3) rfl; have y4c := h3.cell (i := 4) rfl; have y5c := h3.cell (i := 5) rfl; have y6c := h3.cell (i := 6) rfl; clear h1 h2 h3; go_simp; try with_reducible rfl)
                try simp only [Act.put, List.setIfInBounds_toArray, List.set_cons_zero, List.set_cons_succ]
                refine wpAnyH_ready (rs := [7]) (by kernel_rfl) (by simp) ?_
                refine AllReadyH.cons (o := ⟨some 93, _, _, _, _, _⟩) rfl (fun KK hK => ?_) AllReadyH.nil
                go_simp
                go_at_call 11
                refine (content_any F x1.lv x1.A x1.c x1.hi x1.la x1.rt x1.xs 0 _ x1.xs.length rfl (by omega) ((HR1.out).keptF HV.out.ev.kept (fun _ _ h => h)) Pn HPC.out).mono ?_; rintro e v1 ⟨A5, c5, rfl, hRc, hAc, hKc⟩
                replace HV := Lib.hid ((HV.out.none hKc).less (S2 := fun _ => False) (fun _ h => h.elim))
                replace HBI := Lib.hid (hKc.blk HBI.out (fun h => h))
                have HR5 := Lib.hid hRc
                clear hRc hAc hKc
                refine hK.out _ _ ?_ (fun hHeld2 => ?_)
                · exact ⟨HV.out.ev.cfg, HV.out.ev.lay, HBI.out, (HV.out.ev.kept.cell (p := ⟨pg, off + C * 5, none⟩) HPG.out (fun h => h)).trans HP0.out, (HV.out.ev.kept.cell (p := ⟨pg, off + C * 5 + 1, none⟩) HPG.out (fun h => h)).trans HP1.out, (HV.out.ev.kept.cell (p := ⟨pg, off + C * 5 + 2, none⟩) HPG.out (fun h => h)).trans HP2.out, (HV.out.ev.kept.cell (p := ⟨pg, off + C * 5 + 3, none⟩) HPG.out (fun h => h)).trans HP3.out, (HV.out.ev.kept.cell (p := ⟨pg, off + C * 5 + 4, none⟩) HPG.out (fun h => h)).trans HP4.out⟩
                clear hK KK hHeld
                have hHeld := hHeld2
                clear hHeld2
                try simp only [Act.put, List.setIfInBounds_toArray, List.set_cons_zero, List.set_cons_succ]
                refine wpAnyH_ready (rs := [8]) (by kernel_rfl) (by simp) ?_
                refine AllReadyH.cons (o := ⟨some 94, _, _, _, _, _⟩) rfl (fun KK hK => ?_) AllReadyH.nil
                go_simp
                go_at_call 20
                refine (vnewwrite HV.out h4 h6 HD.out (by omega) rfl HR5.out HGD.out _ (by omega)).mono ?_; rintro e v2 ⟨q, r2, rfl, hr2, hr11, hKw, hV⟩
                clear HV
                have HV := Lib.hid hV
                clear hV
                replace HBI := Lib.hid (hKw.blk HBI.out (fun h => h))
                clear hKw HR5
                refine hK.out _ _ ?_ (fun hHeld2 => ?_)
                · exact ⟨HV.out.ev.cfg, HV.out.ev.lay, HBI.out, (HV.out.ev.kept.cell (p := ⟨pg, off + C * 5, none⟩) HPG.out (fun h => h)).trans HP0.out, (HV.out.ev.kept.cell (p := ⟨pg, off + C * 5 + 1, none⟩) HPG.out (fun h => h)).trans HP1.out, (HV.out.ev.kept.cell (p := ⟨pg, off + C * 5 + 2, none⟩) HPG.out (fun h => h)).trans HP2.out, (HV.out.ev.kept.cell (p := ⟨pg, off + C * 5 + 3, none⟩) HPG.out (fun h => h)).trans HP3.out, (HV.out.ev.kept.cell (p := ⟨pg, off + C * 5 + 4, none⟩) HPG.out (fun h => h)).trans HP4.out⟩
                clear hK KK hHeld
                have hHeld := hHeld2
                clear hHeld2
                try simp only [Act.put, List.setIfInBounds_toArray, List.set_cons_zero, List.set_cons_succ]
                refine wpAnyH_take (i := 9) (oi := ⟨some 12, _, _, _, _, _⟩) (v := ?_) rfl (by kernel_rfl) (by kernel_rfl) (by kernel_rfl) (fun _ _ _ h => h) (Or.inl ⟨by rfl, ?_⟩) hHeld ?_
                rotate_left
                · (intro wq hSw; go_simp; try with_reducible rfl)
                try simp only [Act.put, List.setIfInBounds_toArray, List.set_cons_zero, List.set_cons_succ]
                refine wpAnyH_done (by kernel_rfl) ?_ _
                clear hHeld
                clear HBI
                go_upto_region 16 with fail
                have hdr := (Kept.refl (fun _ => False) v2).drew
                replace HV := Lib.hid ((HV.out.none hdr).less (S2 := fun _ => False) (fun _ h => h.elim))
                clear hdr
                obtain ⟨i0, hi0, hz0, hz1, hz2⟩ := info_parts infoPage
                have HI0 := Lib.hid hi0
                have HI1 := Lib.hid hz0
                have HI2 := Lib.hid hz1
                have HI3 := Lib.hid hz2
                clear hi0 hz0 hz1 hz2
                refine wp_region_held_drew (S := (fun w' => Blk w' b9 27 [.int .i64 1, .int .i64 2, .int .i64 100, .int .i64 100, .int .i64 200, .int .i64 (F : Int), .int .u64 1000] ∧ w'.cell? ⟨pg, off + C * 5, none⟩ = some (.int .i64 x1.lv) ∧ w'.cell? ⟨pg, off + C * 5 + 1, none⟩ = some (.slice x1.A x1.xs.length x1.c) ∧ w'.cell? ⟨pg, off + C * 5 + 2, none⟩ = some (.string x1.hi) ∧ w'.cell? ⟨pg, off + C * 5 + 3, none⟩ = some (.bool x1.la) ∧ w'.cell? ⟨pg, off + C * 5 + 4, none⟩ = some (.int .u64 (x1.rt : Int)))) (by kernel_rfl) ?_ (fun hHeld => ?_)
                · exact ⟨HV.out.ev.cfg, (HV.out.ev.kept.cell (p := ⟨pg, off + C * 5, none⟩) HPG.out (fun h => h)).trans HP0.out, (HV.out.ev.kept.cell (p := ⟨pg, off + C * 5 + 1, none⟩) HPG.out (fun h => h)).trans HP1.out, (HV.out.ev.kept.cell (p := ⟨pg, off + C * 5 + 2, none⟩) HPG.out (fun h => h)).trans HP2.out, (HV.out.ev.kept.cell (p := ⟨pg, off + C * 5 + 3, none⟩) HPG.out (fun h => h)).trans HP3.out, (HV.out.ev.kept.cell (p := ⟨pg, off + C * 5 + 4, none⟩) HPG.out (fun h => h)).trans HP4.out⟩
                generalize v2.drew = G2 at *
                refine wpAnyH_take (i := 0) (oi := ⟨some 95, _, _, _, _, _⟩) (v := ?_) rfl (by kernel_rfl) (by kernel_rfl) (by kernel_rfl) (fun _ _ _ h => h) (Or.inl ⟨by rfl, ?_⟩) hHeld ?_
                rotate_left
                · (intro wq hSw; go_simp; try with_reducible rfl)
                try simp only [Act.put, List.setIfInBounds_toArray, List.set_cons_zero, List.set_cons_succ]
                refine wpAnyH_take (i := 1) (oi := ⟨some 96, _, _, _, _, _⟩) (v := ?_) rfl (by kernel_rfl) (by kernel_rfl) (by kernel_rfl) (fun _ _ _ h => h) (Or.inl ⟨by rfl, ?_⟩) hHeld ?_
                rotate_left
                · (intro wq hSw; obtain ⟨h1, d0, d1, d2, d3, d4⟩ := hSw; have x0c := h1.cell (i := 0) rfl; have x1c := h1.cell (i := 1) rfl; have x2c := h1.cell (i := 2) rfl; have x3c := h1.cell (i := 3) rfl; have x4c := h1.cell (i := 4) rfl; have x5c := h1.cell (i := 5) rfl; have x6c := h1.cell (i := 6) rfl; clear h1; go_simp; try with_reducible rfl)
                try simp only [Act.put, List.setIfInBounds_toArray, List.set_cons_zero, List.set_cons_succ]
                refine wpAnyH_take (i := 2) (oi := ⟨some 97, _, _, _, _, _⟩) (v := ?_) rfl (by kernel_rfl) (by kernel_rfl) (by kernel_rfl) (fun _ _ _ h => h) (Or.inl ⟨by rfl, ?_⟩) hHeld ?_
                rotate_left
                · (intro wq hSw; go_simp; try with_reducible rfl)
                try simp only [Act.put, List.setIfInBounds_toArray, List.set_cons_zero, List.set_cons_succ]
                refine wpAnyH_take (i := 3) (oi := ⟨some 98, _, _, _, _, _⟩) (v := ?_) rfl (by kernel_rfl) (by kernel_rfl) (by kernel_rfl) (fun _ _ _ h => h) (Or.inl ⟨by rfl, ?_⟩) hHeld ?_
                rotate_left
                · (intro wq hSw; go_simp; try with_reducible rfl)
                try simp only [Act.put, List.setIfInBounds_toArray, List.set_cons_zero, List.set_cons_succ]
                refine wpAnyH_take (i := 4) (oi := ⟨some 99, _, _, _, _, _⟩) (v := .pointer (some ⟨pg, off + C * 5, none⟩)) rfl (by kernel_rfl) (by kernel_rfl) (by kernel_rfl) (fun _ _ _ h => h) (Or.inl ⟨by rfl, ?_⟩) hHeld ?_
                · (intro wq hSw; go_simp; try first | (with_reducible rfl) | (simp; omega) | (intros; omega) | simp [*])
                try simp only [Act.put, List.setIfInBounds_toArray, List.set_cons_zero, List.set_cons_succ]
                refine wpAnyH_take (i := 5) (oi := ⟨some 100, _, _, _, _, _⟩) (v := ?_) rfl (by kernel_rfl) (by kernel_rfl) (by kernel_rfl) (fun _ _ _ h => h) (Or.inl ⟨by rfl, ?_⟩) hHeld ?_
                rotate_left
                · (intro wq hSw; obtain ⟨h1, d0, d1, d2, d3, d4⟩ := hSw; have x0c := h1.cell (i := 0) rfl; have x1c := h1.cell (i := 1) rfl; have x2c := h1.cell (i := 2) rfl; have x3c := h1.cell (i := 3) rfl; have x4c := h1.cell (i := 4) rfl; have x5c := h1.cell (i := 5) rfl; have x6c := h1.cell (i := 6) rfl; clear h1; go_simp; try with_reducible rfl)
                try simp only [Act.put, List.setIfInBounds_toArray, List.set_cons_zero, List.set_cons_succ]
                refine wpAnyH_ready (rs := [6]) (by kernel_rfl) (by simp) ?_
                refine AllReadyH.cons (o := ⟨some 101, _, _, _, _, _⟩) rfl (fun KK hK => ?_) AllReadyH.nil
                go_simp
                go_at_call 11
                refine (content_any F x1.lv x1.A x1.c x1.hi x1.la x1.rt x1.xs 0 _ x1.xs.length rfl (by omega) ((HR1.out).keptF HV.out.ev.kept (fun _ _ h => h)) Pn HPC.out).mono ?_; rintro e v3 ⟨A6, c6, rfl, hRc, hAc, hKc⟩
                have hv := HV.out.none hKc
                have HS6 := Lib.hid (show 0 < Pn.xs.length → ∀ ad, A6 = some ad → (fun i => False ∨ (G2.heap.size ≤ i ∧ i < v3.heap.size)) ad.block from fun hp ad ha => .inr ⟨hAc ad ha, hRc.lt hp ad ha⟩)
                clear HV
                have HV := Lib.hid hv
                have HR6 := Lib.hid hRc
                clear hRc hAc hKc hv
                refine hK.out _ _ ?_ (fun hHeld2 => ?_)
                · exact ⟨HV.out.ev.cfg, (HV.out.ev.kept.cell (p := ⟨pg, off + C * 5, none⟩) HPG.out (fun h => h)).trans HP0.out, (HV.out.ev.kept.cell (p := ⟨pg, off + C * 5 + 1, none⟩) HPG.out (fun h => h)).trans HP1.out, (HV.out.ev.kept.cell (p := ⟨pg, off + C * 5 + 2, none⟩) HPG.out (fun h => h)).trans HP2.out, (HV.out.ev.kept.cell (p := ⟨pg, off + C * 5 + 3, none⟩) HPG.out (fun h => h)).trans HP3.out, (HV.out.ev.kept.cell (p := ⟨pg, off + C * 5 + 4, none⟩) HPG.out (fun h => h)).trans HP4.out⟩
                clear hK KK hHeld
                have hHeld := hHeld2
                clear hHeld2
                try simp only [Act.put, List.setIfInBounds_toArray, List.set_cons_zero, List.set_cons_succ]
                refine wpAnyH_ready (rs := [7]) (by kernel_rfl) (by simp) ?_
                refine AllReadyH.cons (o := ⟨some 102, _, _, _, _, _⟩) rfl (fun KK hK => ?_) AllReadyH.nil
                go_simp
                have HNb := Lib.hid (show (v3.alloc (.cells #[.int .i64 (Pn.lv : Int), .slice A6 Pn.xs.length c6, .string Pn.hi, .bool Pn.la, .int .u64 (Pn.rt : Int)] 25)).heap[v3.heap.size]? = some (.cells #[.int .i64 (Pn.lv : Int), .slice A6 Pn.xs.length c6, .string Pn.hi, .bool Pn.la, .int .u64 (Pn.rt : Int)] 25 (0, 0)) from Blk.new v3 [.int .i64 (Pn.lv : Int), .slice A6 Pn.xs.length c6, .string Pn.hi, .bool Pn.la, .int .u64 (Pn.rt : Int)] 25)
                have hal := (Kept.refl (fun _ => False) v3).alloc (.cells #[.int .i64 (Pn.lv : Int), .slice A6 Pn.xs.length c6, .string Pn.hi, .bool Pn.la, .int .u64 (Pn.rt : Int)] 25)
                replace HV := Lib.hid ((HV.out.none hal).less (fun i hi => .inl hi))
                replace HR6 := Lib.hid (HR6.out.keptF hal (fun _ _ h => h))
                clear hal
                generalize v3.alloc (.cells #[.int .i64 (Pn.lv : Int), .slice A6 Pn.xs.length c6, .string Pn.hi, .bool Pn.la, .int .u64 (Pn.rt : Int)] 25) = V at *
                generalize v3.heap.size = nb at *
                refine hK.out _ _ ?_ (fun hHeld2 => ?_)
                · exact ⟨HV.out.ev.cfg, (HV.out.ev.kept.cell (p := ⟨pg, off + C * 5, none⟩) HPG.out (fun h => h)).trans HP0.out, (HV.out.ev.kept.cell (p := ⟨pg, off + C * 5 + 1, none⟩) HPG.out (fun h => h)).trans HP1.out, (HV.out.ev.kept.cell (p := ⟨pg, off + C * 5 + 2, none⟩) HPG.out (fun h => h)).trans HP2.out, (HV.out.ev.kept.cell (p := ⟨pg, off + C * 5 + 3, none⟩) HPG.out (fun h => h)).trans HP3.out, (HV.out.ev.kept.cell (p := ⟨pg, off + C * 5 + 4, none⟩) HPG.out (fun h => h)).trans HP4.out⟩
                clear hK KK hHeld
                have hHeld := hHeld2
                clear hHeld2
                try simp only [Act.put, List.setIfInBounds_toArray, List.set_cons_zero, List.set_cons_succ]
                refine wpAnyH_ready (rs := [8]) (by kernel_rfl) (by simp) ?_
                refine AllReadyH.cons (o := ⟨some 103, _, _, _, _, _⟩) rfl (fun KK hK => ?_) AllReadyH.nil
                obtain ⟨xsH, hO, hApp⟩ := HV.out.app rfl HR6.out HS6.out
                refine step_append_lies _ (by rfl) (.tmp 95) (.tmp 102) 61 (by rfl) 0 25 i0 _ 5 64 Try.underlying61 HI0.out HI1.out HI2.out HI3.out rfl (by decide) (.slice (some ⟨gh, 0, none⟩) (C + 1) cap) (C + 1) xsH (by rfl) hO ⟨nb, 0, none⟩ 1 1 [.int .i64 (Pn.lv : Int), .slice A6 Pn.xs.length c6, .string Pn.hi, .bool Pn.la, .int .u64 (Pn.rt : Int)] (by rfl) (by rfl) (World.news_of_block HNb.out) (one_page _ _ _ _ _ _ _) (by omega) (by unfold maxLen; omega) (by omega) (Nat.zero_le _) _ rfl ?_
                intro g4 cap4 w4a hown4 hgrow4 hat4 hlt4
                have hV := hApp w4a g4 cap4 hown4 hgrow4 hat4
                clear hApp hO hown4 hgrow4 hat4 hlt4
                clear HV
                have HV := Lib.hid hV
                clear hV
                clear HNb HR6 HS6
                refine hK.out _ _ ?_ (fun hHeld2 => ?_)
                · exact ⟨HV.out.ev.cfg, (HV.out.ev.kept.cell (p := ⟨pg, off + C * 5, none⟩) HPG.out (fun h => h)).trans HP0.out, (HV.out.ev.kept.cell (p := ⟨pg, off + C * 5 + 1, none⟩) HPG.out (fun h => h)).trans HP1.out, (HV.out.ev.kept.cell (p := ⟨pg, off + C * 5 + 2, none⟩) HPG.out (fun h => h)).trans HP2.out, (HV.out.ev.kept.cell (p := ⟨pg, off + C * 5 + 3, none⟩) HPG.out (fun h => h)).trans HP3.out, (HV.out.ev.kept.cell (p := ⟨pg, off + C * 5 + 4, none⟩) HPG.out (fun h => h)).trans HP4.out⟩
                clear hK KK hHeld
                have hHeld := hHeld2
                clear hHeld2
                try simp only [Act.put, List.setIfInBounds_toArray, List.set_cons_zero, List.set_cons_succ]
                refine wpAnyH_take (i := 9) (oi := ⟨some 11, _, _, _, _, _⟩) (v := ?_) rfl (by kernel_rfl) (by kernel_rfl) (by kernel_rfl) (fun _ _ _ h => h) (Or.inl ⟨by rfl, ?_⟩) hHeld ?_
                rotate_left
                · (intro wq hSw; go_simp; try with_reducible rfl)
                try simp only [Act.put, List.setIfInBounds_toArray, List.set_cons_zero, List.set_cons_succ]
                refine wpAnyH_done (by kernel_rfl) ?_ _
                clear hHeld
                clear HI0 HI1 HI2 HI3
                go_wp2_with fail
                refine (vwstep HV.out HADS.out h6 (by omega) (by omega) (by have := HRN.out.a; omega)).mono ?_; rintro e w3 ⟨bb, rfl, hf, ht⟩
                cases bb with
                | false =>
                  obtain ⟨r3, hr3, h13, hV⟩ := hf rfl
                  clear HV
                  have HV := Lib.hid hV
                  clear hV
                  clear hf ht
                  go_wp2_with fail
                  go_meet
                  exact ⟨1, g4, cap4, C, a + 1, q, r3, (C + 1), _, _, _, _, _, rfl, rfl, (by first | rfl | go_num), ⟨.inr ⟨rfl, by omega, h13, by omega⟩, by omega, by have := HRN.out.a; omega⟩, by unfold potv; omega, fun _ => .inr (by unfold potv; omega), HV.out⟩
                | true =>
                  have := (ht rfl).1
                  omega
              · have hnI : ¬ (C : Int) < (N : Int) := by omega
                go_wp2_with fail
                go_meet
                exact ⟨0, gh, cap, C, a, qw, 0, C, P, Q, Ph, Ah, c, rfl, rfl, rfl, ⟨HRN.out.t, HRN.out.nx, by have := HRN.out.a; omega⟩, Nat.le_refl _, fun _ => .inl (by unfold potv; omega), HV.out⟩
            · obtain ⟨rfl, hnC, hr1, hr11⟩ := h
              have HNC := Lib.hid hnC
              clear hnC
              have e1 : wp 1 qw = some ⟨qw, 0, none⟩ := rfl
              rw [e1]
              go_wp2_with fail
              refine (vwstep HV.out HADS.out h6 (by have hnC := HNC.out; omega) (by have hnC := HNC.out; omega) (by have := HRN.out.a; omega)).mono ?_; rintro e w3 ⟨bb, rfl, hf, ht⟩
              cases bb with
              | false =>
                obtain ⟨r3, hr3, h13, hV⟩ := hf rfl
                clear HV
                have HV := Lib.hid hV
                clear hV
                clear hf ht
                go_wp2_with fail
                go_meet
                exact ⟨1, gh, cap, C, a + 1, qw, r3, nx, _, _, _, _, _, rfl, rfl, (by first | rfl | go_num), ⟨.inr ⟨rfl, by have hnC := HNC.out; omega, h13, by omega⟩, by omega, by have := HRN.out.a; omega⟩, by unfold potv; omega, fun _ => .inr (by unfold potv; omega), HV.out⟩
              | true =>
                obtain ⟨hr1, hV⟩ := ht rfl
                clear HV
                have HV := Lib.hid hV
                clear hV
                clear hf ht
                go_wp2_with fail
                refine (vheld HV.out h6).mono ?_; rintro e w4h ⟨A7, c7, rfl, hR7, S7, hS7, hV⟩
                clear HV
                have HV := Lib.hid hV
                clear hV
                have HR7 := Lib.hid hR7
                have HS7 := Lib.hid hS7
                clear hR7 hS7
                obtain ⟨u0, u1, u2, u3, u4, u5, u6, hB7⟩ := HV.out.held
                have y0 := hB7.cell (i := 0) rfl
                have zf0 := hB7.frozen 0
                have y1 := hB7.cell (i := 1) rfl
                have zf1 := hB7.frozen 1
                have y2 := hB7.cell (i := 2) rfl
                have zf2 := hB7.frozen 2
                have y3 := hB7.cell (i := 3) rfl
                have zf3 := hB7.frozen 3
                have y4 := hB7.cell (i := 4) rfl
                have zf4 := hB7.frozen 4
                have y5 := hB7.cell (i := 5) rfl
                have zf5 := hB7.frozen 5
                have y6 := hB7.cell (i := 6) rfl
                have zf6 := hB7.frozen 6
                clear hB7
                go_wp2_with fail
                clear y0 zf0 y1 zf1 y2 zf2 y3 zf3 y4 zf4 y5 zf5 y6 zf6
                go_meet
                exact ⟨0, gh, cap, C + 1, a + 1, 0, 0, nx, _, pg0, _, A7, c7, rfl, rfl, (by first | rfl | go_num), ⟨.inl ⟨rfl, by have hnC := HNC.out; omega, rfl⟩, by omega, by have := HRN.out.a; omega⟩, by unfold potv; omega, fun _ => .inr (by unfold potv; omega), HV.out.stored HR7.out HS7.out 0 0 pg0 _ (by omega)⟩
        case rest =>
          obtain ⟨t', gh', cap', C', a', qw', r', nx', P', Q', Ph', Ah', c', rfl, rfl, rfl, hRn, hp1, hp2, hV⟩ := hcut
          rename World => w2
          clear HV
          have HV := Lib.hid hV
          clear hV
          have HRB := Lib.hid hRn
          have HPB := Lib.hid (And.intro hp1 hp2)
          have hnx' : nx' ≤ N := hRn.nx
          clear hRn hp1 hp2 HRN
          go_upto_region 20 with fail
          go_cut [126] from 59 to 149 (fun v wx => v = .bool dB ∧ wx = w2)
          case first =>
            by_cases hnp : np ≤ k
            · obtain rfl : dB = true := by rw [← HDB.out]; simp [hnp]
              have hnp2 : (np : Int) ≤ (k : Int) := by omega
              go_wp2
              go_meet
              exact ⟨rfl, rfl⟩
            · obtain ⟨pg, off, rfl, hpg, hpcell⟩ := hpc (by omega)
              have hpck : w2.cell? ⟨pg, off + k, none⟩ = some (.int .u8 (x : Int)) := (HV.out.ev.kept.cell (p := ⟨pg, off + k, none⟩) hpg (fun h => h)).trans (hpcell k x (HX.out.1 (by omega)))
              have hx256 : (x : Int) < 256 := by have := HX.out.2; omega
              have hnp2 : ¬ (np : Int) ≤ (k : Int) := by omega
              have hnp3 : (k : Int) < (np : Int) := by omega
              clear hpcell
              by_cases hm0 : m3 = 0
              · obtain rfl : dB = false := by rw [← HDB.out]; simp [hnp, hm0]
                subst hm0
                go_wp2
                go_meet
                exact ⟨rfl, rfl⟩
              · obtain rfl : dB = true := by rw [← HDB.out]; simp [hnp, hm0]
                have hm7 : ((m3 : Int) == 0) = false := by simp; omega
                have hm9 : ((m3 : Int) != 0) = true := by simp; omega
                have hm8 : ¬ (m3 : Int) = 0 := by omega
                go_wp2
                go_meet
                exact ⟨rfl, rfl⟩
          case rest =>
            obtain ⟨rfl, hwx⟩ := hcut
            subst hwx
            rename World => w2
            cases dB with
            | false =>
              go_wp2
              go_roundw
              case rel => exact ⟨t', gh', cap', C', fr, qr, a', qw', r', nx', k + 1, P', Q', Ph', Ah', c', rfl, rfl, rfl, (by first | rfl | go_num | (congr 1; omega)), rfl, by go_num, by omega, ⟨HRB.out.t, HRB.out.nx, by have := HRB.out.a; omega⟩, by
                have h1 := HPT.out; have h2 := HPB.out; have h3 := HPK.out
                by_cases h : np ≤ k
                · have := h2.2 (h3 h).1; omega
                · have := h2.1; omega, HV.out⟩
              case measure => simp [intOf]; omega
            | true =>
              go_wp2_with fail
              refine (vread HV.out h4 h6 HD.out (by have := HRB.out.a; omega)).mono ?_; rintro e w5r ⟨bb, rfl, hV⟩
              clear HV
              have HV := Lib.hid hV
              clear hV
              cases bb with
              | false =>
                go_wp2
                go_roundw
                case rel => exact ⟨t', gh', cap', C', fr, qr, a' + 1, qw', r', nx', k + 1, P', Q', Ph', Ah', c', rfl, rfl, rfl, (by first | rfl | go_num | (congr 1; omega)), rfl, by go_num, by omega, ⟨HRB.out.t, HRB.out.nx, by have := HRB.out.a; omega⟩, by
                  have h1 := HPT.out; have h2 := HPB.out; have h3 := HPK.out
                  by_cases h : np ≤ k
                  · have := h2.2 (h3 h).1; omega
                  · have := h2.1; omega, HV.out⟩
                case measure => simp [intOf]; omega
              | true =>
                go_upto_region 22 with fail
                have hdr := (Kept.refl (fun _ => False) w5r).drew
                replace HV := Lib.hid ((HV.out.none hdr).less (S2 := fun _ => False) (fun _ h => h.elim))
                clear hdr
                have hfc := HV.out.frC
                have hcl := HV.out.clt
                have hcp := HV.out.capb
                have hfr1 : (fr : Int) ≤ (nx' : Int) + 1 := by omega
                have hfr4 : ¬ cap' = fr := by omega
                have hfr2 : (fr : Int) ≤ (cap' : Int) := by omega
                have hfr3 : (((nx' + 1 : Nat) : Int)) ≤ (cap' : Int) := by omega
                refine wp_region_held_drew (S := (fun w' => True)) (by kernel_rfl) ?_ (fun hHeld => ?_)
                · trivial
                generalize w5r.drew = G3 at *
                refine wpAnyH_take (i := 0) (oi := ⟨some 130, _, _, _, _, _⟩) (v := ?_) rfl (by kernel_rfl) (by kernel_rfl) (by kernel_rfl) (fun _ _ _ h => h) (Or.inl ⟨by rfl, ?_⟩) hHeld ?_
                rotate_left
                · (intro wq hSw; go_simp; try with_reducible rfl)
                try simp only [Act.put, List.setIfInBounds_toArray, List.set_cons_zero, List.set_cons_succ]
                refine wpAnyH_take (i := 1) (oi := ⟨some 131, _, _, _, _, _⟩) (v := ?_) rfl (by kernel_rfl) (by kernel_rfl) (by kernel_rfl) (fun _ _ _ h => h) (Or.inl ⟨by rfl, ?_⟩) hHeld ?_
                rotate_left
                · (intro wq hSw; go_simp; try with_reducible rfl)
                try simp only [Act.put, List.setIfInBounds_toArray, List.set_cons_zero, List.set_cons_succ]
                refine wpAnyH_take (i := 2) (oi := ⟨some 132, _, _, _, _, _⟩) (v := .slice (some ⟨gh', fr * 5, none⟩) (nx' + 1 - fr) (cap' - fr)) rfl (by kernel_rfl) (by kernel_rfl) (by kernel_rfl) (fun _ _ _ h => h) (Or.inl ⟨by rfl, ?_⟩) hHeld ?_
                · (intro wq hSw; go_simp; try first | (with_reducible rfl) | (simp; omega) | (intros; omega) | simp [*])
                try simp only [Act.put, List.setIfInBounds_toArray, List.set_cons_zero, List.set_cons_succ]
                refine wpAnyH_take (i := 3) (oi := ⟨some 133, _, _, _, _, _⟩) (v := ?_) rfl (by kernel_rfl) (by kernel_rfl) (by kernel_rfl) (fun _ _ _ h => h) (Or.inl ⟨by rfl, ?_⟩) hHeld ?_
                rotate_left
                · (intro wq hSw; go_simp; try with_reducible rfl)
                try simp only [Act.put, List.setIfInBounds_toArray, List.set_cons_zero, List.set_cons_succ]
                refine wpAnyH_ready (rs := [4]) (by kernel_rfl) (by simp) ?_
                refine AllReadyH.cons (o := ⟨some 134, _, _, _, _, _⟩) rfl (fun KK hK => ?_) AllReadyH.nil
                go_simp
                go_at_call 30
                refine (vpage HV.out h6).mono ?_; rintro e v5 ⟨A8, c8, rfl, hR8, hV⟩
                clear HV
                have HV := Lib.hid hV
                clear hV
                have HR8 := Lib.hid hR8
                clear hR8
                refine hK.out _ _ ?_ (fun hHeld2 => ?_)
                · trivial
                clear hK KK hHeld
                have hHeld := hHeld2
                clear hHeld2
                try simp only [Act.put, List.setIfInBounds_toArray, List.set_cons_zero, List.set_cons_succ]
                refine wpAnyH_ready (rs := [5]) (by kernel_rfl) (by simp) ?_
                refine AllReadyH.cons (o := ⟨some 135, _, _, _, _, _⟩) rfl (fun KK hK => ?_) AllReadyH.nil
                go_simp
                go_at_call 34
                refine (vamong HV.out h6 (by omega) HR8.out _ _ rfl).mono ?_; rintro e v6 ⟨rfl, hV⟩
                clear HV
                have HV := Lib.hid hV
                clear hV
                clear HR8
                refine hK.out _ _ ?_ (fun hHeld2 => ?_)
                · trivial
                clear hK KK hHeld
                have hHeld := hHeld2
                clear hHeld2
                try simp only [Act.put, List.setIfInBounds_toArray, List.set_cons_zero, List.set_cons_succ]
                refine wpAnyH_take (i := 6) (oi := ⟨some 136, _, _, _, _, _⟩) (v := ?_) rfl (by kernel_rfl) (by kernel_rfl) (by kernel_rfl) (fun _ _ _ h => h) (Or.inl ⟨by rfl, ?_⟩) hHeld ?_
                rotate_left
                · (intro wq hSw; go_simp; try with_reducible rfl)
                try simp only [Act.put, List.setIfInBounds_toArray, List.set_cons_zero, List.set_cons_succ]
                refine wpAnyH_done (by kernel_rfl) ?_ _
                clear hHeld
                clear hfr1 hfr2 hfr3 hfr4
                have x0 := HV.out.ev.lay.cell (i := 0) rfl
                have x1 := HV.out.ev.lay.cell (i := 1) rfl
                have x2 := HV.out.ev.lay.cell (i := 2) rfl
                have x3 := HV.out.ev.lay.cell (i := 3) rfl
                have x4 := HV.out.ev.lay.cell (i := 4) rfl
                have x5 := HV.out.ev.lay.cell (i := 5) rfl
                have x6 := HV.out.ev.lay.cell (i := 6) rfl
                have x7 := HV.out.ev.lay.cell (i := 7) rfl
                have x8 := HV.out.ev.lay.cell (i := 8) rfl
                have x9 := HV.out.ev.lay.cell (i := 9) rfl
                go_wp2_with fail
                refine (vnewread HV.out h4 h6 HD.out).mono ?_; rintro e w6r ⟨q5, rfl, hV⟩
                clear x0 x1 x2 x3 x4 x5 x6 x7 x8 x9
                clear HV
                have HV := Lib.hid hV
                clear hV
                rcases HRB.out.t with h | h
                · obtain ⟨rfl, rfl, rfl⟩ := h
                  have e0 : wp 0 qw' = none := rfl
                  rw [e0]
                  go_wp2
                  go_roundw
                  case rel => exact ⟨0, gh', cap', C', C', q5, a' + 1, qw', 0, C', k + 1, P', Q', Ph', Ah', c', rfl, rfl, rfl, (by first | rfl | go_num | (congr 1; omega)), rfl, by go_num, by omega, ⟨HRB.out.t, HRB.out.nx, by have := HRB.out.a; omega⟩, by
                    have h1 := HPT.out; have h2 := HPB.out; have h3 := HPK.out
                    by_cases h : np ≤ k
                    · have := h2.2 (h3 h).1; omega
                    · have := h2.1; omega, HV.out⟩
                  case measure => simp [intOf]; omega
                · obtain ⟨rfl, hnC, hr1, hr11⟩ := h
                  have e1 : wp 1 qw' = some ⟨qw', 0, none⟩ := rfl
                  rw [e1]
                  have hpos : (0 : Int) < (nx' : Int) := by omega
                  have HNC := Lib.hid hnC
                  clear hnC
                  go_wp2
                  go_roundw
                  case rel => exact ⟨1, gh', cap', C', C', q5, a' + 1, qw', r', nx', k + 1, P', Q', Ph', Ah', c', rfl, rfl, rfl, (by first | rfl | go_num | (have := HNC.out; congr 1; omega)), rfl, by go_num, by omega, ⟨HRB.out.t, HRB.out.nx, by have := HRB.out.a; omega⟩, by
                    have h1 := HPT.out; have h2 := HPB.out; have h3 := HPK.out
                    by_cases h : np ≤ k
                    · have := h2.2 (h3 h).1; omega
                    · have := h2.1; omega, HV.out⟩
                  case measure => simp [intOf]; omega
    · obtain rfl : k = np + 900 := by omega
      have h0 : potv N nx r = 0 := by have := HPT.out; omega
      have h1 := HRN.out.t
      unfold potv at h0
      have ht : t = 0 := by omega
      have hnN : nx = N := by omega
      subst ht
      have e0 : wp 0 qw = none := rfl
      rw [e0]
      subst hnN
      clear h0 h1 HRN
      go_wp2
      go_ret
      exact ⟨rfl, HV.out.ev.kept.below (Nat.le_refl _) (fun _ h => h.elim)⟩

end Go.Proofs.Ytlehpcbhfdnkdaa
