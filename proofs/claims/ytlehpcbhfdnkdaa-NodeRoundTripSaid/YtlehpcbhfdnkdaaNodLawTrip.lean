/-
  The walk of the statement of layer 8 'what is written with Fresh and Write is read back'. Condition: words below 2^64.
-/
import Derived.Test.YtlehpcbhfdnkdaaNodTrip
namespace Go.Proofs.Ytlehpcbhfdnkdaa
open Go.RowKit Go.Deep Plain
set_option linter.unusedVariables false

set_option maxRecDepth 100000 in
set_option maxHeartbeats 8000000 in
theorem lawTrip (f : Int) (F : Nat) (h4 : 4 ≤ F) (h6 : F ≤ 6) (hf : 4 + f % 3 = (F : Int)) (idn : Nat) (hidn : idn < 18446744073709551616) (plv : Int) (A : Option Addr) (c : Nat) (hi : ByteArray) (la : Bool) (rt : Nat) (hrt : rt < 18446744073709551616) (xs : List Sl) (hxr : ∀ x ∈ xs, x.2 < 18446744073709551616) (plv2 : Int) (A2 : Option Addr) (c2 : Nat) (hi2 : ByteArray) (la2 : Bool) (rt2 : Nat) (hrt2 : rt2 < 18446744073709551616) (xs2 : List Sl) (hxr2 : ∀ x ∈ xs2, x.2 < 18446744073709551616) (level : Int) (w : World) (n n2 : Nat) (hn : xs.length = n) (hn2 : xs2.length = n2) (hR : Rs w A c xs) (hR2 : Rs w A2 c2 xs2) :
    Calls Try.prog 3 #[.int .i64 f, .int .u64 (idn : Int), .agg #[.int .i64 plv, .slice A n c, .string hi, .bool la, .int .u64 (rt : Int)], .agg #[.int .i64 plv2, .slice A2 n2 c2, .string hi2, .bool la2, .int .u64 (rt2 : Int)], .int .i64 level] w fun e w' => e = .returned (.bool true) ∧ Below w.heap.size w w' := by
  obtain ⟨n50, hn50⟩ : ∃ x : Nat, idn % 50 = x := ⟨_, rfl⟩
  have hn51 : n50 < 50 := by omega
  have hn52 : (idn : Int).tmod 50 = (n50 : Int) := by rw [Int.tmod_eq_emod_of_nonneg (by omega)]; omega
  have hn53 : (idn : Int) % 50 = (n50 : Int) := by omega
  obtain ⟨nid, hnid⟩ : ∃ x : Nat, 2 + n50 = x := ⟨_, rfl⟩
  have hnid1 : 1 ≤ nid := by omega
  have hnid2 : nid ≤ 100 := by omega
  have hnid3 : (2 : Int) + (n50 : Int) = (nid : Int) := by omega
  obtain ⟨lvl, hlvl, hlvl5⟩ := mod_ex level 5 (by omega)
  obtain ⟨wb, hwb⟩ : ∃ x, beginW 1 = x := ⟨_, rfl⟩
  have hwb1 : wb < 18446744073709551616 := by rw [← hwb]; exact beginW_lt (by omega)
  obtain ⟨we, hwe⟩ : ∃ x, endW wb = x := ⟨_, rfl⟩
  have hwe1 : we < 18446744073709551616 := by rw [← hwe]; exact endW_lt _
  have hwe2 : ¬ we / 2 % 2 = 1 := by rw [← hwe]; unfold endW; omega
  have HWB := Lib.hid hwb
  have HWE := Lib.hid hwe
  have HWX := Lib.hid hwe2
  have HLV := Lib.hid hlvl
  clear hwb hwe hwe2 hlvl hn50
  obtain ⟨P, hP⟩ : ∃ P, cut F lvl hi la rt xs = P := ⟨_, rfl⟩
  obtain ⟨Q, hQ⟩ : ∃ Q, cut F lvl hi2 la2 rt2 xs2 = Q := ⟨_, rfl⟩
  have HWF := Lib.hid (show Wf P by rw [← hP]; exact cut_wf _ _ _ _ _ _)
  have HPL := Lib.hid (show P.xs.length ≤ F by rw [← hP]; exact cut_len _ _ _ _ _ _)
  have HFT := Lib.hid (show Fits P by rw [← hP]; exact cut_fits (by omega) (by omega) hrt hxr)
  have HWQ := Lib.hid (show Wf Q by rw [← hQ]; exact cut_wf _ _ _ _ _ _)
  have HQL := Lib.hid (show Q.xs.length ≤ F by rw [← hQ]; exact cut_len _ _ _ _ _ _)
  have HFQ := Lib.hid (show Fits Q by rw [← hQ]; exact cut_fits (by omega) (by omega) hrt2 hxr2)
  have HPC := Lib.hid hP
  have HQC := Lib.hid hQ
  clear hP hQ hxr hxr2
  have HPM := Lib.hid (show P.xs.length ≤ 1000 ∧ Q.xs.length ≤ 1000 by have := HPL.out; have := HQL.out; omega)
  have qu : Blk ((w.alloc (.cells #[.int .i64 plv, .slice A n c, .string hi, .bool la, .int .u64 (rt : Int)] 25)).alloc (.cells #[.int .i64 plv2, .slice A2 n2 c2, .string hi2, .bool la2, .int .u64 (rt2 : Int)] 25)) (w.heap.size) 25 [.int .i64 plv, .slice A n c, .string hi, .bool la, .int .u64 (rt : Int)] := by
    have := Blk.new w [.int .i64 plv, .slice A n c, .string hi, .bool la, .int .u64 (rt : Int)] 25
    exact this.alloc _
  have qv : Blk ((w.alloc (.cells #[.int .i64 plv, .slice A n c, .string hi, .bool la, .int .u64 (rt : Int)] 25)).alloc (.cells #[.int .i64 plv2, .slice A2 n2 c2, .string hi2, .bool la2, .int .u64 (rt2 : Int)] 25)) (w.heap.size + 1) 25 [.int .i64 plv2, .slice A2 n2 c2, .string hi2, .bool la2, .int .u64 (rt2 : Int)] := by
    have := Blk.new (w.alloc (.cells #[.int .i64 plv, .slice A n c, .string hi, .bool la, .int .u64 (rt : Int)] 25)) [.int .i64 plv2, .slice A2 n2 c2, .string hi2, .bool la2, .int .u64 (rt2 : Int)] 25
    rw [nblk_alloc] at this
    exact this
  have Pu := Lib.hid qu
  have Pv := Lib.hid qv
  have HK := Lib.hid (((Kept.refl (fun _ => False) w).alloc (.cells #[.int .i64 plv, .slice A n c, .string hi, .bool la, .int .u64 (rt : Int)] 25)).alloc (.cells #[.int .i64 plv2, .slice A2 n2 c2, .string hi2, .bool la2, .int .u64 (rt2 : Int)] 25))
  clear qu qv
  go_enter Try.func3, Try.ntmps3
  go_wp2_with fail
  generalize ((w.alloc (.cells #[.int .i64 plv, .slice A n c, .string hi, .bool la, .int .u64 (rt : Int)] 25)).alloc (.cells #[.int .i64 plv2, .slice A2 n2 c2, .string hi2, .bool la2, .int .u64 (rt2 : Int)] 25)) = W0 at *
  generalize hpv : w.heap.size + 1 = pv at Pv ⊢
  generalize hpu : w.heap.size = pu at Pu ⊢
  have HPu := Lib.hid (show w.heap.size ≤ pu by omega)
  have HPv := Lib.hid (show w.heap.size ≤ pv by omega)
  clear hpu hpv
  refine (kitConfig_any 1 f F hf _).mono ?_; rintro e w1 ⟨rfl, hK1⟩
  replace Pu := Lib.hid (hK1.blk Pu.out (fun h => h))
  replace Pv := Lib.hid (hK1.blk Pv.out (fun h => h))
  replace HK := Lib.hid (HK.out.trans hK1 (fun _ _ h => h.elim))
  clear hK1
  go_wp2_with fail
  have hal := (Kept.refl (fun _ => False) w1).alloc (.cells #[.int .i64 1, .int .i64 2, .int .i64 100, .int .i64 100, .int .i64 200, .int .i64 (F : Int), .int .u64 1000] 27)
  have B9 := Lib.hid (Blk.new w1 [.int .i64 1, .int .i64 2, .int .i64 100, .int .i64 100, .int .i64 200, .int .i64 (F : Int), .int .u64 1000] 27)
  replace Pu := Lib.hid (hal.blk Pu.out (fun h => h))
  replace Pv := Lib.hid (hal.blk Pv.out (fun h => h))
  replace HK := Lib.hid (HK.out.trans hal (fun _ _ h => h.elim))
  clear hal
  generalize w1.alloc (.cells #[.int .i64 1, .int .i64 2, .int .i64 100, .int .i64 100, .int .i64 200, .int .i64 (F : Int), .int .u64 1000] 27) = W1 at *
  generalize w1.heap.size = b9 at *
  refine (kitMem F h4 h6 _).mono ?_
  intro e w2 hok
  obtain ⟨b, g, l, fb, fd, rfl, hM2, hS2, hd, hb2, hg2, hK2⟩ := hok
  have HM := Lib.hid hM2
  have HST := Lib.hid hS2
  have HD := Lib.hid hd
  have HBG := Lib.hid (show w.heap.size ≤ b ∧ w.heap.size ≤ g ∧ b9 < b ∧ b9 < g by have := HK.out.size; have := B9.out.lt; omega)
  have HNu := Lib.hid (show ¬ Own b g pu by have := Pu.out.lt; unfold Own; omega)
  have HNv := Lib.hid (show ¬ Own b g pv by have := Pv.out.lt; unfold Own; omega)
  replace B9 := Lib.hid (hK2.blk B9.out (fun h => h))
  replace Pu := Lib.hid (hK2.blk Pu.out (fun h => h))
  replace Pv := Lib.hid (hK2.blk Pv.out (fun h => h))
  replace HK := Lib.hid (HK.out.trans hK2 (fun _ _ h => h.elim))
  clear hM2 hS2 hd hb2 hg2 hK2
  go_wp2_with fail
  have hal := (Kept.refl (fun _ => False) w2).alloc (.cells #[.int .i64 1, .int .i64 2, .int .i64 100, .int .i64 100, .int .i64 200, .int .i64 (F : Int), .int .u64 1000, .int .i64 10, .int .i64 fb, .int .i64 fd] 30)
  have B10 := Lib.hid (Blk.new w2 [.int .i64 1, .int .i64 2, .int .i64 100, .int .i64 100, .int .i64 200, .int .i64 (F : Int), .int .u64 1000, .int .i64 10, .int .i64 fb, .int .i64 fd] 30)
  have HN10 := Lib.hid (show ¬ Own b g w2.heap.size by have := HM.out.obj.lt; have := HM.out.row.lt; unfold Own; omega)
  replace B9 := Lib.hid (hal.blk B9.out (fun h => h))
  replace HM := Lib.hid (HM.out.kept hal (fun h => h) (fun h => h))
  replace Pu := Lib.hid (hal.blk Pu.out (fun h => h))
  replace Pv := Lib.hid (hal.blk Pv.out (fun h => h))
  replace HK := Lib.hid (HK.out.trans hal (fun _ _ h => h.elim))
  clear hal
  generalize w2.alloc (.cells #[.int .i64 1, .int .i64 2, .int .i64 100, .int .i64 100, .int .i64 200, .int .i64 (F : Int), .int .u64 1000, .int .i64 10, .int .i64 fb, .int .i64 fd] 30) = W2 at *
  generalize w2.heap.size = b10 at *
  refine (awake_any _).mono ?_; rintro e w4 ⟨rfl, hK4⟩
  replace B9 := Lib.hid (hK4.blk B9.out (fun h => h))
  replace B10 := Lib.hid (hK4.blk B10.out (fun h => h))
  replace HM := Lib.hid (HM.out.kept hK4 (fun h => h) (fun h => h))
  replace Pu := Lib.hid (hK4.blk Pu.out (fun h => h))
  replace Pv := Lib.hid (hK4.blk Pv.out (fun h => h))
  replace HK := Lib.hid (HK.out.trans hK4 (fun _ _ h => h.elim))
  clear hK4
  have E := Lib.hid (show Ev w w4 F fb fd b g b9 b10 from ⟨B9.out, B10.out, HK.out, ⟨HBG.out.1, HBG.out.2.1⟩, by have := HBG.out; unfold Own; omega, HN10.out⟩)
  clear B9 B10 HK HN10
  have hbE := E.out.kept.below (Nat.le_refl _) (fun _ h => h.elim)
  have HRu := Lib.hid (hR.below hbE (Nat.le_refl _))
  have HRv := Lib.hid (hR2.below hbE (Nat.le_refl _))
  clear hbE HPu HPv
  go_wp2_with fail
  refine (mod_of level 5 lvl _ (by omega) (by omega) HLV.out).mono ?_; rintro e w4b ⟨rfl, rfl⟩
  go_upto_region 7 with fail
  go_cut [14, 15] from 43 to 50 (fun vx vz wx => ∃ (bx bz : Nat) (A5 : Option Addr) (c5 : Nat) (A6 : Option Addr) (c6 : Nat), vx = .pointer (some ⟨bx, 0, none⟩) ∧ vz = .pointer (some ⟨bz, 0, none⟩) ∧ Ev w wx F fb fd b g b9 b10 ∧ Mem wx b g l 0 ∧ Px b g wx bx P A5 c5 ∧ Px b g wx bz Q A6 c6)
  case first =>
    have hdr := (Kept.refl (fun _ => False) w4).drew
    replace E := Lib.hid (E.out.none hdr)
    replace HM := Lib.hid (HM.out.kept hdr (fun h => h) (fun h => h))
    replace Pu := Lib.hid (hdr.blk Pu.out (fun h => h))
    replace Pv := Lib.hid (hdr.blk Pv.out (fun h => h))
    replace HRu := Lib.hid (HRu.out.keptF hdr (fun _ _ h => h))
    replace HRv := Lib.hid (HRv.out.keptF hdr (fun _ _ h => h))
    clear hdr
    refine wp_region_held_drew (S := fun w' => Blk w' b9 27 [.int .i64 1, .int .i64 2, .int .i64 100, .int .i64 100, .int .i64 200, .int .i64 (F : Int), .int .u64 1000] ∧ Blk w' pu 25 [.int .i64 plv, .slice A n c, .string hi, .bool la, .int .u64 (rt : Int)] ∧ Blk w' pv 25 [.int .i64 plv2, .slice A2 n2 c2, .string hi2, .bool la2, .int .u64 (rt2 : Int)]) (by kernel_rfl) ?_ (fun hHeld => ?_)
    · exact ⟨E.out.cfg, Pu.out, Pv.out⟩
    generalize w4.drew = G at *
    refine wpAnyH_take (i := 0) (oi := ⟨some 43, _, _, _, _, _⟩) (v := ?_) rfl (by kernel_rfl) (by kernel_rfl) (by kernel_rfl) (fun _ _ _ h => h) (Or.inl ⟨by rfl, ?_⟩) hHeld ?_
    rotate_left
    · (intro wq hSw; have h1 := hSw.1; have h2 := hSw.2.1; have h3 := hSw.2.2; have x0 := h1.cell (i := 0) rfl; have x1 := h1.cell (i := 1) rfl; have x2 := h1.cell (i := 2) rfl; have x3 := h1.cell (i := 3) rfl; have x4 := h1.cell (i := 4) rfl; have x5 := h1.cell (i := 5) rfl; have x6 := h1.cell (i := 6) rfl; have y0 := h2.cell (i := 0) rfl; have v0 := h3.cell (i := 0) rfl; have y1 := h2.cell (i := 1) rfl; have v1 := h3.cell (i := 1) rfl; have y2 := h2.cell (i := 2) rfl; have v2 := h3.cell (i := 2) rfl; have y3 := h2.cell (i := 3) rfl; have v3 := h3.cell (i := 3) rfl; have y4 := h2.cell (i := 4) rfl; have v4 := h3.cell (i := 4) rfl; clear h1 h2 h3; go_simp; try with_reducible rfl)
    try simp only [Act.put, List.setIfInBounds_toArray, List.set_cons_zero, List.set_cons_succ]
    refine wpAnyH_take (i := 1) (oi := ⟨some 44, _, _, _, _, _⟩) (v := ?_) rfl (by kernel_rfl) (by kernel_rfl) (by kernel_rfl) (fun _ _ _ h => h) (Or.inl ⟨by rfl, ?_⟩) hHeld ?_
    rotate_left
    · (intro wq hSw; have h1 := hSw.1; have h2 := hSw.2.1; have h3 := hSw.2.2; have x0 := h1.cell (i := 0) rfl; have x1 := h1.cell (i := 1) rfl; have x2 := h1.cell (i := 2) rfl; have x3 := h1.cell (i := 3) rfl; have x4 := h1.cell (i := 4) rfl; have x5 := h1.cell (i := 5) rfl; have x6 := h1.cell (i := 6) rfl; have y0 := h2.cell (i := 0) rfl; have v0 := h3.cell (i := 0) rfl; have y1 := h2.cell (i := 1) rfl; have v1 := h3.cell (i := 1) rfl; have y2 := h2.cell (i := 2) rfl; have v2 := h3.cell (i := 2) rfl; have y3 := h2.cell (i := 3) rfl; have v3 := h3.cell (i := 3) rfl; have y4 := h2.cell (i := 4) rfl; have v4 := h3.cell (i := 4) rfl; clear h1 h2 h3; go_simp; try with_reducible rfl)
    try simp only [Act.put, List.setIfInBounds_toArray, List.set_cons_zero, List.set_cons_succ]
    refine wpAnyH_take (i := 2) (oi := ⟨some 45, _, _, _, _, _⟩) (v := ?_) rfl (by kernel_rfl) (by kernel_rfl) (by kernel_rfl) (fun _ _ _ h => h) (Or.inl ⟨by rfl, ?_⟩) hHeld ?_
    rotate_left
    · (intro wq hSw; go_simp; try with_reducible rfl)
    try simp only [Act.put, List.setIfInBounds_toArray, List.set_cons_zero, List.set_cons_succ]
    refine wpAnyH_take (i := 4) (oi := ⟨some 47, _, _, _, _, _⟩) (v := ?_) rfl (by kernel_rfl) (by kernel_rfl) (by kernel_rfl) (fun _ _ _ h => h) (Or.inl ⟨by rfl, ?_⟩) hHeld ?_
    rotate_left
    · (intro wq hSw; have h1 := hSw.1; have h2 := hSw.2.1; have h3 := hSw.2.2; have x0 := h1.cell (i := 0) rfl; have x1 := h1.cell (i := 1) rfl; have x2 := h1.cell (i := 2) rfl; have x3 := h1.cell (i := 3) rfl; have x4 := h1.cell (i := 4) rfl; have x5 := h1.cell (i := 5) rfl; have x6 := h1.cell (i := 6) rfl; have y0 := h2.cell (i := 0) rfl; have v0 := h3.cell (i := 0) rfl; have y1 := h2.cell (i := 1) rfl; have v1 := h3.cell (i := 1) rfl; have y2 := h2.cell (i := 2) rfl; have v2 := h3.cell (i := 2) rfl; have y3 := h2.cell (i := 3) rfl; have v3 := h3.cell (i := 3) rfl; have y4 := h2.cell (i := 4) rfl; have v4 := h3.cell (i := 4) rfl; clear h1 h2 h3; go_simp; try with_reducible rfl)
    try simp only [Act.put, List.setIfInBounds_toArray, List.set_cons_zero, List.set_cons_succ]
    refine wpAnyH_take (i := 5) (oi := ⟨some 48, _, _, _, _, _⟩) (v := ?_) rfl (by kernel_rfl) (by kernel_rfl) (by kernel_rfl) (fun _ _ _ h => h) (Or.inl ⟨by rfl, ?_⟩) hHeld ?_
    rotate_left
    · (intro wq hSw; have h1 := hSw.1; have h2 := hSw.2.1; have h3 := hSw.2.2; have x0 := h1.cell (i := 0) rfl; have x1 := h1.cell (i := 1) rfl; have x2 := h1.cell (i := 2) rfl; have x3 := h1.cell (i := 3) rfl; have x4 := h1.cell (i := 4) rfl; have x5 := h1.cell (i := 5) rfl; have x6 := h1.cell (i := 6) rfl; have y0 := h2.cell (i := 0) rfl; have v0 := h3.cell (i := 0) rfl; have y1 := h2.cell (i := 1) rfl; have v1 := h3.cell (i := 1) rfl; have y2 := h2.cell (i := 2) rfl; have v2 := h3.cell (i := 2) rfl; have y3 := h2.cell (i := 3) rfl; have v3 := h3.cell (i := 3) rfl; have y4 := h2.cell (i := 4) rfl; have v4 := h3.cell (i := 4) rfl; clear h1 h2 h3; go_simp; try with_reducible rfl)
    try simp only [Act.put, List.setIfInBounds_toArray, List.set_cons_zero, List.set_cons_succ]
    refine wpAnyH_take (i := 6) (oi := ⟨some 49, _, _, _, _, _⟩) (v := ?_) rfl (by kernel_rfl) (by kernel_rfl) (by kernel_rfl) (fun _ _ _ h => h) (Or.inl ⟨by rfl, ?_⟩) hHeld ?_
    rotate_left
    · (intro wq hSw; go_simp; try with_reducible rfl)
    try simp only [Act.put, List.setIfInBounds_toArray, List.set_cons_zero, List.set_cons_succ]
    refine wpAnyH_ready (rs := [3, 8, 9]) (by kernel_rfl) (by simp) ?_
    refine AllReadyH.cons (o := ⟨some 46, _, _, _, _, _⟩) rfl (fun KK hK => ?_) (AllReadyH.cons (o := ⟨some 14, _, _, _, _, _⟩) rfl (fun KK hK => ?_) (AllReadyH.cons (o := ⟨some 15, _, _, _, _, _⟩) rfl (fun KK hK => ?_) AllReadyH.nil))
    · go_simp
      go_at_call 11
      refine (content_any F plv A c hi la rt xs lvl _ n hn (by omega) HRu.out P HPC.out).mono ?_; rintro e v5 ⟨A5, c5, rfl, hR, hA, hK9⟩
      have HA5 := Lib.hid (show ∀ a, A5 = some a → ¬ Own b g a.block from fun a ha e => by have := hA a ha; have := HM.out.obj.lt; have := HM.out.row.lt; unfold Own at e; omega)
      replace E := Lib.hid (E.out.none hK9)
      replace HM := Lib.hid (HM.out.kept hK9 (fun h => h) (fun h => h))
      replace Pu := Lib.hid (hK9.blk Pu.out (fun h => h))
      replace Pv := Lib.hid (hK9.blk Pv.out (fun h => h))
      replace HRu := Lib.hid (HRu.out.keptF hK9 (fun _ _ h => h))
      replace HRv := Lib.hid (HRv.out.keptF hK9 (fun _ _ h => h))
      have HR5 := Lib.hid hR
      clear hR hA hK9
      refine hK.out _ _ ?_ (fun hHeld2 => ?_)
      · exact ⟨E.out.cfg, Pu.out, Pv.out⟩
      clear hK KK hHeld
      have hHeld := hHeld2
      clear hHeld2
      try simp only [Act.put, List.setIfInBounds_toArray, List.set_cons_zero, List.set_cons_succ]
      refine wpAnyH_ready (rs := [7, 8, 9]) (by kernel_rfl) (by simp) ?_
      refine AllReadyH.cons (o := ⟨some 50, _, _, _, _, _⟩) rfl (fun KK hK => ?_) (AllReadyH.cons (o := ⟨some 14, _, _, _, _, _⟩) rfl (fun KK hK => ?_) (AllReadyH.cons (o := ⟨some 15, _, _, _, _, _⟩) rfl (fun KK hK => ?_) AllReadyH.nil))
      · go_simp
        go_at_call 11
        refine (content_any F plv2 A2 c2 hi2 la2 rt2 xs2 lvl _ n2 hn2 (by omega) HRv.out Q HQC.out).mono ?_; rintro e v6 ⟨A6, c6, rfl, hR, hA, hK9⟩
        have HA6 := Lib.hid (show ∀ a, A6 = some a → ¬ Own b g a.block from fun a ha e => by have := hA a ha; have := HM.out.obj.lt; have := HM.out.row.lt; unfold Own at e; omega)
        replace E := Lib.hid (E.out.none hK9)
        replace HM := Lib.hid (HM.out.kept hK9 (fun h => h) (fun h => h))
        replace Pu := Lib.hid (hK9.blk Pu.out (fun h => h))
        replace Pv := Lib.hid (hK9.blk Pv.out (fun h => h))
        replace HRu := Lib.hid (HRu.out.keptF hK9 (fun _ _ h => h))
        replace HRv := Lib.hid (HRv.out.keptF hK9 (fun _ _ h => h))
        replace HR5 := Lib.hid (HR5.out.keptF hK9 (fun _ _ h => h))
        have HR6 := Lib.hid hR
        clear hR hA hK9
        refine hK.out _ _ ?_ (fun hHeld2 => ?_)
        · exact ⟨E.out.cfg, Pu.out, Pv.out⟩
        clear hK KK hHeld
        have hHeld := hHeld2
        clear hHeld2
        try simp only [Act.put, List.setIfInBounds_toArray, List.set_cons_zero, List.set_cons_succ]
        refine wpAnyH_ready (rs := [8, 9]) (by kernel_rfl) (by simp) ?_
        refine AllReadyH.cons (o := ⟨some 14, _, _, _, _, _⟩) rfl (fun KK hK => ?_) (AllReadyH.cons (o := ⟨some 15, _, _, _, _, _⟩) rfl (fun KK hK => ?_) AllReadyH.nil)
        · go_simp
          have hal := (Kept.refl (fun _ => False) v6).alloc (.cells #[.int .i64 0, .slice none 0 0, .string ⟨#[]⟩, .bool false, .int .u64 0] 25)
          have HBx := Lib.hid (Blk.new v6 [.int .i64 0, .slice none 0 0, .string ⟨#[]⟩, .bool false, .int .u64 0] 25)
          have HNx := Lib.hid (show ¬ Own b g v6.heap.size by have := HM.out.obj.lt; have := HM.out.row.lt; unfold Own; omega)
          have HOx := Lib.hid (show b9 < v6.heap.size ∧ b10 < v6.heap.size ∧ w.heap.size ≤ v6.heap.size from ⟨E.out.cfg.lt, E.out.lay.lt, E.out.kept.size⟩)
          have HUx := Lib.hid (show pu < v6.heap.size ∧ pv < v6.heap.size from ⟨Pu.out.lt, Pv.out.lt⟩)
          have NE5x := Lib.hid (show 0 < P.xs.length → ∀ a, A5 = some a → a.block ≠ v6.heap.size from fun hp a ha => by have := HR5.out.lt hp a ha; omega)
          have NE6x := Lib.hid (show 0 < Q.xs.length → ∀ a, A6 = some a → a.block ≠ v6.heap.size from fun hp a ha => by have := HR6.out.lt hp a ha; omega)
          replace E := Lib.hid (E.out.none hal)
          replace HM := Lib.hid (HM.out.kept hal (fun h => h) (fun h => h))
          replace Pu := Lib.hid (hal.blk Pu.out (fun h => h))
          replace Pv := Lib.hid (hal.blk Pv.out (fun h => h))
          replace HRu := Lib.hid (HRu.out.keptF hal (fun _ _ h => h))
          replace HRv := Lib.hid (HRv.out.keptF hal (fun _ _ h => h))
          replace HR5 := Lib.hid (HR5.out.keptF hal (fun _ _ h => h))
          replace HR6 := Lib.hid (HR6.out.keptF hal (fun _ _ h => h))
          clear hal
          generalize v6.alloc (.cells #[.int .i64 0, .slice none 0 0, .string ⟨#[]⟩, .bool false, .int .u64 0] 25) = Vx at *
          generalize v6.heap.size = bx at *
          refine hK.out _ _ ?_ (fun hHeld2 => ?_)
          · exact ⟨E.out.cfg, Pu.out, Pv.out⟩
          clear hK KK hHeld
          have hHeld := hHeld2
          clear hHeld2
          try simp only [Act.put, List.setIfInBounds_toArray, List.set_cons_zero, List.set_cons_succ]
          refine wpAnyH_ready (rs := [9]) (by kernel_rfl) (by simp) ?_
          refine AllReadyH.cons (o := ⟨some 15, _, _, _, _, _⟩) rfl (fun KK hK => ?_) AllReadyH.nil
          go_simp
          have hal := (Kept.refl (fun _ => False) Vx).alloc (.cells #[.int .i64 0, .slice none 0 0, .string ⟨#[]⟩, .bool false, .int .u64 0] 25)
          have HBz := Lib.hid (Blk.new Vx [.int .i64 0, .slice none 0 0, .string ⟨#[]⟩, .bool false, .int .u64 0] 25)
          have HNz := Lib.hid (show ¬ Own b g Vx.heap.size by have := HM.out.obj.lt; have := HM.out.row.lt; unfold Own; omega)
          have HOz := Lib.hid (show b9 < Vx.heap.size ∧ b10 < Vx.heap.size ∧ w.heap.size ≤ Vx.heap.size from ⟨E.out.cfg.lt, E.out.lay.lt, E.out.kept.size⟩)
          have HUz := Lib.hid (show pu < Vx.heap.size ∧ pv < Vx.heap.size from ⟨Pu.out.lt, Pv.out.lt⟩)
          have NE5z := Lib.hid (show 0 < P.xs.length → ∀ a, A5 = some a → a.block ≠ Vx.heap.size from fun hp a ha => by have := HR5.out.lt hp a ha; omega)
          have NE6z := Lib.hid (show 0 < Q.xs.length → ∀ a, A6 = some a → a.block ≠ Vx.heap.size from fun hp a ha => by have := HR6.out.lt hp a ha; omega)
          have HXZ := Lib.hid (show bx ≠ Vx.heap.size by have := HBx.out.lt; omega)
          replace E := Lib.hid (E.out.none hal)
          replace HM := Lib.hid (HM.out.kept hal (fun h => h) (fun h => h))
          replace Pu := Lib.hid (hal.blk Pu.out (fun h => h))
          replace Pv := Lib.hid (hal.blk Pv.out (fun h => h))
          replace HBx := Lib.hid (hal.blk HBx.out (fun h => h))
          replace HRu := Lib.hid (HRu.out.keptF hal (fun _ _ h => h))
          replace HRv := Lib.hid (HRv.out.keptF hal (fun _ _ h => h))
          replace HR5 := Lib.hid (HR5.out.keptF hal (fun _ _ h => h))
          replace HR6 := Lib.hid (HR6.out.keptF hal (fun _ _ h => h))
          clear hal
          generalize Vx.alloc (.cells #[.int .i64 0, .slice none 0 0, .string ⟨#[]⟩, .bool false, .int .u64 0] 25) = Vz at *
          generalize Vx.heap.size = bz at *
          refine hK.out _ _ ?_ (fun hHeld2 => ?_)
          · exact ⟨E.out.cfg, Pu.out, Pv.out⟩
          clear hK KK hHeld
          have hHeld := hHeld2
          clear hHeld2
          try simp only [Act.put, List.setIfInBounds_toArray, List.set_cons_zero, List.set_cons_succ]
          refine wpAnyH_ready (rs := [10]) (by kernel_rfl) (by simp) ?_
          refine AllReadyH.cons (o := ⟨none, _, _, _, _, _⟩) rfl (fun KK hK => ?_) AllReadyH.nil
          have u0 := HBx.out.cell (i := 0) rfl
          have zu0 := HBx.out.frozen 0
          have u1 := HBx.out.cell (i := 1) rfl
          have zu1 := HBx.out.frozen 1
          have u2 := HBx.out.cell (i := 2) rfl
          have zu2 := HBx.out.frozen 2
          have u3 := HBx.out.cell (i := 3) rfl
          have zu3 := HBx.out.frozen 3
          have u4 := HBx.out.cell (i := 4) rfl
          have zu4 := HBx.out.frozen 4
          go_simp
          clear u0 zu0 u1 zu1 u2 zu2 u3 zu3 u4 zu4
          have hkp := ((((((Kept.refl (fun i => i = bx) Vz).setCell (a := ⟨bx, 0, none⟩) (fun _ => rfl) (.int .i64 (P.lv : Int))).setCell (a := ⟨bx, 1, none⟩) (fun _ => rfl) (.slice A5 P.xs.length c5)).setCell (a := ⟨bx, 2, none⟩) (fun _ => rfl) (.string P.hi)).setCell (a := ⟨bx, 3, none⟩) (fun _ => rfl) (.bool P.la)).setCell (a := ⟨bx, 4, none⟩) (fun _ => rfl) (.int .u64 (P.rt : Int)))
          have hbs := (((((HBx.out.set 0 (.int .i64 (P.lv : Int))).set 1 (.slice A5 P.xs.length c5)).set 2 (.string P.hi)).set 3 (.bool P.la)).set 4 (.int .u64 (P.rt : Int)))
          replace HM := Lib.hid (HM.out.kept hkp (fun e => HNx.out (.inl e.symm)) (fun e => HNx.out (.inr e.symm)))
          replace E := Lib.hid (E.out.at HOx.out hkp)
          replace HR5 := Lib.hid (HR5.out.keptP hkp (fun hp a ha e => NE5x.out hp a ha e))
          replace HR6 := Lib.hid (HR6.out.keptP hkp (fun hp a ha e => NE6x.out hp a ha e))
          replace HBz := Lib.hid (hkp.blk HBz.out (fun e => by have := HXZ.out; omega))
          replace Pu := Lib.hid (hkp.blk Pu.out (fun e => by have := HUx.out; omega))
          replace Pv := Lib.hid (hkp.blk Pv.out (fun e => by have := HUx.out; omega))
          replace HBx := Lib.hid hbs
          clear hkp hbs
          generalize (((((Vz.setCell ⟨bx, 0, none⟩ (.int .i64 (P.lv : Int))).setCell ⟨bx, 1, none⟩ (.slice A5 P.xs.length c5)).setCell ⟨bx, 2, none⟩ (.string P.hi)).setCell ⟨bx, 3, none⟩ (.bool P.la)).setCell ⟨bx, 4, none⟩ (.int .u64 (P.rt : Int))) = Sx at *
          refine hK.out _ _ ?_ (fun hHeld2 => ?_)
          · exact ⟨E.out.cfg, Pu.out, Pv.out⟩
          clear hK KK hHeld
          have hHeld := hHeld2
          clear hHeld2
          try simp only [Act.put, List.setIfInBounds_toArray, List.set_cons_zero, List.set_cons_succ]
          refine wpAnyH_ready (rs := [11]) (by kernel_rfl) (by simp) ?_
          refine AllReadyH.cons (o := ⟨none, _, _, _, _, _⟩) rfl (fun KK hK => ?_) AllReadyH.nil
          have u0 := HBz.out.cell (i := 0) rfl
          have zu0 := HBz.out.frozen 0
          have u1 := HBz.out.cell (i := 1) rfl
          have zu1 := HBz.out.frozen 1
          have u2 := HBz.out.cell (i := 2) rfl
          have zu2 := HBz.out.frozen 2
          have u3 := HBz.out.cell (i := 3) rfl
          have zu3 := HBz.out.frozen 3
          have u4 := HBz.out.cell (i := 4) rfl
          have zu4 := HBz.out.frozen 4
          go_simp
          clear u0 zu0 u1 zu1 u2 zu2 u3 zu3 u4 zu4
          have hkp := ((((((Kept.refl (fun i => i = bz) Sx).setCell (a := ⟨bz, 0, none⟩) (fun _ => rfl) (.int .i64 (Q.lv : Int))).setCell (a := ⟨bz, 1, none⟩) (fun _ => rfl) (.slice A6 Q.xs.length c6)).setCell (a := ⟨bz, 2, none⟩) (fun _ => rfl) (.string Q.hi)).setCell (a := ⟨bz, 3, none⟩) (fun _ => rfl) (.bool Q.la)).setCell (a := ⟨bz, 4, none⟩) (fun _ => rfl) (.int .u64 (Q.rt : Int)))
          have hbs := (((((HBz.out.set 0 (.int .i64 (Q.lv : Int))).set 1 (.slice A6 Q.xs.length c6)).set 2 (.string Q.hi)).set 3 (.bool Q.la)).set 4 (.int .u64 (Q.rt : Int)))
          replace HM := Lib.hid (HM.out.kept hkp (fun e => HNz.out (.inl e.symm)) (fun e => HNz.out (.inr e.symm)))
          replace E := Lib.hid (E.out.at HOz.out hkp)
          replace HR5 := Lib.hid (HR5.out.keptP hkp (fun hp a ha e => NE5z.out hp a ha e))
          replace HR6 := Lib.hid (HR6.out.keptP hkp (fun hp a ha e => NE6z.out hp a ha e))
          replace HBx := Lib.hid (hkp.blk HBx.out (fun e => by have := HXZ.out; omega))
          replace Pu := Lib.hid (hkp.blk Pu.out (fun e => by have := HUz.out; omega))
          replace Pv := Lib.hid (hkp.blk Pv.out (fun e => by have := HUz.out; omega))
          replace HBz := Lib.hid hbs
          clear hkp hbs
          generalize (((((Sx.setCell ⟨bz, 0, none⟩ (.int .i64 (Q.lv : Int))).setCell ⟨bz, 1, none⟩ (.slice A6 Q.xs.length c6)).setCell ⟨bz, 2, none⟩ (.string Q.hi)).setCell ⟨bz, 3, none⟩ (.bool Q.la)).setCell ⟨bz, 4, none⟩ (.int .u64 (Q.rt : Int))) = Sz at *
          refine hK.out _ _ ?_ (fun hHeld2 => ?_)
          · exact ⟨E.out.cfg, Pu.out, Pv.out⟩
          clear hK KK hHeld
          have hHeld := hHeld2
          clear hHeld2
          try simp only [Act.put, List.setIfInBounds_toArray, List.set_cons_zero, List.set_cons_succ]
          refine wpAnyH_done (by kernel_rfl) ?_ _
          clear hHeld
          go_wp2
          go_meet
          exact ⟨bx, bz, A5, c5, A6, c6, rfl, rfl, E.out, HM.out, ⟨HBx.out, HR5.out, HNx.out, HA5.out⟩, ⟨HBz.out, HR6.out, HNz.out, HA6.out⟩⟩
        · go_simp
          have hal := (Kept.refl (fun _ => False) v6).alloc (.cells #[.int .i64 0, .slice none 0 0, .string ⟨#[]⟩, .bool false, .int .u64 0] 25)
          have HBz := Lib.hid (Blk.new v6 [.int .i64 0, .slice none 0 0, .string ⟨#[]⟩, .bool false, .int .u64 0] 25)
          have HNz := Lib.hid (show ¬ Own b g v6.heap.size by have := HM.out.obj.lt; have := HM.out.row.lt; unfold Own; omega)
          have HOz := Lib.hid (show b9 < v6.heap.size ∧ b10 < v6.heap.size ∧ w.heap.size ≤ v6.heap.size from ⟨E.out.cfg.lt, E.out.lay.lt, E.out.kept.size⟩)
          have HUz := Lib.hid (show pu < v6.heap.size ∧ pv < v6.heap.size from ⟨Pu.out.lt, Pv.out.lt⟩)
          have NE5z := Lib.hid (show 0 < P.xs.length → ∀ a, A5 = some a → a.block ≠ v6.heap.size from fun hp a ha => by have := HR5.out.lt hp a ha; omega)
          have NE6z := Lib.hid (show 0 < Q.xs.length → ∀ a, A6 = some a → a.block ≠ v6.heap.size from fun hp a ha => by have := HR6.out.lt hp a ha; omega)
          replace E := Lib.hid (E.out.none hal)
          replace HM := Lib.hid (HM.out.kept hal (fun h => h) (fun h => h))
          replace Pu := Lib.hid (hal.blk Pu.out (fun h => h))
          replace Pv := Lib.hid (hal.blk Pv.out (fun h => h))
          replace HRu := Lib.hid (HRu.out.keptF hal (fun _ _ h => h))
          replace HRv := Lib.hid (HRv.out.keptF hal (fun _ _ h => h))
          replace HR5 := Lib.hid (HR5.out.keptF hal (fun _ _ h => h))
          replace HR6 := Lib.hid (HR6.out.keptF hal (fun _ _ h => h))
          clear hal
          generalize v6.alloc (.cells #[.int .i64 0, .slice none 0 0, .string ⟨#[]⟩, .bool false, .int .u64 0] 25) = Vz at *
          generalize v6.heap.size = bz at *
          refine hK.out _ _ ?_ (fun hHeld2 => ?_)
          · exact ⟨E.out.cfg, Pu.out, Pv.out⟩
          clear hK KK hHeld
          have hHeld := hHeld2
          clear hHeld2
          try simp only [Act.put, List.setIfInBounds_toArray, List.set_cons_zero, List.set_cons_succ]
          refine wpAnyH_ready (rs := [8]) (by kernel_rfl) (by simp) ?_
          refine AllReadyH.cons (o := ⟨some 14, _, _, _, _, _⟩) rfl (fun KK hK => ?_) AllReadyH.nil
          go_simp
          have hal := (Kept.refl (fun _ => False) Vz).alloc (.cells #[.int .i64 0, .slice none 0 0, .string ⟨#[]⟩, .bool false, .int .u64 0] 25)
          have HBx := Lib.hid (Blk.new Vz [.int .i64 0, .slice none 0 0, .string ⟨#[]⟩, .bool false, .int .u64 0] 25)
          have HNx := Lib.hid (show ¬ Own b g Vz.heap.size by have := HM.out.obj.lt; have := HM.out.row.lt; unfold Own; omega)
          have HOx := Lib.hid (show b9 < Vz.heap.size ∧ b10 < Vz.heap.size ∧ w.heap.size ≤ Vz.heap.size from ⟨E.out.cfg.lt, E.out.lay.lt, E.out.kept.size⟩)
          have HUx := Lib.hid (show pu < Vz.heap.size ∧ pv < Vz.heap.size from ⟨Pu.out.lt, Pv.out.lt⟩)
          have NE5x := Lib.hid (show 0 < P.xs.length → ∀ a, A5 = some a → a.block ≠ Vz.heap.size from fun hp a ha => by have := HR5.out.lt hp a ha; omega)
          have NE6x := Lib.hid (show 0 < Q.xs.length → ∀ a, A6 = some a → a.block ≠ Vz.heap.size from fun hp a ha => by have := HR6.out.lt hp a ha; omega)
          have HXZ := Lib.hid (show bz ≠ Vz.heap.size by have := HBz.out.lt; omega)
          replace E := Lib.hid (E.out.none hal)
          replace HM := Lib.hid (HM.out.kept hal (fun h => h) (fun h => h))
          replace Pu := Lib.hid (hal.blk Pu.out (fun h => h))
          replace Pv := Lib.hid (hal.blk Pv.out (fun h => h))
          replace HBz := Lib.hid (hal.blk HBz.out (fun h => h))
          replace HRu := Lib.hid (HRu.out.keptF hal (fun _ _ h => h))
          replace HRv := Lib.hid (HRv.out.keptF hal (fun _ _ h => h))
          replace HR5 := Lib.hid (HR5.out.keptF hal (fun _ _ h => h))
          replace HR6 := Lib.hid (HR6.out.keptF hal (fun _ _ h => h))
          clear hal
          generalize Vz.alloc (.cells #[.int .i64 0, .slice none 0 0, .string ⟨#[]⟩, .bool false, .int .u64 0] 25) = Vx at *
          generalize Vz.heap.size = bx at *
          refine hK.out _ _ ?_ (fun hHeld2 => ?_)
          · exact ⟨E.out.cfg, Pu.out, Pv.out⟩
          clear hK KK hHeld
          have hHeld := hHeld2
          clear hHeld2
          try simp only [Act.put, List.setIfInBounds_toArray, List.set_cons_zero, List.set_cons_succ]
          refine wpAnyH_ready (rs := [10]) (by kernel_rfl) (by simp) ?_
          refine AllReadyH.cons (o := ⟨none, _, _, _, _, _⟩) rfl (fun KK hK => ?_) AllReadyH.nil
          have u0 := HBx.out.cell (i := 0) rfl
          have zu0 := HBx.out.frozen 0
          have u1 := HBx.out.cell (i := 1) rfl
          have zu1 := HBx.out.frozen 1
          have u2 := HBx.out.cell (i := 2) rfl
          have zu2 := HBx.out.frozen 2
          have u3 := HBx.out.cell (i := 3) rfl
          have zu3 := HBx.out.frozen 3
          have u4 := HBx.out.cell (i := 4) rfl
          have zu4 := HBx.out.frozen 4
          go_simp
          clear u0 zu0 u1 zu1 u2 zu2 u3 zu3 u4 zu4
          have hkp := ((((((Kept.refl (fun i => i = bx) Vx).setCell (a := ⟨bx, 0, none⟩) (fun _ => rfl) (.int .i64 (P.lv : Int))).setCell (a := ⟨bx, 1, none⟩) (fun _ => rfl) (.slice A5 P.xs.length c5)).setCell (a := ⟨bx, 2, none⟩) (fun _ => rfl) (.string P.hi)).setCell (a := ⟨bx, 3, none⟩) (fun _ => rfl) (.bool P.la)).setCell (a := ⟨bx, 4, none⟩) (fun _ => rfl) (.int .u64 (P.rt : Int)))
          have hbs := (((((HBx.out.set 0 (.int .i64 (P.lv : Int))).set 1 (.slice A5 P.xs.length c5)).set 2 (.string P.hi)).set 3 (.bool P.la)).set 4 (.int .u64 (P.rt : Int)))
          replace HM := Lib.hid (HM.out.kept hkp (fun e => HNx.out (.inl e.symm)) (fun e => HNx.out (.inr e.symm)))
          replace E := Lib.hid (E.out.at HOx.out hkp)
          replace HR5 := Lib.hid (HR5.out.keptP hkp (fun hp a ha e => NE5x.out hp a ha e))
          replace HR6 := Lib.hid (HR6.out.keptP hkp (fun hp a ha e => NE6x.out hp a ha e))
          replace HBz := Lib.hid (hkp.blk HBz.out (fun e => by have := HXZ.out; omega))
          replace Pu := Lib.hid (hkp.blk Pu.out (fun e => by have := HUx.out; omega))
          replace Pv := Lib.hid (hkp.blk Pv.out (fun e => by have := HUx.out; omega))
          replace HBx := Lib.hid hbs
          clear hkp hbs
          generalize (((((Vx.setCell ⟨bx, 0, none⟩ (.int .i64 (P.lv : Int))).setCell ⟨bx, 1, none⟩ (.slice A5 P.xs.length c5)).setCell ⟨bx, 2, none⟩ (.string P.hi)).setCell ⟨bx, 3, none⟩ (.bool P.la)).setCell ⟨bx, 4, none⟩ (.int .u64 (P.rt : Int))) = Sx at *
          refine hK.out _ _ ?_ (fun hHeld2 => ?_)
          · exact ⟨E.out.cfg, Pu.out, Pv.out⟩
          clear hK KK hHeld
          have hHeld := hHeld2
          clear hHeld2
          try simp only [Act.put, List.setIfInBounds_toArray, List.set_cons_zero, List.set_cons_succ]
          refine wpAnyH_ready (rs := [11]) (by kernel_rfl) (by simp) ?_
          refine AllReadyH.cons (o := ⟨none, _, _, _, _, _⟩) rfl (fun KK hK => ?_) AllReadyH.nil
          have u0 := HBz.out.cell (i := 0) rfl
          have zu0 := HBz.out.frozen 0
          have u1 := HBz.out.cell (i := 1) rfl
          have zu1 := HBz.out.frozen 1
          have u2 := HBz.out.cell (i := 2) rfl
          have zu2 := HBz.out.frozen 2
          have u3 := HBz.out.cell (i := 3) rfl
          have zu3 := HBz.out.frozen 3
          have u4 := HBz.out.cell (i := 4) rfl
          have zu4 := HBz.out.frozen 4
          go_simp
          clear u0 zu0 u1 zu1 u2 zu2 u3 zu3 u4 zu4
          have hkp := ((((((Kept.refl (fun i => i = bz) Sx).setCell (a := ⟨bz, 0, none⟩) (fun _ => rfl) (.int .i64 (Q.lv : Int))).setCell (a := ⟨bz, 1, none⟩) (fun _ => rfl) (.slice A6 Q.xs.length c6)).setCell (a := ⟨bz, 2, none⟩) (fun _ => rfl) (.string Q.hi)).setCell (a := ⟨bz, 3, none⟩) (fun _ => rfl) (.bool Q.la)).setCell (a := ⟨bz, 4, none⟩) (fun _ => rfl) (.int .u64 (Q.rt : Int)))
          have hbs := (((((HBz.out.set 0 (.int .i64 (Q.lv : Int))).set 1 (.slice A6 Q.xs.length c6)).set 2 (.string Q.hi)).set 3 (.bool Q.la)).set 4 (.int .u64 (Q.rt : Int)))
          replace HM := Lib.hid (HM.out.kept hkp (fun e => HNz.out (.inl e.symm)) (fun e => HNz.out (.inr e.symm)))
          replace E := Lib.hid (E.out.at HOz.out hkp)
          replace HR5 := Lib.hid (HR5.out.keptP hkp (fun hp a ha e => NE5z.out hp a ha e))
          replace HR6 := Lib.hid (HR6.out.keptP hkp (fun hp a ha e => NE6z.out hp a ha e))
          replace HBx := Lib.hid (hkp.blk HBx.out (fun e => by have := HXZ.out; omega))
          replace Pu := Lib.hid (hkp.blk Pu.out (fun e => by have := HUz.out; omega))
          replace Pv := Lib.hid (hkp.blk Pv.out (fun e => by have := HUz.out; omega))
          replace HBz := Lib.hid hbs
          clear hkp hbs
          generalize (((((Sx.setCell ⟨bz, 0, none⟩ (.int .i64 (Q.lv : Int))).setCell ⟨bz, 1, none⟩ (.slice A6 Q.xs.length c6)).setCell ⟨bz, 2, none⟩ (.string Q.hi)).setCell ⟨bz, 3, none⟩ (.bool Q.la)).setCell ⟨bz, 4, none⟩ (.int .u64 (Q.rt : Int))) = Sz at *
          refine hK.out _ _ ?_ (fun hHeld2 => ?_)
          · exact ⟨E.out.cfg, Pu.out, Pv.out⟩
          clear hK KK hHeld
          have hHeld := hHeld2
          clear hHeld2
          try simp only [Act.put, List.setIfInBounds_toArray, List.set_cons_zero, List.set_cons_succ]
          refine wpAnyH_done (by kernel_rfl) ?_ _
          clear hHeld
          go_wp2
          go_meet
          exact ⟨bx, bz, A5, c5, A6, c6, rfl, rfl, E.out, HM.out, ⟨HBx.out, HR5.out, HNx.out, HA5.out⟩, ⟨HBz.out, HR6.out, HNz.out, HA6.out⟩⟩
      · go_simp
        have hal := (Kept.refl (fun _ => False) v5).alloc (.cells #[.int .i64 0, .slice none 0 0, .string ⟨#[]⟩, .bool false, .int .u64 0] 25)
        have HBx := Lib.hid (Blk.new v5 [.int .i64 0, .slice none 0 0, .string ⟨#[]⟩, .bool false, .int .u64 0] 25)
        have HNx := Lib.hid (show ¬ Own b g v5.heap.size by have := HM.out.obj.lt; have := HM.out.row.lt; unfold Own; omega)
        have HOx := Lib.hid (show b9 < v5.heap.size ∧ b10 < v5.heap.size ∧ w.heap.size ≤ v5.heap.size from ⟨E.out.cfg.lt, E.out.lay.lt, E.out.kept.size⟩)
        have HUx := Lib.hid (show pu < v5.heap.size ∧ pv < v5.heap.size from ⟨Pu.out.lt, Pv.out.lt⟩)
        have NE5x := Lib.hid (show 0 < P.xs.length → ∀ a, A5 = some a → a.block ≠ v5.heap.size from fun hp a ha => by have := HR5.out.lt hp a ha; omega)
        replace E := Lib.hid (E.out.none hal)
        replace HM := Lib.hid (HM.out.kept hal (fun h => h) (fun h => h))
        replace Pu := Lib.hid (hal.blk Pu.out (fun h => h))
        replace Pv := Lib.hid (hal.blk Pv.out (fun h => h))
        replace HRu := Lib.hid (HRu.out.keptF hal (fun _ _ h => h))
        replace HRv := Lib.hid (HRv.out.keptF hal (fun _ _ h => h))
        replace HR5 := Lib.hid (HR5.out.keptF hal (fun _ _ h => h))
        clear hal
        generalize v5.alloc (.cells #[.int .i64 0, .slice none 0 0, .string ⟨#[]⟩, .bool false, .int .u64 0] 25) = Vx at *
        generalize v5.heap.size = bx at *
        refine hK.out _ _ ?_ (fun hHeld2 => ?_)
        · exact ⟨E.out.cfg, Pu.out, Pv.out⟩
        clear hK KK hHeld
        have hHeld := hHeld2
        clear hHeld2
        try simp only [Act.put, List.setIfInBounds_toArray, List.set_cons_zero, List.set_cons_succ]
        refine wpAnyH_ready (rs := [7, 9]) (by kernel_rfl) (by simp) ?_
        refine AllReadyH.cons (o := ⟨some 50, _, _, _, _, _⟩) rfl (fun KK hK => ?_) (AllReadyH.cons (o := ⟨some 15, _, _, _, _, _⟩) rfl (fun KK hK => ?_) AllReadyH.nil)
        · go_simp
          go_at_call 11
          refine (content_any F plv2 A2 c2 hi2 la2 rt2 xs2 lvl _ n2 hn2 (by omega) HRv.out Q HQC.out).mono ?_; rintro e v6 ⟨A6, c6, rfl, hR, hA, hK9⟩
          have HA6 := Lib.hid (show ∀ a, A6 = some a → ¬ Own b g a.block from fun a ha e => by have := hA a ha; have := HM.out.obj.lt; have := HM.out.row.lt; unfold Own at e; omega)
          have NE6x := Lib.hid (show 0 < Q.xs.length → ∀ a, A6 = some a → a.block ≠ bx from fun _ a ha => by have := hA a ha; have := HBx.out.lt; omega)
          replace E := Lib.hid (E.out.none hK9)
          replace HM := Lib.hid (HM.out.kept hK9 (fun h => h) (fun h => h))
          replace Pu := Lib.hid (hK9.blk Pu.out (fun h => h))
          replace Pv := Lib.hid (hK9.blk Pv.out (fun h => h))
          replace HBx := Lib.hid (hK9.blk HBx.out (fun h => h))
          replace HRu := Lib.hid (HRu.out.keptF hK9 (fun _ _ h => h))
          replace HRv := Lib.hid (HRv.out.keptF hK9 (fun _ _ h => h))
          replace HR5 := Lib.hid (HR5.out.keptF hK9 (fun _ _ h => h))
          have HR6 := Lib.hid hR
          clear hR hA hK9
          refine hK.out _ _ ?_ (fun hHeld2 => ?_)
          · exact ⟨E.out.cfg, Pu.out, Pv.out⟩
          clear hK KK hHeld
          have hHeld := hHeld2
          clear hHeld2
          try simp only [Act.put, List.setIfInBounds_toArray, List.set_cons_zero, List.set_cons_succ]
          refine wpAnyH_ready (rs := [9]) (by kernel_rfl) (by simp) ?_
          refine AllReadyH.cons (o := ⟨some 15, _, _, _, _, _⟩) rfl (fun KK hK => ?_) AllReadyH.nil
          go_simp
          have hal := (Kept.refl (fun _ => False) v6).alloc (.cells #[.int .i64 0, .slice none 0 0, .string ⟨#[]⟩, .bool false, .int .u64 0] 25)
          have HBz := Lib.hid (Blk.new v6 [.int .i64 0, .slice none 0 0, .string ⟨#[]⟩, .bool false, .int .u64 0] 25)
          have HNz := Lib.hid (show ¬ Own b g v6.heap.size by have := HM.out.obj.lt; have := HM.out.row.lt; unfold Own; omega)
          have HOz := Lib.hid (show b9 < v6.heap.size ∧ b10 < v6.heap.size ∧ w.heap.size ≤ v6.heap.size from ⟨E.out.cfg.lt, E.out.lay.lt, E.out.kept.size⟩)
          have HUz := Lib.hid (show pu < v6.heap.size ∧ pv < v6.heap.size from ⟨Pu.out.lt, Pv.out.lt⟩)
          have NE5z := Lib.hid (show 0 < P.xs.length → ∀ a, A5 = some a → a.block ≠ v6.heap.size from fun hp a ha => by have := HR5.out.lt hp a ha; omega)
          have NE6z := Lib.hid (show 0 < Q.xs.length → ∀ a, A6 = some a → a.block ≠ v6.heap.size from fun hp a ha => by have := HR6.out.lt hp a ha; omega)
          have HXZ := Lib.hid (show bx ≠ v6.heap.size by have := HBx.out.lt; omega)
          replace E := Lib.hid (E.out.none hal)
          replace HM := Lib.hid (HM.out.kept hal (fun h => h) (fun h => h))
          replace Pu := Lib.hid (hal.blk Pu.out (fun h => h))
          replace Pv := Lib.hid (hal.blk Pv.out (fun h => h))
          replace HBx := Lib.hid (hal.blk HBx.out (fun h => h))
          replace HRu := Lib.hid (HRu.out.keptF hal (fun _ _ h => h))
          replace HRv := Lib.hid (HRv.out.keptF hal (fun _ _ h => h))
          replace HR5 := Lib.hid (HR5.out.keptF hal (fun _ _ h => h))
          replace HR6 := Lib.hid (HR6.out.keptF hal (fun _ _ h => h))
          clear hal
          generalize v6.alloc (.cells #[.int .i64 0, .slice none 0 0, .string ⟨#[]⟩, .bool false, .int .u64 0] 25) = Vz at *
          generalize v6.heap.size = bz at *
          refine hK.out _ _ ?_ (fun hHeld2 => ?_)
          · exact ⟨E.out.cfg, Pu.out, Pv.out⟩
          clear hK KK hHeld
          have hHeld := hHeld2
          clear hHeld2
          try simp only [Act.put, List.setIfInBounds_toArray, List.set_cons_zero, List.set_cons_succ]
          refine wpAnyH_ready (rs := [10]) (by kernel_rfl) (by simp) ?_
          refine AllReadyH.cons (o := ⟨none, _, _, _, _, _⟩) rfl (fun KK hK => ?_) AllReadyH.nil
          have u0 := HBx.out.cell (i := 0) rfl
          have zu0 := HBx.out.frozen 0
          have u1 := HBx.out.cell (i := 1) rfl
          have zu1 := HBx.out.frozen 1
          have u2 := HBx.out.cell (i := 2) rfl
          have zu2 := HBx.out.frozen 2
          have u3 := HBx.out.cell (i := 3) rfl
          have zu3 := HBx.out.frozen 3
          have u4 := HBx.out.cell (i := 4) rfl
          have zu4 := HBx.out.frozen 4
          go_simp
          clear u0 zu0 u1 zu1 u2 zu2 u3 zu3 u4 zu4
          have hkp := ((((((Kept.refl (fun i => i = bx) Vz).setCell (a := ⟨bx, 0, none⟩) (fun _ => rfl) (.int .i64 (P.lv : Int))).setCell (a := ⟨bx, 1, none⟩) (fun _ => rfl) (.slice A5 P.xs.length c5)).setCell (a := ⟨bx, 2, none⟩) (fun _ => rfl) (.string P.hi)).setCell (a := ⟨bx, 3, none⟩) (fun _ => rfl) (.bool P.la)).setCell (a := ⟨bx, 4, none⟩) (fun _ => rfl) (.int .u64 (P.rt : Int)))
          have hbs := (((((HBx.out.set 0 (.int .i64 (P.lv : Int))).set 1 (.slice A5 P.xs.length c5)).set 2 (.string P.hi)).set 3 (.bool P.la)).set 4 (.int .u64 (P.rt : Int)))
          replace HM := Lib.hid (HM.out.kept hkp (fun e => HNx.out (.inl e.symm)) (fun e => HNx.out (.inr e.symm)))
          replace E := Lib.hid (E.out.at HOx.out hkp)
          replace HR5 := Lib.hid (HR5.out.keptP hkp (fun hp a ha e => NE5x.out hp a ha e))
          replace HR6 := Lib.hid (HR6.out.keptP hkp (fun hp a ha e => NE6x.out hp a ha e))
          replace HBz := Lib.hid (hkp.blk HBz.out (fun e => by have := HXZ.out; omega))
          replace Pu := Lib.hid (hkp.blk Pu.out (fun e => by have := HUx.out; omega))
          replace Pv := Lib.hid (hkp.blk Pv.out (fun e => by have := HUx.out; omega))
          replace HBx := Lib.hid hbs
          clear hkp hbs
          generalize (((((Vz.setCell ⟨bx, 0, none⟩ (.int .i64 (P.lv : Int))).setCell ⟨bx, 1, none⟩ (.slice A5 P.xs.length c5)).setCell ⟨bx, 2, none⟩ (.string P.hi)).setCell ⟨bx, 3, none⟩ (.bool P.la)).setCell ⟨bx, 4, none⟩ (.int .u64 (P.rt : Int))) = Sx at *
          refine hK.out _ _ ?_ (fun hHeld2 => ?_)
          · exact ⟨E.out.cfg, Pu.out, Pv.out⟩
          clear hK KK hHeld
          have hHeld := hHeld2
          clear hHeld2
          try simp only [Act.put, List.setIfInBounds_toArray, List.set_cons_zero, List.set_cons_succ]
          refine wpAnyH_ready (rs := [11]) (by kernel_rfl) (by simp) ?_
          refine AllReadyH.cons (o := ⟨none, _, _, _, _, _⟩) rfl (fun KK hK => ?_) AllReadyH.nil
          have u0 := HBz.out.cell (i := 0) rfl
          have zu0 := HBz.out.frozen 0
          have u1 := HBz.out.cell (i := 1) rfl
          have zu1 := HBz.out.frozen 1
          have u2 := HBz.out.cell (i := 2) rfl
          have zu2 := HBz.out.frozen 2
          have u3 := HBz.out.cell (i := 3) rfl
          have zu3 := HBz.out.frozen 3
          have u4 := HBz.out.cell (i := 4) rfl
          have zu4 := HBz.out.frozen 4
          go_simp
          clear u0 zu0 u1 zu1 u2 zu2 u3 zu3 u4 zu4
          have hkp := ((((((Kept.refl (fun i => i = bz) Sx).setCell (a := ⟨bz, 0, none⟩) (fun _ => rfl) (.int .i64 (Q.lv : Int))).setCell (a := ⟨bz, 1, none⟩) (fun _ => rfl) (.slice A6 Q.xs.length c6)).setCell (a := ⟨bz, 2, none⟩) (fun _ => rfl) (.string Q.hi)).setCell (a := ⟨bz, 3, none⟩) (fun _ => rfl) (.bool Q.la)).setCell (a := ⟨bz, 4, none⟩) (fun _ => rfl) (.int .u64 (Q.rt : Int)))
          have hbs := (((((HBz.out.set 0 (.int .i64 (Q.lv : Int))).set 1 (.slice A6 Q.xs.length c6)).set 2 (.string Q.hi)).set 3 (.bool Q.la)).set 4 (.int .u64 (Q.rt : Int)))
          replace HM := Lib.hid (HM.out.kept hkp (fun e => HNz.out (.inl e.symm)) (fun e => HNz.out (.inr e.symm)))
          replace E := Lib.hid (E.out.at HOz.out hkp)
          replace HR5 := Lib.hid (HR5.out.keptP hkp (fun hp a ha e => NE5z.out hp a ha e))
          replace HR6 := Lib.hid (HR6.out.keptP hkp (fun hp a ha e => NE6z.out hp a ha e))
          replace HBx := Lib.hid (hkp.blk HBx.out (fun e => by have := HXZ.out; omega))
          replace Pu := Lib.hid (hkp.blk Pu.out (fun e => by have := HUz.out; omega))
          replace Pv := Lib.hid (hkp.blk Pv.out (fun e => by have := HUz.out; omega))
          replace HBz := Lib.hid hbs
          clear hkp hbs
          generalize (((((Sx.setCell ⟨bz, 0, none⟩ (.int .i64 (Q.lv : Int))).setCell ⟨bz, 1, none⟩ (.slice A6 Q.xs.length c6)).setCell ⟨bz, 2, none⟩ (.string Q.hi)).setCell ⟨bz, 3, none⟩ (.bool Q.la)).setCell ⟨bz, 4, none⟩ (.int .u64 (Q.rt : Int))) = Sz at *
          refine hK.out _ _ ?_ (fun hHeld2 => ?_)
          · exact ⟨E.out.cfg, Pu.out, Pv.out⟩
          clear hK KK hHeld
          have hHeld := hHeld2
          clear hHeld2
          try simp only [Act.put, List.setIfInBounds_toArray, List.set_cons_zero, List.set_cons_succ]
          refine wpAnyH_done (by kernel_rfl) ?_ _
          clear hHeld
          go_wp2
          go_meet
          exact ⟨bx, bz, A5, c5, A6, c6, rfl, rfl, E.out, HM.out, ⟨HBx.out, HR5.out, HNx.out, HA5.out⟩, ⟨HBz.out, HR6.out, HNz.out, HA6.out⟩⟩
        · go_simp
          have hal := (Kept.refl (fun _ => False) Vx).alloc (.cells #[.int .i64 0, .slice none 0 0, .string ⟨#[]⟩, .bool false, .int .u64 0] 25)
          have HBz := Lib.hid (Blk.new Vx [.int .i64 0, .slice none 0 0, .string ⟨#[]⟩, .bool false, .int .u64 0] 25)
          have HNz := Lib.hid (show ¬ Own b g Vx.heap.size by have := HM.out.obj.lt; have := HM.out.row.lt; unfold Own; omega)
          have HOz := Lib.hid (show b9 < Vx.heap.size ∧ b10 < Vx.heap.size ∧ w.heap.size ≤ Vx.heap.size from ⟨E.out.cfg.lt, E.out.lay.lt, E.out.kept.size⟩)
          have HUz := Lib.hid (show pu < Vx.heap.size ∧ pv < Vx.heap.size from ⟨Pu.out.lt, Pv.out.lt⟩)
          have NE5z := Lib.hid (show 0 < P.xs.length → ∀ a, A5 = some a → a.block ≠ Vx.heap.size from fun hp a ha => by have := HR5.out.lt hp a ha; omega)
          have HXZ := Lib.hid (show bx ≠ Vx.heap.size by have := HBx.out.lt; omega)
          replace E := Lib.hid (E.out.none hal)
          replace HM := Lib.hid (HM.out.kept hal (fun h => h) (fun h => h))
          replace Pu := Lib.hid (hal.blk Pu.out (fun h => h))
          replace Pv := Lib.hid (hal.blk Pv.out (fun h => h))
          replace HBx := Lib.hid (hal.blk HBx.out (fun h => h))
          replace HRu := Lib.hid (HRu.out.keptF hal (fun _ _ h => h))
          replace HRv := Lib.hid (HRv.out.keptF hal (fun _ _ h => h))
          replace HR5 := Lib.hid (HR5.out.keptF hal (fun _ _ h => h))
          clear hal
          generalize Vx.alloc (.cells #[.int .i64 0, .slice none 0 0, .string ⟨#[]⟩, .bool false, .int .u64 0] 25) = Vz at *
          generalize Vx.heap.size = bz at *
          refine hK.out _ _ ?_ (fun hHeld2 => ?_)
          · exact ⟨E.out.cfg, Pu.out, Pv.out⟩
          clear hK KK hHeld
          have hHeld := hHeld2
          clear hHeld2
          try simp only [Act.put, List.setIfInBounds_toArray, List.set_cons_zero, List.set_cons_succ]
          refine wpAnyH_ready (rs := [7]) (by kernel_rfl) (by simp) ?_
          refine AllReadyH.cons (o := ⟨some 50, _, _, _, _, _⟩) rfl (fun KK hK => ?_) AllReadyH.nil
          go_simp
          go_at_call 11
          refine (content_any F plv2 A2 c2 hi2 la2 rt2 xs2 lvl _ n2 hn2 (by omega) HRv.out Q HQC.out).mono ?_; rintro e v6 ⟨A6, c6, rfl, hR, hA, hK9⟩
          have HA6 := Lib.hid (show ∀ a, A6 = some a → ¬ Own b g a.block from fun a ha e => by have := hA a ha; have := HM.out.obj.lt; have := HM.out.row.lt; unfold Own at e; omega)
          have NE6x := Lib.hid (show 0 < Q.xs.length → ∀ a, A6 = some a → a.block ≠ bx from fun _ a ha => by have := hA a ha; have := HBx.out.lt; omega)
          have NE6z := Lib.hid (show 0 < Q.xs.length → ∀ a, A6 = some a → a.block ≠ bz from fun _ a ha => by have := hA a ha; have := HBz.out.lt; omega)
          replace E := Lib.hid (E.out.none hK9)
          replace HM := Lib.hid (HM.out.kept hK9 (fun h => h) (fun h => h))
          replace Pu := Lib.hid (hK9.blk Pu.out (fun h => h))
          replace Pv := Lib.hid (hK9.blk Pv.out (fun h => h))
          replace HBx := Lib.hid (hK9.blk HBx.out (fun h => h))
          replace HBz := Lib.hid (hK9.blk HBz.out (fun h => h))
          replace HRu := Lib.hid (HRu.out.keptF hK9 (fun _ _ h => h))
          replace HRv := Lib.hid (HRv.out.keptF hK9 (fun _ _ h => h))
          replace HR5 := Lib.hid (HR5.out.keptF hK9 (fun _ _ h => h))
          have HR6 := Lib.hid hR
          clear hR hA hK9
          refine hK.out _ _ ?_ (fun hHeld2 => ?_)
          · exact ⟨E.out.cfg, Pu.out, Pv.out⟩
          clear hK KK hHeld
          have hHeld := hHeld2
          clear hHeld2
          try simp only [Act.put, List.setIfInBounds_toArray, List.set_cons_zero, List.set_cons_succ]
          refine wpAnyH_ready (rs := [10]) (by kernel_rfl) (by simp) ?_
          refine AllReadyH.cons (o := ⟨none, _, _, _, _, _⟩) rfl (fun KK hK => ?_) AllReadyH.nil
          have u0 := HBx.out.cell (i := 0) rfl
          have zu0 := HBx.out.frozen 0
          have u1 := HBx.out.cell (i := 1) rfl
          have zu1 := HBx.out.frozen 1
          have u2 := HBx.out.cell (i := 2) rfl
          have zu2 := HBx.out.frozen 2
          have u3 := HBx.out.cell (i := 3) rfl
          have zu3 := HBx.out.frozen 3
          have u4 := HBx.out.cell (i := 4) rfl
          have zu4 := HBx.out.frozen 4
          go_simp
          clear u0 zu0 u1 zu1 u2 zu2 u3 zu3 u4 zu4
          have hkp := ((((((Kept.refl (fun i => i = bx) v6).setCell (a := ⟨bx, 0, none⟩) (fun _ => rfl) (.int .i64 (P.lv : Int))).setCell (a := ⟨bx, 1, none⟩) (fun _ => rfl) (.slice A5 P.xs.length c5)).setCell (a := ⟨bx, 2, none⟩) (fun _ => rfl) (.string P.hi)).setCell (a := ⟨bx, 3, none⟩) (fun _ => rfl) (.bool P.la)).setCell (a := ⟨bx, 4, none⟩) (fun _ => rfl) (.int .u64 (P.rt : Int)))
          have hbs := (((((HBx.out.set 0 (.int .i64 (P.lv : Int))).set 1 (.slice A5 P.xs.length c5)).set 2 (.string P.hi)).set 3 (.bool P.la)).set 4 (.int .u64 (P.rt : Int)))
          replace HM := Lib.hid (HM.out.kept hkp (fun e => HNx.out (.inl e.symm)) (fun e => HNx.out (.inr e.symm)))
          replace E := Lib.hid (E.out.at HOx.out hkp)
          replace HR5 := Lib.hid (HR5.out.keptP hkp (fun hp a ha e => NE5x.out hp a ha e))
          replace HR6 := Lib.hid (HR6.out.keptP hkp (fun hp a ha e => NE6x.out hp a ha e))
          replace HBz := Lib.hid (hkp.blk HBz.out (fun e => by have := HXZ.out; omega))
          replace Pu := Lib.hid (hkp.blk Pu.out (fun e => by have := HUx.out; omega))
          replace Pv := Lib.hid (hkp.blk Pv.out (fun e => by have := HUx.out; omega))
          replace HBx := Lib.hid hbs
          clear hkp hbs
          generalize (((((v6.setCell ⟨bx, 0, none⟩ (.int .i64 (P.lv : Int))).setCell ⟨bx, 1, none⟩ (.slice A5 P.xs.length c5)).setCell ⟨bx, 2, none⟩ (.string P.hi)).setCell ⟨bx, 3, none⟩ (.bool P.la)).setCell ⟨bx, 4, none⟩ (.int .u64 (P.rt : Int))) = Sx at *
          refine hK.out _ _ ?_ (fun hHeld2 => ?_)
          · exact ⟨E.out.cfg, Pu.out, Pv.out⟩
          clear hK KK hHeld
          have hHeld := hHeld2
          clear hHeld2
          try simp only [Act.put, List.setIfInBounds_toArray, List.set_cons_zero, List.set_cons_succ]
          refine wpAnyH_ready (rs := [11]) (by kernel_rfl) (by simp) ?_
          refine AllReadyH.cons (o := ⟨none, _, _, _, _, _⟩) rfl (fun KK hK => ?_) AllReadyH.nil
          have u0 := HBz.out.cell (i := 0) rfl
          have zu0 := HBz.out.frozen 0
          have u1 := HBz.out.cell (i := 1) rfl
          have zu1 := HBz.out.frozen 1
          have u2 := HBz.out.cell (i := 2) rfl
          have zu2 := HBz.out.frozen 2
          have u3 := HBz.out.cell (i := 3) rfl
          have zu3 := HBz.out.frozen 3
          have u4 := HBz.out.cell (i := 4) rfl
          have zu4 := HBz.out.frozen 4
          go_simp
          clear u0 zu0 u1 zu1 u2 zu2 u3 zu3 u4 zu4
          have hkp := ((((((Kept.refl (fun i => i = bz) Sx).setCell (a := ⟨bz, 0, none⟩) (fun _ => rfl) (.int .i64 (Q.lv : Int))).setCell (a := ⟨bz, 1, none⟩) (fun _ => rfl) (.slice A6 Q.xs.length c6)).setCell (a := ⟨bz, 2, none⟩) (fun _ => rfl) (.string Q.hi)).setCell (a := ⟨bz, 3, none⟩) (fun _ => rfl) (.bool Q.la)).setCell (a := ⟨bz, 4, none⟩) (fun _ => rfl) (.int .u64 (Q.rt : Int)))
          have hbs := (((((HBz.out.set 0 (.int .i64 (Q.lv : Int))).set 1 (.slice A6 Q.xs.length c6)).set 2 (.string Q.hi)).set 3 (.bool Q.la)).set 4 (.int .u64 (Q.rt : Int)))
          replace HM := Lib.hid (HM.out.kept hkp (fun e => HNz.out (.inl e.symm)) (fun e => HNz.out (.inr e.symm)))
          replace E := Lib.hid (E.out.at HOz.out hkp)
          replace HR5 := Lib.hid (HR5.out.keptP hkp (fun hp a ha e => NE5z.out hp a ha e))
          replace HR6 := Lib.hid (HR6.out.keptP hkp (fun hp a ha e => NE6z.out hp a ha e))
          replace HBx := Lib.hid (hkp.blk HBx.out (fun e => by have := HXZ.out; omega))
          replace Pu := Lib.hid (hkp.blk Pu.out (fun e => by have := HUz.out; omega))
          replace Pv := Lib.hid (hkp.blk Pv.out (fun e => by have := HUz.out; omega))
          replace HBz := Lib.hid hbs
          clear hkp hbs
          generalize (((((Sx.setCell ⟨bz, 0, none⟩ (.int .i64 (Q.lv : Int))).setCell ⟨bz, 1, none⟩ (.slice A6 Q.xs.length c6)).setCell ⟨bz, 2, none⟩ (.string Q.hi)).setCell ⟨bz, 3, none⟩ (.bool Q.la)).setCell ⟨bz, 4, none⟩ (.int .u64 (Q.rt : Int))) = Sz at *
          refine hK.out _ _ ?_ (fun hHeld2 => ?_)
          · exact ⟨E.out.cfg, Pu.out, Pv.out⟩
          clear hK KK hHeld
          have hHeld := hHeld2
          clear hHeld2
          try simp only [Act.put, List.setIfInBounds_toArray, List.set_cons_zero, List.set_cons_succ]
          refine wpAnyH_done (by kernel_rfl) ?_ _
          clear hHeld
          go_wp2
          go_meet
          exact ⟨bx, bz, A5, c5, A6, c6, rfl, rfl, E.out, HM.out, ⟨HBx.out, HR5.out, HNx.out, HA5.out⟩, ⟨HBz.out, HR6.out, HNz.out, HA6.out⟩⟩
      · go_simp
        have hal := (Kept.refl (fun _ => False) v5).alloc (.cells #[.int .i64 0, .slice none 0 0, .string ⟨#[]⟩, .bool false, .int .u64 0] 25)
        have HBz := Lib.hid (Blk.new v5 [.int .i64 0, .slice none 0 0, .string ⟨#[]⟩, .bool false, .int .u64 0] 25)
        have HNz := Lib.hid (show ¬ Own b g v5.heap.size by have := HM.out.obj.lt; have := HM.out.row.lt; unfold Own; omega)
        have HOz := Lib.hid (show b9 < v5.heap.size ∧ b10 < v5.heap.size ∧ w.heap.size ≤ v5.heap.size from ⟨E.out.cfg.lt, E.out.lay.lt, E.out.kept.size⟩)
        have HUz := Lib.hid (show pu < v5.heap.size ∧ pv < v5.heap.size from ⟨Pu.out.lt, Pv.out.lt⟩)
        have NE5z := Lib.hid (show 0 < P.xs.length → ∀ a, A5 = some a → a.block ≠ v5.heap.size from fun hp a ha => by have := HR5.out.lt hp a ha; omega)
        replace E := Lib.hid (E.out.none hal)
        replace HM := Lib.hid (HM.out.kept hal (fun h => h) (fun h => h))
        replace Pu := Lib.hid (hal.blk Pu.out (fun h => h))
        replace Pv := Lib.hid (hal.blk Pv.out (fun h => h))
        replace HRu := Lib.hid (HRu.out.keptF hal (fun _ _ h => h))
        replace HRv := Lib.hid (HRv.out.keptF hal (fun _ _ h => h))
        replace HR5 := Lib.hid (HR5.out.keptF hal (fun _ _ h => h))
        clear hal
        generalize v5.alloc (.cells #[.int .i64 0, .slice none 0 0, .string ⟨#[]⟩, .bool false, .int .u64 0] 25) = Vz at *
        generalize v5.heap.size = bz at *
        refine hK.out _ _ ?_ (fun hHeld2 => ?_)
        · exact ⟨E.out.cfg, Pu.out, Pv.out⟩
        clear hK KK hHeld
        have hHeld := hHeld2
        clear hHeld2
        try simp only [Act.put, List.setIfInBounds_toArray, List.set_cons_zero, List.set_cons_succ]
        refine wpAnyH_ready (rs := [7, 8]) (by kernel_rfl) (by simp) ?_
        refine AllReadyH.cons (o := ⟨some 50, _, _, _, _, _⟩) rfl (fun KK hK => ?_) (AllReadyH.cons (o := ⟨some 14, _, _, _, _, _⟩) rfl (fun KK hK => ?_) AllReadyH.nil)
        · go_simp
          go_at_call 11
          refine (content_any F plv2 A2 c2 hi2 la2 rt2 xs2 lvl _ n2 hn2 (by omega) HRv.out Q HQC.out).mono ?_; rintro e v6 ⟨A6, c6, rfl, hR, hA, hK9⟩
          have HA6 := Lib.hid (show ∀ a, A6 = some a → ¬ Own b g a.block from fun a ha e => by have := hA a ha; have := HM.out.obj.lt; have := HM.out.row.lt; unfold Own at e; omega)
          have NE6z := Lib.hid (show 0 < Q.xs.length → ∀ a, A6 = some a → a.block ≠ bz from fun _ a ha => by have := hA a ha; have := HBz.out.lt; omega)
          replace E := Lib.hid (E.out.none hK9)
          replace HM := Lib.hid (HM.out.kept hK9 (fun h => h) (fun h => h))
          replace Pu := Lib.hid (hK9.blk Pu.out (fun h => h))
          replace Pv := Lib.hid (hK9.blk Pv.out (fun h => h))
          replace HBz := Lib.hid (hK9.blk HBz.out (fun h => h))
          replace HRu := Lib.hid (HRu.out.keptF hK9 (fun _ _ h => h))
          replace HRv := Lib.hid (HRv.out.keptF hK9 (fun _ _ h => h))
          replace HR5 := Lib.hid (HR5.out.keptF hK9 (fun _ _ h => h))
          have HR6 := Lib.hid hR
          clear hR hA hK9
          refine hK.out _ _ ?_ (fun hHeld2 => ?_)
          · exact ⟨E.out.cfg, Pu.out, Pv.out⟩
          clear hK KK hHeld
          have hHeld := hHeld2
          clear hHeld2
          try simp only [Act.put, List.setIfInBounds_toArray, List.set_cons_zero, List.set_cons_succ]
          refine wpAnyH_ready (rs := [8]) (by kernel_rfl) (by simp) ?_
          refine AllReadyH.cons (o := ⟨some 14, _, _, _, _, _⟩) rfl (fun KK hK => ?_) AllReadyH.nil
          go_simp
          have hal := (Kept.refl (fun _ => False) v6).alloc (.cells #[.int .i64 0, .slice none 0 0, .string ⟨#[]⟩, .bool false, .int .u64 0] 25)
          have HBx := Lib.hid (Blk.new v6 [.int .i64 0, .slice none 0 0, .string ⟨#[]⟩, .bool false, .int .u64 0] 25)
          have HNx := Lib.hid (show ¬ Own b g v6.heap.size by have := HM.out.obj.lt; have := HM.out.row.lt; unfold Own; omega)
          have HOx := Lib.hid (show b9 < v6.heap.size ∧ b10 < v6.heap.size ∧ w.heap.size ≤ v6.heap.size from ⟨E.out.cfg.lt, E.out.lay.lt, E.out.kept.size⟩)
          have HUx := Lib.hid (show pu < v6.heap.size ∧ pv < v6.heap.size from ⟨Pu.out.lt, Pv.out.lt⟩)
          have NE5x := Lib.hid (show 0 < P.xs.length → ∀ a, A5 = some a → a.block ≠ v6.heap.size from fun hp a ha => by have := HR5.out.lt hp a ha; omega)
          have NE6x := Lib.hid (show 0 < Q.xs.length → ∀ a, A6 = some a → a.block ≠ v6.heap.size from fun hp a ha => by have := HR6.out.lt hp a ha; omega)
          have HXZ := Lib.hid (show bz ≠ v6.heap.size by have := HBz.out.lt; omega)
          replace E := Lib.hid (E.out.none hal)
          replace HM := Lib.hid (HM.out.kept hal (fun h => h) (fun h => h))
          replace Pu := Lib.hid (hal.blk Pu.out (fun h => h))
          replace Pv := Lib.hid (hal.blk Pv.out (fun h => h))
          replace HBz := Lib.hid (hal.blk HBz.out (fun h => h))
          replace HRu := Lib.hid (HRu.out.keptF hal (fun _ _ h => h))
          replace HRv := Lib.hid (HRv.out.keptF hal (fun _ _ h => h))
          replace HR5 := Lib.hid (HR5.out.keptF hal (fun _ _ h => h))
          replace HR6 := Lib.hid (HR6.out.keptF hal (fun _ _ h => h))
          clear hal
          generalize v6.alloc (.cells #[.int .i64 0, .slice none 0 0, .string ⟨#[]⟩, .bool false, .int .u64 0] 25) = Vx at *
          generalize v6.heap.size = bx at *
          refine hK.out _ _ ?_ (fun hHeld2 => ?_)
          · exact ⟨E.out.cfg, Pu.out, Pv.out⟩
          clear hK KK hHeld
          have hHeld := hHeld2
          clear hHeld2
          try simp only [Act.put, List.setIfInBounds_toArray, List.set_cons_zero, List.set_cons_succ]
          refine wpAnyH_ready (rs := [10]) (by kernel_rfl) (by simp) ?_
          refine AllReadyH.cons (o := ⟨none, _, _, _, _, _⟩) rfl (fun KK hK => ?_) AllReadyH.nil
          have u0 := HBx.out.cell (i := 0) rfl
          have zu0 := HBx.out.frozen 0
          have u1 := HBx.out.cell (i := 1) rfl
          have zu1 := HBx.out.frozen 1
          have u2 := HBx.out.cell (i := 2) rfl
          have zu2 := HBx.out.frozen 2
          have u3 := HBx.out.cell (i := 3) rfl
          have zu3 := HBx.out.frozen 3
          have u4 := HBx.out.cell (i := 4) rfl
          have zu4 := HBx.out.frozen 4
          go_simp
          clear u0 zu0 u1 zu1 u2 zu2 u3 zu3 u4 zu4
          have hkp := ((((((Kept.refl (fun i => i = bx) Vx).setCell (a := ⟨bx, 0, none⟩) (fun _ => rfl) (.int .i64 (P.lv : Int))).setCell (a := ⟨bx, 1, none⟩) (fun _ => rfl) (.slice A5 P.xs.length c5)).setCell (a := ⟨bx, 2, none⟩) (fun _ => rfl) (.string P.hi)).setCell (a := ⟨bx, 3, none⟩) (fun _ => rfl) (.bool P.la)).setCell (a := ⟨bx, 4, none⟩) (fun _ => rfl) (.int .u64 (P.rt : Int)))
          have hbs := (((((HBx.out.set 0 (.int .i64 (P.lv : Int))).set 1 (.slice A5 P.xs.length c5)).set 2 (.string P.hi)).set 3 (.bool P.la)).set 4 (.int .u64 (P.rt : Int)))
          replace HM := Lib.hid (HM.out.kept hkp (fun e => HNx.out (.inl e.symm)) (fun e => HNx.out (.inr e.symm)))
          replace E := Lib.hid (E.out.at HOx.out hkp)
          replace HR5 := Lib.hid (HR5.out.keptP hkp (fun hp a ha e => NE5x.out hp a ha e))
          replace HR6 := Lib.hid (HR6.out.keptP hkp (fun hp a ha e => NE6x.out hp a ha e))
          replace HBz := Lib.hid (hkp.blk HBz.out (fun e => by have := HXZ.out; omega))
          replace Pu := Lib.hid (hkp.blk Pu.out (fun e => by have := HUx.out; omega))
          replace Pv := Lib.hid (hkp.blk Pv.out (fun e => by have := HUx.out; omega))
          replace HBx := Lib.hid hbs
          clear hkp hbs
          generalize (((((Vx.setCell ⟨bx, 0, none⟩ (.int .i64 (P.lv : Int))).setCell ⟨bx, 1, none⟩ (.slice A5 P.xs.length c5)).setCell ⟨bx, 2, none⟩ (.string P.hi)).setCell ⟨bx, 3, none⟩ (.bool P.la)).setCell ⟨bx, 4, none⟩ (.int .u64 (P.rt : Int))) = Sx at *
          refine hK.out _ _ ?_ (fun hHeld2 => ?_)
          · exact ⟨E.out.cfg, Pu.out, Pv.out⟩
          clear hK KK hHeld
          have hHeld := hHeld2
          clear hHeld2
          try simp only [Act.put, List.setIfInBounds_toArray, List.set_cons_zero, List.set_cons_succ]
          refine wpAnyH_ready (rs := [11]) (by kernel_rfl) (by simp) ?_
          refine AllReadyH.cons (o := ⟨none, _, _, _, _, _⟩) rfl (fun KK hK => ?_) AllReadyH.nil
          have u0 := HBz.out.cell (i := 0) rfl
          have zu0 := HBz.out.frozen 0
          have u1 := HBz.out.cell (i := 1) rfl
          have zu1 := HBz.out.frozen 1
          have u2 := HBz.out.cell (i := 2) rfl
          have zu2 := HBz.out.frozen 2
          have u3 := HBz.out.cell (i := 3) rfl
          have zu3 := HBz.out.frozen 3
          have u4 := HBz.out.cell (i := 4) rfl
          have zu4 := HBz.out.frozen 4
          go_simp
          clear u0 zu0 u1 zu1 u2 zu2 u3 zu3 u4 zu4
          have hkp := ((((((Kept.refl (fun i => i = bz) Sx).setCell (a := ⟨bz, 0, none⟩) (fun _ => rfl) (.int .i64 (Q.lv : Int))).setCell (a := ⟨bz, 1, none⟩) (fun _ => rfl) (.slice A6 Q.xs.length c6)).setCell (a := ⟨bz, 2, none⟩) (fun _ => rfl) (.string Q.hi)).setCell (a := ⟨bz, 3, none⟩) (fun _ => rfl) (.bool Q.la)).setCell (a := ⟨bz, 4, none⟩) (fun _ => rfl) (.int .u64 (Q.rt : Int)))
          have hbs := (((((HBz.out.set 0 (.int .i64 (Q.lv : Int))).set 1 (.slice A6 Q.xs.length c6)).set 2 (.string Q.hi)).set 3 (.bool Q.la)).set 4 (.int .u64 (Q.rt : Int)))
          replace HM := Lib.hid (HM.out.kept hkp (fun e => HNz.out (.inl e.symm)) (fun e => HNz.out (.inr e.symm)))
          replace E := Lib.hid (E.out.at HOz.out hkp)
          replace HR5 := Lib.hid (HR5.out.keptP hkp (fun hp a ha e => NE5z.out hp a ha e))
          replace HR6 := Lib.hid (HR6.out.keptP hkp (fun hp a ha e => NE6z.out hp a ha e))
          replace HBx := Lib.hid (hkp.blk HBx.out (fun e => by have := HXZ.out; omega))
          replace Pu := Lib.hid (hkp.blk Pu.out (fun e => by have := HUz.out; omega))
          replace Pv := Lib.hid (hkp.blk Pv.out (fun e => by have := HUz.out; omega))
          replace HBz := Lib.hid hbs
          clear hkp hbs
          generalize (((((Sx.setCell ⟨bz, 0, none⟩ (.int .i64 (Q.lv : Int))).setCell ⟨bz, 1, none⟩ (.slice A6 Q.xs.length c6)).setCell ⟨bz, 2, none⟩ (.string Q.hi)).setCell ⟨bz, 3, none⟩ (.bool Q.la)).setCell ⟨bz, 4, none⟩ (.int .u64 (Q.rt : Int))) = Sz at *
          refine hK.out _ _ ?_ (fun hHeld2 => ?_)
          · exact ⟨E.out.cfg, Pu.out, Pv.out⟩
          clear hK KK hHeld
          have hHeld := hHeld2
          clear hHeld2
          try simp only [Act.put, List.setIfInBounds_toArray, List.set_cons_zero, List.set_cons_succ]
          refine wpAnyH_done (by kernel_rfl) ?_ _
          clear hHeld
          go_wp2
          go_meet
          exact ⟨bx, bz, A5, c5, A6, c6, rfl, rfl, E.out, HM.out, ⟨HBx.out, HR5.out, HNx.out, HA5.out⟩, ⟨HBz.out, HR6.out, HNz.out, HA6.out⟩⟩
        · go_simp
          have hal := (Kept.refl (fun _ => False) Vz).alloc (.cells #[.int .i64 0, .slice none 0 0, .string ⟨#[]⟩, .bool false, .int .u64 0] 25)
          have HBx := Lib.hid (Blk.new Vz [.int .i64 0, .slice none 0 0, .string ⟨#[]⟩, .bool false, .int .u64 0] 25)
          have HNx := Lib.hid (show ¬ Own b g Vz.heap.size by have := HM.out.obj.lt; have := HM.out.row.lt; unfold Own; omega)
          have HOx := Lib.hid (show b9 < Vz.heap.size ∧ b10 < Vz.heap.size ∧ w.heap.size ≤ Vz.heap.size from ⟨E.out.cfg.lt, E.out.lay.lt, E.out.kept.size⟩)
          have HUx := Lib.hid (show pu < Vz.heap.size ∧ pv < Vz.heap.size from ⟨Pu.out.lt, Pv.out.lt⟩)
          have NE5x := Lib.hid (show 0 < P.xs.length → ∀ a, A5 = some a → a.block ≠ Vz.heap.size from fun hp a ha => by have := HR5.out.lt hp a ha; omega)
          have HXZ := Lib.hid (show bz ≠ Vz.heap.size by have := HBz.out.lt; omega)
          replace E := Lib.hid (E.out.none hal)
          replace HM := Lib.hid (HM.out.kept hal (fun h => h) (fun h => h))
          replace Pu := Lib.hid (hal.blk Pu.out (fun h => h))
          replace Pv := Lib.hid (hal.blk Pv.out (fun h => h))
          replace HBz := Lib.hid (hal.blk HBz.out (fun h => h))
          replace HRu := Lib.hid (HRu.out.keptF hal (fun _ _ h => h))
          replace HRv := Lib.hid (HRv.out.keptF hal (fun _ _ h => h))
          replace HR5 := Lib.hid (HR5.out.keptF hal (fun _ _ h => h))
          clear hal
          generalize Vz.alloc (.cells #[.int .i64 0, .slice none 0 0, .string ⟨#[]⟩, .bool false, .int .u64 0] 25) = Vx at *
          generalize Vz.heap.size = bx at *
          refine hK.out _ _ ?_ (fun hHeld2 => ?_)
          · exact ⟨E.out.cfg, Pu.out, Pv.out⟩
          clear hK KK hHeld
          have hHeld := hHeld2
          clear hHeld2
          try simp only [Act.put, List.setIfInBounds_toArray, List.set_cons_zero, List.set_cons_succ]
          refine wpAnyH_ready (rs := [7]) (by kernel_rfl) (by simp) ?_
          refine AllReadyH.cons (o := ⟨some 50, _, _, _, _, _⟩) rfl (fun KK hK => ?_) AllReadyH.nil
          go_simp
          go_at_call 11
          refine (content_any F plv2 A2 c2 hi2 la2 rt2 xs2 lvl _ n2 hn2 (by omega) HRv.out Q HQC.out).mono ?_; rintro e v6 ⟨A6, c6, rfl, hR, hA, hK9⟩
          have HA6 := Lib.hid (show ∀ a, A6 = some a → ¬ Own b g a.block from fun a ha e => by have := hA a ha; have := HM.out.obj.lt; have := HM.out.row.lt; unfold Own at e; omega)
          have NE6z := Lib.hid (show 0 < Q.xs.length → ∀ a, A6 = some a → a.block ≠ bz from fun _ a ha => by have := hA a ha; have := HBz.out.lt; omega)
          have NE6x := Lib.hid (show 0 < Q.xs.length → ∀ a, A6 = some a → a.block ≠ bx from fun _ a ha => by have := hA a ha; have := HBx.out.lt; omega)
          replace E := Lib.hid (E.out.none hK9)
          replace HM := Lib.hid (HM.out.kept hK9 (fun h => h) (fun h => h))
          replace Pu := Lib.hid (hK9.blk Pu.out (fun h => h))
          replace Pv := Lib.hid (hK9.blk Pv.out (fun h => h))
          replace HBz := Lib.hid (hK9.blk HBz.out (fun h => h))
          replace HBx := Lib.hid (hK9.blk HBx.out (fun h => h))
          replace HRu := Lib.hid (HRu.out.keptF hK9 (fun _ _ h => h))
          replace HRv := Lib.hid (HRv.out.keptF hK9 (fun _ _ h => h))
          replace HR5 := Lib.hid (HR5.out.keptF hK9 (fun _ _ h => h))
          have HR6 := Lib.hid hR
          clear hR hA hK9
          refine hK.out _ _ ?_ (fun hHeld2 => ?_)
          · exact ⟨E.out.cfg, Pu.out, Pv.out⟩
          clear hK KK hHeld
          have hHeld := hHeld2
          clear hHeld2
          try simp only [Act.put, List.setIfInBounds_toArray, List.set_cons_zero, List.set_cons_succ]
          refine wpAnyH_ready (rs := [10]) (by kernel_rfl) (by simp) ?_
          refine AllReadyH.cons (o := ⟨none, _, _, _, _, _⟩) rfl (fun KK hK => ?_) AllReadyH.nil
          have u0 := HBx.out.cell (i := 0) rfl
          have zu0 := HBx.out.frozen 0
          have u1 := HBx.out.cell (i := 1) rfl
          have zu1 := HBx.out.frozen 1
          have u2 := HBx.out.cell (i := 2) rfl
          have zu2 := HBx.out.frozen 2
          have u3 := HBx.out.cell (i := 3) rfl
          have zu3 := HBx.out.frozen 3
          have u4 := HBx.out.cell (i := 4) rfl
          have zu4 := HBx.out.frozen 4
          go_simp
          clear u0 zu0 u1 zu1 u2 zu2 u3 zu3 u4 zu4
          have hkp := ((((((Kept.refl (fun i => i = bx) v6).setCell (a := ⟨bx, 0, none⟩) (fun _ => rfl) (.int .i64 (P.lv : Int))).setCell (a := ⟨bx, 1, none⟩) (fun _ => rfl) (.slice A5 P.xs.length c5)).setCell (a := ⟨bx, 2, none⟩) (fun _ => rfl) (.string P.hi)).setCell (a := ⟨bx, 3, none⟩) (fun _ => rfl) (.bool P.la)).setCell (a := ⟨bx, 4, none⟩) (fun _ => rfl) (.int .u64 (P.rt : Int)))
          have hbs := (((((HBx.out.set 0 (.int .i64 (P.lv : Int))).set 1 (.slice A5 P.xs.length c5)).set 2 (.string P.hi)).set 3 (.bool P.la)).set 4 (.int .u64 (P.rt : Int)))
          replace HM := Lib.hid (HM.out.kept hkp (fun e => HNx.out (.inl e.symm)) (fun e => HNx.out (.inr e.symm)))
          replace E := Lib.hid (E.out.at HOx.out hkp)
          replace HR5 := Lib.hid (HR5.out.keptP hkp (fun hp a ha e => NE5x.out hp a ha e))
          replace HR6 := Lib.hid (HR6.out.keptP hkp (fun hp a ha e => NE6x.out hp a ha e))
          replace HBz := Lib.hid (hkp.blk HBz.out (fun e => by have := HXZ.out; omega))
          replace Pu := Lib.hid (hkp.blk Pu.out (fun e => by have := HUx.out; omega))
          replace Pv := Lib.hid (hkp.blk Pv.out (fun e => by have := HUx.out; omega))
          replace HBx := Lib.hid hbs
          clear hkp hbs
          generalize (((((v6.setCell ⟨bx, 0, none⟩ (.int .i64 (P.lv : Int))).setCell ⟨bx, 1, none⟩ (.slice A5 P.xs.length c5)).setCell ⟨bx, 2, none⟩ (.string P.hi)).setCell ⟨bx, 3, none⟩ (.bool P.la)).setCell ⟨bx, 4, none⟩ (.int .u64 (P.rt : Int))) = Sx at *
          refine hK.out _ _ ?_ (fun hHeld2 => ?_)
          · exact ⟨E.out.cfg, Pu.out, Pv.out⟩
          clear hK KK hHeld
          have hHeld := hHeld2
          clear hHeld2
          try simp only [Act.put, List.setIfInBounds_toArray, List.set_cons_zero, List.set_cons_succ]
          refine wpAnyH_ready (rs := [11]) (by kernel_rfl) (by simp) ?_
          refine AllReadyH.cons (o := ⟨none, _, _, _, _, _⟩) rfl (fun KK hK => ?_) AllReadyH.nil
          have u0 := HBz.out.cell (i := 0) rfl
          have zu0 := HBz.out.frozen 0
          have u1 := HBz.out.cell (i := 1) rfl
          have zu1 := HBz.out.frozen 1
          have u2 := HBz.out.cell (i := 2) rfl
          have zu2 := HBz.out.frozen 2
          have u3 := HBz.out.cell (i := 3) rfl
          have zu3 := HBz.out.frozen 3
          have u4 := HBz.out.cell (i := 4) rfl
          have zu4 := HBz.out.frozen 4
          go_simp
          clear u0 zu0 u1 zu1 u2 zu2 u3 zu3 u4 zu4
          have hkp := ((((((Kept.refl (fun i => i = bz) Sx).setCell (a := ⟨bz, 0, none⟩) (fun _ => rfl) (.int .i64 (Q.lv : Int))).setCell (a := ⟨bz, 1, none⟩) (fun _ => rfl) (.slice A6 Q.xs.length c6)).setCell (a := ⟨bz, 2, none⟩) (fun _ => rfl) (.string Q.hi)).setCell (a := ⟨bz, 3, none⟩) (fun _ => rfl) (.bool Q.la)).setCell (a := ⟨bz, 4, none⟩) (fun _ => rfl) (.int .u64 (Q.rt : Int)))
          have hbs := (((((HBz.out.set 0 (.int .i64 (Q.lv : Int))).set 1 (.slice A6 Q.xs.length c6)).set 2 (.string Q.hi)).set 3 (.bool Q.la)).set 4 (.int .u64 (Q.rt : Int)))
          replace HM := Lib.hid (HM.out.kept hkp (fun e => HNz.out (.inl e.symm)) (fun e => HNz.out (.inr e.symm)))
          replace E := Lib.hid (E.out.at HOz.out hkp)
          replace HR5 := Lib.hid (HR5.out.keptP hkp (fun hp a ha e => NE5z.out hp a ha e))
          replace HR6 := Lib.hid (HR6.out.keptP hkp (fun hp a ha e => NE6z.out hp a ha e))
          replace HBx := Lib.hid (hkp.blk HBx.out (fun e => by have := HXZ.out; omega))
          replace Pu := Lib.hid (hkp.blk Pu.out (fun e => by have := HUz.out; omega))
          replace Pv := Lib.hid (hkp.blk Pv.out (fun e => by have := HUz.out; omega))
          replace HBz := Lib.hid hbs
          clear hkp hbs
          generalize (((((Sx.setCell ⟨bz, 0, none⟩ (.int .i64 (Q.lv : Int))).setCell ⟨bz, 1, none⟩ (.slice A6 Q.xs.length c6)).setCell ⟨bz, 2, none⟩ (.string Q.hi)).setCell ⟨bz, 3, none⟩ (.bool Q.la)).setCell ⟨bz, 4, none⟩ (.int .u64 (Q.rt : Int))) = Sz at *
          refine hK.out _ _ ?_ (fun hHeld2 => ?_)
          · exact ⟨E.out.cfg, Pu.out, Pv.out⟩
          clear hK KK hHeld
          have hHeld := hHeld2
          clear hHeld2
          try simp only [Act.put, List.setIfInBounds_toArray, List.set_cons_zero, List.set_cons_succ]
          refine wpAnyH_done (by kernel_rfl) ?_ _
          clear hHeld
          go_wp2
          go_meet
          exact ⟨bx, bz, A5, c5, A6, c6, rfl, rfl, E.out, HM.out, ⟨HBx.out, HR5.out, HNx.out, HA5.out⟩, ⟨HBz.out, HR6.out, HNz.out, HA6.out⟩⟩
    · go_simp
      have hal := (Kept.refl (fun _ => False) G).alloc (.cells #[.int .i64 0, .slice none 0 0, .string ⟨#[]⟩, .bool false, .int .u64 0] 25)
      have HBx := Lib.hid (Blk.new G [.int .i64 0, .slice none 0 0, .string ⟨#[]⟩, .bool false, .int .u64 0] 25)
      have HNx := Lib.hid (show ¬ Own b g G.heap.size by have := HM.out.obj.lt; have := HM.out.row.lt; unfold Own; omega)
      have HOx := Lib.hid (show b9 < G.heap.size ∧ b10 < G.heap.size ∧ w.heap.size ≤ G.heap.size from ⟨E.out.cfg.lt, E.out.lay.lt, E.out.kept.size⟩)
      have HUx := Lib.hid (show pu < G.heap.size ∧ pv < G.heap.size from ⟨Pu.out.lt, Pv.out.lt⟩)
      replace E := Lib.hid (E.out.none hal)
      replace HM := Lib.hid (HM.out.kept hal (fun h => h) (fun h => h))
      replace Pu := Lib.hid (hal.blk Pu.out (fun h => h))
      replace Pv := Lib.hid (hal.blk Pv.out (fun h => h))
      replace HRu := Lib.hid (HRu.out.keptF hal (fun _ _ h => h))
      replace HRv := Lib.hid (HRv.out.keptF hal (fun _ _ h => h))
      clear hal
      generalize G.alloc (.cells #[.int .i64 0, .slice none 0 0, .string ⟨#[]⟩, .bool false, .int .u64 0] 25) = Vx at *
      generalize G.heap.size = bx at *
      refine hK.out _ _ ?_ (fun hHeld2 => ?_)
      · exact ⟨E.out.cfg, Pu.out, Pv.out⟩
      clear hK KK hHeld
      have hHeld := hHeld2
      clear hHeld2
      try simp only [Act.put, List.setIfInBounds_toArray, List.set_cons_zero, List.set_cons_succ]
      refine wpAnyH_ready (rs := [3, 9]) (by kernel_rfl) (by simp) ?_
      refine AllReadyH.cons (o := ⟨some 46, _, _, _, _, _⟩) rfl (fun KK hK => ?_) (AllReadyH.cons (o := ⟨some 15, _, _, _, _, _⟩) rfl (fun KK hK => ?_) AllReadyH.nil)
      · go_simp
        go_at_call 11
        refine (content_any F plv A c hi la rt xs lvl _ n hn (by omega) HRu.out P HPC.out).mono ?_; rintro e v5 ⟨A5, c5, rfl, hR, hA, hK9⟩
        have HA5 := Lib.hid (show ∀ a, A5 = some a → ¬ Own b g a.block from fun a ha e => by have := hA a ha; have := HM.out.obj.lt; have := HM.out.row.lt; unfold Own at e; omega)
        have NE5x := Lib.hid (show 0 < P.xs.length → ∀ a, A5 = some a → a.block ≠ bx from fun _ a ha => by have := hA a ha; have := HBx.out.lt; omega)
        replace E := Lib.hid (E.out.none hK9)
        replace HM := Lib.hid (HM.out.kept hK9 (fun h => h) (fun h => h))
        replace Pu := Lib.hid (hK9.blk Pu.out (fun h => h))
        replace Pv := Lib.hid (hK9.blk Pv.out (fun h => h))
        replace HBx := Lib.hid (hK9.blk HBx.out (fun h => h))
        replace HRu := Lib.hid (HRu.out.keptF hK9 (fun _ _ h => h))
        replace HRv := Lib.hid (HRv.out.keptF hK9 (fun _ _ h => h))
        have HR5 := Lib.hid hR
        clear hR hA hK9
        refine hK.out _ _ ?_ (fun hHeld2 => ?_)
        · exact ⟨E.out.cfg, Pu.out, Pv.out⟩
        clear hK KK hHeld
        have hHeld := hHeld2
        clear hHeld2
        try simp only [Act.put, List.setIfInBounds_toArray, List.set_cons_zero, List.set_cons_succ]
        refine wpAnyH_ready (rs := [7, 9]) (by kernel_rfl) (by simp) ?_
        refine AllReadyH.cons (o := ⟨some 50, _, _, _, _, _⟩) rfl (fun KK hK => ?_) (AllReadyH.cons (o := ⟨some 15, _, _, _, _, _⟩) rfl (fun KK hK => ?_) AllReadyH.nil)
        · go_simp
          go_at_call 11
          refine (content_any F plv2 A2 c2 hi2 la2 rt2 xs2 lvl _ n2 hn2 (by omega) HRv.out Q HQC.out).mono ?_; rintro e v6 ⟨A6, c6, rfl, hR, hA, hK9⟩
          have HA6 := Lib.hid (show ∀ a, A6 = some a → ¬ Own b g a.block from fun a ha e => by have := hA a ha; have := HM.out.obj.lt; have := HM.out.row.lt; unfold Own at e; omega)
          have NE6x := Lib.hid (show 0 < Q.xs.length → ∀ a, A6 = some a → a.block ≠ bx from fun _ a ha => by have := hA a ha; have := HBx.out.lt; omega)
          replace E := Lib.hid (E.out.none hK9)
          replace HM := Lib.hid (HM.out.kept hK9 (fun h => h) (fun h => h))
          replace Pu := Lib.hid (hK9.blk Pu.out (fun h => h))
          replace Pv := Lib.hid (hK9.blk Pv.out (fun h => h))
          replace HBx := Lib.hid (hK9.blk HBx.out (fun h => h))
          replace HRu := Lib.hid (HRu.out.keptF hK9 (fun _ _ h => h))
          replace HRv := Lib.hid (HRv.out.keptF hK9 (fun _ _ h => h))
          replace HR5 := Lib.hid (HR5.out.keptF hK9 (fun _ _ h => h))
          have HR6 := Lib.hid hR
          clear hR hA hK9
          refine hK.out _ _ ?_ (fun hHeld2 => ?_)
          · exact ⟨E.out.cfg, Pu.out, Pv.out⟩
          clear hK KK hHeld
          have hHeld := hHeld2
          clear hHeld2
          try simp only [Act.put, List.setIfInBounds_toArray, List.set_cons_zero, List.set_cons_succ]
          refine wpAnyH_ready (rs := [9]) (by kernel_rfl) (by simp) ?_
          refine AllReadyH.cons (o := ⟨some 15, _, _, _, _, _⟩) rfl (fun KK hK => ?_) AllReadyH.nil
          go_simp
          have hal := (Kept.refl (fun _ => False) v6).alloc (.cells #[.int .i64 0, .slice none 0 0, .string ⟨#[]⟩, .bool false, .int .u64 0] 25)
          have HBz := Lib.hid (Blk.new v6 [.int .i64 0, .slice none 0 0, .string ⟨#[]⟩, .bool false, .int .u64 0] 25)
          have HNz := Lib.hid (show ¬ Own b g v6.heap.size by have := HM.out.obj.lt; have := HM.out.row.lt; unfold Own; omega)
          have HOz := Lib.hid (show b9 < v6.heap.size ∧ b10 < v6.heap.size ∧ w.heap.size ≤ v6.heap.size from ⟨E.out.cfg.lt, E.out.lay.lt, E.out.kept.size⟩)
          have HUz := Lib.hid (show pu < v6.heap.size ∧ pv < v6.heap.size from ⟨Pu.out.lt, Pv.out.lt⟩)
          have NE5z := Lib.hid (show 0 < P.xs.length → ∀ a, A5 = some a → a.block ≠ v6.heap.size from fun hp a ha => by have := HR5.out.lt hp a ha; omega)
          have NE6z := Lib.hid (show 0 < Q.xs.length → ∀ a, A6 = some a → a.block ≠ v6.heap.size from fun hp a ha => by have := HR6.out.lt hp a ha; omega)
          have HXZ := Lib.hid (show bx ≠ v6.heap.size by have := HBx.out.lt; omega)
          replace E := Lib.hid (E.out.none hal)
          replace HM := Lib.hid (HM.out.kept hal (fun h => h) (fun h => h))
          replace Pu := Lib.hid (hal.blk Pu.out (fun h => h))
          replace Pv := Lib.hid (hal.blk Pv.out (fun h => h))
          replace HBx := Lib.hid (hal.blk HBx.out (fun h => h))
          replace HRu := Lib.hid (HRu.out.keptF hal (fun _ _ h => h))
          replace HRv := Lib.hid (HRv.out.keptF hal (fun _ _ h => h))
          replace HR5 := Lib.hid (HR5.out.keptF hal (fun _ _ h => h))
          replace HR6 := Lib.hid (HR6.out.keptF hal (fun _ _ h => h))
          clear hal
          generalize v6.alloc (.cells #[.int .i64 0, .slice none 0 0, .string ⟨#[]⟩, .bool false, .int .u64 0] 25) = Vz at *
          generalize v6.heap.size = bz at *
          refine hK.out _ _ ?_ (fun hHeld2 => ?_)
          · exact ⟨E.out.cfg, Pu.out, Pv.out⟩
          clear hK KK hHeld
          have hHeld := hHeld2
          clear hHeld2
          try simp only [Act.put, List.setIfInBounds_toArray, List.set_cons_zero, List.set_cons_succ]
          refine wpAnyH_ready (rs := [10]) (by kernel_rfl) (by simp) ?_
          refine AllReadyH.cons (o := ⟨none, _, _, _, _, _⟩) rfl (fun KK hK => ?_) AllReadyH.nil
          have u0 := HBx.out.cell (i := 0) rfl
          have zu0 := HBx.out.frozen 0
          have u1 := HBx.out.cell (i := 1) rfl
          have zu1 := HBx.out.frozen 1
          have u2 := HBx.out.cell (i := 2) rfl
          have zu2 := HBx.out.frozen 2
          have u3 := HBx.out.cell (i := 3) rfl
          have zu3 := HBx.out.frozen 3
          have u4 := HBx.out.cell (i := 4) rfl
          have zu4 := HBx.out.frozen 4
          go_simp
          clear u0 zu0 u1 zu1 u2 zu2 u3 zu3 u4 zu4
          have hkp := ((((((Kept.refl (fun i => i = bx) Vz).setCell (a := ⟨bx, 0, none⟩) (fun _ => rfl) (.int .i64 (P.lv : Int))).setCell (a := ⟨bx, 1, none⟩) (fun _ => rfl) (.slice A5 P.xs.length c5)).setCell (a := ⟨bx, 2, none⟩) (fun _ => rfl) (.string P.hi)).setCell (a := ⟨bx, 3, none⟩) (fun _ => rfl) (.bool P.la)).setCell (a := ⟨bx, 4, none⟩) (fun _ => rfl) (.int .u64 (P.rt : Int)))
          have hbs := (((((HBx.out.set 0 (.int .i64 (P.lv : Int))).set 1 (.slice A5 P.xs.length c5)).set 2 (.string P.hi)).set 3 (.bool P.la)).set 4 (.int .u64 (P.rt : Int)))
          replace HM := Lib.hid (HM.out.kept hkp (fun e => HNx.out (.inl e.symm)) (fun e => HNx.out (.inr e.symm)))
          replace E := Lib.hid (E.out.at HOx.out hkp)
          replace HR5 := Lib.hid (HR5.out.keptP hkp (fun hp a ha e => NE5x.out hp a ha e))
          replace HR6 := Lib.hid (HR6.out.keptP hkp (fun hp a ha e => NE6x.out hp a ha e))
          replace HBz := Lib.hid (hkp.blk HBz.out (fun e => by have := HXZ.out; omega))
          replace Pu := Lib.hid (hkp.blk Pu.out (fun e => by have := HUx.out; omega))
          replace Pv := Lib.hid (hkp.blk Pv.out (fun e => by have := HUx.out; omega))
          replace HBx := Lib.hid hbs
          clear hkp hbs
          generalize (((((Vz.setCell ⟨bx, 0, none⟩ (.int .i64 (P.lv : Int))).setCell ⟨bx, 1, none⟩ (.slice A5 P.xs.length c5)).setCell ⟨bx, 2, none⟩ (.string P.hi)).setCell ⟨bx, 3, none⟩ (.bool P.la)).setCell ⟨bx, 4, none⟩ (.int .u64 (P.rt : Int))) = Sx at *
          refine hK.out _ _ ?_ (fun hHeld2 => ?_)
          · exact ⟨E.out.cfg, Pu.out, Pv.out⟩
          clear hK KK hHeld
          have hHeld := hHeld2
          clear hHeld2
          try simp only [Act.put, List.setIfInBounds_toArray, List.set_cons_zero, List.set_cons_succ]
          refine wpAnyH_ready (rs := [11]) (by kernel_rfl) (by simp) ?_
          refine AllReadyH.cons (o := ⟨none, _, _, _, _, _⟩) rfl (fun KK hK => ?_) AllReadyH.nil
          have u0 := HBz.out.cell (i := 0) rfl
          have zu0 := HBz.out.frozen 0
          have u1 := HBz.out.cell (i := 1) rfl
          have zu1 := HBz.out.frozen 1
          have u2 := HBz.out.cell (i := 2) rfl
          have zu2 := HBz.out.frozen 2
          have u3 := HBz.out.cell (i := 3) rfl
          have zu3 := HBz.out.frozen 3
          have u4 := HBz.out.cell (i := 4) rfl
          have zu4 := HBz.out.frozen 4
          go_simp
          clear u0 zu0 u1 zu1 u2 zu2 u3 zu3 u4 zu4
          have hkp := ((((((Kept.refl (fun i => i = bz) Sx).setCell (a := ⟨bz, 0, none⟩) (fun _ => rfl) (.int .i64 (Q.lv : Int))).setCell (a := ⟨bz, 1, none⟩) (fun _ => rfl) (.slice A6 Q.xs.length c6)).setCell (a := ⟨bz, 2, none⟩) (fun _ => rfl) (.string Q.hi)).setCell (a := ⟨bz, 3, none⟩) (fun _ => rfl) (.bool Q.la)).setCell (a := ⟨bz, 4, none⟩) (fun _ => rfl) (.int .u64 (Q.rt : Int)))
          have hbs := (((((HBz.out.set 0 (.int .i64 (Q.lv : Int))).set 1 (.slice A6 Q.xs.length c6)).set 2 (.string Q.hi)).set 3 (.bool Q.la)).set 4 (.int .u64 (Q.rt : Int)))
          replace HM := Lib.hid (HM.out.kept hkp (fun e => HNz.out (.inl e.symm)) (fun e => HNz.out (.inr e.symm)))
          replace E := Lib.hid (E.out.at HOz.out hkp)
          replace HR5 := Lib.hid (HR5.out.keptP hkp (fun hp a ha e => NE5z.out hp a ha e))
          replace HR6 := Lib.hid (HR6.out.keptP hkp (fun hp a ha e => NE6z.out hp a ha e))
          replace HBx := Lib.hid (hkp.blk HBx.out (fun e => by have := HXZ.out; omega))
          replace Pu := Lib.hid (hkp.blk Pu.out (fun e => by have := HUz.out; omega))
          replace Pv := Lib.hid (hkp.blk Pv.out (fun e => by have := HUz.out; omega))
          replace HBz := Lib.hid hbs
          clear hkp hbs
          generalize (((((Sx.setCell ⟨bz, 0, none⟩ (.int .i64 (Q.lv : Int))).setCell ⟨bz, 1, none⟩ (.slice A6 Q.xs.length c6)).setCell ⟨bz, 2, none⟩ (.string Q.hi)).setCell ⟨bz, 3, none⟩ (.bool Q.la)).setCell ⟨bz, 4, none⟩ (.int .u64 (Q.rt : Int))) = Sz at *
          refine hK.out _ _ ?_ (fun hHeld2 => ?_)
          · exact ⟨E.out.cfg, Pu.out, Pv.out⟩
          clear hK KK hHeld
          have hHeld := hHeld2
          clear hHeld2
          try simp only [Act.put, List.setIfInBounds_toArray, List.set_cons_zero, List.set_cons_succ]
          refine wpAnyH_done (by kernel_rfl) ?_ _
          clear hHeld
          go_wp2
          go_meet
          exact ⟨bx, bz, A5, c5, A6, c6, rfl, rfl, E.out, HM.out, ⟨HBx.out, HR5.out, HNx.out, HA5.out⟩, ⟨HBz.out, HR6.out, HNz.out, HA6.out⟩⟩
        · go_simp
          have hal := (Kept.refl (fun _ => False) v5).alloc (.cells #[.int .i64 0, .slice none 0 0, .string ⟨#[]⟩, .bool false, .int .u64 0] 25)
          have HBz := Lib.hid (Blk.new v5 [.int .i64 0, .slice none 0 0, .string ⟨#[]⟩, .bool false, .int .u64 0] 25)
          have HNz := Lib.hid (show ¬ Own b g v5.heap.size by have := HM.out.obj.lt; have := HM.out.row.lt; unfold Own; omega)
          have HOz := Lib.hid (show b9 < v5.heap.size ∧ b10 < v5.heap.size ∧ w.heap.size ≤ v5.heap.size from ⟨E.out.cfg.lt, E.out.lay.lt, E.out.kept.size⟩)
          have HUz := Lib.hid (show pu < v5.heap.size ∧ pv < v5.heap.size from ⟨Pu.out.lt, Pv.out.lt⟩)
          have NE5z := Lib.hid (show 0 < P.xs.length → ∀ a, A5 = some a → a.block ≠ v5.heap.size from fun hp a ha => by have := HR5.out.lt hp a ha; omega)
          have HXZ := Lib.hid (show bx ≠ v5.heap.size by have := HBx.out.lt; omega)
          replace E := Lib.hid (E.out.none hal)
          replace HM := Lib.hid (HM.out.kept hal (fun h => h) (fun h => h))
          replace Pu := Lib.hid (hal.blk Pu.out (fun h => h))
          replace Pv := Lib.hid (hal.blk Pv.out (fun h => h))
          replace HBx := Lib.hid (hal.blk HBx.out (fun h => h))
          replace HRu := Lib.hid (HRu.out.keptF hal (fun _ _ h => h))
          replace HRv := Lib.hid (HRv.out.keptF hal (fun _ _ h => h))
          replace HR5 := Lib.hid (HR5.out.keptF hal (fun _ _ h => h))
          clear hal
          generalize v5.alloc (.cells #[.int .i64 0, .slice none 0 0, .string ⟨#[]⟩, .bool false, .int .u64 0] 25) = Vz at *
          generalize v5.heap.size = bz at *
          refine hK.out _ _ ?_ (fun hHeld2 => ?_)
          · exact ⟨E.out.cfg, Pu.out, Pv.out⟩
          clear hK KK hHeld
          have hHeld := hHeld2
          clear hHeld2
          try simp only [Act.put, List.setIfInBounds_toArray, List.set_cons_zero, List.set_cons_succ]
          refine wpAnyH_ready (rs := [7]) (by kernel_rfl) (by simp) ?_
          refine AllReadyH.cons (o := ⟨some 50, _, _, _, _, _⟩) rfl (fun KK hK => ?_) AllReadyH.nil
          go_simp
          go_at_call 11
          refine (content_any F plv2 A2 c2 hi2 la2 rt2 xs2 lvl _ n2 hn2 (by omega) HRv.out Q HQC.out).mono ?_; rintro e v6 ⟨A6, c6, rfl, hR, hA, hK9⟩
          have HA6 := Lib.hid (show ∀ a, A6 = some a → ¬ Own b g a.block from fun a ha e => by have := hA a ha; have := HM.out.obj.lt; have := HM.out.row.lt; unfold Own at e; omega)
          have NE6x := Lib.hid (show 0 < Q.xs.length → ∀ a, A6 = some a → a.block ≠ bx from fun _ a ha => by have := hA a ha; have := HBx.out.lt; omega)
          have NE6z := Lib.hid (show 0 < Q.xs.length → ∀ a, A6 = some a → a.block ≠ bz from fun _ a ha => by have := hA a ha; have := HBz.out.lt; omega)
          replace E := Lib.hid (E.out.none hK9)
          replace HM := Lib.hid (HM.out.kept hK9 (fun h => h) (fun h => h))
          replace Pu := Lib.hid (hK9.blk Pu.out (fun h => h))
          replace Pv := Lib.hid (hK9.blk Pv.out (fun h => h))
          replace HBx := Lib.hid (hK9.blk HBx.out (fun h => h))
          replace HBz := Lib.hid (hK9.blk HBz.out (fun h => h))
          replace HRu := Lib.hid (HRu.out.keptF hK9 (fun _ _ h => h))
          replace HRv := Lib.hid (HRv.out.keptF hK9 (fun _ _ h => h))
          replace HR5 := Lib.hid (HR5.out.keptF hK9 (fun _ _ h => h))
          have HR6 := Lib.hid hR
          clear hR hA hK9
          refine hK.out _ _ ?_ (fun hHeld2 => ?_)
          · exact ⟨E.out.cfg, Pu.out, Pv.out⟩
          clear hK KK hHeld
          have hHeld := hHeld2
          clear hHeld2
          try simp only [Act.put, List.setIfInBounds_toArray, List.set_cons_zero, List.set_cons_succ]
          refine wpAnyH_ready (rs := [10]) (by kernel_rfl) (by simp) ?_
          refine AllReadyH.cons (o := ⟨none, _, _, _, _, _⟩) rfl (fun KK hK => ?_) AllReadyH.nil
          have u0 := HBx.out.cell (i := 0) rfl
          have zu0 := HBx.out.frozen 0
          have u1 := HBx.out.cell (i := 1) rfl
          have zu1 := HBx.out.frozen 1
          have u2 := HBx.out.cell (i := 2) rfl
          have zu2 := HBx.out.frozen 2
          have u3 := HBx.out.cell (i := 3) rfl
          have zu3 := HBx.out.frozen 3
          have u4 := HBx.out.cell (i := 4) rfl
          have zu4 := HBx.out.frozen 4
          go_simp
          clear u0 zu0 u1 zu1 u2 zu2 u3 zu3 u4 zu4
          have hkp := ((((((Kept.refl (fun i => i = bx) v6).setCell (a := ⟨bx, 0, none⟩) (fun _ => rfl) (.int .i64 (P.lv : Int))).setCell (a := ⟨bx, 1, none⟩) (fun _ => rfl) (.slice A5 P.xs.length c5)).setCell (a := ⟨bx, 2, none⟩) (fun _ => rfl) (.string P.hi)).setCell (a := ⟨bx, 3, none⟩) (fun _ => rfl) (.bool P.la)).setCell (a := ⟨bx, 4, none⟩) (fun _ => rfl) (.int .u64 (P.rt : Int)))
          have hbs := (((((HBx.out.set 0 (.int .i64 (P.lv : Int))).set 1 (.slice A5 P.xs.length c5)).set 2 (.string P.hi)).set 3 (.bool P.la)).set 4 (.int .u64 (P.rt : Int)))
          replace HM := Lib.hid (HM.out.kept hkp (fun e => HNx.out (.inl e.symm)) (fun e => HNx.out (.inr e.symm)))
          replace E := Lib.hid (E.out.at HOx.out hkp)
          replace HR5 := Lib.hid (HR5.out.keptP hkp (fun hp a ha e => NE5x.out hp a ha e))
          replace HR6 := Lib.hid (HR6.out.keptP hkp (fun hp a ha e => NE6x.out hp a ha e))
          replace HBz := Lib.hid (hkp.blk HBz.out (fun e => by have := HXZ.out; omega))
          replace Pu := Lib.hid (hkp.blk Pu.out (fun e => by have := HUx.out; omega))
          replace Pv := Lib.hid (hkp.blk Pv.out (fun e => by have := HUx.out; omega))
          replace HBx := Lib.hid hbs
          clear hkp hbs
          generalize (((((v6.setCell ⟨bx, 0, none⟩ (.int .i64 (P.lv : Int))).setCell ⟨bx, 1, none⟩ (.slice A5 P.xs.length c5)).setCell ⟨bx, 2, none⟩ (.string P.hi)).setCell ⟨bx, 3, none⟩ (.bool P.la)).setCell ⟨bx, 4, none⟩ (.int .u64 (P.rt : Int))) = Sx at *
          refine hK.out _ _ ?_ (fun hHeld2 => ?_)
          · exact ⟨E.out.cfg, Pu.out, Pv.out⟩
          clear hK KK hHeld
          have hHeld := hHeld2
          clear hHeld2
          try simp only [Act.put, List.setIfInBounds_toArray, List.set_cons_zero, List.set_cons_succ]
          refine wpAnyH_ready (rs := [11]) (by kernel_rfl) (by simp) ?_
          refine AllReadyH.cons (o := ⟨none, _, _, _, _, _⟩) rfl (fun KK hK => ?_) AllReadyH.nil
          have u0 := HBz.out.cell (i := 0) rfl
          have zu0 := HBz.out.frozen 0
          have u1 := HBz.out.cell (i := 1) rfl
          have zu1 := HBz.out.frozen 1
          have u2 := HBz.out.cell (i := 2) rfl
          have zu2 := HBz.out.frozen 2
          have u3 := HBz.out.cell (i := 3) rfl
          have zu3 := HBz.out.frozen 3
          have u4 := HBz.out.cell (i := 4) rfl
          have zu4 := HBz.out.frozen 4
          go_simp
          clear u0 zu0 u1 zu1 u2 zu2 u3 zu3 u4 zu4
          have hkp := ((((((Kept.refl (fun i => i = bz) Sx).setCell (a := ⟨bz, 0, none⟩) (fun _ => rfl) (.int .i64 (Q.lv : Int))).setCell (a := ⟨bz, 1, none⟩) (fun _ => rfl) (.slice A6 Q.xs.length c6)).setCell (a := ⟨bz, 2, none⟩) (fun _ => rfl) (.string Q.hi)).setCell (a := ⟨bz, 3, none⟩) (fun _ => rfl) (.bool Q.la)).setCell (a := ⟨bz, 4, none⟩) (fun _ => rfl) (.int .u64 (Q.rt : Int)))
          have hbs := (((((HBz.out.set 0 (.int .i64 (Q.lv : Int))).set 1 (.slice A6 Q.xs.length c6)).set 2 (.string Q.hi)).set 3 (.bool Q.la)).set 4 (.int .u64 (Q.rt : Int)))
          replace HM := Lib.hid (HM.out.kept hkp (fun e => HNz.out (.inl e.symm)) (fun e => HNz.out (.inr e.symm)))
          replace E := Lib.hid (E.out.at HOz.out hkp)
          replace HR5 := Lib.hid (HR5.out.keptP hkp (fun hp a ha e => NE5z.out hp a ha e))
          replace HR6 := Lib.hid (HR6.out.keptP hkp (fun hp a ha e => NE6z.out hp a ha e))
          replace HBx := Lib.hid (hkp.blk HBx.out (fun e => by have := HXZ.out; omega))
          replace Pu := Lib.hid (hkp.blk Pu.out (fun e => by have := HUz.out; omega))
          replace Pv := Lib.hid (hkp.blk Pv.out (fun e => by have := HUz.out; omega))
          replace HBz := Lib.hid hbs
          clear hkp hbs
          generalize (((((Sx.setCell ⟨bz, 0, none⟩ (.int .i64 (Q.lv : Int))).setCell ⟨bz, 1, none⟩ (.slice A6 Q.xs.length c6)).setCell ⟨bz, 2, none⟩ (.string Q.hi)).setCell ⟨bz, 3, none⟩ (.bool Q.la)).setCell ⟨bz, 4, none⟩ (.int .u64 (Q.rt : Int))) = Sz at *
          refine hK.out _ _ ?_ (fun hHeld2 => ?_)
          · exact ⟨E.out.cfg, Pu.out, Pv.out⟩
          clear hK KK hHeld
          have hHeld := hHeld2
          clear hHeld2
          try simp only [Act.put, List.setIfInBounds_toArray, List.set_cons_zero, List.set_cons_succ]
          refine wpAnyH_done (by kernel_rfl) ?_ _
          clear hHeld
          go_wp2
          go_meet
          exact ⟨bx, bz, A5, c5, A6, c6, rfl, rfl, E.out, HM.out, ⟨HBx.out, HR5.out, HNx.out, HA5.out⟩, ⟨HBz.out, HR6.out, HNz.out, HA6.out⟩⟩
      · go_simp
        have hal := (Kept.refl (fun _ => False) Vx).alloc (.cells #[.int .i64 0, .slice none 0 0, .string ⟨#[]⟩, .bool false, .int .u64 0] 25)
        have HBz := Lib.hid (Blk.new Vx [.int .i64 0, .slice none 0 0, .string ⟨#[]⟩, .bool false, .int .u64 0] 25)
        have HNz := Lib.hid (show ¬ Own b g Vx.heap.size by have := HM.out.obj.lt; have := HM.out.row.lt; unfold Own; omega)
        have HOz := Lib.hid (show b9 < Vx.heap.size ∧ b10 < Vx.heap.size ∧ w.heap.size ≤ Vx.heap.size from ⟨E.out.cfg.lt, E.out.lay.lt, E.out.kept.size⟩)
        have HUz := Lib.hid (show pu < Vx.heap.size ∧ pv < Vx.heap.size from ⟨Pu.out.lt, Pv.out.lt⟩)
        have HXZ := Lib.hid (show bx ≠ Vx.heap.size by have := HBx.out.lt; omega)
        replace E := Lib.hid (E.out.none hal)
        replace HM := Lib.hid (HM.out.kept hal (fun h => h) (fun h => h))
        replace Pu := Lib.hid (hal.blk Pu.out (fun h => h))
        replace Pv := Lib.hid (hal.blk Pv.out (fun h => h))
        replace HBx := Lib.hid (hal.blk HBx.out (fun h => h))
        replace HRu := Lib.hid (HRu.out.keptF hal (fun _ _ h => h))
        replace HRv := Lib.hid (HRv.out.keptF hal (fun _ _ h => h))
        clear hal
        generalize Vx.alloc (.cells #[.int .i64 0, .slice none 0 0, .string ⟨#[]⟩, .bool false, .int .u64 0] 25) = Vz at *
        generalize Vx.heap.size = bz at *
        refine hK.out _ _ ?_ (fun hHeld2 => ?_)
        · exact ⟨E.out.cfg, Pu.out, Pv.out⟩
        clear hK KK hHeld
        have hHeld := hHeld2
        clear hHeld2
        try simp only [Act.put, List.setIfInBounds_toArray, List.set_cons_zero, List.set_cons_succ]
        refine wpAnyH_ready (rs := [3]) (by kernel_rfl) (by simp) ?_
        refine AllReadyH.cons (o := ⟨some 46, _, _, _, _, _⟩) rfl (fun KK hK => ?_) AllReadyH.nil
        go_simp
        go_at_call 11
        refine (content_any F plv A c hi la rt xs lvl _ n hn (by omega) HRu.out P HPC.out).mono ?_; rintro e v5 ⟨A5, c5, rfl, hR, hA, hK9⟩
        have HA5 := Lib.hid (show ∀ a, A5 = some a → ¬ Own b g a.block from fun a ha e => by have := hA a ha; have := HM.out.obj.lt; have := HM.out.row.lt; unfold Own at e; omega)
        have NE5x := Lib.hid (show 0 < P.xs.length → ∀ a, A5 = some a → a.block ≠ bx from fun _ a ha => by have := hA a ha; have := HBx.out.lt; omega)
        have NE5z := Lib.hid (show 0 < P.xs.length → ∀ a, A5 = some a → a.block ≠ bz from fun _ a ha => by have := hA a ha; have := HBz.out.lt; omega)
        replace E := Lib.hid (E.out.none hK9)
        replace HM := Lib.hid (HM.out.kept hK9 (fun h => h) (fun h => h))
        replace Pu := Lib.hid (hK9.blk Pu.out (fun h => h))
        replace Pv := Lib.hid (hK9.blk Pv.out (fun h => h))
        replace HBx := Lib.hid (hK9.blk HBx.out (fun h => h))
        replace HBz := Lib.hid (hK9.blk HBz.out (fun h => h))
        replace HRu := Lib.hid (HRu.out.keptF hK9 (fun _ _ h => h))
        replace HRv := Lib.hid (HRv.out.keptF hK9 (fun _ _ h => h))
        have HR5 := Lib.hid hR
        clear hR hA hK9
        refine hK.out _ _ ?_ (fun hHeld2 => ?_)
        · exact ⟨E.out.cfg, Pu.out, Pv.out⟩
        clear hK KK hHeld
        have hHeld := hHeld2
        clear hHeld2
        try simp only [Act.put, List.setIfInBounds_toArray, List.set_cons_zero, List.set_cons_succ]
        refine wpAnyH_ready (rs := [7]) (by kernel_rfl) (by simp) ?_
        refine AllReadyH.cons (o := ⟨some 50, _, _, _, _, _⟩) rfl (fun KK hK => ?_) AllReadyH.nil
        go_simp
        go_at_call 11
        refine (content_any F plv2 A2 c2 hi2 la2 rt2 xs2 lvl _ n2 hn2 (by omega) HRv.out Q HQC.out).mono ?_; rintro e v6 ⟨A6, c6, rfl, hR, hA, hK9⟩
        have HA6 := Lib.hid (show ∀ a, A6 = some a → ¬ Own b g a.block from fun a ha e => by have := hA a ha; have := HM.out.obj.lt; have := HM.out.row.lt; unfold Own at e; omega)
        have NE6x := Lib.hid (show 0 < Q.xs.length → ∀ a, A6 = some a → a.block ≠ bx from fun _ a ha => by have := hA a ha; have := HBx.out.lt; omega)
        have NE6z := Lib.hid (show 0 < Q.xs.length → ∀ a, A6 = some a → a.block ≠ bz from fun _ a ha => by have := hA a ha; have := HBz.out.lt; omega)
        replace E := Lib.hid (E.out.none hK9)
        replace HM := Lib.hid (HM.out.kept hK9 (fun h => h) (fun h => h))
        replace Pu := Lib.hid (hK9.blk Pu.out (fun h => h))
        replace Pv := Lib.hid (hK9.blk Pv.out (fun h => h))
        replace HBx := Lib.hid (hK9.blk HBx.out (fun h => h))
        replace HBz := Lib.hid (hK9.blk HBz.out (fun h => h))
        replace HRu := Lib.hid (HRu.out.keptF hK9 (fun _ _ h => h))
        replace HRv := Lib.hid (HRv.out.keptF hK9 (fun _ _ h => h))
        replace HR5 := Lib.hid (HR5.out.keptF hK9 (fun _ _ h => h))
        have HR6 := Lib.hid hR
        clear hR hA hK9
        refine hK.out _ _ ?_ (fun hHeld2 => ?_)
        · exact ⟨E.out.cfg, Pu.out, Pv.out⟩
        clear hK KK hHeld
        have hHeld := hHeld2
        clear hHeld2
        try simp only [Act.put, List.setIfInBounds_toArray, List.set_cons_zero, List.set_cons_succ]
        refine wpAnyH_ready (rs := [10]) (by kernel_rfl) (by simp) ?_
        refine AllReadyH.cons (o := ⟨none, _, _, _, _, _⟩) rfl (fun KK hK => ?_) AllReadyH.nil
        have u0 := HBx.out.cell (i := 0) rfl
        have zu0 := HBx.out.frozen 0
        have u1 := HBx.out.cell (i := 1) rfl
        have zu1 := HBx.out.frozen 1
        have u2 := HBx.out.cell (i := 2) rfl
        have zu2 := HBx.out.frozen 2
        have u3 := HBx.out.cell (i := 3) rfl
        have zu3 := HBx.out.frozen 3
        have u4 := HBx.out.cell (i := 4) rfl
        have zu4 := HBx.out.frozen 4
        go_simp
        clear u0 zu0 u1 zu1 u2 zu2 u3 zu3 u4 zu4
        have hkp := ((((((Kept.refl (fun i => i = bx) v6).setCell (a := ⟨bx, 0, none⟩) (fun _ => rfl) (.int .i64 (P.lv : Int))).setCell (a := ⟨bx, 1, none⟩) (fun _ => rfl) (.slice A5 P.xs.length c5)).setCell (a := ⟨bx, 2, none⟩) (fun _ => rfl) (.string P.hi)).setCell (a := ⟨bx, 3, none⟩) (fun _ => rfl) (.bool P.la)).setCell (a := ⟨bx, 4, none⟩) (fun _ => rfl) (.int .u64 (P.rt : Int)))
        have hbs := (((((HBx.out.set 0 (.int .i64 (P.lv : Int))).set 1 (.slice A5 P.xs.length c5)).set 2 (.string P.hi)).set 3 (.bool P.la)).set 4 (.int .u64 (P.rt : Int)))
        replace HM := Lib.hid (HM.out.kept hkp (fun e => HNx.out (.inl e.symm)) (fun e => HNx.out (.inr e.symm)))
        replace E := Lib.hid (E.out.at HOx.out hkp)
        replace HR5 := Lib.hid (HR5.out.keptP hkp (fun hp a ha e => NE5x.out hp a ha e))
        replace HR6 := Lib.hid (HR6.out.keptP hkp (fun hp a ha e => NE6x.out hp a ha e))
        replace HBz := Lib.hid (hkp.blk HBz.out (fun e => by have := HXZ.out; omega))
        replace Pu := Lib.hid (hkp.blk Pu.out (fun e => by have := HUx.out; omega))
        replace Pv := Lib.hid (hkp.blk Pv.out (fun e => by have := HUx.out; omega))
        replace HBx := Lib.hid hbs
        clear hkp hbs
        generalize (((((v6.setCell ⟨bx, 0, none⟩ (.int .i64 (P.lv : Int))).setCell ⟨bx, 1, none⟩ (.slice A5 P.xs.length c5)).setCell ⟨bx, 2, none⟩ (.string P.hi)).setCell ⟨bx, 3, none⟩ (.bool P.la)).setCell ⟨bx, 4, none⟩ (.int .u64 (P.rt : Int))) = Sx at *
        refine hK.out _ _ ?_ (fun hHeld2 => ?_)
        · exact ⟨E.out.cfg, Pu.out, Pv.out⟩
        clear hK KK hHeld
        have hHeld := hHeld2
        clear hHeld2
        try simp only [Act.put, List.setIfInBounds_toArray, List.set_cons_zero, List.set_cons_succ]
        refine wpAnyH_ready (rs := [11]) (by kernel_rfl) (by simp) ?_
        refine AllReadyH.cons (o := ⟨none, _, _, _, _, _⟩) rfl (fun KK hK => ?_) AllReadyH.nil
        have u0 := HBz.out.cell (i := 0) rfl
        have zu0 := HBz.out.frozen 0
        have u1 := HBz.out.cell (i := 1) rfl
        have zu1 := HBz.out.frozen 1
        have u2 := HBz.out.cell (i := 2) rfl
        have zu2 := HBz.out.frozen 2
        have u3 := HBz.out.cell (i := 3) rfl
        have zu3 := HBz.out.frozen 3
        have u4 := HBz.out.cell (i := 4) rfl
        have zu4 := HBz.out.frozen 4
        go_simp
        clear u0 zu0 u1 zu1 u2 zu2 u3 zu3 u4 zu4
        have hkp := ((((((Kept.refl (fun i => i = bz) Sx).setCell (a := ⟨bz, 0, none⟩) (fun _ => rfl) (.int .i64 (Q.lv : Int))).setCell (a := ⟨bz, 1, none⟩) (fun _ => rfl) (.slice A6 Q.xs.length c6)).setCell (a := ⟨bz, 2, none⟩) (fun _ => rfl) (.string Q.hi)).setCell (a := ⟨bz, 3, none⟩) (fun _ => rfl) (.bool Q.la)).setCell (a := ⟨bz, 4, none⟩) (fun _ => rfl) (.int .u64 (Q.rt : Int)))
        have hbs := (((((HBz.out.set 0 (.int .i64 (Q.lv : Int))).set 1 (.slice A6 Q.xs.length c6)).set 2 (.string Q.hi)).set 3 (.bool Q.la)).set 4 (.int .u64 (Q.rt : Int)))
        replace HM := Lib.hid (HM.out.kept hkp (fun e => HNz.out (.inl e.symm)) (fun e => HNz.out (.inr e.symm)))
        replace E := Lib.hid (E.out.at HOz.out hkp)
        replace HR5 := Lib.hid (HR5.out.keptP hkp (fun hp a ha e => NE5z.out hp a ha e))
        replace HR6 := Lib.hid (HR6.out.keptP hkp (fun hp a ha e => NE6z.out hp a ha e))
        replace HBx := Lib.hid (hkp.blk HBx.out (fun e => by have := HXZ.out; omega))
        replace Pu := Lib.hid (hkp.blk Pu.out (fun e => by have := HUz.out; omega))
        replace Pv := Lib.hid (hkp.blk Pv.out (fun e => by have := HUz.out; omega))
        replace HBz := Lib.hid hbs
        clear hkp hbs
        generalize (((((Sx.setCell ⟨bz, 0, none⟩ (.int .i64 (Q.lv : Int))).setCell ⟨bz, 1, none⟩ (.slice A6 Q.xs.length c6)).setCell ⟨bz, 2, none⟩ (.string Q.hi)).setCell ⟨bz, 3, none⟩ (.bool Q.la)).setCell ⟨bz, 4, none⟩ (.int .u64 (Q.rt : Int))) = Sz at *
        refine hK.out _ _ ?_ (fun hHeld2 => ?_)
        · exact ⟨E.out.cfg, Pu.out, Pv.out⟩
        clear hK KK hHeld
        have hHeld := hHeld2
        clear hHeld2
        try simp only [Act.put, List.setIfInBounds_toArray, List.set_cons_zero, List.set_cons_succ]
        refine wpAnyH_done (by kernel_rfl) ?_ _
        clear hHeld
        go_wp2
        go_meet
        exact ⟨bx, bz, A5, c5, A6, c6, rfl, rfl, E.out, HM.out, ⟨HBx.out, HR5.out, HNx.out, HA5.out⟩, ⟨HBz.out, HR6.out, HNz.out, HA6.out⟩⟩
    · go_simp
      have hal := (Kept.refl (fun _ => False) G).alloc (.cells #[.int .i64 0, .slice none 0 0, .string ⟨#[]⟩, .bool false, .int .u64 0] 25)
      have HBz := Lib.hid (Blk.new G [.int .i64 0, .slice none 0 0, .string ⟨#[]⟩, .bool false, .int .u64 0] 25)
      have HNz := Lib.hid (show ¬ Own b g G.heap.size by have := HM.out.obj.lt; have := HM.out.row.lt; unfold Own; omega)
      have HOz := Lib.hid (show b9 < G.heap.size ∧ b10 < G.heap.size ∧ w.heap.size ≤ G.heap.size from ⟨E.out.cfg.lt, E.out.lay.lt, E.out.kept.size⟩)
      have HUz := Lib.hid (show pu < G.heap.size ∧ pv < G.heap.size from ⟨Pu.out.lt, Pv.out.lt⟩)
      replace E := Lib.hid (E.out.none hal)
      replace HM := Lib.hid (HM.out.kept hal (fun h => h) (fun h => h))
      replace Pu := Lib.hid (hal.blk Pu.out (fun h => h))
      replace Pv := Lib.hid (hal.blk Pv.out (fun h => h))
      replace HRu := Lib.hid (HRu.out.keptF hal (fun _ _ h => h))
      replace HRv := Lib.hid (HRv.out.keptF hal (fun _ _ h => h))
      clear hal
      generalize G.alloc (.cells #[.int .i64 0, .slice none 0 0, .string ⟨#[]⟩, .bool false, .int .u64 0] 25) = Vz at *
      generalize G.heap.size = bz at *
      refine hK.out _ _ ?_ (fun hHeld2 => ?_)
      · exact ⟨E.out.cfg, Pu.out, Pv.out⟩
      clear hK KK hHeld
      have hHeld := hHeld2
      clear hHeld2
      try simp only [Act.put, List.setIfInBounds_toArray, List.set_cons_zero, List.set_cons_succ]
      refine wpAnyH_ready (rs := [3, 8]) (by kernel_rfl) (by simp) ?_
      refine AllReadyH.cons (o := ⟨some 46, _, _, _, _, _⟩) rfl (fun KK hK => ?_) (AllReadyH.cons (o := ⟨some 14, _, _, _, _, _⟩) rfl (fun KK hK => ?_) AllReadyH.nil)
      · go_simp
        go_at_call 11
        refine (content_any F plv A c hi la rt xs lvl _ n hn (by omega) HRu.out P HPC.out).mono ?_; rintro e v5 ⟨A5, c5, rfl, hR, hA, hK9⟩
        have HA5 := Lib.hid (show ∀ a, A5 = some a → ¬ Own b g a.block from fun a ha e => by have := hA a ha; have := HM.out.obj.lt; have := HM.out.row.lt; unfold Own at e; omega)
        have NE5z := Lib.hid (show 0 < P.xs.length → ∀ a, A5 = some a → a.block ≠ bz from fun _ a ha => by have := hA a ha; have := HBz.out.lt; omega)
        replace E := Lib.hid (E.out.none hK9)
        replace HM := Lib.hid (HM.out.kept hK9 (fun h => h) (fun h => h))
        replace Pu := Lib.hid (hK9.blk Pu.out (fun h => h))
        replace Pv := Lib.hid (hK9.blk Pv.out (fun h => h))
        replace HBz := Lib.hid (hK9.blk HBz.out (fun h => h))
        replace HRu := Lib.hid (HRu.out.keptF hK9 (fun _ _ h => h))
        replace HRv := Lib.hid (HRv.out.keptF hK9 (fun _ _ h => h))
        have HR5 := Lib.hid hR
        clear hR hA hK9
        refine hK.out _ _ ?_ (fun hHeld2 => ?_)
        · exact ⟨E.out.cfg, Pu.out, Pv.out⟩
        clear hK KK hHeld
        have hHeld := hHeld2
        clear hHeld2
        try simp only [Act.put, List.setIfInBounds_toArray, List.set_cons_zero, List.set_cons_succ]
        refine wpAnyH_ready (rs := [7, 8]) (by kernel_rfl) (by simp) ?_
        refine AllReadyH.cons (o := ⟨some 50, _, _, _, _, _⟩) rfl (fun KK hK => ?_) (AllReadyH.cons (o := ⟨some 14, _, _, _, _, _⟩) rfl (fun KK hK => ?_) AllReadyH.nil)
        · go_simp
          go_at_call 11
          refine (content_any F plv2 A2 c2 hi2 la2 rt2 xs2 lvl _ n2 hn2 (by omega) HRv.out Q HQC.out).mono ?_; rintro e v6 ⟨A6, c6, rfl, hR, hA, hK9⟩
          have HA6 := Lib.hid (show ∀ a, A6 = some a → ¬ Own b g a.block from fun a ha e => by have := hA a ha; have := HM.out.obj.lt; have := HM.out.row.lt; unfold Own at e; omega)
          have NE6z := Lib.hid (show 0 < Q.xs.length → ∀ a, A6 = some a → a.block ≠ bz from fun _ a ha => by have := hA a ha; have := HBz.out.lt; omega)
          replace E := Lib.hid (E.out.none hK9)
          replace HM := Lib.hid (HM.out.kept hK9 (fun h => h) (fun h => h))
          replace Pu := Lib.hid (hK9.blk Pu.out (fun h => h))
          replace Pv := Lib.hid (hK9.blk Pv.out (fun h => h))
          replace HBz := Lib.hid (hK9.blk HBz.out (fun h => h))
          replace HRu := Lib.hid (HRu.out.keptF hK9 (fun _ _ h => h))
          replace HRv := Lib.hid (HRv.out.keptF hK9 (fun _ _ h => h))
          replace HR5 := Lib.hid (HR5.out.keptF hK9 (fun _ _ h => h))
          have HR6 := Lib.hid hR
          clear hR hA hK9
          refine hK.out _ _ ?_ (fun hHeld2 => ?_)
          · exact ⟨E.out.cfg, Pu.out, Pv.out⟩
          clear hK KK hHeld
          have hHeld := hHeld2
          clear hHeld2
          try simp only [Act.put, List.setIfInBounds_toArray, List.set_cons_zero, List.set_cons_succ]
          refine wpAnyH_ready (rs := [8]) (by kernel_rfl) (by simp) ?_
          refine AllReadyH.cons (o := ⟨some 14, _, _, _, _, _⟩) rfl (fun KK hK => ?_) AllReadyH.nil
          go_simp
          have hal := (Kept.refl (fun _ => False) v6).alloc (.cells #[.int .i64 0, .slice none 0 0, .string ⟨#[]⟩, .bool false, .int .u64 0] 25)
          have HBx := Lib.hid (Blk.new v6 [.int .i64 0, .slice none 0 0, .string ⟨#[]⟩, .bool false, .int .u64 0] 25)
          have HNx := Lib.hid (show ¬ Own b g v6.heap.size by have := HM.out.obj.lt; have := HM.out.row.lt; unfold Own; omega)
          have HOx := Lib.hid (show b9 < v6.heap.size ∧ b10 < v6.heap.size ∧ w.heap.size ≤ v6.heap.size from ⟨E.out.cfg.lt, E.out.lay.lt, E.out.kept.size⟩)
          have HUx := Lib.hid (show pu < v6.heap.size ∧ pv < v6.heap.size from ⟨Pu.out.lt, Pv.out.lt⟩)
          have NE5x := Lib.hid (show 0 < P.xs.length → ∀ a, A5 = some a → a.block ≠ v6.heap.size from fun hp a ha => by have := HR5.out.lt hp a ha; omega)
          have NE6x := Lib.hid (show 0 < Q.xs.length → ∀ a, A6 = some a → a.block ≠ v6.heap.size from fun hp a ha => by have := HR6.out.lt hp a ha; omega)
          have HXZ := Lib.hid (show bz ≠ v6.heap.size by have := HBz.out.lt; omega)
          replace E := Lib.hid (E.out.none hal)
          replace HM := Lib.hid (HM.out.kept hal (fun h => h) (fun h => h))
          replace Pu := Lib.hid (hal.blk Pu.out (fun h => h))
          replace Pv := Lib.hid (hal.blk Pv.out (fun h => h))
          replace HBz := Lib.hid (hal.blk HBz.out (fun h => h))
          replace HRu := Lib.hid (HRu.out.keptF hal (fun _ _ h => h))
          replace HRv := Lib.hid (HRv.out.keptF hal (fun _ _ h => h))
          replace HR5 := Lib.hid (HR5.out.keptF hal (fun _ _ h => h))
          replace HR6 := Lib.hid (HR6.out.keptF hal (fun _ _ h => h))
          clear hal
          generalize v6.alloc (.cells #[.int .i64 0, .slice none 0 0, .string ⟨#[]⟩, .bool false, .int .u64 0] 25) = Vx at *
          generalize v6.heap.size = bx at *
          refine hK.out _ _ ?_ (fun hHeld2 => ?_)
          · exact ⟨E.out.cfg, Pu.out, Pv.out⟩
          clear hK KK hHeld
          have hHeld := hHeld2
          clear hHeld2
          try simp only [Act.put, List.setIfInBounds_toArray, List.set_cons_zero, List.set_cons_succ]
          refine wpAnyH_ready (rs := [10]) (by kernel_rfl) (by simp) ?_
          refine AllReadyH.cons (o := ⟨none, _, _, _, _, _⟩) rfl (fun KK hK => ?_) AllReadyH.nil
          have u0 := HBx.out.cell (i := 0) rfl
          have zu0 := HBx.out.frozen 0
          have u1 := HBx.out.cell (i := 1) rfl
          have zu1 := HBx.out.frozen 1
          have u2 := HBx.out.cell (i := 2) rfl
          have zu2 := HBx.out.frozen 2
          have u3 := HBx.out.cell (i := 3) rfl
          have zu3 := HBx.out.frozen 3
          have u4 := HBx.out.cell (i := 4) rfl
          have zu4 := HBx.out.frozen 4
          go_simp
          clear u0 zu0 u1 zu1 u2 zu2 u3 zu3 u4 zu4
          have hkp := ((((((Kept.refl (fun i => i = bx) Vx).setCell (a := ⟨bx, 0, none⟩) (fun _ => rfl) (.int .i64 (P.lv : Int))).setCell (a := ⟨bx, 1, none⟩) (fun _ => rfl) (.slice A5 P.xs.length c5)).setCell (a := ⟨bx, 2, none⟩) (fun _ => rfl) (.string P.hi)).setCell (a := ⟨bx, 3, none⟩) (fun _ => rfl) (.bool P.la)).setCell (a := ⟨bx, 4, none⟩) (fun _ => rfl) (.int .u64 (P.rt : Int)))
          have hbs := (((((HBx.out.set 0 (.int .i64 (P.lv : Int))).set 1 (.slice A5 P.xs.length c5)).set 2 (.string P.hi)).set 3 (.bool P.la)).set 4 (.int .u64 (P.rt : Int)))
          replace HM := Lib.hid (HM.out.kept hkp (fun e => HNx.out (.inl e.symm)) (fun e => HNx.out (.inr e.symm)))
          replace E := Lib.hid (E.out.at HOx.out hkp)
          replace HR5 := Lib.hid (HR5.out.keptP hkp (fun hp a ha e => NE5x.out hp a ha e))
          replace HR6 := Lib.hid (HR6.out.keptP hkp (fun hp a ha e => NE6x.out hp a ha e))
          replace HBz := Lib.hid (hkp.blk HBz.out (fun e => by have := HXZ.out; omega))
          replace Pu := Lib.hid (hkp.blk Pu.out (fun e => by have := HUx.out; omega))
          replace Pv := Lib.hid (hkp.blk Pv.out (fun e => by have := HUx.out; omega))
          replace HBx := Lib.hid hbs
          clear hkp hbs
          generalize (((((Vx.setCell ⟨bx, 0, none⟩ (.int .i64 (P.lv : Int))).setCell ⟨bx, 1, none⟩ (.slice A5 P.xs.length c5)).setCell ⟨bx, 2, none⟩ (.string P.hi)).setCell ⟨bx, 3, none⟩ (.bool P.la)).setCell ⟨bx, 4, none⟩ (.int .u64 (P.rt : Int))) = Sx at *
          refine hK.out _ _ ?_ (fun hHeld2 => ?_)
          · exact ⟨E.out.cfg, Pu.out, Pv.out⟩
          clear hK KK hHeld
          have hHeld := hHeld2
          clear hHeld2
          try simp only [Act.put, List.setIfInBounds_toArray, List.set_cons_zero, List.set_cons_succ]
          refine wpAnyH_ready (rs := [11]) (by kernel_rfl) (by simp) ?_
          refine AllReadyH.cons (o := ⟨none, _, _, _, _, _⟩) rfl (fun KK hK => ?_) AllReadyH.nil
          have u0 := HBz.out.cell (i := 0) rfl
          have zu0 := HBz.out.frozen 0
          have u1 := HBz.out.cell (i := 1) rfl
          have zu1 := HBz.out.frozen 1
          have u2 := HBz.out.cell (i := 2) rfl
          have zu2 := HBz.out.frozen 2
          have u3 := HBz.out.cell (i := 3) rfl
          have zu3 := HBz.out.frozen 3
          have u4 := HBz.out.cell (i := 4) rfl
          have zu4 := HBz.out.frozen 4
          go_simp
          clear u0 zu0 u1 zu1 u2 zu2 u3 zu3 u4 zu4
          have hkp := ((((((Kept.refl (fun i => i = bz) Sx).setCell (a := ⟨bz, 0, none⟩) (fun _ => rfl) (.int .i64 (Q.lv : Int))).setCell (a := ⟨bz, 1, none⟩) (fun _ => rfl) (.slice A6 Q.xs.length c6)).setCell (a := ⟨bz, 2, none⟩) (fun _ => rfl) (.string Q.hi)).setCell (a := ⟨bz, 3, none⟩) (fun _ => rfl) (.bool Q.la)).setCell (a := ⟨bz, 4, none⟩) (fun _ => rfl) (.int .u64 (Q.rt : Int)))
          have hbs := (((((HBz.out.set 0 (.int .i64 (Q.lv : Int))).set 1 (.slice A6 Q.xs.length c6)).set 2 (.string Q.hi)).set 3 (.bool Q.la)).set 4 (.int .u64 (Q.rt : Int)))
          replace HM := Lib.hid (HM.out.kept hkp (fun e => HNz.out (.inl e.symm)) (fun e => HNz.out (.inr e.symm)))
          replace E := Lib.hid (E.out.at HOz.out hkp)
          replace HR5 := Lib.hid (HR5.out.keptP hkp (fun hp a ha e => NE5z.out hp a ha e))
          replace HR6 := Lib.hid (HR6.out.keptP hkp (fun hp a ha e => NE6z.out hp a ha e))
          replace HBx := Lib.hid (hkp.blk HBx.out (fun e => by have := HXZ.out; omega))
          replace Pu := Lib.hid (hkp.blk Pu.out (fun e => by have := HUz.out; omega))
          replace Pv := Lib.hid (hkp.blk Pv.out (fun e => by have := HUz.out; omega))
          replace HBz := Lib.hid hbs
          clear hkp hbs
          generalize (((((Sx.setCell ⟨bz, 0, none⟩ (.int .i64 (Q.lv : Int))).setCell ⟨bz, 1, none⟩ (.slice A6 Q.xs.length c6)).setCell ⟨bz, 2, none⟩ (.string Q.hi)).setCell ⟨bz, 3, none⟩ (.bool Q.la)).setCell ⟨bz, 4, none⟩ (.int .u64 (Q.rt : Int))) = Sz at *
          refine hK.out _ _ ?_ (fun hHeld2 => ?_)
          · exact ⟨E.out.cfg, Pu.out, Pv.out⟩
          clear hK KK hHeld
          have hHeld := hHeld2
          clear hHeld2
          try simp only [Act.put, List.setIfInBounds_toArray, List.set_cons_zero, List.set_cons_succ]
          refine wpAnyH_done (by kernel_rfl) ?_ _
          clear hHeld
          go_wp2
          go_meet
          exact ⟨bx, bz, A5, c5, A6, c6, rfl, rfl, E.out, HM.out, ⟨HBx.out, HR5.out, HNx.out, HA5.out⟩, ⟨HBz.out, HR6.out, HNz.out, HA6.out⟩⟩
        · go_simp
          have hal := (Kept.refl (fun _ => False) v5).alloc (.cells #[.int .i64 0, .slice none 0 0, .string ⟨#[]⟩, .bool false, .int .u64 0] 25)
          have HBx := Lib.hid (Blk.new v5 [.int .i64 0, .slice none 0 0, .string ⟨#[]⟩, .bool false, .int .u64 0] 25)
          have HNx := Lib.hid (show ¬ Own b g v5.heap.size by have := HM.out.obj.lt; have := HM.out.row.lt; unfold Own; omega)
          have HOx := Lib.hid (show b9 < v5.heap.size ∧ b10 < v5.heap.size ∧ w.heap.size ≤ v5.heap.size from ⟨E.out.cfg.lt, E.out.lay.lt, E.out.kept.size⟩)
          have HUx := Lib.hid (show pu < v5.heap.size ∧ pv < v5.heap.size from ⟨Pu.out.lt, Pv.out.lt⟩)
          have NE5x := Lib.hid (show 0 < P.xs.length → ∀ a, A5 = some a → a.block ≠ v5.heap.size from fun hp a ha => by have := HR5.out.lt hp a ha; omega)
          have HXZ := Lib.hid (show bz ≠ v5.heap.size by have := HBz.out.lt; omega)
          replace E := Lib.hid (E.out.none hal)
          replace HM := Lib.hid (HM.out.kept hal (fun h => h) (fun h => h))
          replace Pu := Lib.hid (hal.blk Pu.out (fun h => h))
          replace Pv := Lib.hid (hal.blk Pv.out (fun h => h))
          replace HBz := Lib.hid (hal.blk HBz.out (fun h => h))
          replace HRu := Lib.hid (HRu.out.keptF hal (fun _ _ h => h))
          replace HRv := Lib.hid (HRv.out.keptF hal (fun _ _ h => h))
          replace HR5 := Lib.hid (HR5.out.keptF hal (fun _ _ h => h))
          clear hal
          generalize v5.alloc (.cells #[.int .i64 0, .slice none 0 0, .string ⟨#[]⟩, .bool false, .int .u64 0] 25) = Vx at *
          generalize v5.heap.size = bx at *
          refine hK.out _ _ ?_ (fun hHeld2 => ?_)
          · exact ⟨E.out.cfg, Pu.out, Pv.out⟩
          clear hK KK hHeld
          have hHeld := hHeld2
          clear hHeld2
          try simp only [Act.put, List.setIfInBounds_toArray, List.set_cons_zero, List.set_cons_succ]
          refine wpAnyH_ready (rs := [7]) (by kernel_rfl) (by simp) ?_
          refine AllReadyH.cons (o := ⟨some 50, _, _, _, _, _⟩) rfl (fun KK hK => ?_) AllReadyH.nil
          go_simp
          go_at_call 11
          refine (content_any F plv2 A2 c2 hi2 la2 rt2 xs2 lvl _ n2 hn2 (by omega) HRv.out Q HQC.out).mono ?_; rintro e v6 ⟨A6, c6, rfl, hR, hA, hK9⟩
          have HA6 := Lib.hid (show ∀ a, A6 = some a → ¬ Own b g a.block from fun a ha e => by have := hA a ha; have := HM.out.obj.lt; have := HM.out.row.lt; unfold Own at e; omega)
          have NE6z := Lib.hid (show 0 < Q.xs.length → ∀ a, A6 = some a → a.block ≠ bz from fun _ a ha => by have := hA a ha; have := HBz.out.lt; omega)
          have NE6x := Lib.hid (show 0 < Q.xs.length → ∀ a, A6 = some a → a.block ≠ bx from fun _ a ha => by have := hA a ha; have := HBx.out.lt; omega)
          replace E := Lib.hid (E.out.none hK9)
          replace HM := Lib.hid (HM.out.kept hK9 (fun h => h) (fun h => h))
          replace Pu := Lib.hid (hK9.blk Pu.out (fun h => h))
          replace Pv := Lib.hid (hK9.blk Pv.out (fun h => h))
          replace HBz := Lib.hid (hK9.blk HBz.out (fun h => h))
          replace HBx := Lib.hid (hK9.blk HBx.out (fun h => h))
          replace HRu := Lib.hid (HRu.out.keptF hK9 (fun _ _ h => h))
          replace HRv := Lib.hid (HRv.out.keptF hK9 (fun _ _ h => h))
          replace HR5 := Lib.hid (HR5.out.keptF hK9 (fun _ _ h => h))
          have HR6 := Lib.hid hR
          clear hR hA hK9
          refine hK.out _ _ ?_ (fun hHeld2 => ?_)
          · exact ⟨E.out.cfg, Pu.out, Pv.out⟩
          clear hK KK hHeld
          have hHeld := hHeld2
          clear hHeld2
          try simp only [Act.put, List.setIfInBounds_toArray, List.set_cons_zero, List.set_cons_succ]
          refine wpAnyH_ready (rs := [10]) (by kernel_rfl) (by simp) ?_
          refine AllReadyH.cons (o := ⟨none, _, _, _, _, _⟩) rfl (fun KK hK => ?_) AllReadyH.nil
          have u0 := HBx.out.cell (i := 0) rfl
          have zu0 := HBx.out.frozen 0
          have u1 := HBx.out.cell (i := 1) rfl
          have zu1 := HBx.out.frozen 1
          have u2 := HBx.out.cell (i := 2) rfl
          have zu2 := HBx.out.frozen 2
          have u3 := HBx.out.cell (i := 3) rfl
          have zu3 := HBx.out.frozen 3
          have u4 := HBx.out.cell (i := 4) rfl
          have zu4 := HBx.out.frozen 4
          go_simp
          clear u0 zu0 u1 zu1 u2 zu2 u3 zu3 u4 zu4
          have hkp := ((((((Kept.refl (fun i => i = bx) v6).setCell (a := ⟨bx, 0, none⟩) (fun _ => rfl) (.int .i64 (P.lv : Int))).setCell (a := ⟨bx, 1, none⟩) (fun _ => rfl) (.slice A5 P.xs.length c5)).setCell (a := ⟨bx, 2, none⟩) (fun _ => rfl) (.string P.hi)).setCell (a := ⟨bx, 3, none⟩) (fun _ => rfl) (.bool P.la)).setCell (a := ⟨bx, 4, none⟩) (fun _ => rfl) (.int .u64 (P.rt : Int)))
          have hbs := (((((HBx.out.set 0 (.int .i64 (P.lv : Int))).set 1 (.slice A5 P.xs.length c5)).set 2 (.string P.hi)).set 3 (.bool P.la)).set 4 (.int .u64 (P.rt : Int)))
          replace HM := Lib.hid (HM.out.kept hkp (fun e => HNx.out (.inl e.symm)) (fun e => HNx.out (.inr e.symm)))
          replace E := Lib.hid (E.out.at HOx.out hkp)
          replace HR5 := Lib.hid (HR5.out.keptP hkp (fun hp a ha e => NE5x.out hp a ha e))
          replace HR6 := Lib.hid (HR6.out.keptP hkp (fun hp a ha e => NE6x.out hp a ha e))
          replace HBz := Lib.hid (hkp.blk HBz.out (fun e => by have := HXZ.out; omega))
          replace Pu := Lib.hid (hkp.blk Pu.out (fun e => by have := HUx.out; omega))
          replace Pv := Lib.hid (hkp.blk Pv.out (fun e => by have := HUx.out; omega))
          replace HBx := Lib.hid hbs
          clear hkp hbs
          generalize (((((v6.setCell ⟨bx, 0, none⟩ (.int .i64 (P.lv : Int))).setCell ⟨bx, 1, none⟩ (.slice A5 P.xs.length c5)).setCell ⟨bx, 2, none⟩ (.string P.hi)).setCell ⟨bx, 3, none⟩ (.bool P.la)).setCell ⟨bx, 4, none⟩ (.int .u64 (P.rt : Int))) = Sx at *
          refine hK.out _ _ ?_ (fun hHeld2 => ?_)
          · exact ⟨E.out.cfg, Pu.out, Pv.out⟩
          clear hK KK hHeld
          have hHeld := hHeld2
          clear hHeld2
          try simp only [Act.put, List.setIfInBounds_toArray, List.set_cons_zero, List.set_cons_succ]
          refine wpAnyH_ready (rs := [11]) (by kernel_rfl) (by simp) ?_
          refine AllReadyH.cons (o := ⟨none, _, _, _, _, _⟩) rfl (fun KK hK => ?_) AllReadyH.nil
          have u0 := HBz.out.cell (i := 0) rfl
          have zu0 := HBz.out.frozen 0
          have u1 := HBz.out.cell (i := 1) rfl
          have zu1 := HBz.out.frozen 1
          have u2 := HBz.out.cell (i := 2) rfl
          have zu2 := HBz.out.frozen 2
          have u3 := HBz.out.cell (i := 3) rfl
          have zu3 := HBz.out.frozen 3
          have u4 := HBz.out.cell (i := 4) rfl
          have zu4 := HBz.out.frozen 4
          go_simp
          clear u0 zu0 u1 zu1 u2 zu2 u3 zu3 u4 zu4
          have hkp := ((((((Kept.refl (fun i => i = bz) Sx).setCell (a := ⟨bz, 0, none⟩) (fun _ => rfl) (.int .i64 (Q.lv : Int))).setCell (a := ⟨bz, 1, none⟩) (fun _ => rfl) (.slice A6 Q.xs.length c6)).setCell (a := ⟨bz, 2, none⟩) (fun _ => rfl) (.string Q.hi)).setCell (a := ⟨bz, 3, none⟩) (fun _ => rfl) (.bool Q.la)).setCell (a := ⟨bz, 4, none⟩) (fun _ => rfl) (.int .u64 (Q.rt : Int)))
          have hbs := (((((HBz.out.set 0 (.int .i64 (Q.lv : Int))).set 1 (.slice A6 Q.xs.length c6)).set 2 (.string Q.hi)).set 3 (.bool Q.la)).set 4 (.int .u64 (Q.rt : Int)))
          replace HM := Lib.hid (HM.out.kept hkp (fun e => HNz.out (.inl e.symm)) (fun e => HNz.out (.inr e.symm)))
          replace E := Lib.hid (E.out.at HOz.out hkp)
          replace HR5 := Lib.hid (HR5.out.keptP hkp (fun hp a ha e => NE5z.out hp a ha e))
          replace HR6 := Lib.hid (HR6.out.keptP hkp (fun hp a ha e => NE6z.out hp a ha e))
          replace HBx := Lib.hid (hkp.blk HBx.out (fun e => by have := HXZ.out; omega))
          replace Pu := Lib.hid (hkp.blk Pu.out (fun e => by have := HUz.out; omega))
          replace Pv := Lib.hid (hkp.blk Pv.out (fun e => by have := HUz.out; omega))
          replace HBz := Lib.hid hbs
          clear hkp hbs
          generalize (((((Sx.setCell ⟨bz, 0, none⟩ (.int .i64 (Q.lv : Int))).setCell ⟨bz, 1, none⟩ (.slice A6 Q.xs.length c6)).setCell ⟨bz, 2, none⟩ (.string Q.hi)).setCell ⟨bz, 3, none⟩ (.bool Q.la)).setCell ⟨bz, 4, none⟩ (.int .u64 (Q.rt : Int))) = Sz at *
          refine hK.out _ _ ?_ (fun hHeld2 => ?_)
          · exact ⟨E.out.cfg, Pu.out, Pv.out⟩
          clear hK KK hHeld
          have hHeld := hHeld2
          clear hHeld2
          try simp only [Act.put, List.setIfInBounds_toArray, List.set_cons_zero, List.set_cons_succ]
          refine wpAnyH_done (by kernel_rfl) ?_ _
          clear hHeld
          go_wp2
          go_meet
          exact ⟨bx, bz, A5, c5, A6, c6, rfl, rfl, E.out, HM.out, ⟨HBx.out, HR5.out, HNx.out, HA5.out⟩, ⟨HBz.out, HR6.out, HNz.out, HA6.out⟩⟩
      · go_simp
        have hal := (Kept.refl (fun _ => False) Vz).alloc (.cells #[.int .i64 0, .slice none 0 0, .string ⟨#[]⟩, .bool false, .int .u64 0] 25)
        have HBx := Lib.hid (Blk.new Vz [.int .i64 0, .slice none 0 0, .string ⟨#[]⟩, .bool false, .int .u64 0] 25)
        have HNx := Lib.hid (show ¬ Own b g Vz.heap.size by have := HM.out.obj.lt; have := HM.out.row.lt; unfold Own; omega)
        have HOx := Lib.hid (show b9 < Vz.heap.size ∧ b10 < Vz.heap.size ∧ w.heap.size ≤ Vz.heap.size from ⟨E.out.cfg.lt, E.out.lay.lt, E.out.kept.size⟩)
        have HUx := Lib.hid (show pu < Vz.heap.size ∧ pv < Vz.heap.size from ⟨Pu.out.lt, Pv.out.lt⟩)
        have HXZ := Lib.hid (show bz ≠ Vz.heap.size by have := HBz.out.lt; omega)
        replace E := Lib.hid (E.out.none hal)
        replace HM := Lib.hid (HM.out.kept hal (fun h => h) (fun h => h))
        replace Pu := Lib.hid (hal.blk Pu.out (fun h => h))
        replace Pv := Lib.hid (hal.blk Pv.out (fun h => h))
        replace HBz := Lib.hid (hal.blk HBz.out (fun h => h))
        replace HRu := Lib.hid (HRu.out.keptF hal (fun _ _ h => h))
        replace HRv := Lib.hid (HRv.out.keptF hal (fun _ _ h => h))
        clear hal
        generalize Vz.alloc (.cells #[.int .i64 0, .slice none 0 0, .string ⟨#[]⟩, .bool false, .int .u64 0] 25) = Vx at *
        generalize Vz.heap.size = bx at *
        refine hK.out _ _ ?_ (fun hHeld2 => ?_)
        · exact ⟨E.out.cfg, Pu.out, Pv.out⟩
        clear hK KK hHeld
        have hHeld := hHeld2
        clear hHeld2
        try simp only [Act.put, List.setIfInBounds_toArray, List.set_cons_zero, List.set_cons_succ]
        refine wpAnyH_ready (rs := [3]) (by kernel_rfl) (by simp) ?_
        refine AllReadyH.cons (o := ⟨some 46, _, _, _, _, _⟩) rfl (fun KK hK => ?_) AllReadyH.nil
        go_simp
        go_at_call 11
        refine (content_any F plv A c hi la rt xs lvl _ n hn (by omega) HRu.out P HPC.out).mono ?_; rintro e v5 ⟨A5, c5, rfl, hR, hA, hK9⟩
        have HA5 := Lib.hid (show ∀ a, A5 = some a → ¬ Own b g a.block from fun a ha e => by have := hA a ha; have := HM.out.obj.lt; have := HM.out.row.lt; unfold Own at e; omega)
        have NE5z := Lib.hid (show 0 < P.xs.length → ∀ a, A5 = some a → a.block ≠ bz from fun _ a ha => by have := hA a ha; have := HBz.out.lt; omega)
        have NE5x := Lib.hid (show 0 < P.xs.length → ∀ a, A5 = some a → a.block ≠ bx from fun _ a ha => by have := hA a ha; have := HBx.out.lt; omega)
        replace E := Lib.hid (E.out.none hK9)
        replace HM := Lib.hid (HM.out.kept hK9 (fun h => h) (fun h => h))
        replace Pu := Lib.hid (hK9.blk Pu.out (fun h => h))
        replace Pv := Lib.hid (hK9.blk Pv.out (fun h => h))
        replace HBz := Lib.hid (hK9.blk HBz.out (fun h => h))
        replace HBx := Lib.hid (hK9.blk HBx.out (fun h => h))
        replace HRu := Lib.hid (HRu.out.keptF hK9 (fun _ _ h => h))
        replace HRv := Lib.hid (HRv.out.keptF hK9 (fun _ _ h => h))
        have HR5 := Lib.hid hR
        clear hR hA hK9
        refine hK.out _ _ ?_ (fun hHeld2 => ?_)
        · exact ⟨E.out.cfg, Pu.out, Pv.out⟩
        clear hK KK hHeld
        have hHeld := hHeld2
        clear hHeld2
        try simp only [Act.put, List.setIfInBounds_toArray, List.set_cons_zero, List.set_cons_succ]
        refine wpAnyH_ready (rs := [7]) (by kernel_rfl) (by simp) ?_
        refine AllReadyH.cons (o := ⟨some 50, _, _, _, _, _⟩) rfl (fun KK hK => ?_) AllReadyH.nil
        go_simp
        go_at_call 11
        refine (content_any F plv2 A2 c2 hi2 la2 rt2 xs2 lvl _ n2 hn2 (by omega) HRv.out Q HQC.out).mono ?_; rintro e v6 ⟨A6, c6, rfl, hR, hA, hK9⟩
        have HA6 := Lib.hid (show ∀ a, A6 = some a → ¬ Own b g a.block from fun a ha e => by have := hA a ha; have := HM.out.obj.lt; have := HM.out.row.lt; unfold Own at e; omega)
        have NE6z := Lib.hid (show 0 < Q.xs.length → ∀ a, A6 = some a → a.block ≠ bz from fun _ a ha => by have := hA a ha; have := HBz.out.lt; omega)
        have NE6x := Lib.hid (show 0 < Q.xs.length → ∀ a, A6 = some a → a.block ≠ bx from fun _ a ha => by have := hA a ha; have := HBx.out.lt; omega)
        replace E := Lib.hid (E.out.none hK9)
        replace HM := Lib.hid (HM.out.kept hK9 (fun h => h) (fun h => h))
        replace Pu := Lib.hid (hK9.blk Pu.out (fun h => h))
        replace Pv := Lib.hid (hK9.blk Pv.out (fun h => h))
        replace HBz := Lib.hid (hK9.blk HBz.out (fun h => h))
        replace HBx := Lib.hid (hK9.blk HBx.out (fun h => h))
        replace HRu := Lib.hid (HRu.out.keptF hK9 (fun _ _ h => h))
        replace HRv := Lib.hid (HRv.out.keptF hK9 (fun _ _ h => h))
        replace HR5 := Lib.hid (HR5.out.keptF hK9 (fun _ _ h => h))
        have HR6 := Lib.hid hR
        clear hR hA hK9
        refine hK.out _ _ ?_ (fun hHeld2 => ?_)
        · exact ⟨E.out.cfg, Pu.out, Pv.out⟩
        clear hK KK hHeld
        have hHeld := hHeld2
        clear hHeld2
        try simp only [Act.put, List.setIfInBounds_toArray, List.set_cons_zero, List.set_cons_succ]
        refine wpAnyH_ready (rs := [10]) (by kernel_rfl) (by simp) ?_
        refine AllReadyH.cons (o := ⟨none, _, _, _, _, _⟩) rfl (fun KK hK => ?_) AllReadyH.nil
        have u0 := HBx.out.cell (i := 0) rfl
        have zu0 := HBx.out.frozen 0
        have u1 := HBx.out.cell (i := 1) rfl
        have zu1 := HBx.out.frozen 1
        have u2 := HBx.out.cell (i := 2) rfl
        have zu2 := HBx.out.frozen 2
        have u3 := HBx.out.cell (i := 3) rfl
        have zu3 := HBx.out.frozen 3
        have u4 := HBx.out.cell (i := 4) rfl
        have zu4 := HBx.out.frozen 4
        go_simp
        clear u0 zu0 u1 zu1 u2 zu2 u3 zu3 u4 zu4
        have hkp := ((((((Kept.refl (fun i => i = bx) v6).setCell (a := ⟨bx, 0, none⟩) (fun _ => rfl) (.int .i64 (P.lv : Int))).setCell (a := ⟨bx, 1, none⟩) (fun _ => rfl) (.slice A5 P.xs.length c5)).setCell (a := ⟨bx, 2, none⟩) (fun _ => rfl) (.string P.hi)).setCell (a := ⟨bx, 3, none⟩) (fun _ => rfl) (.bool P.la)).setCell (a := ⟨bx, 4, none⟩) (fun _ => rfl) (.int .u64 (P.rt : Int)))
        have hbs := (((((HBx.out.set 0 (.int .i64 (P.lv : Int))).set 1 (.slice A5 P.xs.length c5)).set 2 (.string P.hi)).set 3 (.bool P.la)).set 4 (.int .u64 (P.rt : Int)))
        replace HM := Lib.hid (HM.out.kept hkp (fun e => HNx.out (.inl e.symm)) (fun e => HNx.out (.inr e.symm)))
        replace E := Lib.hid (E.out.at HOx.out hkp)
        replace HR5 := Lib.hid (HR5.out.keptP hkp (fun hp a ha e => NE5x.out hp a ha e))
        replace HR6 := Lib.hid (HR6.out.keptP hkp (fun hp a ha e => NE6x.out hp a ha e))
        replace HBz := Lib.hid (hkp.blk HBz.out (fun e => by have := HXZ.out; omega))
        replace Pu := Lib.hid (hkp.blk Pu.out (fun e => by have := HUx.out; omega))
        replace Pv := Lib.hid (hkp.blk Pv.out (fun e => by have := HUx.out; omega))
        replace HBx := Lib.hid hbs
        clear hkp hbs
        generalize (((((v6.setCell ⟨bx, 0, none⟩ (.int .i64 (P.lv : Int))).setCell ⟨bx, 1, none⟩ (.slice A5 P.xs.length c5)).setCell ⟨bx, 2, none⟩ (.string P.hi)).setCell ⟨bx, 3, none⟩ (.bool P.la)).setCell ⟨bx, 4, none⟩ (.int .u64 (P.rt : Int))) = Sx at *
        refine hK.out _ _ ?_ (fun hHeld2 => ?_)
        · exact ⟨E.out.cfg, Pu.out, Pv.out⟩
        clear hK KK hHeld
        have hHeld := hHeld2
        clear hHeld2
        try simp only [Act.put, List.setIfInBounds_toArray, List.set_cons_zero, List.set_cons_succ]
        refine wpAnyH_ready (rs := [11]) (by kernel_rfl) (by simp) ?_
        refine AllReadyH.cons (o := ⟨none, _, _, _, _, _⟩) rfl (fun KK hK => ?_) AllReadyH.nil
        have u0 := HBz.out.cell (i := 0) rfl
        have zu0 := HBz.out.frozen 0
        have u1 := HBz.out.cell (i := 1) rfl
        have zu1 := HBz.out.frozen 1
        have u2 := HBz.out.cell (i := 2) rfl
        have zu2 := HBz.out.frozen 2
        have u3 := HBz.out.cell (i := 3) rfl
        have zu3 := HBz.out.frozen 3
        have u4 := HBz.out.cell (i := 4) rfl
        have zu4 := HBz.out.frozen 4
        go_simp
        clear u0 zu0 u1 zu1 u2 zu2 u3 zu3 u4 zu4
        have hkp := ((((((Kept.refl (fun i => i = bz) Sx).setCell (a := ⟨bz, 0, none⟩) (fun _ => rfl) (.int .i64 (Q.lv : Int))).setCell (a := ⟨bz, 1, none⟩) (fun _ => rfl) (.slice A6 Q.xs.length c6)).setCell (a := ⟨bz, 2, none⟩) (fun _ => rfl) (.string Q.hi)).setCell (a := ⟨bz, 3, none⟩) (fun _ => rfl) (.bool Q.la)).setCell (a := ⟨bz, 4, none⟩) (fun _ => rfl) (.int .u64 (Q.rt : Int)))
        have hbs := (((((HBz.out.set 0 (.int .i64 (Q.lv : Int))).set 1 (.slice A6 Q.xs.length c6)).set 2 (.string Q.hi)).set 3 (.bool Q.la)).set 4 (.int .u64 (Q.rt : Int)))
        replace HM := Lib.hid (HM.out.kept hkp (fun e => HNz.out (.inl e.symm)) (fun e => HNz.out (.inr e.symm)))
        replace E := Lib.hid (E.out.at HOz.out hkp)
        replace HR5 := Lib.hid (HR5.out.keptP hkp (fun hp a ha e => NE5z.out hp a ha e))
        replace HR6 := Lib.hid (HR6.out.keptP hkp (fun hp a ha e => NE6z.out hp a ha e))
        replace HBx := Lib.hid (hkp.blk HBx.out (fun e => by have := HXZ.out; omega))
        replace Pu := Lib.hid (hkp.blk Pu.out (fun e => by have := HUz.out; omega))
        replace Pv := Lib.hid (hkp.blk Pv.out (fun e => by have := HUz.out; omega))
        replace HBz := Lib.hid hbs
        clear hkp hbs
        generalize (((((Sx.setCell ⟨bz, 0, none⟩ (.int .i64 (Q.lv : Int))).setCell ⟨bz, 1, none⟩ (.slice A6 Q.xs.length c6)).setCell ⟨bz, 2, none⟩ (.string Q.hi)).setCell ⟨bz, 3, none⟩ (.bool Q.la)).setCell ⟨bz, 4, none⟩ (.int .u64 (Q.rt : Int))) = Sz at *
        refine hK.out _ _ ?_ (fun hHeld2 => ?_)
        · exact ⟨E.out.cfg, Pu.out, Pv.out⟩
        clear hK KK hHeld
        have hHeld := hHeld2
        clear hHeld2
        try simp only [Act.put, List.setIfInBounds_toArray, List.set_cons_zero, List.set_cons_succ]
        refine wpAnyH_done (by kernel_rfl) ?_ _
        clear hHeld
        go_wp2
        go_meet
        exact ⟨bx, bz, A5, c5, A6, c6, rfl, rfl, E.out, HM.out, ⟨HBx.out, HR5.out, HNx.out, HA5.out⟩, ⟨HBz.out, HR6.out, HNz.out, HA6.out⟩⟩
  case rest =>
    obtain ⟨bx, bz, A5, c5, A6, c6, rfl, rfl, hE, hM, hX, hY⟩ := hcut
    rename World => w5
    clear E HM Pu Pv HRu HRv HNu HNv HPC HQC
    have E := Lib.hid hE
    have HM := Lib.hid hM
    have X := Lib.hid hX
    have Y := Lib.hid hY
    have HADS := Lib.hid (HST.out.ads (nid := nid) h4 h6 hnid1 hnid2)
    clear hE hM hX hY
    have x0 := E.out.lay.cell (i := 0) rfl
    have x1 := E.out.lay.cell (i := 1) rfl
    have x2 := E.out.lay.cell (i := 2) rfl
    have x3 := E.out.lay.cell (i := 3) rfl
    have x4 := E.out.lay.cell (i := 4) rfl
    have x5 := E.out.lay.cell (i := 5) rfl
    have x6 := E.out.lay.cell (i := 6) rfl
    have x7 := E.out.lay.cell (i := 7) rfl
    have x8 := E.out.lay.cell (i := 8) rfl
    have x9 := E.out.lay.cell (i := 9) rfl
    have y0 := X.out.blk.cell (i := 0) rfl
    have y1 := X.out.blk.cell (i := 1) rfl
    have y2 := X.out.blk.cell (i := 2) rfl
    have y3 := X.out.blk.cell (i := 3) rfl
    have y4 := X.out.blk.cell (i := 4) rfl
    go_wp2_with fail
    refine (newFresh_any 1 2 100 100 200 F 1000 10 fb fd (limF h4 h6) HD.out nid P.lv A5 c5 P.hi P.la P.rt P.xs _ P.xs.length rfl HPM.out.1 HFT.out.lv X.out.row).mono ?_; rintro e w6 ⟨q, Z, rfl, hC9, hq9, hK9⟩
    clear x0 x1 x2 x3 x4 x5 x6 x7 x8 x9
    clear y0 y1 y2 y3 y4
    obtain ⟨la1, hla1⟩ : ∃ x, nla F nid = x := ⟨_, rfl⟩
    have HLA := Lib.hid hla1
    obtain ⟨ss, hss⟩ : ∃ x, fsto (nla F nid) (pst (nad F nid) P) = x := ⟨_, rfl⟩
    have HSS := Lib.hid hss
    have HSL := Lib.hid (show ss.length = P.xs.length + 4 by rw [← hss, fsto_length, pst_length])
    have HC := Lib.hid (show Stm Z w6 q 84 ss 0 nid 1 P by rw [← hss]; exact hC9)
    obtain ⟨s0, hs0⟩ : ∃ x, w5.heap.size = x := ⟨_, rfl⟩
    have HOX := Lib.hid (show Pold s0 bx P A5 by rw [← hs0]; exact X.out.old)
    have HOY := Lib.hid (show Pold s0 bz Q A6 by rw [← hs0]; exact Y.out.old)
    have HOE := Lib.hid (show b9 < s0 ∧ b10 < s0 ∧ w.heap.size ≤ s0 by rw [← hs0]; exact ⟨E.out.cfg.lt, E.out.lay.lt, E.out.kept.size⟩)
    have HOM := Lib.hid (show b < s0 ∧ g < s0 by rw [← hs0]; exact ⟨HM.out.obj.lt, HM.out.row.lt⟩)
    have HZ := Lib.hid (show ∀ i, Z i → s0 ≤ i by rw [← hs0]; exact hq9)
    have HNS := Lib.hid (show Nats (app l ss) by rw [← hss]; exact HST.out.nats.app (fsto_nats (HFT.out.pstN _)))
    have HHS := Lib.hid (show Holds (nad F nid) (app l ss) P ∧ cellAt (app l ss) la1 = ((1 : Int), (⟨#[]⟩ : ByteArray), (0 : Int)) by rw [← hss, ← hla1]; exact fsto_holds HADS.out rfl HPL.out)
    replace HM := Lib.hid (HM.out.kept hK9 (fun h => h) (fun h => h))
    replace E := Lib.hid (E.out.none hK9)
    replace X := Lib.hid (X.out.none hK9)
    replace Y := Lib.hid (Y.out.none hK9)
    clear hK9 hs0 hC9 hq9 hla1 hss
    have hspos : 0 < ss.length := by have := HSL.out; omega
    go_wp2_with fail
    go_loopw [17] (fun vn wr => ∃ (j : Nat), j < ss.length ∧ vn = .int .i64 ((1 + j : Nat) : Int) ∧ Stm Z wr q 84 ss j nid 1 P ∧ Mem wr b g (app l (ss.take j)) j ∧ Ev w wr F fb fd b g b9 b10 ∧ Px b g wr bx P A5 c5 ∧ Px b g wr bz Q A6 c6) (fun i _ => 200 - (intOf i).toNat)
    case atStart => exact ⟨0, hspos, rfl, HC.out, HM.out, E.out, X.out, Y.out⟩
    case round =>
      obtain ⟨j, hjl, rfl, hC, hM, hE, hX, hY⟩ := hrel
      clear HC HM E X Y
      rename World => wr
      have HC := Lib.hid hC
      have HM := Lib.hid hM
      have E := Lib.hid hE
      have X := Lib.hid hX
      have Y := Lib.hid hY
      clear hC hM hE hX hY
      have hj10 : j < 11 := by have := HSL.out; have := HPL.out; omega
      have hjw : ((1 + j : Nat) : Int) < 200 := by omega
      obtain ⟨ad, cN, cK, cM, hs⟩ := sto_ex hjl
      have hst : Calls Try.prog 13 #[.pointer (some ⟨q, 0, none⟩), .pointer (some ⟨b, 0, none⟩)] wr _ :=
        fstep_any Z q ss j nid 1 P wr HC.out b g (app l (ss.take j)) j HM.out (fun h => by have := HZ.out b h; have := HOM.out; omega) (fun h => by have := HZ.out g h; have := HOM.out; omega) (by omega) (by have := HSL.out; have := HPL.out; omega) ad cN cM cK hs (j + 1 == ss.length) rfl
      rw [← app_take hs] at hst
      clear hs
      by_cases hlast : j + 1 < ss.length
      · have hr : (j + 1 == ss.length) = false := by simp; omega
        rw [hr] at hst
        have HSTP := Lib.hid hst
        clear hst hr
        go_wp2_with fail
        refine HSTP.out.mono ?_; rintro e w10 ⟨rfl, hM, hC, hK⟩
        have HE2 := Lib.hid (E.out.step HZ.out HOE.out hK)
        have HX2 := Lib.hid (X.out.step HZ.out HOX.out hK)
        have HY2 := Lib.hid (Y.out.step HZ.out HOY.out hK)
        have HM2 := Lib.hid hM
        have HC2 := Lib.hid hC
        clear hM hC hK HSTP E X Y HM HC
        go_wp2
        go_roundw
        case rel => exact ⟨j + 1, by omega, by go_num, HC2.out, HM2.out, HE2.out, HX2.out, HY2.out⟩
        case measure => simp [intOf]; omega
      · have hr : (j + 1 == ss.length) = true := by simp; omega
        obtain ⟨k1, hk1⟩ : ∃ x, j + 1 = x := ⟨_, rfl⟩
        have hk2 : k1 = ss.length := by omega
        rw [hr, hk1] at hst
        rw [show ss.take k1 = ss by rw [hk2, List.take_length]] at hst
        have hk3 : ((1 + j : Nat) : Int) = (k1 : Int) := by omega
        rw [hk3]
        rw [hk3] at hjw
        have hk11 : k1 ≤ 11 := by omega
        have HKL := Lib.hid (show k1 = P.xs.length + 4 by rw [hk2]; exact HSL.out)
        have HK2 := Lib.hid hk2
        obtain ⟨l1, hl1⟩ : ∃ x, app l ss = x := ⟨_, rfl⟩
        rw [hl1] at hst HNS HHS
        have HL1 := Lib.hid hl1
        have HSTP := Lib.hid hst
        clear hst hr hk1 hk2 hk3 hl1 hlast hjl hj10
        go_wp2_with fail
        refine HSTP.out.mono ?_; rintro e w10 ⟨rfl, hM, hC, hK⟩
        have HE2 := Lib.hid (E.out.step HZ.out HOE.out hK)
        have HX2 := Lib.hid (X.out.step HZ.out HOX.out hK)
        have HY2 := Lib.hid (Y.out.step HZ.out HOY.out hK)
        have HM2 := Lib.hid hM
        have HC2 := Lib.hid hC
        clear hM hC hK HSTP E X Y HM HC
        have HM := HM2
        have E := HE2
        have X := HX2
        have Y := HY2
        have HCF := Lib.hid (show Stm Z w10 q 84 ss ss.length nid 1 P by rw [← HK2.out]; exact HC2.out)
        clear HM2 HE2 HX2 HY2 HC2
        have hf0 := tfield0
        have hf1 := hfield0
        have hf2 := hfield1
        have hf3 := hfield2
        go_upto_region 12 with fail
        have hdr := (Kept.refl (fun _ => False) w10).drew
        replace HM := Lib.hid (HM.out.kept hdr (fun h => h) (fun h => h))
        replace E := Lib.hid (E.out.none hdr)
        replace X := Lib.hid (X.out.none hdr)
        replace Y := Lib.hid (Y.out.none hdr)
        replace HCF := Lib.hid (HCF.out.kept hdr (fun _ _ h => h))
        clear hdr
        refine wp_region_held_drew (S := (fun w' => Blk w' b9 27 [.int .i64 1, .int .i64 2, .int .i64 100, .int .i64 100, .int .i64 200, .int .i64 (F : Int), .int .u64 1000] ∧ Blk w' b10 30 [.int .i64 1, .int .i64 2, .int .i64 100, .int .i64 100, .int .i64 200, .int .i64 (F : Int), .int .u64 1000, .int .i64 10, .int .i64 fb, .int .i64 fd] ∧ Blk w' bx 25 [.int .i64 (P.lv : Int), .slice A5 P.xs.length c5, .string P.hi, .bool P.la, .int .u64 (P.rt : Int)])) (by kernel_rfl) ?_ (fun hHeld => ?_)
        · exact ⟨E.out.cfg, E.out.lay, X.out.blk⟩
        generalize w10.drew = G at *
        refine wpAnyH_take (i := 0) (oi := ⟨some 65, _, _, _, _, _⟩) (v := ?_) rfl (by kernel_rfl) (by kernel_rfl) (by kernel_rfl) (fun _ _ _ h => h) (Or.inl ⟨by rfl, ?_⟩) hHeld ?_
        rotate_left
        · (intro wq hSw; have h1 := hSw.1; have h2 := hSw.2.1; have h3 := hSw.2.2; have x0 := h1.cell (i := 0) rfl; have x1 := h1.cell (i := 1) rfl; have x2 := h1.cell (i := 2) rfl; have x3 := h1.cell (i := 3) rfl; have x4 := h1.cell (i := 4) rfl; have x5 := h1.cell (i := 5) rfl; have x6 := h1.cell (i := 6) rfl; have v0 := h2.cell (i := 0) rfl; have v1 := h2.cell (i := 1) rfl; have v2 := h2.cell (i := 2) rfl; have v3 := h2.cell (i := 3) rfl; have v4 := h2.cell (i := 4) rfl; have v5 := h2.cell (i := 5) rfl; have v6 := h2.cell (i := 6) rfl; have v7 := h2.cell (i := 7) rfl; have v8 := h2.cell (i := 8) rfl; have v9 := h2.cell (i := 9) rfl; have y0 := h3.cell (i := 0) rfl; have y1 := h3.cell (i := 1) rfl; have y2 := h3.cell (i := 2) rfl; have y3 := h3.cell (i := 3) rfl; have y4 := h3.cell (i := 4) rfl; clear h1 h2 h3; go_simp; try with_reducible rfl)
        try simp only [Act.put, List.setIfInBounds_toArray, List.set_cons_zero, List.set_cons_succ]
        refine wpAnyH_take (i := 1) (oi := ⟨some 66, _, _, _, _, _⟩) (v := ?_) rfl (by kernel_rfl) (by kernel_rfl) (by kernel_rfl) (fun _ _ _ h => h) (Or.inl ⟨by rfl, ?_⟩) hHeld ?_
        rotate_left
        · (intro wq hSw; go_simp; try with_reducible rfl)
        try simp only [Act.put, List.setIfInBounds_toArray, List.set_cons_zero, List.set_cons_succ]
        refine wpAnyH_take (i := 2) (oi := ⟨some 67, _, _, _, _, _⟩) (v := ?_) rfl (by kernel_rfl) (by kernel_rfl) (by kernel_rfl) (fun _ _ _ h => h) (Or.inl ⟨by rfl, ?_⟩) hHeld ?_
        rotate_left
        · (intro wq hSw; go_simp; try with_reducible rfl)
        try simp only [Act.put, List.setIfInBounds_toArray, List.set_cons_zero, List.set_cons_succ]
        refine wpAnyH_take (i := 4) (oi := ⟨some 69, _, _, _, _, _⟩) (v := ?_) rfl (by kernel_rfl) (by kernel_rfl) (by kernel_rfl) (fun _ _ _ h => h) (Or.inl ⟨by rfl, ?_⟩) hHeld ?_
        rotate_left
        · (intro wq hSw; have h1 := hSw.1; have h2 := hSw.2.1; have h3 := hSw.2.2; have x0 := h1.cell (i := 0) rfl; have x1 := h1.cell (i := 1) rfl; have x2 := h1.cell (i := 2) rfl; have x3 := h1.cell (i := 3) rfl; have x4 := h1.cell (i := 4) rfl; have x5 := h1.cell (i := 5) rfl; have x6 := h1.cell (i := 6) rfl; have v0 := h2.cell (i := 0) rfl; have v1 := h2.cell (i := 1) rfl; have v2 := h2.cell (i := 2) rfl; have v3 := h2.cell (i := 3) rfl; have v4 := h2.cell (i := 4) rfl; have v5 := h2.cell (i := 5) rfl; have v6 := h2.cell (i := 6) rfl; have v7 := h2.cell (i := 7) rfl; have v8 := h2.cell (i := 8) rfl; have v9 := h2.cell (i := 9) rfl; have y0 := h3.cell (i := 0) rfl; have y1 := h3.cell (i := 1) rfl; have y2 := h3.cell (i := 2) rfl; have y3 := h3.cell (i := 3) rfl; have y4 := h3.cell (i := 4) rfl; clear h1 h2 h3; go_simp; try with_reducible rfl)
        try simp only [Act.put, List.setIfInBounds_toArray, List.set_cons_zero, List.set_cons_succ]
        refine wpAnyH_ready (rs := [3]) (by kernel_rfl) (by simp) ?_
        refine AllReadyH.cons (o := ⟨some 68, _, _, _, _, _⟩) rfl (fun KK hK => ?_) AllReadyH.nil
        go_simp
        go_at_call 15
        refine (npeek_page h4 h6 HD.out HM.out HNS.out HHS.out.1 HWF.out HPL.out).mono ?_; rintro e p1 ⟨A7, c7, rfl, hR7, _, hKp⟩
        replace HM := Lib.hid (HM.out.kept hKp (fun h => h) (fun h => h))
        replace E := Lib.hid (E.out.none hKp)
        replace X := Lib.hid (X.out.none hKp)
        replace Y := Lib.hid (Y.out.none hKp)
        replace HCF := Lib.hid (HCF.out.kept hKp (fun _ _ h => h))
        have HR7 := Lib.hid hR7
        clear hKp hR7
        refine hK.out _ _ ?_ (fun hHeld2 => ?_)
        · exact ⟨E.out.cfg, E.out.lay, X.out.blk⟩
        clear hK KK hHeld
        have hHeld := hHeld2
        clear hHeld2
        try simp only [Act.put, List.setIfInBounds_toArray, List.set_cons_zero, List.set_cons_succ]
        refine wpAnyH_ready (rs := [5]) (by kernel_rfl) (by simp) ?_
        refine AllReadyH.cons (o := ⟨some 70, _, _, _, _, _⟩) rfl (fun KK hK => ?_) AllReadyH.nil
        go_simp
        go_at_call 14
        refine (refSame_yes P A7 A5 c7 c5 _ (by have := HPM.out.1; omega) HR7.out X.out.row).mono ?_; rintro e p2 ⟨rfl, hKp⟩
        replace HM := Lib.hid (HM.out.kept hKp (fun h => h) (fun h => h))
        replace E := Lib.hid (E.out.none hKp)
        replace X := Lib.hid (X.out.none hKp)
        replace Y := Lib.hid (Y.out.none hKp)
        replace HCF := Lib.hid (HCF.out.kept hKp (fun _ _ h => h))
        clear hKp HR7
        refine hK.out _ _ ?_ (fun hHeld2 => ?_)
        · exact ⟨E.out.cfg, E.out.lay, X.out.blk⟩
        clear hK KK hHeld
        have hHeld := hHeld2
        clear hHeld2
        try simp only [Act.put, List.setIfInBounds_toArray, List.set_cons_zero, List.set_cons_succ]
        refine wpAnyH_take (i := 6) (oi := ⟨some 71, _, _, _, _, _⟩) (v := .bool false) rfl (by kernel_rfl) (by kernel_rfl) (by kernel_rfl) (fun _ _ _ h => h) (Or.inl ⟨by rfl, ?_⟩) hHeld ?_
        · (intro wq hSw; go_simp; try first | (with_reducible rfl) | (simp; omega) | (intros; omega) | simp [*])
        try simp only [Act.put, List.setIfInBounds_toArray, List.set_cons_zero, List.set_cons_succ]
        refine wpAnyH_take (i := 7) (oi := ⟨some 72, _, _, _, _, _⟩) (v := .bool false) rfl (by kernel_rfl) (by kernel_rfl) (by kernel_rfl) (fun _ _ _ h => h) (Or.inl ⟨by rfl, ?_⟩) hHeld ?_
        · (intro wq hSw; go_simp; try first | (with_reducible rfl) | (simp; omega) | (intros; omega) | simp [*])
        try simp only [Act.put, List.setIfInBounds_toArray, List.set_cons_zero, List.set_cons_succ]
        refine wpAnyH_take (i := 8) (oi := ⟨some 73, _, _, _, _, _⟩) (v := ?_) rfl (by kernel_rfl) (by kernel_rfl) (by kernel_rfl) (fun _ _ _ h => h) (Or.inl ⟨by rfl, ?_⟩) hHeld ?_
        rotate_left
        · (intro wq hSw; go_simp; try with_reducible rfl)
        try simp only [Act.put, List.setIfInBounds_toArray, List.set_cons_zero, List.set_cons_succ]
        refine wpAnyH_take (i := 9) (oi := ⟨some 74, _, _, _, _, _⟩) (v := ?_) rfl (by kernel_rfl) (by kernel_rfl) (by kernel_rfl) (fun _ _ _ h => h) (Or.inl ⟨by rfl, ?_⟩) hHeld ?_
        rotate_left
        · (intro wq hSw; have h1 := hSw.1; have h2 := hSw.2.1; have h3 := hSw.2.2; have x0 := h1.cell (i := 0) rfl; have x1 := h1.cell (i := 1) rfl; have x2 := h1.cell (i := 2) rfl; have x3 := h1.cell (i := 3) rfl; have x4 := h1.cell (i := 4) rfl; have x5 := h1.cell (i := 5) rfl; have x6 := h1.cell (i := 6) rfl; have v0 := h2.cell (i := 0) rfl; have v1 := h2.cell (i := 1) rfl; have v2 := h2.cell (i := 2) rfl; have v3 := h2.cell (i := 3) rfl; have v4 := h2.cell (i := 4) rfl; have v5 := h2.cell (i := 5) rfl; have v6 := h2.cell (i := 6) rfl; have v7 := h2.cell (i := 7) rfl; have v8 := h2.cell (i := 8) rfl; have v9 := h2.cell (i := 9) rfl; have y0 := h3.cell (i := 0) rfl; have y1 := h3.cell (i := 1) rfl; have y2 := h3.cell (i := 2) rfl; have y3 := h3.cell (i := 3) rfl; have y4 := h3.cell (i := 4) rfl; clear h1 h2 h3; go_simp; try with_reducible rfl)
        try simp only [Act.put, List.setIfInBounds_toArray, List.set_cons_zero, List.set_cons_succ]
        refine wpAnyH_take (i := 10) (oi := ⟨some 75, _, _, _, _, _⟩) (v := ?_) rfl (by kernel_rfl) (by kernel_rfl) (by kernel_rfl) (fun _ _ _ h => h) (Or.inl ⟨by rfl, ?_⟩) hHeld ?_
        rotate_left
        · (intro wq hSw; go_simp; try with_reducible rfl)
        try simp only [Act.put, List.setIfInBounds_toArray, List.set_cons_zero, List.set_cons_succ]
        refine wpAnyH_ready (rs := [11]) (by kernel_rfl) (by simp) ?_
        refine AllReadyH.cons (o := ⟨some 76, _, _, _, _, _⟩) rfl (fun KK hK => ?_) AllReadyH.nil
        go_simp
        go_at_call 17
        refine (ref_to F nid 0 h4 h6 (by omega) la1 HLA.out _).mono ?_; rintro e p3 ⟨rfl, hKp⟩
        replace HM := Lib.hid (HM.out.kept hKp (fun h => h) (fun h => h))
        replace E := Lib.hid (E.out.none hKp)
        replace X := Lib.hid (X.out.none hKp)
        replace Y := Lib.hid (Y.out.none hKp)
        replace HCF := Lib.hid (HCF.out.kept hKp (fun _ _ h => h))
        clear hKp
        refine hK.out _ _ ?_ (fun hHeld2 => ?_)
        · exact ⟨E.out.cfg, E.out.lay, X.out.blk⟩
        clear hK KK hHeld
        have hHeld := hHeld2
        clear hHeld2
        try simp only [Act.put, List.setIfInBounds_toArray, List.set_cons_zero, List.set_cons_succ]
        refine wpAnyH_ready (rs := [12]) (by kernel_rfl) (by simp) ?_
        refine AllReadyH.cons (o := ⟨some 77, _, _, _, _, _⟩) rfl (fun KK hK => ?_) AllReadyH.nil
        go_simp
        go_at_call 16
        refine (peek_any b g l1 _ la1 1 0 ⟨#[]⟩ _ HM.out HHS.out.2).mono ?_; rintro e p4 ⟨rfl, hKp⟩
        replace HM := Lib.hid (HM.out.kept hKp (fun h => h) (fun h => h))
        replace E := Lib.hid (E.out.none hKp)
        replace X := Lib.hid (X.out.none hKp)
        replace Y := Lib.hid (Y.out.none hKp)
        replace HCF := Lib.hid (HCF.out.kept hKp (fun _ _ h => h))
        clear hKp
        refine hK.out _ _ ?_ (fun hHeld2 => ?_)
        · exact ⟨E.out.cfg, E.out.lay, X.out.blk⟩
        clear hK KK hHeld
        have hHeld := hHeld2
        clear hHeld2
        try simp only [Act.put, List.setIfInBounds_toArray, List.set_cons_zero, List.set_cons_succ]
        refine wpAnyH_take (i := 13) (oi := ⟨some 78, _, _, _, _, _⟩) (v := ?_) rfl (by kernel_rfl) (by kernel_rfl) (by kernel_rfl) (fun _ _ _ h => h) (Or.inl ⟨by rfl, ?_⟩) hHeld ?_
        rotate_left
        · (intro wq hSw; go_simp; try with_reducible rfl)
        try simp only [Act.put, List.setIfInBounds_toArray, List.set_cons_zero, List.set_cons_succ]
        refine wpAnyH_ready (rs := [14]) (by kernel_rfl) (by simp) ?_
        refine AllReadyH.cons (o := ⟨some 79, _, _, _, _, _⟩) rfl (fun KK hK => ?_) AllReadyH.nil
        go_simp
        go_at_call 18
        refine (lock_of 0 1 (by omega) (by rfl) _).mono ?_; rintro e w8 ⟨rfl, rfl⟩
        refine hK.out _ _ ?_ (fun hHeld2 => ?_)
        · exact ⟨E.out.cfg, E.out.lay, X.out.blk⟩
        clear hK KK hHeld
        have hHeld := hHeld2
        clear hHeld2
        try simp only [Act.put, List.setIfInBounds_toArray, List.set_cons_zero, List.set_cons_succ]
        refine wpAnyH_take (i := 15) (oi := ⟨some 80, _, _, _, _, _⟩) (v := .bool false) rfl (by kernel_rfl) (by kernel_rfl) (by kernel_rfl) (fun _ _ _ h => h) (Or.inl ⟨by rfl, ?_⟩) hHeld ?_
        · (intro wq hSw; go_simp; try first | (with_reducible rfl) | (simp; omega) | (intros; omega) | simp [*])
        try simp only [Act.put, List.setIfInBounds_toArray, List.set_cons_zero, List.set_cons_succ]
        refine wpAnyH_take (i := 16) (oi := ⟨some 81, _, _, _, _, _⟩) (v := .bool false) rfl (by kernel_rfl) (by kernel_rfl) (by kernel_rfl) (fun _ _ _ h => h) (Or.inl ⟨by rfl, ?_⟩) hHeld ?_
        · (intro wq hSw; go_simp; try first | (with_reducible rfl) | (simp; omega) | (intros; omega) | simp [*])
        try simp only [Act.put, List.setIfInBounds_toArray, List.set_cons_zero, List.set_cons_succ]
        refine wpAnyH_take (i := 17) (oi := ⟨some 82, _, _, _, _, _⟩) (v := .bool false) rfl (by kernel_rfl) (by kernel_rfl) (by kernel_rfl) (fun _ _ _ h => h) (Or.inl ⟨by rfl, ?_⟩) hHeld ?_
        · (intro wq hSw; go_simp; try first | (with_reducible rfl) | (simp; omega) | (intros; omega) | simp [*])
        try simp only [Act.put, List.setIfInBounds_toArray, List.set_cons_zero, List.set_cons_succ]
        refine wpAnyH_take (i := 18) (oi := ⟨some 83, _, _, _, _, _⟩) (v := ?_) rfl (by kernel_rfl) (by kernel_rfl) (by kernel_rfl) (fun _ _ _ h => h) (Or.inl ⟨by rfl, ?_⟩) hHeld ?_
        rotate_left
        · (intro wq hSw; go_simp; try with_reducible rfl)
        try simp only [Act.put, List.setIfInBounds_toArray, List.set_cons_zero, List.set_cons_succ]
        refine wpAnyH_take (i := 21) (oi := ⟨some 86, _, _, _, _, _⟩) (v := ?_) rfl (by kernel_rfl) (by kernel_rfl) (by kernel_rfl) (fun _ _ _ h => h) (Or.inl ⟨by rfl, ?_⟩) hHeld ?_
        rotate_left
        · (intro wq hSw; go_simp; try with_reducible rfl)
        try simp only [Act.put, List.setIfInBounds_toArray, List.set_cons_zero, List.set_cons_succ]
        refine wpAnyH_ready (rs := [19]) (by kernel_rfl) (by simp) ?_
        refine AllReadyH.cons (o := ⟨some 84, _, _, _, _, _⟩) rfl (fun KK hK => ?_) AllReadyH.nil
        go_simp
        go_at_call 19
        refine (fheld_any Z q ss ss.length nid 1 P _ HCF.out rfl (by have := HPM.out.1; omega)).mono ?_; rintro e h19 ⟨A19, c19, rfl, hR19, _, hKp⟩
        replace HM := Lib.hid (HM.out.kept hKp (fun h => h) (fun h => h))
        replace E := Lib.hid (E.out.none hKp)
        replace X := Lib.hid (X.out.none hKp)
        replace Y := Lib.hid (Y.out.none hKp)
        replace HCF := Lib.hid (HCF.out.kept hKp (fun _ _ h => h))
        clear hKp hR19
        refine hK.out _ _ ?_ (fun hHeld2 => ?_)
        · exact ⟨E.out.cfg, E.out.lay, X.out.blk⟩
        clear hK KK hHeld
        have hHeld := hHeld2
        clear hHeld2
        try simp only [Act.put, List.setIfInBounds_toArray, List.set_cons_zero, List.set_cons_succ]
        refine wpAnyH_take (i := 20) (oi := ⟨some 85, _, _, _, _, _⟩) (v := ?_) rfl (by kernel_rfl) (by kernel_rfl) (by kernel_rfl) (fun _ _ _ h => h) (Or.inl ⟨by rfl, ?_⟩) hHeld ?_
        rotate_left
        · (intro wq hSw; go_simp; try with_reducible rfl)
        try simp only [Act.put, List.setIfInBounds_toArray, List.set_cons_zero, List.set_cons_succ]
        refine wpAnyH_take (i := 22) (oi := ⟨some 87, _, _, _, _, _⟩) (v := .bool false) rfl (by kernel_rfl) (by kernel_rfl) (by kernel_rfl) (fun _ _ _ h => h) (Or.inl ⟨by rfl, ?_⟩) hHeld ?_
        · (intro wq hSw; go_simp; try first | (with_reducible rfl) | (simp; omega) | (intros; omega) | simp [*])
        try simp only [Act.put, List.setIfInBounds_toArray, List.set_cons_zero, List.set_cons_succ]
        refine wpAnyH_take (i := 23) (oi := ⟨some 88, _, _, _, _, _⟩) (v := .bool false) rfl (by kernel_rfl) (by kernel_rfl) (by kernel_rfl) (fun _ _ _ h => h) (Or.inl ⟨by rfl, ?_⟩) hHeld ?_
        · (intro wq hSw; go_simp; try first | (with_reducible rfl) | (simp; omega) | (intros; omega) | simp [*])
        try simp only [Act.put, List.setIfInBounds_toArray, List.set_cons_zero, List.set_cons_succ]
        refine wpAnyH_take (i := 24) (oi := ⟨some 89, _, _, _, _, _⟩) (v := .bool false) rfl (by kernel_rfl) (by kernel_rfl) (by kernel_rfl) (fun _ _ _ h => h) (Or.inl ⟨by rfl, ?_⟩) hHeld ?_
        · (intro wq hSw; go_simp; try first | (with_reducible rfl) | (simp; omega) | (intros; omega) | simp [*])
        try simp only [Act.put, List.setIfInBounds_toArray, List.set_cons_zero, List.set_cons_succ]
        refine wpAnyH_take (i := 25) (oi := ⟨some 90, _, _, _, _, _⟩) (v := ?_) rfl (by kernel_rfl) (by kernel_rfl) (by kernel_rfl) (fun _ _ _ h => h) (Or.inl ⟨by rfl, ?_⟩) hHeld ?_
        rotate_left
        · (intro wq hSw; go_simp; try with_reducible rfl)
        try simp only [Act.put, List.setIfInBounds_toArray, List.set_cons_zero, List.set_cons_succ]
        refine wpAnyH_ready (rs := [26]) (by kernel_rfl) (by simp) ?_
        refine AllReadyH.cons (o := ⟨some 91, _, _, _, _, _⟩) rfl (fun KK hK => ?_) AllReadyH.nil
        go_simp
        go_at_call 19
        refine (fheld_any Z q ss ss.length nid 1 P _ HCF.out rfl (by have := HPM.out.1; omega)).mono ?_; rintro e h26 ⟨A26, c26, rfl, hR26, _, hKp⟩
        replace HM := Lib.hid (HM.out.kept hKp (fun h => h) (fun h => h))
        replace E := Lib.hid (E.out.none hKp)
        replace X := Lib.hid (X.out.none hKp)
        replace Y := Lib.hid (Y.out.none hKp)
        replace HCF := Lib.hid (HCF.out.kept hKp (fun _ _ h => h))
        clear hKp hR26
        refine hK.out _ _ ?_ (fun hHeld2 => ?_)
        · exact ⟨E.out.cfg, E.out.lay, X.out.blk⟩
        clear hK KK hHeld
        have hHeld := hHeld2
        clear hHeld2
        try simp only [Act.put, List.setIfInBounds_toArray, List.set_cons_zero, List.set_cons_succ]
        refine wpAnyH_take (i := 27) (oi := ⟨some 92, _, _, _, _, _⟩) (v := ?_) rfl (by kernel_rfl) (by kernel_rfl) (by kernel_rfl) (fun _ _ _ h => h) (Or.inl ⟨by rfl, ?_⟩) hHeld ?_
        rotate_left
        · (intro wq hSw; go_simp; try with_reducible rfl)
        try simp only [Act.put, List.setIfInBounds_toArray, List.set_cons_zero, List.set_cons_succ]
        refine wpAnyH_ready (rs := [28]) (by kernel_rfl) (by simp) ?_
        refine AllReadyH.cons (o := ⟨some 93, _, _, _, _, _⟩) rfl (fun KK hK => ?_) AllReadyH.nil
        go_simp
        go_at_call 18
        refine (lock_of 0 1 (by omega) (by rfl) _).mono ?_; rintro e w8 ⟨rfl, rfl⟩
        refine hK.out _ _ ?_ (fun hHeld2 => ?_)
        · exact ⟨E.out.cfg, E.out.lay, X.out.blk⟩
        clear hK KK hHeld
        have hHeld := hHeld2
        clear hHeld2
        try simp only [Act.put, List.setIfInBounds_toArray, List.set_cons_zero, List.set_cons_succ]
        refine wpAnyH_take (i := 29) (oi := ⟨some 94, _, _, _, _, _⟩) (v := .bool false) rfl (by kernel_rfl) (by kernel_rfl) (by kernel_rfl) (fun _ _ _ h => h) (Or.inl ⟨by rfl, ?_⟩) hHeld ?_
        · (intro wq hSw; go_simp; try first | (with_reducible rfl) | (simp; omega) | (intros; omega) | simp [*])
        try simp only [Act.put, List.setIfInBounds_toArray, List.set_cons_zero, List.set_cons_succ]
        refine wpAnyH_take (i := 30) (oi := ⟨some 95, _, _, _, _, _⟩) (v := .bool false) rfl (by kernel_rfl) (by kernel_rfl) (by kernel_rfl) (fun _ _ _ h => h) (Or.inl ⟨by rfl, ?_⟩) hHeld ?_
        · (intro wq hSw; go_simp; try first | (with_reducible rfl) | (simp; omega) | (intros; omega) | simp [*])
        try simp only [Act.put, List.setIfInBounds_toArray, List.set_cons_zero, List.set_cons_succ]
        refine wpAnyH_take (i := 31) (oi := ⟨some 96, _, _, _, _, _⟩) (v := .bool false) rfl (by kernel_rfl) (by kernel_rfl) (by kernel_rfl) (fun _ _ _ h => h) (Or.inl ⟨by rfl, ?_⟩) hHeld ?_
        · (intro wq hSw; go_simp; try first | (with_reducible rfl) | (simp; omega) | (intros; omega) | simp [*])
        try simp only [Act.put, List.setIfInBounds_toArray, List.set_cons_zero, List.set_cons_succ]
        refine wpAnyH_take (i := 32) (oi := ⟨some 97, _, _, _, _, _⟩) (v := ?_) rfl (by kernel_rfl) (by kernel_rfl) (by kernel_rfl) (fun _ _ _ h => h) (Or.inl ⟨by rfl, ?_⟩) hHeld ?_
        rotate_left
        · (intro wq hSw; go_simp; try with_reducible rfl)
        try simp only [Act.put, List.setIfInBounds_toArray, List.set_cons_zero, List.set_cons_succ]
        refine wpAnyH_take (i := 35) (oi := ⟨some 100, _, _, _, _, _⟩) (v := ?_) rfl (by kernel_rfl) (by kernel_rfl) (by kernel_rfl) (fun _ _ _ h => h) (Or.inl ⟨by rfl, ?_⟩) hHeld ?_
        rotate_left
        · (intro wq hSw; have h1 := hSw.1; have h2 := hSw.2.1; have h3 := hSw.2.2; have x0 := h1.cell (i := 0) rfl; have x1 := h1.cell (i := 1) rfl; have x2 := h1.cell (i := 2) rfl; have x3 := h1.cell (i := 3) rfl; have x4 := h1.cell (i := 4) rfl; have x5 := h1.cell (i := 5) rfl; have x6 := h1.cell (i := 6) rfl; have v0 := h2.cell (i := 0) rfl; have v1 := h2.cell (i := 1) rfl; have v2 := h2.cell (i := 2) rfl; have v3 := h2.cell (i := 3) rfl; have v4 := h2.cell (i := 4) rfl; have v5 := h2.cell (i := 5) rfl; have v6 := h2.cell (i := 6) rfl; have v7 := h2.cell (i := 7) rfl; have v8 := h2.cell (i := 8) rfl; have v9 := h2.cell (i := 9) rfl; have y0 := h3.cell (i := 0) rfl; have y1 := h3.cell (i := 1) rfl; have y2 := h3.cell (i := 2) rfl; have y3 := h3.cell (i := 3) rfl; have y4 := h3.cell (i := 4) rfl; clear h1 h2 h3; go_simp; try with_reducible rfl)
        try simp only [Act.put, List.setIfInBounds_toArray, List.set_cons_zero, List.set_cons_succ]
        refine wpAnyH_ready (rs := [33]) (by kernel_rfl) (by simp) ?_
        refine AllReadyH.cons (o := ⟨some 98, _, _, _, _, _⟩) rfl (fun KK hK => ?_) AllReadyH.nil
        go_simp
        go_at_call 19
        refine (fheld_any Z q ss ss.length nid 1 P _ HCF.out rfl (by have := HPM.out.1; omega)).mono ?_; rintro e h33 ⟨A33, c33, rfl, hR33, _, hKp⟩
        replace HM := Lib.hid (HM.out.kept hKp (fun h => h) (fun h => h))
        replace E := Lib.hid (E.out.none hKp)
        replace X := Lib.hid (X.out.none hKp)
        replace Y := Lib.hid (Y.out.none hKp)
        replace HCF := Lib.hid (HCF.out.kept hKp (fun _ _ h => h))
        have HR7 := Lib.hid hR33
        clear hKp hR33
        refine hK.out _ _ ?_ (fun hHeld2 => ?_)
        · exact ⟨E.out.cfg, E.out.lay, X.out.blk⟩
        clear hK KK hHeld
        have hHeld := hHeld2
        clear hHeld2
        try simp only [Act.put, List.setIfInBounds_toArray, List.set_cons_zero, List.set_cons_succ]
        refine wpAnyH_take (i := 34) (oi := ⟨some 99, _, _, _, _, _⟩) (v := ?_) rfl (by kernel_rfl) (by kernel_rfl) (by kernel_rfl) (fun _ _ _ h => h) (Or.inl ⟨by rfl, ?_⟩) hHeld ?_
        rotate_left
        · (intro wq hSw; go_simp; try with_reducible rfl)
        try simp only [Act.put, List.setIfInBounds_toArray, List.set_cons_zero, List.set_cons_succ]
        refine wpAnyH_ready (rs := [36]) (by kernel_rfl) (by simp) ?_
        refine AllReadyH.cons (o := ⟨some 101, _, _, _, _, _⟩) rfl (fun KK hK => ?_) AllReadyH.nil
        go_simp
        go_at_call 14
        refine (refSame_yes P A33 A5 c33 c5 _ (by have := HPM.out.1; omega) HR7.out X.out.row).mono ?_; rintro e p5 ⟨rfl, hKp⟩
        replace HM := Lib.hid (HM.out.kept hKp (fun h => h) (fun h => h))
        replace E := Lib.hid (E.out.none hKp)
        replace X := Lib.hid (X.out.none hKp)
        replace Y := Lib.hid (Y.out.none hKp)
        replace HCF := Lib.hid (HCF.out.kept hKp (fun _ _ h => h))
        clear hKp HR7
        refine hK.out _ _ ?_ (fun hHeld2 => ?_)
        · exact ⟨E.out.cfg, E.out.lay, X.out.blk⟩
        clear hK KK hHeld
        have hHeld := hHeld2
        clear hHeld2
        try simp only [Act.put, List.setIfInBounds_toArray, List.set_cons_zero, List.set_cons_succ]
        refine wpAnyH_take (i := 37) (oi := ⟨some 102, _, _, _, _, _⟩) (v := .bool false) rfl (by kernel_rfl) (by kernel_rfl) (by kernel_rfl) (fun _ _ _ h => h) (Or.inl ⟨by rfl, ?_⟩) hHeld ?_
        · (intro wq hSw; go_simp; try first | (with_reducible rfl) | (simp; omega) | (intros; omega) | simp [*])
        try simp only [Act.put, List.setIfInBounds_toArray, List.set_cons_zero, List.set_cons_succ]
        refine wpAnyH_take (i := 38) (oi := ⟨some 103, _, _, _, _, _⟩) (v := .bool false) rfl (by kernel_rfl) (by kernel_rfl) (by kernel_rfl) (fun _ _ _ h => h) (Or.inl ⟨by rfl, ?_⟩) hHeld ?_
        · (intro wq hSw; go_simp; try first | (with_reducible rfl) | (simp; omega) | (intros; omega) | simp [*])
        try simp only [Act.put, List.setIfInBounds_toArray, List.set_cons_zero, List.set_cons_succ]
        refine wpAnyH_done (by kernel_rfl) ?_ _
        clear hHeld
        go_upto_region 14 with fail
        have hdr := (Kept.refl (fun _ => False) p5).drew
        replace HM := Lib.hid (HM.out.kept hdr (fun h => h) (fun h => h))
        replace E := Lib.hid (E.out.none hdr)
        replace Y := Lib.hid (Y.out.none hdr)
        replace HCF := Lib.hid (HCF.out.kept hdr (fun _ _ h => h))
        clear hdr X HOX
        refine wp_region_held_drew (S := (fun w' => Blk w' b10 30 [.int .i64 1, .int .i64 2, .int .i64 100, .int .i64 100, .int .i64 200, .int .i64 (F : Int), .int .u64 1000, .int .i64 10, .int .i64 fb, .int .i64 fd] ∧ Blk w' bz 25 [.int .i64 (Q.lv : Int), .slice A6 Q.xs.length c6, .string Q.hi, .bool Q.la, .int .u64 (Q.rt : Int)])) (by kernel_rfl) ?_ (fun hHeld => ?_)
        · exact ⟨E.out.lay, Y.out.blk⟩
        generalize p5.drew = G14 at *
        refine wpAnyH_take (i := 0) (oi := ⟨some 104, _, _, _, _, _⟩) (v := ?_) rfl (by kernel_rfl) (by kernel_rfl) (by kernel_rfl) (fun _ _ _ h => h) (Or.inl ⟨by rfl, ?_⟩) hHeld ?_
        rotate_left
        · (intro wq hSw; have h1 := hSw.1; have h2 := hSw.2; have v0 := h1.cell (i := 0) rfl; have v1 := h1.cell (i := 1) rfl; have v2 := h1.cell (i := 2) rfl; have v3 := h1.cell (i := 3) rfl; have v4 := h1.cell (i := 4) rfl; have v5 := h1.cell (i := 5) rfl; have v6 := h1.cell (i := 6) rfl; have v7 := h1.cell (i := 7) rfl; have v8 := h1.cell (i := 8) rfl; have v9 := h1.cell (i := 9) rfl; have y0 := h2.cell (i := 0) rfl; have y1 := h2.cell (i := 1) rfl; have y2 := h2.cell (i := 2) rfl; have y3 := h2.cell (i := 3) rfl; have y4 := h2.cell (i := 4) rfl; clear h1 h2; go_simp; try with_reducible rfl)
        try simp only [Act.put, List.setIfInBounds_toArray, List.set_cons_zero, List.set_cons_succ]
        refine wpAnyH_take (i := 1) (oi := ⟨some 105, _, _, _, _, _⟩) (v := ?_) rfl (by kernel_rfl) (by kernel_rfl) (by kernel_rfl) (fun _ _ _ h => h) (Or.inl ⟨by rfl, ?_⟩) hHeld ?_
        rotate_left
        · (intro wq hSw; go_simp; try with_reducible rfl)
        try simp only [Act.put, List.setIfInBounds_toArray, List.set_cons_zero, List.set_cons_succ]
        refine wpAnyH_take (i := 3) (oi := ⟨some 107, _, _, _, _, _⟩) (v := ?_) rfl (by kernel_rfl) (by kernel_rfl) (by kernel_rfl) (fun _ _ _ h => h) (Or.inl ⟨by rfl, ?_⟩) hHeld ?_
        rotate_left
        · (intro wq hSw; have h1 := hSw.1; have h2 := hSw.2; have v0 := h1.cell (i := 0) rfl; have v1 := h1.cell (i := 1) rfl; have v2 := h1.cell (i := 2) rfl; have v3 := h1.cell (i := 3) rfl; have v4 := h1.cell (i := 4) rfl; have v5 := h1.cell (i := 5) rfl; have v6 := h1.cell (i := 6) rfl; have v7 := h1.cell (i := 7) rfl; have v8 := h1.cell (i := 8) rfl; have v9 := h1.cell (i := 9) rfl; have y0 := h2.cell (i := 0) rfl; have y1 := h2.cell (i := 1) rfl; have y2 := h2.cell (i := 2) rfl; have y3 := h2.cell (i := 3) rfl; have y4 := h2.cell (i := 4) rfl; clear h1 h2; go_simp; try with_reducible rfl)
        try simp only [Act.put, List.setIfInBounds_toArray, List.set_cons_zero, List.set_cons_succ]
        refine wpAnyH_ready (rs := [2]) (by kernel_rfl) (by simp) ?_
        refine AllReadyH.cons (o := ⟨some 106, _, _, _, _, _⟩) rfl (fun KK hK => ?_) AllReadyH.nil
        go_simp
        go_at_call 19
        refine (fheld_any Z q ss ss.length nid 1 P _ HCF.out rfl (by have := HPM.out.1; omega)).mono ?_; rintro e h1 ⟨A14, c14, rfl, hR14, _, hKp⟩
        replace HM := Lib.hid (HM.out.kept hKp (fun h => h) (fun h => h))
        replace E := Lib.hid (E.out.none hKp)
        replace Y := Lib.hid (Y.out.none hKp)
        have HR14 := Lib.hid hR14
        clear hKp hR14 HCF
        refine hK.out _ _ ?_ (fun hHeld2 => ?_)
        · exact ⟨E.out.lay, Y.out.blk⟩
        clear hK KK hHeld
        have hHeld := hHeld2
        clear hHeld2
        try simp only [Act.put, List.setIfInBounds_toArray, List.set_cons_zero, List.set_cons_succ]
        refine wpAnyH_ready (rs := [4]) (by kernel_rfl) (by simp) ?_
        refine AllReadyH.cons (o := ⟨some 108, _, _, _, _, _⟩) rfl (fun KK hK => ?_) AllReadyH.nil
        go_simp
        go_at_call 20
        refine (newWrite_any 1 2 100 100 200 F 1000 10 fb fd (limF h4 h6) HD.out nid 1 P.lv A14 c14 P.hi P.la P.rt P.xs Q.lv A6 c6 Q.hi Q.la Q.rt Q.xs _ P.xs.length Q.xs.length rfl rfl HPM.out.1 HPM.out.2 HFT.out.lv HFQ.out.lv (by omega) HR14.out Y.out.row).mono ?_; rintro e w13 ⟨q2, Z2, rfl, hC9, hq9, hK9⟩
        obtain ⟨s1, hs1⟩ : ∃ x, h1.heap.size = x := ⟨_, rfl⟩
        have HOY1 := Lib.hid (show Pold s1 bz Q A6 by rw [← hs1]; exact Y.out.old)
        have HOE1 := Lib.hid (show b9 < s1 ∧ b10 < s1 ∧ w.heap.size ≤ s1 by rw [← hs1]; exact ⟨E.out.cfg.lt, E.out.lay.lt, E.out.kept.size⟩)
        have HOM1 := Lib.hid (show b < s1 ∧ g < s1 by rw [← hs1]; exact ⟨HM.out.obj.lt, HM.out.row.lt⟩)
        have HZ2 := Lib.hid (show ∀ i, Z2 i → s1 ≤ i by rw [← hs1]; exact hq9)
        have HCW0 := Lib.hid hC9
        replace HM := Lib.hid (HM.out.kept hK9 (fun h => h) (fun h => h))
        replace E := Lib.hid (E.out.none hK9)
        replace Y := Lib.hid (Y.out.none hK9)
        clear hK9 hs1 hq9 hC9 HR14
        refine hK.out _ _ ?_ (fun hHeld2 => ?_)
        · exact ⟨E.out.lay, Y.out.blk⟩
        clear hK KK hHeld
        have hHeld := hHeld2
        clear hHeld2
        try simp only [Act.put, List.setIfInBounds_toArray, List.set_cons_zero, List.set_cons_succ]
        refine wpAnyH_take (i := 5) (oi := ⟨some 18, _, _, _, _, _⟩) (v := ?_) rfl (by kernel_rfl) (by kernel_rfl) (by kernel_rfl) (fun _ _ _ h => h) (Or.inl ⟨by rfl, ?_⟩) hHeld ?_
        rotate_left
        · (intro wq hSw; go_simp; try with_reducible rfl)
        try simp only [Act.put, List.setIfInBounds_toArray, List.set_cons_zero, List.set_cons_succ]
        refine wpAnyH_done (by kernel_rfl) ?_ _
        clear hHeld
        obtain ⟨ss2, hss2⟩ : ∃ x, wsto (nla F nid) wb we (chg (pst (nad F nid) P) (pst (nad F nid) Q)) = x := ⟨_, rfl⟩
        have HSS2 := Lib.hid hss2
        have HSL2 := Lib.hid (show 2 ≤ ss2.length ∧ ss2.length ≤ 11 by
          rw [← hss2, wsto_length]; have := chg_length (pst (nad F nid) P) (pst (nad F nid) Q); rw [pst_length] at this; have := HQL.out; omega)
        have HC := Lib.hid (show Stm Z2 w13 q2 94 ss2 0 nid we Q by rw [← hss2, ← HWE.out, ← HWB.out]; exact HCW0.out)
        have HN2 := Lib.hid (show Nats (app l1 ss2) by rw [← hss2]; exact HNS.out.app (wsto_nats hwb1 hwe1 (HFQ.out.chgN _ _)))
        have HH2 := Lib.hid (show (cellAt (app l1 ss2) la1).1 = (we : Int) ∧ Holds (nad F nid) (app l1 ss2) Q by
          have hln : l1.length = l.length := by rw [← HL1.out, app_length]
          refine ⟨?_, ?_⟩
          · rw [← hss2, ← HLA.out]; exact wsto_end (by rw [hln]; exact HADS.out.lat)
          · rw [← hss2]; exact wsto_holds HADS.out hln HHS.out.1 HPL.out HQL.out)
        clear HCW0 hss2 HZ HOE HOY HOM
        have hspos2 : 0 < ss2.length := by have := HSL2.out; omega
        go_wp2_with fail
        go_loopw [17] (fun vn wr => ∃ (j : Nat), j < ss2.length ∧ vn = .int .i64 ((k1 + j : Nat) : Int) ∧ Stm Z2 wr q2 94 ss2 j nid we Q ∧ Mem wr b g (app l1 (ss2.take j)) (k1 + j) ∧ Ev w wr F fb fd b g b9 b10 ∧ Px b g wr bz Q A6 c6) (fun i _ => 400 - (intOf i).toNat)
        case atStart => exact ⟨0, hspos2, rfl, HC.out, HM.out, E.out, Y.out⟩
        case round =>
          obtain ⟨j, hjl, rfl, hC, hM, hE, hY⟩ := hrel
          clear HC HM E Y
          rename World => wr2
          have HC := Lib.hid hC
          have HM := Lib.hid hM
          have E := Lib.hid hE
          have Y := Lib.hid hY
          clear hC hM hE hY
          have hj10 : j < 12 := by have := HSL2.out; omega
          have hjw : ((k1 + j : Nat) : Int) < 400 := by omega
          obtain ⟨ad, cN, cK, cM, hs⟩ := sto_ex hjl
          have hst : Calls Try.prog 21 #[.pointer (some ⟨q2, 0, none⟩), .pointer (some ⟨b, 0, none⟩)] wr2 _ :=
            wstep_any Z2 q2 ss2 j nid we Q wr2 HC.out b g (app l1 (ss2.take j)) (k1 + j) HM.out (fun h => by have := HZ2.out b h; have := HOM1.out; omega) (fun h => by have := HZ2.out g h; have := HOM1.out; omega) (by omega) (by have := HSL2.out; omega) ad cN cM cK hs (j + 1 == ss2.length) rfl
          rw [← app_take hs] at hst
          clear hs
          by_cases hlast : j + 1 < ss2.length
          · have hr : (j + 1 == ss2.length) = false := by simp; omega
            rw [hr] at hst
            have HSTP := Lib.hid hst
            clear hst hr
            go_wp2_with fail
            refine HSTP.out.mono ?_; rintro e w16 ⟨rfl, hM, hC, hK⟩
            have HE2 := Lib.hid (E.out.step HZ2.out HOE1.out hK)
            have HY2 := Lib.hid (Y.out.step HZ2.out HOY1.out hK)
            have HM2 := Lib.hid hM
            have HC2 := Lib.hid hC
            clear hM hC hK HSTP E Y HM HC
            go_wp2
            go_roundw
            case rel => exact ⟨j + 1, by omega, by go_num, HC2.out, HM2.out, HE2.out, HY2.out⟩
            case measure => simp [intOf]; omega
          · have hr : (j + 1 == ss2.length) = true := by simp; omega
            have hj1 : j + 1 = ss2.length := by omega
            obtain ⟨n2, hn2e⟩ : ∃ x, k1 + j = x := ⟨_, rfl⟩
            have hn3 : ((k1 + j : Nat) : Int) = (n2 : Int) := by omega
            obtain ⟨l2, hl2⟩ : ∃ x, app l1 ss2 = x := ⟨_, rfl⟩
            rw [hr, show k1 + j + 1 = n2 + 1 by omega, show ss2.take (j + 1) = ss2 by rw [hj1, List.take_length], hl2] at hst
            rw [hn3]
            rw [hn3] at hjw
            have hn30 : n2 ≤ 30 := by omega
            have HNL := Lib.hid (show n2 + 1 = P.xs.length + 4 + ss2.length by have := HKL.out; omega)
            have HJ1 := Lib.hid hj1
            have HL2 := Lib.hid hl2
            have HN2' := Lib.hid (show Nats l2 by rw [← hl2]; exact HN2.out)
            have HH2' := Lib.hid (show (cellAt l2 la1).1 = (we : Int) ∧ Holds (nad F nid) l2 Q by rw [← hl2]; exact HH2.out)
            have HSTP := Lib.hid hst
            clear hst hr hj1 hn2e hn3 hl2 hlast hjl hj10 HN2 HH2
            go_wp2_with fail
            refine HSTP.out.mono ?_; rintro e w16 ⟨rfl, hM, hC, hK⟩
            have HE2 := Lib.hid (E.out.step HZ2.out HOE1.out hK)
            have HY2 := Lib.hid (Y.out.step HZ2.out HOY1.out hK)
            have HM2 := Lib.hid hM
            have HC2 := Lib.hid hC
            clear hM hC hK HSTP E Y HM HC
            have HM := HM2
            have E := HE2
            have Y := HY2
            have HN2 := HN2'
            have HH2 := HH2'
            have HCW := Lib.hid (show Stm Z2 w16 q2 94 ss2 ss2.length nid we Q by rw [← HJ1.out]; exact HC2.out)
            clear HM2 HE2 HY2 HC2 HN2' HH2' HJ1
            have x0 := E.out.cfg.cell (i := 0) rfl
            have x1 := E.out.cfg.cell (i := 1) rfl
            have x2 := E.out.cfg.cell (i := 2) rfl
            have x3 := E.out.cfg.cell (i := 3) rfl
            have x4 := E.out.cfg.cell (i := 4) rfl
            have x5 := E.out.cfg.cell (i := 5) rfl
            have x6 := E.out.cfg.cell (i := 6) rfl
            go_wp2_with fail
            refine (wheld_any Z2 q2 ss2 ss2.length nid we Q _ HCW.out rfl (by have := HPM.out.2; omega)).mono ?_; rintro e u1 ⟨Au1, cu1, rfl, _, _, hKp⟩
            replace HM := Lib.hid (HM.out.kept hKp (fun h => h) (fun h => h))
            replace E := Lib.hid (E.out.none hKp)
            replace Y := Lib.hid (Y.out.none hKp)
            replace HCW := Lib.hid (HCW.out.kept hKp (fun _ _ h => h))
            clear hKp
            clear x0 x1 x2 x3 x4 x5 x6
            go_wp2_with fail
            refine (lock_of 0 1 (by omega) (by rfl) _).mono ?_; rintro e w8 ⟨rfl, rfl⟩
            go_wp2_with fail
            refine (begin_of 1 wb (by omega) HWB.out _).mono ?_; rintro e w8 ⟨rfl, rfl⟩
            go_wp2_with fail
            refine (end_of wb we hwb1 HWE.out _).mono ?_; rintro e w8 ⟨rfl, rfl⟩
            have x0 := E.out.cfg.cell (i := 0) rfl
            have x1 := E.out.cfg.cell (i := 1) rfl
            have x2 := E.out.cfg.cell (i := 2) rfl
            have x3 := E.out.cfg.cell (i := 3) rfl
            have x4 := E.out.cfg.cell (i := 4) rfl
            have x5 := E.out.cfg.cell (i := 5) rfl
            have x6 := E.out.cfg.cell (i := 6) rfl
            go_wp2_with fail
            refine (ref_to F nid 0 h4 h6 (by omega) la1 HLA.out _).mono ?_; rintro e u2 ⟨rfl, hKp⟩
            clear x0 x1 x2 x3 x4 x5 x6
            replace HM := Lib.hid (HM.out.kept hKp (fun h => h) (fun h => h))
            replace E := Lib.hid (E.out.none hKp)
            replace Y := Lib.hid (Y.out.none hKp)
            replace HCW := Lib.hid (HCW.out.kept hKp (fun _ _ h => h))
            clear hKp
            obtain ⟨lc, hlc⟩ : ∃ x, cellAt l2 la1 = x := ⟨_, rfl⟩
            obtain ⟨lN, lK, lM⟩ := lc
            have hlN : lN = (we : Int) := by have := HH2.out.1; rw [hlc] at this; exact this
            subst hlN
            have HLC := Lib.hid hlc
            clear hlc
            go_wp2_with fail
            refine (peek_any b g l2 _ la1 (we : Int) lM lK _ HM.out HLC.out).mono ?_; rintro e u3 ⟨rfl, hKp⟩
            replace HM := Lib.hid (HM.out.kept hKp (fun h => h) (fun h => h))
            replace E := Lib.hid (E.out.none hKp)
            replace Y := Lib.hid (Y.out.none hKp)
            replace HCW := Lib.hid (HCW.out.kept hKp (fun _ _ h => h))
            clear hKp HLC
            go_wp2_with fail
            refine (wheld_any Z2 q2 ss2 ss2.length nid we Q _ HCW.out rfl (by have := HPM.out.2; omega)).mono ?_; rintro e u4 ⟨Au4, cu4, rfl, _, _, hKp⟩
            replace HM := Lib.hid (HM.out.kept hKp (fun h => h) (fun h => h))
            replace E := Lib.hid (E.out.none hKp)
            replace Y := Lib.hid (Y.out.none hKp)
            replace HCW := Lib.hid (HCW.out.kept hKp (fun _ _ h => h))
            clear hKp
            go_upto_region 19 with fail
            have hdr := (Kept.refl (fun _ => False) u4).drew
            replace HM := Lib.hid (HM.out.kept hdr (fun h => h) (fun h => h))
            replace E := Lib.hid (E.out.none hdr)
            replace Y := Lib.hid (Y.out.none hdr)
            replace HCW := Lib.hid (HCW.out.kept hdr (fun _ _ h => h))
            clear hdr
            refine wp_region_held_drew (S := (fun w' => Blk w' b10 30 [.int .i64 1, .int .i64 2, .int .i64 100, .int .i64 100, .int .i64 200, .int .i64 (F : Int), .int .u64 1000, .int .i64 10, .int .i64 fb, .int .i64 fd])) (by kernel_rfl) ?_ (fun hHeld => ?_)
            · exact E.out.lay
            generalize u4.drew = G19 at *
            refine wpAnyH_take (i := 0) (oi := ⟨some 138, _, _, _, _, _⟩) (v := ?_) rfl (by kernel_rfl) (by kernel_rfl) (by kernel_rfl) (fun _ _ _ h => h) (Or.inl ⟨by rfl, ?_⟩) hHeld ?_
            rotate_left
            · (intro wq hSw; have v0 := hSw.cell (i := 0) rfl; have v1 := hSw.cell (i := 1) rfl; have v2 := hSw.cell (i := 2) rfl; have v3 := hSw.cell (i := 3) rfl; have v4 := hSw.cell (i := 4) rfl; have v5 := hSw.cell (i := 5) rfl; have v6 := hSw.cell (i := 6) rfl; have v7 := hSw.cell (i := 7) rfl; have v8 := hSw.cell (i := 8) rfl; have v9 := hSw.cell (i := 9) rfl; go_simp; try with_reducible rfl)
            try simp only [Act.put, List.setIfInBounds_toArray, List.set_cons_zero, List.set_cons_succ]
            refine wpAnyH_take (i := 1) (oi := ⟨some 139, _, _, _, _, _⟩) (v := ?_) rfl (by kernel_rfl) (by kernel_rfl) (by kernel_rfl) (fun _ _ _ h => h) (Or.inl ⟨by rfl, ?_⟩) hHeld ?_
            rotate_left
            · (intro wq hSw; go_simp; try with_reducible rfl)
            try simp only [Act.put, List.setIfInBounds_toArray, List.set_cons_zero, List.set_cons_succ]
            refine wpAnyH_take (i := 2) (oi := ⟨some 140, _, _, _, _, _⟩) (v := ?_) rfl (by kernel_rfl) (by kernel_rfl) (by kernel_rfl) (fun _ _ _ h => h) (Or.inl ⟨by rfl, ?_⟩) hHeld ?_
            rotate_left
            · (intro wq hSw; go_simp; try with_reducible rfl)
            try simp only [Act.put, List.setIfInBounds_toArray, List.set_cons_zero, List.set_cons_succ]
            refine wpAnyH_take (i := 6) (oi := ⟨some 144, _, _, _, _, _⟩) (v := ?_) rfl (by kernel_rfl) (by kernel_rfl) (by kernel_rfl) (fun _ _ _ h => h) (Or.inl ⟨by rfl, ?_⟩) hHeld ?_
            rotate_left
            · (intro wq hSw; have v0 := hSw.cell (i := 0) rfl; have v1 := hSw.cell (i := 1) rfl; have v2 := hSw.cell (i := 2) rfl; have v3 := hSw.cell (i := 3) rfl; have v4 := hSw.cell (i := 4) rfl; have v5 := hSw.cell (i := 5) rfl; have v6 := hSw.cell (i := 6) rfl; have v7 := hSw.cell (i := 7) rfl; have v8 := hSw.cell (i := 8) rfl; have v9 := hSw.cell (i := 9) rfl; go_simp; try with_reducible rfl)
            try simp only [Act.put, List.setIfInBounds_toArray, List.set_cons_zero, List.set_cons_succ]
            refine wpAnyH_take (i := 7) (oi := ⟨some 145, _, _, _, _, _⟩) (v := ?_) rfl (by kernel_rfl) (by kernel_rfl) (by kernel_rfl) (fun _ _ _ h => h) (Or.inl ⟨by rfl, ?_⟩) hHeld ?_
            rotate_left
            · (intro wq hSw; go_simp; try with_reducible rfl)
            try simp only [Act.put, List.setIfInBounds_toArray, List.set_cons_zero, List.set_cons_succ]
            refine wpAnyH_ready (rs := [3]) (by kernel_rfl) (by simp) ?_
            refine AllReadyH.cons (o := ⟨some 141, _, _, _, _, _⟩) rfl (fun KK hK => ?_) AllReadyH.nil
            go_simp
            go_at_call 22
            refine (wheld_any Z2 q2 ss2 ss2.length nid we Q _ HCW.out rfl (by have := HPM.out.2; omega)).mono ?_; rintro e u5 ⟨Au5, cu5, rfl, _, _, hKp⟩
            replace HM := Lib.hid (HM.out.kept hKp (fun h => h) (fun h => h))
            replace E := Lib.hid (E.out.none hKp)
            replace Y := Lib.hid (Y.out.none hKp)
            replace HCW := Lib.hid (HCW.out.kept hKp (fun _ _ h => h))
            clear hKp
            refine hK.out _ _ ?_ (fun hHeld2 => ?_)
            · exact E.out.lay
            clear hK KK hHeld
            have hHeld := hHeld2
            clear hHeld2
            try simp only [Act.put, List.setIfInBounds_toArray, List.set_cons_zero, List.set_cons_succ]
            refine wpAnyH_take (i := 4) (oi := ⟨some 142, _, _, _, _, _⟩) (v := ?_) rfl (by kernel_rfl) (by kernel_rfl) (by kernel_rfl) (fun _ _ _ h => h) (Or.inl ⟨by rfl, ?_⟩) hHeld ?_
            rotate_left
            · (intro wq hSw; go_simp; try with_reducible rfl)
            try simp only [Act.put, List.setIfInBounds_toArray, List.set_cons_zero, List.set_cons_succ]
            refine wpAnyH_ready (rs := [5]) (by kernel_rfl) (by simp) ?_
            refine AllReadyH.cons (o := ⟨some 143, _, _, _, _, _⟩) rfl (fun KK hK => ?_) AllReadyH.nil
            go_simp
            go_at_call 25
            refine (newOwn_any 1 2 100 100 200 F 1000 10 fb fd (limF h4 h6) HD.out nid we _).mono ?_; rintro e u6 ⟨qo, rfl, hC9, hq9, hK9⟩
            obtain ⟨s2, hs2⟩ : ∃ x, u5.heap.size = x := ⟨_, rfl⟩
            have HOY2 := Lib.hid (show Pold s2 bz Q A6 by rw [← hs2]; exact Y.out.old)
            have HOE2 := Lib.hid (show b9 < s2 ∧ b10 < s2 ∧ w.heap.size ≤ s2 by rw [← hs2]; exact ⟨E.out.cfg.lt, E.out.lay.lt, E.out.kept.size⟩)
            have HLW := Lib.hid (show (cellAt l2 (nla F nid)).1 = (we : Int) by rw [HLA.out]; exact HH2.out.1)
            have HOM2 := Lib.hid (show b < s2 ∧ g < s2 by rw [← hs2]; exact ⟨HM.out.obj.lt, HM.out.row.lt⟩)
            have HOW2 := Lib.hid (show ∀ i, Z2 i → i < s2 by rw [← hs2]; exact HCW.out.lt)
            have HWB2 := Lib.hid (show ¬ Z2 b ∧ ¬ Z2 g from ⟨fun h => by have := HZ2.out b h; have := HOM1.out; omega, fun h => by have := HZ2.out g h; have := HOM1.out; omega⟩)
            have HQO := Lib.hid (show s2 ≤ qo by rw [← hs2]; exact hq9)
            have HCO := Lib.hid hC9
            replace HM := Lib.hid (HM.out.kept hK9 (fun h => h) (fun h => h))
            replace E := Lib.hid (E.out.none hK9)
            replace Y := Lib.hid (Y.out.none hK9)
            replace HCW := Lib.hid (HCW.out.kept hK9 (fun _ _ h => h))
            clear hK9 hs2 hq9 hC9
            refine hK.out _ _ ?_ (fun hHeld2 => ?_)
            · exact E.out.lay
            clear hK KK hHeld
            have hHeld := hHeld2
            clear hHeld2
            try simp only [Act.put, List.setIfInBounds_toArray, List.set_cons_zero, List.set_cons_succ]
            refine wpAnyH_ready (rs := [8]) (by kernel_rfl) (by simp) ?_
            refine AllReadyH.cons (o := ⟨some 146, _, _, _, _, _⟩) rfl (fun KK hK => ?_) AllReadyH.nil
            go_simp
            go_at_call 26
            refine (newRead_any 1 2 100 100 200 F 1000 10 fb fd (limF h4 h6) HD.out nid _).mono ?_; rintro e u7 ⟨qr, rfl, hC9, hq9, hK9⟩
            have HQR := Lib.hid (show qo < qr from Nat.lt_of_lt_of_le (HCO.out.lt qo HCO.out.own) hq9)
            have HCR := Lib.hid (show Rd (fun i => i = qr) u7 F fb fd qr nid rst0 from hC9)
            replace HM := Lib.hid (HM.out.kept hK9 (fun h => h) (fun h => h))
            replace E := Lib.hid (E.out.none hK9)
            replace Y := Lib.hid (Y.out.none hK9)
            replace HCW := Lib.hid (HCW.out.kept hK9 (fun _ _ h => h))
            replace HCO := Lib.hid (HCO.out.kept hK9 (fun _ _ h => h))
            clear hK9 hq9 hC9
            refine hK.out _ _ ?_ (fun hHeld2 => ?_)
            · exact E.out.lay
            clear hK KK hHeld
            have hHeld := hHeld2
            clear hHeld2
            try simp only [Act.put, List.setIfInBounds_toArray, List.set_cons_zero, List.set_cons_succ]
            refine wpAnyH_take (i := 9) (oi := ⟨some 19, _, _, _, _, _⟩) (v := ?_) rfl (by kernel_rfl) (by kernel_rfl) (by kernel_rfl) (fun _ _ _ h => h) (Or.inl ⟨by rfl, ?_⟩) hHeld ?_
            rotate_left
            · (intro wq hSw; go_simp; try with_reducible rfl)
            try simp only [Act.put, List.setIfInBounds_toArray, List.set_cons_zero, List.set_cons_succ]
            refine wpAnyH_take (i := 10) (oi := ⟨some 20, _, _, _, _, _⟩) (v := ?_) rfl (by kernel_rfl) (by kernel_rfl) (by kernel_rfl) (fun _ _ _ h => h) (Or.inl ⟨by rfl, ?_⟩) hHeld ?_
            rotate_left
            · (intro wq hSw; go_simp; try with_reducible rfl)
            try simp only [Act.put, List.setIfInBounds_toArray, List.set_cons_zero, List.set_cons_succ]
            refine wpAnyH_done (by kernel_rfl) ?_ _
            clear hHeld
            have HCO2 := Lib.hid (show Con (fun i => i = qo) u7 1 2 100 100 200 F 1000 10 fb fd qo 96 nid (got Q 0) [.int .u64 (we : Int), .bool false] by rw [got_zero]; exact HCO.out)
            have HCO := HCO2
            clear HCO2 HZ2 HOE1 HOY1 HOM1
            have HZO := Lib.hid (show ∀ i, i = qo → s2 ≤ i ∧ i ≠ qr from fun i e => by have := HQO.out; have := HQR.out; omega)
            go_wp2_with fail
            go_loopw [17] (fun vn wr => ∃ (j : Nat) (Zo : Nat → Prop), j < Q.xs.length + 3 ∧ vn = .int .i64 ((n2 + j : Nat) : Int) ∧ Con Zo wr 1 2 100 100 200 F 1000 10 fb fd qo 96 nid (got Q j) [.int .u64 (we : Int), .bool false] ∧ (∀ i, Zo i → s2 ≤ i ∧ i ≠ qr) ∧ Rd (fun i => i = qr) wr F fb fd qr nid rst0 ∧ Stm Z2 wr q2 94 ss2 ss2.length nid we Q ∧ Mem wr b g l2 (n2 + 1 + j) ∧ Ev w wr F fb fd b g b9 b10 ∧ Px b g wr bz Q A6 c6) (fun i _ => 600 - (intOf i).toNat)
            case atStart => exact ⟨0, _, by omega, rfl, HCO.out, HZO.out, HCR.out, HCW.out, HM.out, E.out, Y.out⟩
            case round =>
              obtain ⟨j, Zo, hjl, rfl, hCO, hZO, hCR, hCW, hM, hE, hY⟩ := hrel
              clear HCO HZO HCR HCW HM E Y
              rename World => wr3
              have HCO := Lib.hid hCO
              have HZO := Lib.hid hZO
              have HCR := Lib.hid hCR
              have HCW := Lib.hid hCW
              have HM := Lib.hid hM
              have E := Lib.hid hE
              have Y := Lib.hid hY
              clear hCO hZO hCR hCW hM hE hY
              have hj10 : j < 10 := by have := HQL.out; omega
              have hjw : ((n2 + j : Nat) : Int) < 600 := by omega
              have hst : Calls Try.prog 27 #[.pointer (some ⟨qo, 0, none⟩), .pointer (some ⟨b, 0, none⟩)] wr3 _ :=
                ostep_got Zo F h4 h6 fb fd HD.out qo nid Q j we wr3 HCO.out b g l2 (n2 + 1 + j) HM.out (fun h => by have := HZO.out b h; have := HOM2.out; omega) (fun h => by have := HZO.out g h; have := HOM2.out; omega) (by omega) HN2.out HH2.out.2 HWQ.out HQL.out hjl (j + 1 == Q.xs.length + 3) rfl
              by_cases hlast : j + 1 < Q.xs.length + 3
              · have hr : (j + 1 == Q.xs.length + 3) = false := by simp; omega
                rw [hr] at hst
                have HSTP := Lib.hid hst
                clear hst hr
                go_wp2_with fail
                refine HSTP.out.mono ?_; rintro e w17 ⟨rfl, hM, Z5, hC, hK, hn⟩
                have HE2 := Lib.hid (E.out.step (s0 := s2) (fun i hi => (HZO.out i hi).1) HOE2.out hK)
                have HY2 := Lib.hid (Y.out.step (s0 := s2) (fun i hi => (HZO.out i hi).1) HOY2.out hK)
                have HCR2 := Lib.hid (HCR.out.kept hK (fun i hi e => by have h1 := HQR.out; have h2 := HQO.out; have h3 := HOM2.out; rcases e with e | e | e; exact (HZO.out i e).2 hi; omega; omega))
                have HCW2 := Lib.hid (HCW.out.kept hK (fun i hi e => by have h1 := HOW2.out i hi; have h3 := HOM2.out; rcases e with e | e | e; have := (HZO.out i e).1; omega; exact HWB2.out.1 (e ▸ hi); exact HWB2.out.2 (e ▸ hi)))
                have hszq : qr < wr3.heap.size := HCR.out.lt qr rfl
                have hszs : s2 ≤ wr3.heap.size := by have := HQO.out; have := HQR.out; omega
                have HZ5 := Lib.hid (show ∀ i, Z5 i → s2 ≤ i ∧ i ≠ qr from fun i hi => by rcases hn i hi with h | h; exact HZO.out i h; omega)
                have HM2 := Lib.hid hM
                have HC2 := Lib.hid hC
                clear hM hC hK hn HSTP E Y HM HCO HCR HCW HZO hszq hszs
                go_wp2
                go_roundw
                case rel => exact ⟨j + 1, Z5, by omega, by go_num, HC2.out, HZ5.out, HCR2.out, HCW2.out, HM2.out, HE2.out, HY2.out⟩
                case measure => simp [intOf]; omega
              · have hr : (j + 1 == Q.xs.length + 3) = true := by simp; omega
                have hj1 : j + 1 = Q.xs.length + 3 := by omega
                obtain ⟨n3, hn3e⟩ : ∃ x, n2 + j = x := ⟨_, rfl⟩
                have hn3 : ((n2 + j : Nat) : Int) = (n3 : Int) := by omega
                rw [hr, hj1, show n2 + 1 + j + 1 = n3 + 2 by omega] at hst
                rw [hn3]
                rw [hn3] at hjw
                have hn40 : n3 ≤ 50 := by omega
                have HNL3 := Lib.hid (show n3 = n2 + Q.xs.length + 2 by omega)
                have HSTP := Lib.hid hst
                clear hst hr hj1 hn3e hn3 hlast hjl hj10
                go_wp2_with fail
                refine HSTP.out.mono ?_; rintro e w17 ⟨rfl, hM, Z5, hC, hK, hn⟩
                have HE2 := Lib.hid (E.out.step (s0 := s2) (fun i hi => (HZO.out i hi).1) HOE2.out hK)
                have HY2 := Lib.hid (Y.out.step (s0 := s2) (fun i hi => (HZO.out i hi).1) HOY2.out hK)
                have HCR2 := Lib.hid (HCR.out.kept hK (fun i hi e => by have h1 := HQR.out; have h2 := HQO.out; have h3 := HOM2.out; rcases e with e | e | e; exact (HZO.out i e).2 hi; omega; omega))
                have HCW2 := Lib.hid (HCW.out.kept hK (fun i hi e => by have h1 := HOW2.out i hi; have h3 := HOM2.out; rcases e with e | e | e; have := (HZO.out i e).1; omega; exact HWB2.out.1 (e ▸ hi); exact HWB2.out.2 (e ▸ hi)))
                have hszq : qr < wr3.heap.size := HCR.out.lt qr rfl
                have hszs : s2 ≤ wr3.heap.size := by have := HQO.out; have := HQR.out; omega
                have HZ5 := Lib.hid (show ∀ i, Z5 i → s2 ≤ i ∧ i ≠ qr from fun i hi => by rcases hn i hi with h | h; exact HZO.out i h; omega)
                have HM2 := Lib.hid hM
                have HC2 := Lib.hid hC
                clear hM hC hK hn HSTP E Y HM HCO HCR HCW HZO hszq hszs
                have HM := HM2
                have E := HE2
                have Y := HY2
                have HCW := HCW2
                obtain ⟨s3, hs3⟩ : ∃ x, w17.heap.size = x := ⟨_, rfl⟩
                have HOY3 := Lib.hid (show Pold s3 bz Q A6 by rw [← hs3]; exact Y.out.old)
                have HOE3 := Lib.hid (show b9 < s3 ∧ b10 < s3 ∧ w.heap.size ≤ s3 by rw [← hs3]; exact ⟨E.out.cfg.lt, E.out.lay.lt, E.out.kept.size⟩)
                have HOO3 := Lib.hid (show ∀ i, Z5 i → i < s3 ∧ i ≠ qr from fun i hi => ⟨by rw [← hs3]; exact HC2.out.lt i hi, (HZ5.out i hi).2⟩)
                have HOQ3 := Lib.hid (show s2 ≤ s3 ∧ s2 ≤ qr from ⟨by rw [← hs3]; have := HCR2.out.lt qr rfl; have := HQO.out; have := HQR.out; omega, by have := HQO.out; have := HQR.out; omega⟩)
                have HOQ4 := Lib.hid (show bz < s2 ∧ b9 < s2 ∧ b10 < s2 ∧ w.heap.size ≤ s2 from ⟨HOY2.out.bp, HOE2.out⟩)
                have HCO := HC2
                have HWB5 := Lib.hid (show ¬ Z5 b ∧ ¬ Z5 g from ⟨fun h => by have := HZ5.out b h; have := HOM2.out; omega, fun h => by have := HZ5.out g h; have := HOM2.out; omega⟩)
                have HZR := Lib.hid (show ∀ i, i = qr → i = qr ∨ s3 ≤ i from fun i e => .inl e)
                have HCR := Lib.hid (show Rd (fun i => i = qr) w17 F fb fd qr nid (ralone F nid l2 0) from HCR2.out)
                have HS3 := Lib.hid (show s3 ≤ w17.heap.size by omega)
                clear HM2 HE2 HY2 HC2 HCR2 HCW2 HZ5 hs3
                go_wp2_with fail
                go_loopw [17] (fun vn wr => ∃ (j : Nat) (Zr : Nat → Prop), j ≤ Q.xs.length + 4 ∧ vn = .int .i64 ((n3 + j : Nat) : Int) ∧ Rd Zr wr F fb fd qr nid (ralone F nid l2 j) ∧ (∀ i, Zr i → i = qr ∨ s3 ≤ i) ∧ Con Z5 wr 1 2 100 100 200 F 1000 10 fb fd qo 96 nid (got Q (Q.xs.length + 3)) [.int .u64 (we : Int), .bool true] ∧ Stm Z2 wr q2 94 ss2 ss2.length nid we Q ∧ Mem wr b g l2 (n3 + 2 + j) ∧ Ev w wr F fb fd b g b9 b10 ∧ Px b g wr bz Q A6 c6 ∧ s3 ≤ wr.heap.size) (fun i _ => 800 - (intOf i).toNat)
                case atStart => exact ⟨0, _, by omega, rfl, HCR.out, HZR.out, HCO.out, HCW.out, HM.out, E.out, Y.out, HS3.out⟩
                case round =>
                  obtain ⟨j, Zr, hjl, rfl, hCR, hZR, hCO, hCW, hM, hE, hY, hS3⟩ := hrel
                  clear HCO HZR HCR HCW HM E Y HS3
                  rename World => wr4
                  have HCO := Lib.hid hCO
                  have HZR := Lib.hid hZR
                  have HCR := Lib.hid hCR
                  have HCW := Lib.hid hCW
                  have HM := Lib.hid hM
                  have E := Lib.hid hE
                  have Y := Lib.hid hY
                  have HS3 := Lib.hid hS3
                  clear hCO hZR hCR hCW hM hE hY hS3
                  have hj10 : j < 11 := by have := HQL.out; omega
                  have hjw : ((n3 + j : Nat) : Int) < 800 := by omega
                  have hph : (ralone F nid l2 j).ph < 3 := by
                    cases j with
                    | zero => exact (by decide : (0 : Nat) < 3)
                    | succ j => rw [ralone_at HN2.out HH2.out.2 HWQ.out HQL.out HLW.out HWX.out j (by omega)]; simp only; split <;> omega
                  have HZS := Lib.hid (show ∀ i, Zr i → s2 ≤ i from fun i hi => by have := HOQ3.out; rcases HZR.out i hi with h | h <;> omega)
                  have hst : Calls Try.prog 28 #[.pointer (some ⟨qr, 0, none⟩), .pointer (some ⟨b, 0, none⟩)] wr4 _ :=
                    rstep_go Zr F h4 h6 fb fd HD.out qr nid _ _ wr4 HCR.out (ralone_ok HN2.out j) b g l2 (n3 + 2 + j) (n3 + 2 + (j + 1)) HM.out (fun h => by have := HZS.out b h; have := HOM2.out; omega) (fun h => by have := HZS.out g h; have := HOM2.out; omega) (by omega) HN2.out (show _ = ralone F nid l2 (j + 1) from rfl) (if_pos hph) _ rfl
                  clear hph
                  by_cases hlast : j < Q.xs.length + 4
                  · have hr : ((ralone F nid l2 (j + 1)).ph == 3) = false := by
                      rw [ralone_at HN2.out HH2.out.2 HWQ.out HQL.out HLW.out HWX.out j (by omega)]; simp only; split <;> rfl
                    rw [hr] at hst
                    have HSTP := Lib.hid hst
                    clear hst hr
                    go_wp2_with fail
                    refine HSTP.out.mono ?_; rintro e w18 ⟨rfl, hM, Z6, hC, hK, hn⟩
                    have HE2 := Lib.hid (E.out.step HZS.out HOE2.out hK)
                    have HY2 := Lib.hid (Y.out.step HZS.out HOY2.out hK)
                    have HCO2 := Lib.hid (HCO.out.kept hK (fun i hi e => by have h1 := HOO3.out i hi; rcases e with e | e | e; have := HZR.out i e; omega; exact HWB5.out.1 (e ▸ hi); exact HWB5.out.2 (e ▸ hi)))
                    have HCW2 := Lib.hid (HCW.out.kept hK (fun i hi e => by have h1 := HOW2.out i hi; rcases e with e | e | e; have := HZS.out i e; omega; exact HWB2.out.1 (e ▸ hi); exact HWB2.out.2 (e ▸ hi)))
                    have HZ6 := Lib.hid (show ∀ i, Z6 i → i = qr ∨ s3 ≤ i from fun i hi => by have := HS3.out; rcases hn i hi with h | h; exact HZR.out i h; omega)
                    have HS6 := Lib.hid (Nat.le_trans HS3.out hK.size)
                    have HM2 := Lib.hid hM
                    have HC2 := Lib.hid hC
                    clear hM hC hK hn HSTP E Y HM HCO HCR HCW HZR HZS HS3
                    go_wp2
                    go_roundw
                    case rel => exact ⟨j + 1, Z6, by omega, by go_num, HC2.out, HZ6.out, HCO2.out, HCW2.out, HM2.out, HE2.out, HY2.out, HS6.out⟩
                    case measure => simp [intOf]; omega
                  · have hj1 : j = Q.xs.length + 4 := by omega
                    have hre : ralone F nid l2 (j + 1) = ⟨3, we, got Q (Q.xs.length + 3)⟩ := by
                      rw [show j + 1 = Q.xs.length + 5 + 0 by omega, ralone_end HN2.out HH2.out.2 HWQ.out HQL.out HLW.out HWX.out]
                    rw [hre] at hst
                    obtain ⟨n4, hn4e⟩ : ∃ x, n3 + j = x := ⟨_, rfl⟩
                    have hn4 : ((n3 + j : Nat) : Int) = (n4 : Int) := by omega
                    rw [show n3 + 2 + (j + 1) = n4 + 3 by omega, show ((3 : Nat) == 3) = true from rfl] at hst
                    rw [hn4]
                    rw [hn4] at hjw
                    have hn70 : n4 ≤ 70 := by omega
                    have HSTP := Lib.hid hst
                    clear hst hre hj1 hn4e hn4 hlast hjl hj10
                    go_wp2_with fail
                    refine HSTP.out.mono ?_; rintro e w18 ⟨rfl, hM, Z6, hC, hK, hn⟩
                    have HE2 := Lib.hid (E.out.step HZS.out HOE2.out hK)
                    have HY2 := Lib.hid (Y.out.step HZS.out HOY2.out hK)
                    have HCO2 := Lib.hid (HCO.out.kept hK (fun i hi e => by have h1 := HOO3.out i hi; rcases e with e | e | e; have := HZR.out i e; omega; exact HWB5.out.1 (e ▸ hi); exact HWB5.out.2 (e ▸ hi)))
                    have HCW2 := Lib.hid (HCW.out.kept hK (fun i hi e => by have h1 := HOW2.out i hi; rcases e with e | e | e; have := HZS.out i e; omega; exact HWB2.out.1 (e ▸ hi); exact HWB2.out.2 (e ▸ hi)))
                    have HZ6 := Lib.hid (show ∀ i, Z6 i → i = qr ∨ s3 ≤ i from fun i hi => by have := HS3.out; rcases hn i hi with h | h; exact HZR.out i h; omega)
                    have HS6 := Lib.hid (Nat.le_trans HS3.out hK.size)
                    have HM2 := Lib.hid hM
                    have HC2 := Lib.hid hC
                    clear hM hC hK hn HSTP E Y HM HCO HCR HCW HZR HZS HS3
                    have HM := HM2
                    have E := HE2
                    have Y := HY2
                    have HCW := HCW2
                    have HCO := HCO2
                    have HCR := HC2
                    clear HM2 HE2 HY2 HC2 HCO2 HCW2 HZ6 HS6
                    have HNN := Lib.hid (show n4 + 3 ≤ n4 + 4 by omega)
                    have hw6 := wrap_u (n4 : Int) (by omega)
                    have hw7 := wrap_u ((n4 : Int) + 4) (by omega)
                    go_upto_region 24 with fail
                    have hdr := (Kept.refl (fun _ => False) w18).drew
                    replace HM := Lib.hid (HM.out.kept hdr (fun h => h) (fun h => h))
                    replace E := Lib.hid (E.out.none hdr)
                    replace Y := Lib.hid (Y.out.none hdr)
                    replace HCW := Lib.hid (HCW.out.kept hdr (fun _ _ h => h))
                    replace HCO := Lib.hid (HCO.out.kept hdr (fun _ _ h => h))
                    replace HCR := Lib.hid (HCR.out.kept hdr (fun _ _ h => h))
                    clear hdr
                    refine wp_region_held_drew (S := (fun w' => Blk w' b10 30 [.int .i64 1, .int .i64 2, .int .i64 100, .int .i64 100, .int .i64 200, .int .i64 (F : Int), .int .u64 1000, .int .i64 10, .int .i64 fb, .int .i64 fd] ∧ Blk w' bz 25 [.int .i64 (Q.lv : Int), .slice A6 Q.xs.length c6, .string Q.hi, .bool Q.la, .int .u64 (Q.rt : Int)])) (by kernel_rfl) ?_ (fun hHeld => ?_)
                    · exact ⟨E.out.lay, Y.out.blk⟩
                    generalize w18.drew = G24 at *
                    refine wpAnyH_take (i := 0) (oi := ⟨some 167, _, _, _, _, _⟩) (v := ?_) rfl (by kernel_rfl) (by kernel_rfl) (by kernel_rfl) (fun _ _ _ h => h) (Or.inl ⟨by rfl, ?_⟩) hHeld ?_
                    rotate_left
                    · (intro wq hSw; go_simp; try with_reducible rfl)
                    try simp only [Act.put, List.setIfInBounds_toArray, List.set_cons_zero, List.set_cons_succ]
                    refine wpAnyH_take (i := 1) (oi := ⟨some 168, _, _, _, _, _⟩) (v := .bool false) rfl (by kernel_rfl) (by kernel_rfl) (by kernel_rfl) (fun _ _ _ h => h) (Or.inl ⟨by rfl, ?_⟩) hHeld ?_
                    · (intro wq hSw; go_simp; try first | (with_reducible rfl) | (simp; omega) | (intros; omega) | simp [*])
                    try simp only [Act.put, List.setIfInBounds_toArray, List.set_cons_zero, List.set_cons_succ]
                    refine wpAnyH_take (i := 2) (oi := ⟨some 169, _, _, _, _, _⟩) (v := .bool false) rfl (by kernel_rfl) (by kernel_rfl) (by kernel_rfl) (fun _ _ _ h => h) (Or.inl ⟨by rfl, ?_⟩) hHeld ?_
                    · (intro wq hSw; go_simp; try first | (with_reducible rfl) | (simp; omega) | (intros; omega) | simp [*])
                    try simp only [Act.put, List.setIfInBounds_toArray, List.set_cons_zero, List.set_cons_succ]
                    refine wpAnyH_take (i := 3) (oi := ⟨some 170, _, _, _, _, _⟩) (v := ?_) rfl (by kernel_rfl) (by kernel_rfl) (by kernel_rfl) (fun _ _ _ h => h) (Or.inl ⟨by rfl, ?_⟩) hHeld ?_
                    rotate_left
                    · (intro wq hSw; go_simp; try with_reducible rfl)
                    try simp only [Act.put, List.setIfInBounds_toArray, List.set_cons_zero, List.set_cons_succ]
                    refine wpAnyH_take (i := 5) (oi := ⟨some 172, _, _, _, _, _⟩) (v := ?_) rfl (by kernel_rfl) (by kernel_rfl) (by kernel_rfl) (fun _ _ _ h => h) (Or.inl ⟨by rfl, ?_⟩) hHeld ?_
                    rotate_left
                    · (intro wq hSw; go_simp; try with_reducible rfl)
                    try simp only [Act.put, List.setIfInBounds_toArray, List.set_cons_zero, List.set_cons_succ]
                    refine wpAnyH_take (i := 6) (oi := ⟨some 173, _, _, _, _, _⟩) (v := .int .u64 (n4 : Int)) rfl (by kernel_rfl) (by kernel_rfl) (by kernel_rfl) (fun _ _ _ h => h) (Or.inl ⟨by rfl, ?_⟩) hHeld ?_
                    · (intro wq hSw; go_simp; try first | (with_reducible rfl) | (simp; omega) | (intros; omega) | simp [*])
                    try simp only [Act.put, List.setIfInBounds_toArray, List.set_cons_zero, List.set_cons_succ]
                    refine wpAnyH_take (i := 7) (oi := ⟨some 174, _, _, _, _, _⟩) (v := .int .u64 ((n4 : Int) + 4)) rfl (by kernel_rfl) (by kernel_rfl) (by kernel_rfl) (fun _ _ _ h => h) (Or.inl ⟨by rfl, ?_⟩) hHeld ?_
                    · (intro wq hSw; go_simp; try first | (with_reducible rfl) | (simp; omega) | (intros; omega) | simp [*])
                    try simp only [Act.put, List.setIfInBounds_toArray, List.set_cons_zero, List.set_cons_succ]
                    refine wpAnyH_ready (rs := [4]) (by kernel_rfl) (by simp) ?_
                    refine AllReadyH.cons (o := ⟨some 171, _, _, _, _, _⟩) rfl (fun KK hK => ?_) AllReadyH.nil
                    go_simp
                    go_at_call 29
                    refine (accesses_any b g l2 _ _ HM.out).mono ?_; rintro e r4 ⟨rfl, rfl⟩
                    refine hK.out _ _ ?_ (fun hHeld2 => ?_)
                    · exact ⟨E.out.lay, Y.out.blk⟩
                    clear hK KK hHeld
                    have hHeld := hHeld2
                    clear hHeld2
                    try simp only [Act.put, List.setIfInBounds_toArray, List.set_cons_zero, List.set_cons_succ]
                    refine wpAnyH_take (i := 8) (oi := ⟨some 175, _, _, _, _, _⟩) (v := .bool false) rfl (by kernel_rfl) (by kernel_rfl) (by kernel_rfl) (fun _ _ _ h => h) (Or.inl ⟨by rfl, ?_⟩) hHeld ?_
                    · (intro wq hSw; go_simp; try first | (with_reducible rfl) | (simp; omega) | (intros; omega) | simp [*])
                    try simp only [Act.put, List.setIfInBounds_toArray, List.set_cons_zero, List.set_cons_succ]
                    refine wpAnyH_take (i := 9) (oi := ⟨some 176, _, _, _, _, _⟩) (v := .bool false) rfl (by kernel_rfl) (by kernel_rfl) (by kernel_rfl) (fun _ _ _ h => h) (Or.inl ⟨by rfl, ?_⟩) hHeld ?_
                    · (intro wq hSw; go_simp; try first | (with_reducible rfl) | (simp; omega) | (intros; omega) | simp [*])
                    try simp only [Act.put, List.setIfInBounds_toArray, List.set_cons_zero, List.set_cons_succ]
                    refine wpAnyH_take (i := 10) (oi := ⟨some 177, _, _, _, _, _⟩) (v := .bool false) rfl (by kernel_rfl) (by kernel_rfl) (by kernel_rfl) (fun _ _ _ h => h) (Or.inl ⟨by rfl, ?_⟩) hHeld ?_
                    · (intro wq hSw; go_simp; try first | (with_reducible rfl) | (simp; omega) | (intros; omega) | simp [*])
                    try simp only [Act.put, List.setIfInBounds_toArray, List.set_cons_zero, List.set_cons_succ]
                    refine wpAnyH_take (i := 11) (oi := ⟨some 178, _, _, _, _, _⟩) (v := ?_) rfl (by kernel_rfl) (by kernel_rfl) (by kernel_rfl) (fun _ _ _ h => h) (Or.inl ⟨by rfl, ?_⟩) hHeld ?_
                    rotate_left
                    · (intro wq hSw; go_simp; try with_reducible rfl)
                    try simp only [Act.put, List.setIfInBounds_toArray, List.set_cons_zero, List.set_cons_succ]
                    refine wpAnyH_take (i := 13) (oi := ⟨some 180, _, _, _, _, _⟩) (v := ?_) rfl (by kernel_rfl) (by kernel_rfl) (by kernel_rfl) (fun _ _ _ h => h) (Or.inl ⟨by rfl, ?_⟩) hHeld ?_
                    rotate_left
                    · (intro wq hSw; have h1 := hSw.1; have h2 := hSw.2; have v0 := h1.cell (i := 0) rfl; have v1 := h1.cell (i := 1) rfl; have v2 := h1.cell (i := 2) rfl; have v3 := h1.cell (i := 3) rfl; have v4 := h1.cell (i := 4) rfl; have v5 := h1.cell (i := 5) rfl; have v6 := h1.cell (i := 6) rfl; have v7 := h1.cell (i := 7) rfl; have v8 := h1.cell (i := 8) rfl; have v9 := h1.cell (i := 9) rfl; have y0 := h2.cell (i := 0) rfl; have y1 := h2.cell (i := 1) rfl; have y2 := h2.cell (i := 2) rfl; have y3 := h2.cell (i := 3) rfl; have y4 := h2.cell (i := 4) rfl; clear h1 h2; go_simp; try with_reducible rfl)
                    try simp only [Act.put, List.setIfInBounds_toArray, List.set_cons_zero, List.set_cons_succ]
                    refine wpAnyH_ready (rs := [12]) (by kernel_rfl) (by simp) ?_
                    refine AllReadyH.cons (o := ⟨some 179, _, _, _, _, _⟩) rfl (fun KK hK => ?_) AllReadyH.nil
                    go_simp
                    go_at_call 30
                    refine (tread_page HCR.out HPM.out.2).mono ?_; rintro e r12 ⟨A12, c12, rfl, hRp, hKp⟩
                    replace HM := Lib.hid (HM.out.kept hKp (fun h => h) (fun h => h))
                    replace E := Lib.hid (E.out.none hKp)
                    replace Y := Lib.hid (Y.out.none hKp)
                    replace HCW := Lib.hid (HCW.out.kept hKp (fun _ _ h => h))
                    replace HCO := Lib.hid (HCO.out.kept hKp (fun _ _ h => h))
                    replace HCR := Lib.hid (HCR.out.kept hKp (fun _ _ h => h))
                    have HRP := Lib.hid hRp
                    clear hKp hRp
                    refine hK.out _ _ ?_ (fun hHeld2 => ?_)
                    · exact ⟨E.out.lay, Y.out.blk⟩
                    clear hK KK hHeld
                    have hHeld := hHeld2
                    clear hHeld2
                    try simp only [Act.put, List.setIfInBounds_toArray, List.set_cons_zero, List.set_cons_succ]
                    refine wpAnyH_ready (rs := [14]) (by kernel_rfl) (by simp) ?_
                    refine AllReadyH.cons (o := ⟨some 181, _, _, _, _, _⟩) rfl (fun KK hK => ?_) AllReadyH.nil
                    go_simp
                    go_at_call 14
                    refine (refSame_yes Q A12 A6 c12 c6 _ (by have := HPM.out.2; omega) HRP.out Y.out.row).mono ?_; rintro e r14 ⟨rfl, hKp⟩
                    replace HM := Lib.hid (HM.out.kept hKp (fun h => h) (fun h => h))
                    replace E := Lib.hid (E.out.none hKp)
                    replace Y := Lib.hid (Y.out.none hKp)
                    replace HCW := Lib.hid (HCW.out.kept hKp (fun _ _ h => h))
                    replace HCO := Lib.hid (HCO.out.kept hKp (fun _ _ h => h))
                    replace HCR := Lib.hid (HCR.out.kept hKp (fun _ _ h => h))
                    clear hKp HRP
                    refine hK.out _ _ ?_ (fun hHeld2 => ?_)
                    · exact ⟨E.out.lay, Y.out.blk⟩
                    clear hK KK hHeld
                    have hHeld := hHeld2
                    clear hHeld2
                    try simp only [Act.put, List.setIfInBounds_toArray, List.set_cons_zero, List.set_cons_succ]
                    refine wpAnyH_take (i := 15) (oi := ⟨some 182, _, _, _, _, _⟩) (v := .bool false) rfl (by kernel_rfl) (by kernel_rfl) (by kernel_rfl) (fun _ _ _ h => h) (Or.inl ⟨by rfl, ?_⟩) hHeld ?_
                    · (intro wq hSw; go_simp; try first | (with_reducible rfl) | (simp; omega) | (intros; omega) | simp [*])
                    try simp only [Act.put, List.setIfInBounds_toArray, List.set_cons_zero, List.set_cons_succ]
                    refine wpAnyH_take (i := 16) (oi := ⟨some 183, _, _, _, _, _⟩) (v := .bool false) rfl (by kernel_rfl) (by kernel_rfl) (by kernel_rfl) (fun _ _ _ h => h) (Or.inl ⟨by rfl, ?_⟩) hHeld ?_
                    · (intro wq hSw; go_simp; try first | (with_reducible rfl) | (simp; omega) | (intros; omega) | simp [*])
                    try simp only [Act.put, List.setIfInBounds_toArray, List.set_cons_zero, List.set_cons_succ]
                    refine wpAnyH_take (i := 17) (oi := ⟨some 184, _, _, _, _, _⟩) (v := .bool false) rfl (by kernel_rfl) (by kernel_rfl) (by kernel_rfl) (fun _ _ _ h => h) (Or.inl ⟨by rfl, ?_⟩) hHeld ?_
                    · (intro wq hSw; go_simp; try first | (with_reducible rfl) | (simp; omega) | (intros; omega) | simp [*])
                    try simp only [Act.put, List.setIfInBounds_toArray, List.set_cons_zero, List.set_cons_succ]
                    refine wpAnyH_take (i := 18) (oi := ⟨some 185, _, _, _, _, _⟩) (v := ?_) rfl (by kernel_rfl) (by kernel_rfl) (by kernel_rfl) (fun _ _ _ h => h) (Or.inl ⟨by rfl, ?_⟩) hHeld ?_
                    rotate_left
                    · (intro wq hSw; go_simp; try with_reducible rfl)
                    try simp only [Act.put, List.setIfInBounds_toArray, List.set_cons_zero, List.set_cons_succ]
                    refine wpAnyH_take (i := 21) (oi := ⟨some 188, _, _, _, _, _⟩) (v := ?_) rfl (by kernel_rfl) (by kernel_rfl) (by kernel_rfl) (fun _ _ _ h => h) (Or.inl ⟨by rfl, ?_⟩) hHeld ?_
                    rotate_left
                    · (intro wq hSw; have h1 := hSw.1; have h2 := hSw.2; have v0 := h1.cell (i := 0) rfl; have v1 := h1.cell (i := 1) rfl; have v2 := h1.cell (i := 2) rfl; have v3 := h1.cell (i := 3) rfl; have v4 := h1.cell (i := 4) rfl; have v5 := h1.cell (i := 5) rfl; have v6 := h1.cell (i := 6) rfl; have v7 := h1.cell (i := 7) rfl; have v8 := h1.cell (i := 8) rfl; have v9 := h1.cell (i := 9) rfl; have y0 := h2.cell (i := 0) rfl; have y1 := h2.cell (i := 1) rfl; have y2 := h2.cell (i := 2) rfl; have y3 := h2.cell (i := 3) rfl; have y4 := h2.cell (i := 4) rfl; clear h1 h2; go_simp; try with_reducible rfl)
                    try simp only [Act.put, List.setIfInBounds_toArray, List.set_cons_zero, List.set_cons_succ]
                    refine wpAnyH_ready (rs := [19]) (by kernel_rfl) (by simp) ?_
                    refine AllReadyH.cons (o := ⟨some 186, _, _, _, _, _⟩) rfl (fun KK hK => ?_) AllReadyH.nil
                    go_simp
                    go_at_call 31
                    refine (oheld_page HCO.out HPM.out.2).mono ?_; rintro e r19 ⟨A19, c19, rfl, hRp, hKp⟩
                    replace HM := Lib.hid (HM.out.kept hKp (fun h => h) (fun h => h))
                    replace E := Lib.hid (E.out.none hKp)
                    replace Y := Lib.hid (Y.out.none hKp)
                    replace HCW := Lib.hid (HCW.out.kept hKp (fun _ _ h => h))
                    replace HCO := Lib.hid (HCO.out.kept hKp (fun _ _ h => h))
                    replace HCR := Lib.hid (HCR.out.kept hKp (fun _ _ h => h))
                    have HRP := Lib.hid hRp
                    clear hKp hRp
                    refine hK.out _ _ ?_ (fun hHeld2 => ?_)
                    · exact ⟨E.out.lay, Y.out.blk⟩
                    clear hK KK hHeld
                    have hHeld := hHeld2
                    clear hHeld2
                    try simp only [Act.put, List.setIfInBounds_toArray, List.set_cons_zero, List.set_cons_succ]
                    refine wpAnyH_take (i := 20) (oi := ⟨some 187, _, _, _, _, _⟩) (v := ?_) rfl (by kernel_rfl) (by kernel_rfl) (by kernel_rfl) (fun _ _ _ h => h) (Or.inl ⟨by rfl, ?_⟩) hHeld ?_
                    rotate_left
                    · (intro wq hSw; go_simp; try with_reducible rfl)
                    try simp only [Act.put, List.setIfInBounds_toArray, List.set_cons_zero, List.set_cons_succ]
                    refine wpAnyH_ready (rs := [22]) (by kernel_rfl) (by simp) ?_
                    refine AllReadyH.cons (o := ⟨some 189, _, _, _, _, _⟩) rfl (fun KK hK => ?_) AllReadyH.nil
                    go_simp
                    go_at_call 14
                    refine (refSame_yes Q A19 A6 c19 c6 _ (by have := HPM.out.2; omega) HRP.out Y.out.row).mono ?_; rintro e r22 ⟨rfl, hKp⟩
                    replace HM := Lib.hid (HM.out.kept hKp (fun h => h) (fun h => h))
                    replace E := Lib.hid (E.out.none hKp)
                    replace Y := Lib.hid (Y.out.none hKp)
                    replace HCW := Lib.hid (HCW.out.kept hKp (fun _ _ h => h))
                    replace HCO := Lib.hid (HCO.out.kept hKp (fun _ _ h => h))
                    replace HCR := Lib.hid (HCR.out.kept hKp (fun _ _ h => h))
                    clear hKp HRP
                    refine hK.out _ _ ?_ (fun hHeld2 => ?_)
                    · exact ⟨E.out.lay, Y.out.blk⟩
                    clear hK KK hHeld
                    have hHeld := hHeld2
                    clear hHeld2
                    try simp only [Act.put, List.setIfInBounds_toArray, List.set_cons_zero, List.set_cons_succ]
                    refine wpAnyH_take (i := 23) (oi := ⟨some 190, _, _, _, _, _⟩) (v := .bool false) rfl (by kernel_rfl) (by kernel_rfl) (by kernel_rfl) (fun _ _ _ h => h) (Or.inl ⟨by rfl, ?_⟩) hHeld ?_
                    · (intro wq hSw; go_simp; try first | (with_reducible rfl) | (simp; omega) | (intros; omega) | simp [*])
                    try simp only [Act.put, List.setIfInBounds_toArray, List.set_cons_zero, List.set_cons_succ]
                    refine wpAnyH_take (i := 24) (oi := ⟨some 191, _, _, _, _, _⟩) (v := .bool false) rfl (by kernel_rfl) (by kernel_rfl) (by kernel_rfl) (fun _ _ _ h => h) (Or.inl ⟨by rfl, ?_⟩) hHeld ?_
                    · (intro wq hSw; go_simp; try first | (with_reducible rfl) | (simp; omega) | (intros; omega) | simp [*])
                    try simp only [Act.put, List.setIfInBounds_toArray, List.set_cons_zero, List.set_cons_succ]
                    refine wpAnyH_take (i := 25) (oi := ⟨some 192, _, _, _, _, _⟩) (v := .bool false) rfl (by kernel_rfl) (by kernel_rfl) (by kernel_rfl) (fun _ _ _ h => h) (Or.inl ⟨by rfl, ?_⟩) hHeld ?_
                    · (intro wq hSw; go_simp; try first | (with_reducible rfl) | (simp; omega) | (intros; omega) | simp [*])
                    try simp only [Act.put, List.setIfInBounds_toArray, List.set_cons_zero, List.set_cons_succ]
                    refine wpAnyH_take (i := 26) (oi := ⟨some 193, _, _, _, _, _⟩) (v := ?_) rfl (by kernel_rfl) (by kernel_rfl) (by kernel_rfl) (fun _ _ _ h => h) (Or.inl ⟨by rfl, ?_⟩) hHeld ?_
                    rotate_left
                    · (intro wq hSw; go_simp; try with_reducible rfl)
                    try simp only [Act.put, List.setIfInBounds_toArray, List.set_cons_zero, List.set_cons_succ]
                    refine wpAnyH_take (i := 29) (oi := ⟨some 196, _, _, _, _, _⟩) (v := ?_) rfl (by kernel_rfl) (by kernel_rfl) (by kernel_rfl) (fun _ _ _ h => h) (Or.inl ⟨by rfl, ?_⟩) hHeld ?_
                    rotate_left
                    · (intro wq hSw; go_simp; try with_reducible rfl)
                    try simp only [Act.put, List.setIfInBounds_toArray, List.set_cons_zero, List.set_cons_succ]
                    refine wpAnyH_ready (rs := [27]) (by kernel_rfl) (by simp) ?_
                    refine AllReadyH.cons (o := ⟨some 194, _, _, _, _, _⟩) rfl (fun KK hK => ?_) AllReadyH.nil
                    go_simp
                    go_at_call 31
                    refine (oheld_page HCO.out HPM.out.2).mono ?_; rintro e r27 ⟨A27, c27, rfl, hRp, hKp⟩
                    replace HM := Lib.hid (HM.out.kept hKp (fun h => h) (fun h => h))
                    replace E := Lib.hid (E.out.none hKp)
                    replace Y := Lib.hid (Y.out.none hKp)
                    replace HCW := Lib.hid (HCW.out.kept hKp (fun _ _ h => h))
                    replace HCO := Lib.hid (HCO.out.kept hKp (fun _ _ h => h))
                    replace HCR := Lib.hid (HCR.out.kept hKp (fun _ _ h => h))
                    clear hKp hRp
                    refine hK.out _ _ ?_ (fun hHeld2 => ?_)
                    · exact ⟨E.out.lay, Y.out.blk⟩
                    clear hK KK hHeld
                    have hHeld := hHeld2
                    clear hHeld2
                    try simp only [Act.put, List.setIfInBounds_toArray, List.set_cons_zero, List.set_cons_succ]
                    refine wpAnyH_take (i := 28) (oi := ⟨some 195, _, _, _, _, _⟩) (v := ?_) rfl (by kernel_rfl) (by kernel_rfl) (by kernel_rfl) (fun _ _ _ h => h) (Or.inl ⟨by rfl, ?_⟩) hHeld ?_
                    rotate_left
                    · (intro wq hSw; go_simp; try with_reducible rfl)
                    try simp only [Act.put, List.setIfInBounds_toArray, List.set_cons_zero, List.set_cons_succ]
                    refine wpAnyH_take (i := 30) (oi := ⟨some 197, _, _, _, _, _⟩) (v := .bool false) rfl (by kernel_rfl) (by kernel_rfl) (by kernel_rfl) (fun _ _ _ h => h) (Or.inl ⟨by rfl, ?_⟩) hHeld ?_
                    · (intro wq hSw; go_simp; try first | (with_reducible rfl) | (simp; omega) | (intros; omega) | simp [*])
                    try simp only [Act.put, List.setIfInBounds_toArray, List.set_cons_zero, List.set_cons_succ]
                    refine wpAnyH_take (i := 31) (oi := ⟨some 198, _, _, _, _, _⟩) (v := .bool false) rfl (by kernel_rfl) (by kernel_rfl) (by kernel_rfl) (fun _ _ _ h => h) (Or.inl ⟨by rfl, ?_⟩) hHeld ?_
                    · (intro wq hSw; go_simp; try first | (with_reducible rfl) | (simp; omega) | (intros; omega) | simp [*])
                    try simp only [Act.put, List.setIfInBounds_toArray, List.set_cons_zero, List.set_cons_succ]
                    refine wpAnyH_take (i := 32) (oi := ⟨some 199, _, _, _, _, _⟩) (v := .bool false) rfl (by kernel_rfl) (by kernel_rfl) (by kernel_rfl) (fun _ _ _ h => h) (Or.inl ⟨by rfl, ?_⟩) hHeld ?_
                    · (intro wq hSw; go_simp; try first | (with_reducible rfl) | (simp; omega) | (intros; omega) | simp [*])
                    try simp only [Act.put, List.setIfInBounds_toArray, List.set_cons_zero, List.set_cons_succ]
                    refine wpAnyH_take (i := 33) (oi := ⟨some 200, _, _, _, _, _⟩) (v := ?_) rfl (by kernel_rfl) (by kernel_rfl) (by kernel_rfl) (fun _ _ _ h => h) (Or.inl ⟨by rfl, ?_⟩) hHeld ?_
                    rotate_left
                    · (intro wq hSw; go_simp; try with_reducible rfl)
                    try simp only [Act.put, List.setIfInBounds_toArray, List.set_cons_zero, List.set_cons_succ]
                    refine wpAnyH_take (i := 36) (oi := ⟨some 203, _, _, _, _, _⟩) (v := ?_) rfl (by kernel_rfl) (by kernel_rfl) (by kernel_rfl) (fun _ _ _ h => h) (Or.inl ⟨by rfl, ?_⟩) hHeld ?_
                    rotate_left
                    · (intro wq hSw; go_simp; try with_reducible rfl)
                    try simp only [Act.put, List.setIfInBounds_toArray, List.set_cons_zero, List.set_cons_succ]
                    refine wpAnyH_ready (rs := [34]) (by kernel_rfl) (by simp) ?_
                    refine AllReadyH.cons (o := ⟨some 201, _, _, _, _, _⟩) rfl (fun KK hK => ?_) AllReadyH.nil
                    go_simp
                    go_at_call 31
                    refine (oheld_page HCO.out HPM.out.2).mono ?_; rintro e r34 ⟨A34, c34, rfl, hRp, hKp⟩
                    replace HM := Lib.hid (HM.out.kept hKp (fun h => h) (fun h => h))
                    replace E := Lib.hid (E.out.none hKp)
                    replace Y := Lib.hid (Y.out.none hKp)
                    replace HCW := Lib.hid (HCW.out.kept hKp (fun _ _ h => h))
                    replace HCO := Lib.hid (HCO.out.kept hKp (fun _ _ h => h))
                    replace HCR := Lib.hid (HCR.out.kept hKp (fun _ _ h => h))
                    clear hKp hRp
                    refine hK.out _ _ ?_ (fun hHeld2 => ?_)
                    · exact ⟨E.out.lay, Y.out.blk⟩
                    clear hK KK hHeld
                    have hHeld := hHeld2
                    clear hHeld2
                    try simp only [Act.put, List.setIfInBounds_toArray, List.set_cons_zero, List.set_cons_succ]
                    refine wpAnyH_take (i := 35) (oi := ⟨some 202, _, _, _, _, _⟩) (v := ?_) rfl (by kernel_rfl) (by kernel_rfl) (by kernel_rfl) (fun _ _ _ h => h) (Or.inl ⟨by rfl, ?_⟩) hHeld ?_
                    rotate_left
                    · (intro wq hSw; go_simp; try with_reducible rfl)
                    try simp only [Act.put, List.setIfInBounds_toArray, List.set_cons_zero, List.set_cons_succ]
                    refine wpAnyH_ready (rs := [37]) (by kernel_rfl) (by simp) ?_
                    refine AllReadyH.cons (o := ⟨some 204, _, _, _, _, _⟩) rfl (fun KK hK => ?_) AllReadyH.nil
                    go_simp
                    go_at_call 22
                    refine (wheld_any Z2 q2 ss2 ss2.length nid we Q _ HCW.out rfl (by have := HPM.out.2; omega)).mono ?_; rintro e r37 ⟨A37, c37, rfl, _, _, hKp⟩
                    replace HM := Lib.hid (HM.out.kept hKp (fun h => h) (fun h => h))
                    replace E := Lib.hid (E.out.none hKp)
                    replace Y := Lib.hid (Y.out.none hKp)
                    replace HCW := Lib.hid (HCW.out.kept hKp (fun _ _ h => h))
                    replace HCO := Lib.hid (HCO.out.kept hKp (fun _ _ h => h))
                    replace HCR := Lib.hid (HCR.out.kept hKp (fun _ _ h => h))
                    clear hKp
                    refine hK.out _ _ ?_ (fun hHeld2 => ?_)
                    · exact ⟨E.out.lay, Y.out.blk⟩
                    clear hK KK hHeld
                    have hHeld := hHeld2
                    clear hHeld2
                    try simp only [Act.put, List.setIfInBounds_toArray, List.set_cons_zero, List.set_cons_succ]
                    refine wpAnyH_take (i := 38) (oi := ⟨some 205, _, _, _, _, _⟩) (v := ?_) rfl (by kernel_rfl) (by kernel_rfl) (by kernel_rfl) (fun _ _ _ h => h) (Or.inl ⟨by rfl, ?_⟩) hHeld ?_
                    rotate_left
                    · (intro wq hSw; go_simp; try with_reducible rfl)
                    try simp only [Act.put, List.setIfInBounds_toArray, List.set_cons_zero, List.set_cons_succ]
                    refine wpAnyH_take (i := 39) (oi := ⟨some 206, _, _, _, _, _⟩) (v := .bool false) rfl (by kernel_rfl) (by kernel_rfl) (by kernel_rfl) (fun _ _ _ h => h) (Or.inl ⟨by rfl, ?_⟩) hHeld ?_
                    · (intro wq hSw; go_simp; try first | (with_reducible rfl) | (simp; omega) | (intros; omega) | simp [*])
                    try simp only [Act.put, List.setIfInBounds_toArray, List.set_cons_zero, List.set_cons_succ]
                    refine wpAnyH_take (i := 40) (oi := ⟨some 207, _, _, _, _, _⟩) (v := .bool false) rfl (by kernel_rfl) (by kernel_rfl) (by kernel_rfl) (fun _ _ _ h => h) (Or.inl ⟨by rfl, ?_⟩) hHeld ?_
                    · (intro wq hSw; go_simp; try first | (with_reducible rfl) | (simp; omega) | (intros; omega) | simp [*])
                    try simp only [Act.put, List.setIfInBounds_toArray, List.set_cons_zero, List.set_cons_succ]
                    refine wpAnyH_take (i := 41) (oi := ⟨some 208, _, _, _, _, _⟩) (v := .bool false) rfl (by kernel_rfl) (by kernel_rfl) (by kernel_rfl) (fun _ _ _ h => h) (Or.inl ⟨by rfl, ?_⟩) hHeld ?_
                    · (intro wq hSw; go_simp; try first | (with_reducible rfl) | (simp; omega) | (intros; omega) | simp [*])
                    try simp only [Act.put, List.setIfInBounds_toArray, List.set_cons_zero, List.set_cons_succ]
                    refine wpAnyH_take (i := 42) (oi := ⟨some 209, _, _, _, _, _⟩) (v := ?_) rfl (by kernel_rfl) (by kernel_rfl) (by kernel_rfl) (fun _ _ _ h => h) (Or.inl ⟨by rfl, ?_⟩) hHeld ?_
                    rotate_left
                    · (intro wq hSw; have h1 := hSw.1; have h2 := hSw.2; have v0 := h1.cell (i := 0) rfl; have v1 := h1.cell (i := 1) rfl; have v2 := h1.cell (i := 2) rfl; have v3 := h1.cell (i := 3) rfl; have v4 := h1.cell (i := 4) rfl; have v5 := h1.cell (i := 5) rfl; have v6 := h1.cell (i := 6) rfl; have v7 := h1.cell (i := 7) rfl; have v8 := h1.cell (i := 8) rfl; have v9 := h1.cell (i := 9) rfl; have y0 := h2.cell (i := 0) rfl; have y1 := h2.cell (i := 1) rfl; have y2 := h2.cell (i := 2) rfl; have y3 := h2.cell (i := 3) rfl; have y4 := h2.cell (i := 4) rfl; clear h1 h2; go_simp; try with_reducible rfl)
                    try simp only [Act.put, List.setIfInBounds_toArray, List.set_cons_zero, List.set_cons_succ]
                    refine wpAnyH_take (i := 43) (oi := ⟨some 210, _, _, _, _, _⟩) (v := ?_) rfl (by kernel_rfl) (by kernel_rfl) (by kernel_rfl) (fun _ _ _ h => h) (Or.inl ⟨by rfl, ?_⟩) hHeld ?_
                    rotate_left
                    · (intro wq hSw; go_simp; try with_reducible rfl)
                    try simp only [Act.put, List.setIfInBounds_toArray, List.set_cons_zero, List.set_cons_succ]
                    refine wpAnyH_take (i := 44) (oi := ⟨some 211, _, _, _, _, _⟩) (v := ?_) rfl (by kernel_rfl) (by kernel_rfl) (by kernel_rfl) (fun _ _ _ h => h) (Or.inl ⟨by rfl, ?_⟩) hHeld ?_
                    rotate_left
                    · (intro wq hSw; go_simp; try with_reducible rfl)
                    try simp only [Act.put, List.setIfInBounds_toArray, List.set_cons_zero, List.set_cons_succ]
                    refine wpAnyH_take (i := 46) (oi := ⟨some 213, _, _, _, _, _⟩) (v := ?_) rfl (by kernel_rfl) (by kernel_rfl) (by kernel_rfl) (fun _ _ _ h => h) (Or.inl ⟨by rfl, ?_⟩) hHeld ?_
                    rotate_left
                    · (intro wq hSw; have h1 := hSw.1; have h2 := hSw.2; have v0 := h1.cell (i := 0) rfl; have v1 := h1.cell (i := 1) rfl; have v2 := h1.cell (i := 2) rfl; have v3 := h1.cell (i := 3) rfl; have v4 := h1.cell (i := 4) rfl; have v5 := h1.cell (i := 5) rfl; have v6 := h1.cell (i := 6) rfl; have v7 := h1.cell (i := 7) rfl; have v8 := h1.cell (i := 8) rfl; have v9 := h1.cell (i := 9) rfl; have y0 := h2.cell (i := 0) rfl; have y1 := h2.cell (i := 1) rfl; have y2 := h2.cell (i := 2) rfl; have y3 := h2.cell (i := 3) rfl; have y4 := h2.cell (i := 4) rfl; clear h1 h2; go_simp; try with_reducible rfl)
                    try simp only [Act.put, List.setIfInBounds_toArray, List.set_cons_zero, List.set_cons_succ]
                    refine wpAnyH_ready (rs := [45]) (by kernel_rfl) (by simp) ?_
                    refine AllReadyH.cons (o := ⟨some 212, _, _, _, _, _⟩) rfl (fun KK hK => ?_) AllReadyH.nil
                    go_simp
                    go_at_call 15
                    refine (npeek_page h4 h6 HD.out HM.out HN2.out HH2.out.2 HWQ.out HQL.out).mono ?_; rintro e r45 ⟨A45, c45, rfl, hRp, _, hKp⟩
                    replace HM := Lib.hid (HM.out.kept hKp (fun h => h) (fun h => h))
                    replace E := Lib.hid (E.out.none hKp)
                    replace Y := Lib.hid (Y.out.none hKp)
                    replace HCW := Lib.hid (HCW.out.kept hKp (fun _ _ h => h))
                    replace HCO := Lib.hid (HCO.out.kept hKp (fun _ _ h => h))
                    replace HCR := Lib.hid (HCR.out.kept hKp (fun _ _ h => h))
                    have HRP := Lib.hid hRp
                    clear hKp hRp
                    refine hK.out _ _ ?_ (fun hHeld2 => ?_)
                    · exact ⟨E.out.lay, Y.out.blk⟩
                    clear hK KK hHeld
                    have hHeld := hHeld2
                    clear hHeld2
                    try simp only [Act.put, List.setIfInBounds_toArray, List.set_cons_zero, List.set_cons_succ]
                    refine wpAnyH_ready (rs := [47]) (by kernel_rfl) (by simp) ?_
                    refine AllReadyH.cons (o := ⟨some 214, _, _, _, _, _⟩) rfl (fun KK hK => ?_) AllReadyH.nil
                    go_simp
                    go_at_call 14
                    refine (refSame_yes Q A45 A6 c45 c6 _ (by have := HPM.out.2; omega) HRP.out Y.out.row).mono ?_; rintro e r47 ⟨rfl, hKp⟩
                    replace HM := Lib.hid (HM.out.kept hKp (fun h => h) (fun h => h))
                    replace E := Lib.hid (E.out.none hKp)
                    replace Y := Lib.hid (Y.out.none hKp)
                    replace HCW := Lib.hid (HCW.out.kept hKp (fun _ _ h => h))
                    replace HCO := Lib.hid (HCO.out.kept hKp (fun _ _ h => h))
                    replace HCR := Lib.hid (HCR.out.kept hKp (fun _ _ h => h))
                    clear hKp HRP
                    refine hK.out _ _ ?_ (fun hHeld2 => ?_)
                    · exact ⟨E.out.lay, Y.out.blk⟩
                    clear hK KK hHeld
                    have hHeld := hHeld2
                    clear hHeld2
                    try simp only [Act.put, List.setIfInBounds_toArray, List.set_cons_zero, List.set_cons_succ]
                    refine wpAnyH_take (i := 48) (oi := ⟨some 215, _, _, _, _, _⟩) (v := .bool false) rfl (by kernel_rfl) (by kernel_rfl) (by kernel_rfl) (fun _ _ _ h => h) (Or.inl ⟨by rfl, ?_⟩) hHeld ?_
                    · (intro wq hSw; go_simp; try first | (with_reducible rfl) | (simp; omega) | (intros; omega) | simp [*])
                    try simp only [Act.put, List.setIfInBounds_toArray, List.set_cons_zero, List.set_cons_succ]
                    refine wpAnyH_take (i := 49) (oi := ⟨some 216, _, _, _, _, _⟩) (v := .bool false) rfl (by kernel_rfl) (by kernel_rfl) (by kernel_rfl) (fun _ _ _ h => h) (Or.inl ⟨by rfl, ?_⟩) hHeld ?_
                    · (intro wq hSw; go_simp; try first | (with_reducible rfl) | (simp; omega) | (intros; omega) | simp [*])
                    try simp only [Act.put, List.setIfInBounds_toArray, List.set_cons_zero, List.set_cons_succ]
                    refine wpAnyH_done (by kernel_rfl) ?_ _
                    clear hHeld
                    clear hw6 hw7
                    have HLN := Lib.hid (show l2.length = l.length ∧ l.length ≤ 1048576 from ⟨by rw [← HL2.out, app_length, ← HL1.out, app_length], HST.out.hi⟩)
                    go_wp2_with fail
                    refine (kitCells_any b g l2 _ _ HM.out (by have := HLN.out; omega)).mono ?_; rintro e c1w ⟨rfl, hB, hKp⟩
                    obtain ⟨ga, hga⟩ : ∃ x, r47.heap.size = x := ⟨_, rfl⟩
                    rw [hga] at hB ⊢
                    have HNG := Lib.hid (show ¬ Own b g ga by rw [← hga]; have := HM.out.obj.lt; have := HM.out.row.lt; unfold Own; omega)
                    replace HM := Lib.hid (HM.out.kept hKp (fun h => h) (fun h => h))
                    replace E := Lib.hid (E.out.none hKp)
                    have HB := Lib.hid hB
                    clear hga hB hKp HCW HCO HCR Y
                    obtain ⟨m5, hm5⟩ : ∃ x, n4 + 3 = x := ⟨_, rfl⟩
                    rw [hm5] at HM
                    clear hm5
                    have hLN := HLN.out
                    go_wp2_with fail
                    go_loopw [22] (fun vi wr => ∃ (i : Nat), i ≤ l2.length ∧ vi = .int .i64 (i : Int) ∧ Blk wr ga 43 (flat3 l2) ∧ Mem wr b g l2 m5 ∧ Ev w wr F fb fd b g b9 b10) (fun i _ => 1048577 - (intOf i).toNat)
                    case atStart => exact ⟨0, by omega, rfl, HB.out, HM.out, E.out⟩
                    case round =>
                      obtain ⟨i, hil, rfl, hB, hM, hE⟩ := hrel
                      clear HB HM E
                      rename World => wr5
                      have HB := Lib.hid hB
                      have HM := Lib.hid hM
                      have E := Lib.hid hE
                      clear hB hM hE
                      by_cases hlt : i < l2.length
                      · have hlt3 : i < l.length := by have := hLN.1; omega
                        go_wp2_with fail
                        go_loopw [23, 24] (fun vd vk wr => ∃ (d : Bool) (kk : Nat), kk ≤ F + 4 ∧ vd = .bool d ∧ vk = .int .i64 (kk : Int) ∧ (d = false → ∀ k' : Nat, k' < kk → (i : Int) ≠ nodeAt 100 (F : Int) 10 (nid : Int) (k' : Int)) ∧ Blk wr ga 43 (flat3 l2) ∧ Mem wr b g l2 m5 ∧ Ev w wr F fb fd b g b9 b10) (fun _ k _ => 20 - (intOf k).toNat)
                        case atStart => exact ⟨false, 0, by omega, rfl, rfl, fun _ k' h => absurd h (by omega), HB.out, HM.out, E.out⟩
                        case round =>
                          obtain ⟨d, kk, hkk, rfl, rfl, hd0, hB, hM, hE⟩ := hrel
                          clear HB HM E
                          rename World => wr6
                          have HD0 := Lib.hid hd0
                          have HB := Lib.hid hB
                          have HM := Lib.hid hM
                          have E := Lib.hid hE
                          clear hB hM hE hd0
                          have hkF : (kk : Int) ≤ (F : Int) + 4 := by omega
                          by_cases hk : kk < F + 4
                          · have hkF2 : (kk : Int) < (F : Int) + 4 := by omega
                            have z5 := E.out.cfg.cell (i := 5) rfl
                            cases d with
                            | true =>
                              go_wp2
                              go_roundw
                              case rel => exact ⟨true, kk + 1, by omega, rfl, by go_num, fun h => (by cases h), HB.out, HM.out, E.out⟩
                              case measure => simp [intOf]; omega
                            | false =>
                              have x0 := E.out.cfg.cell (i := 0) rfl
                              have x1 := E.out.cfg.cell (i := 1) rfl
                              have x2 := E.out.cfg.cell (i := 2) rfl
                              have x3 := E.out.cfg.cell (i := 3) rfl
                              have x4 := E.out.cfg.cell (i := 4) rfl
                              have x5 := E.out.cfg.cell (i := 5) rfl
                              have x6 := E.out.cfg.cell (i := 6) rfl
                              go_wp2_with fail
                              obtain ⟨v, hv⟩ : ∃ v, nodeAt 100 (F : Int) 10 (nid : Int) (kk : Int) = v := ⟨_, rfl⟩
                              refine (ref_to F nid kk h4 h6 hk v hv _).mono ?_; rintro e g1w ⟨rfl, hKp⟩
                              clear z5 x0 x1 x2 x3 x4 x5 x6
                              have HV := Lib.hid hv
                              have HB2 := Lib.hid (hKp.blk HB.out (fun h => h))
                              have HM2 := Lib.hid (HM.out.kept hKp (fun h => h) (fun h => h))
                              have E2 := Lib.hid (E.out.none hKp)
                              clear hKp hv HB HM E
                              obtain ⟨d2, hd2⟩ : ∃ d2, ((i : Int) == v) = d2 := ⟨_, rfl⟩
                              have HD2 := Lib.hid hd2
                              clear hd2
                              go_wp2
                              go_roundw
                              case rel => exact ⟨d2, kk + 1, by omega, by rw [← HD2.out], by go_num, fun h k' hk' => by
                                rcases Nat.lt_succ_iff_lt_or_eq.1 hk' with h1 | h1
                                · exact HD0.out trivial k' h1
                                · subst h1; rw [HV.out]; have := HD2.out; rw [h] at this; simpa using this, HB2.out, HM2.out, E2.out⟩
                              case measure => simp [intOf]; omega
                          · obtain rfl : kk = F + 4 := by omega
                            cases d with
                            | true =>
                              have z5 := E.out.cfg.cell (i := 5) rfl
                              go_wp2
                              go_roundw
                              case rel => exact ⟨i + 1, by omega, by go_num, HB.out, HM.out, E.out⟩
                              case measure => simp [intOf]; omega
                            | false =>
                              have z5 := E.out.cfg.cell (i := 5) rfl
                              obtain ⟨d4, hd4⟩ : ∃ d4, ((i : Int) == 0) = d4 := ⟨_, rfl⟩
                              cases d4 with
                              | true =>
                                obtain rfl : i = 0 := by have h5 : (i : Int) = 0 := by simpa using hd4
                                                         omega
                                clear hd4
                                go_wp2
                                go_roundw
                                case rel => exact ⟨1, by omega, by go_num, HB.out, HM.out, E.out⟩
                                case measure => simp [intOf] <;> omega
                              | false =>
                                obtain ⟨d5, hd5⟩ : ∃ d5, ((i : Int) == 4) = d5 := ⟨_, rfl⟩
                                cases d5 with
                                | true =>
                                  obtain rfl : i = 4 := by have h5 : (i : Int) = 4 := by simpa using hd5
                                                           omega
                                  clear hd4 hd5
                                  go_wp2
                                  go_roundw
                                  case rel => exact ⟨5, by omega, by go_num, HB.out, HM.out, E.out⟩
                                  case measure => simp [intOf] <;> omega
                                | false =>
                                  have hq0 : ¬ i = 0 := by have h5 : ¬ (i : Int) = 0 := by simpa using hd4
                                                           omega
                                  have hq4 : ¬ i = 4 := by have h5 : ¬ (i : Int) = 4 := by simpa using hd5
                                                           omega
                                  have hp0 : ¬ (i : Int) = 0 := by omega
                                  have hp4 : ¬ (i : Int) = 4 := by omega
                                  have x0 := E.out.cfg.cell (i := 0) rfl
                                  have x1 := E.out.cfg.cell (i := 1) rfl
                                  have x2 := E.out.cfg.cell (i := 2) rfl
                                  have x3 := E.out.cfg.cell (i := 3) rfl
                                  have x4 := E.out.cfg.cell (i := 4) rfl
                                  have x5 := E.out.cfg.cell (i := 5) rfl
                                  have x6 := E.out.cfg.cell (i := 6) rfl
                                  obtain ⟨v12, hv12⟩ : ∃ v, nodeAt 100 (F : Int) 10 ((1 : Nat) : Int) ((2 : Nat) : Int) = v := ⟨_, rfl⟩
                                  have HV := Lib.hid hv12
                                  clear hv12
                                  go_wp2_with fail
                                  refine (ref_to F 1 2 h4 h6 (by omega) v12 HV.out _).mono ?_; rintro e g1w ⟨rfl, hKp⟩
                                  clear x0 x1 x2 x3 x4 x5 x6
                                  have HB2 := Lib.hid (hKp.blk HB.out (fun h => h))
                                  have HM2 := Lib.hid (HM.out.kept hKp (fun h => h) (fun h => h))
                                  have E2 := Lib.hid (E.out.none hKp)
                                  clear hKp HB HM E
                                  have HB := HB2
                                  have HM := HM2
                                  have E := E2
                                  clear HB2 HM2 E2
                                  obtain ⟨d3, hd3⟩ : ∃ d3, ((i : Int) == v12) = d3 := ⟨_, rfl⟩
                                  cases d3 with
                                  | true =>
                                    obtain rfl : (i : Int) = v12 := by simpa using hd3
                                    clear hd3
                                    go_wp2
                                    go_roundw
                                    case rel => exact ⟨i + 1, by omega, by go_num, HB.out, HM.out, E.out⟩
                                    case measure => simp [intOf]; omega
                                  | false =>
                                    have hcel : cellAt l2 (i : Int) = cel0 := by
                                      have hx : (i : Int) ≠ v12 := by simpa using hd3
                                      have ho := trip_other (F := F) (nid := nid) hnid1 hnid2 (l := l) HPL.out HQL.out wb we (i := (i : Int)) (HD0.out trivial)
                                      rw [HSS.out, HL1.out] at ho
                                      rw [HSS2.out, HL2.out] at ho
                                      rw [ho]
                                      refine HST.out.zero i hp0 hp4 ?_
                                      rw [show nad F 1 1 = v12 from HV.out]; exact hx
                                    rw [cellAt_in l2 i hlt] at hcel
                                    obtain ⟨f1, f2, f3⟩ := flat3_at l2 i _ (show l2[i]? = some cel0 by rw [List.getElem?_eq_getElem hlt, hcel])
                                    have y1 : g1w.cell? ⟨ga, i * 3, none⟩ = some (.int .u64 0) := HB.out.cell f1
                                    have y2 : g1w.cell? ⟨ga, i * 3 + 1, none⟩ = some (.string ⟨#[]⟩) := HB.out.cell f2
                                    have y3 : g1w.cell? ⟨ga, i * 3 + 2, none⟩ = some (.int .u64 0) := HB.out.cell f3
                                    have hnq := tneq0
                                    clear f1 f2 f3 hcel
                                    go_wp2
                                    all_goals (
                                      go_roundw
                                      case rel => exact ⟨i + 1, by omega, by go_num, HB.out, HM.out, E.out⟩
                                      case measure => simp [intOf]; omega)
                      · have x0 := E.out.lay.cell (i := 0) rfl
                        have x1 := E.out.lay.cell (i := 1) rfl
                        have x2 := E.out.lay.cell (i := 2) rfl
                        have x3 := E.out.lay.cell (i := 3) rfl
                        have x4 := E.out.lay.cell (i := 4) rfl
                        have x5 := E.out.lay.cell (i := 5) rfl
                        have x6 := E.out.lay.cell (i := 6) rfl
                        have x7 := E.out.lay.cell (i := 7) rfl
                        have x8 := E.out.lay.cell (i := 8) rfl
                        have x9 := E.out.lay.cell (i := 9) rfl
                        go_wp2_with fail
                        refine (npeek_page (nid := 0) h4 h6 HD.out HM.out HN2.out (holds_none l2 (.inl (by omega))) wf_none (Nat.zero_le _)).mono ?_; rintro e z1 ⟨A1, c1, rfl, hRp, _, hKp⟩
                        clear x0 x1 x2 x3 x4 x5 x6 x7 x8 x9
                        have HRP := Lib.hid hRp
                        replace HM := Lib.hid (HM.out.kept hKp (fun h => h) (fun h => h))
                        replace E := Lib.hid (E.out.none hKp)
                        clear hRp hKp
                        go_wp2_with fail
                        refine (refSame_yes pgz A1 none c1 0 _ (Nat.zero_le _) HRP.out (Rs.nil _)).mono ?_; rintro e z2 ⟨rfl, hKp⟩
                        replace HM := Lib.hid (HM.out.kept hKp (fun h => h) (fun h => h))
                        replace E := Lib.hid (E.out.none hKp)
                        clear hKp HRP
                        have x0 := E.out.lay.cell (i := 0) rfl
                        have x1 := E.out.lay.cell (i := 1) rfl
                        have x2 := E.out.lay.cell (i := 2) rfl
                        have x3 := E.out.lay.cell (i := 3) rfl
                        have x4 := E.out.lay.cell (i := 4) rfl
                        have x5 := E.out.lay.cell (i := 5) rfl
                        have x6 := E.out.lay.cell (i := 6) rfl
                        have x7 := E.out.lay.cell (i := 7) rfl
                        have x8 := E.out.lay.cell (i := 8) rfl
                        have x9 := E.out.lay.cell (i := 9) rfl
                        have y0 := E.out.cfg.cell (i := 0) rfl
                        have y1 := E.out.cfg.cell (i := 1) rfl
                        have y2 := E.out.cfg.cell (i := 2) rfl
                        have y3 := E.out.cfg.cell (i := 3) rfl
                        have y4 := E.out.cfg.cell (i := 4) rfl
                        have y5 := E.out.cfg.cell (i := 5) rfl
                        have y6 := E.out.cfg.cell (i := 6) rfl
                        go_wp2_with fail
                        refine (npeek_page (nid := 101) h4 h6 HD.out HM.out HN2.out (holds_none l2 (.inr (by omega))) wf_none (Nat.zero_le _)).mono ?_; rintro e z3 ⟨A2, c2', rfl, hRp, _, hKp⟩
                        clear x0 x1 x2 x3 x4 x5 x6 x7 x8 x9 y0 y1 y2 y3 y4 y5 y6
                        have HRP := Lib.hid hRp
                        replace HM := Lib.hid (HM.out.kept hKp (fun h => h) (fun h => h))
                        replace E := Lib.hid (E.out.none hKp)
                        clear hRp hKp
                        go_wp2_with fail
                        refine (refSame_yes pgz A2 none c2' 0 _ (Nat.zero_le _) HRP.out (Rs.nil _)).mono ?_; rintro e z4 ⟨rfl, hKp⟩
                        replace E := Lib.hid (E.out.none hKp)
                        clear hKp HRP
                        go_wp2
                        go_ret
                        exact ⟨rfl, E.out.kept.below (Nat.le_refl _) (fun _ h => h.elim)⟩

end Go.Proofs.Ytlehpcbhfdnkdaa
