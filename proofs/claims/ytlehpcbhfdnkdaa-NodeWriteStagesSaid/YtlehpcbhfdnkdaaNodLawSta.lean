/-
  The walk of the statement of layer 8 'after every step of a Write the node is changing, or has the old page or the new one'. Condition: words below 2^64.
-/
import Derived.Test.YtlehpcbhfdnkdaaNodStag
namespace Go.Proofs.Ytlehpcbhfdnkdaa
open Go.RowKit Go.Deep Plain
set_option linter.unusedVariables false

theorem cfield0 (N M : Int) (K : ByteArray) (w : World) : (Instr.field 43 (.agg #[.int .u64 N, .string K, .int .u64 M]) 0).run Try.prog w = .ok (.int .u64 N) w := by kernel_rfl

set_option maxRecDepth 100000 in
set_option maxHeartbeats 8000000 in
theorem lawStages (f : Int) (F : Nat) (h4 : 4 ≤ F) (h6 : F ≤ 6) (hf : 4 + f % 3 = (F : Int)) (plv : Int) (A : Option Addr) (c : Nat) (hi : ByteArray) (la : Bool) (rt : Nat) (hrt : rt < 18446744073709551616) (xs : List Sl) (hxr : ∀ x ∈ xs, x.2 < 18446744073709551616) (plv2 : Int) (A2 : Option Addr) (c2 : Nat) (hi2 : ByteArray) (la2 : Bool) (rt2 : Nat) (hrt2 : rt2 < 18446744073709551616) (xs2 : List Sl) (hxr2 : ∀ x ∈ xs2, x.2 < 18446744073709551616) (wd : Nat) (hwd : wd < 18446744073709551616) (w : World) (n n2 : Nat) (hn : xs.length = n) (hn2 : xs2.length = n2) (hR : Rs w A c xs) (hR2 : Rs w A2 c2 xs2) :
    Calls Try.prog 6 #[.int .i64 f, .agg #[.int .i64 plv, .slice A n c, .string hi, .bool la, .int .u64 (rt : Int)], .agg #[.int .i64 plv2, .slice A2 n2 c2, .string hi2, .bool la2, .int .u64 (rt2 : Int)], .int .u64 (wd : Int)] w fun e w' => e = .returned (.bool true) ∧ Below w.heap.size w w' := by
  obtain ⟨wn, hwn⟩ : ∃ x, endW wd = x := ⟨_, rfl⟩
  have hwn1 : wn < 18446744073709551616 := by rw [← hwn]; exact endW_lt _
  obtain ⟨wo, hwo⟩ : ∃ x, lockW wn = x := ⟨_, rfl⟩
  have hwo1 : wo < 18446744073709551616 := by rw [← hwo]; exact lockW_lt hwn1
  obtain ⟨wb, hwb⟩ : ∃ x, beginW wo = x := ⟨_, rfl⟩
  have hwb1 : wb < 18446744073709551616 := by rw [← hwb]; exact beginW_lt hwo1
  have hwb2 : wb / 2 % 2 = 1 := by rw [← hwb]; unfold beginW; omega
  obtain ⟨we, hwe⟩ : ∃ x, endW wb = x := ⟨_, rfl⟩
  have hwe1 : we < 18446744073709551616 := by rw [← hwe]; exact endW_lt _
  have hwe2 : ¬ we / 2 % 2 = 1 := by rw [← hwe]; unfold endW; omega
  have hweo : we ≠ wo := by rw [← hwe, ← hwb, ← hwo, ← hwn]; unfold endW beginW lockW; omega
  have HWN := Lib.hid hwn
  have HWO := Lib.hid hwo
  have HWB := Lib.hid hwb
  have HWE := Lib.hid hwe
  have HWX := Lib.hid (And.intro hwb2 (And.intro hwe2 hweo))
  clear hwn hwo hwb hwe hwb2 hwe2 hweo
  obtain ⟨P, hP⟩ : ∃ P, cut F 0 hi la rt xs = P := ⟨_, rfl⟩
  obtain ⟨Q, hQ⟩ : ∃ Q, cut F 0 hi2 la2 rt2 xs2 = Q := ⟨_, rfl⟩
  have HWF := Lib.hid (show Wf P by rw [← hP]; exact cut_wf _ _ _ _ _ _)
  have HPL := Lib.hid (show P.xs.length ≤ F by rw [← hP]; exact cut_len _ _ _ _ _ _)
  have HFT := Lib.hid (show Fits P by rw [← hP]; exact cut_fits (by omega) (by omega) hrt hxr)
  have HWQ := Lib.hid (show Wf Q by rw [← hQ]; exact cut_wf _ _ _ _ _ _)
  have HQL := Lib.hid (show Q.xs.length ≤ F by rw [← hQ]; exact cut_len _ _ _ _ _ _)
  have HFQ := Lib.hid (show Fits Q by rw [← hQ]; exact cut_fits (by omega) (by omega) hrt2 hxr2)
  have HPC := Lib.hid hP
  have HQC := Lib.hid hQ
  clear hP hQ hxr hxr2
  have qu : Blk ((w.alloc (.cells #[.int .i64 plv, .slice A n c, .string hi, .bool la, .int .u64 (rt : Int)] 25)).alloc (.cells #[.int .i64 plv2, .slice A2 n2 c2, .string hi2, .bool la2, .int .u64 (rt2 : Int)] 25)) (w.heap.size) 25 [.int .i64 plv, .slice A n c, .string hi, .bool la, .int .u64 (rt : Int)] := by
    have := Blk.new w [.int .i64 plv, .slice A n c, .string hi, .bool la, .int .u64 (rt : Int)] 25
    exact this.alloc _
  have qv : Blk ((w.alloc (.cells #[.int .i64 plv, .slice A n c, .string hi, .bool la, .int .u64 (rt : Int)] 25)).alloc (.cells #[.int .i64 plv2, .slice A2 n2 c2, .string hi2, .bool la2, .int .u64 (rt2 : Int)] 25)) (w.heap.size + 1) 25 [.int .i64 plv2, .slice A2 n2 c2, .string hi2, .bool la2, .int .u64 (rt2 : Int)] := by
    have := Blk.new (w.alloc (.cells #[.int .i64 plv, .slice A n c, .string hi, .bool la, .int .u64 (rt : Int)] 25)) [.int .i64 plv2, .slice A2 n2 c2, .string hi2, .bool la2, .int .u64 (rt2 : Int)] 25
    rw [nblk_alloc] at this
    exact this
  have Pu := Lib.hid qu
  have Pv := Lib.hid qv
  have HK := Lib.hid (((Kept.refl (fun _ => False) w).alloc (.cells #[.int .i64 plv, .slice A n c, .string hi, .bool la, .int .u64 (rt : Int)] 25)).alloc (.cells #[.int .i64 plv2, .slice A2 n2 c2, .string hi2, .bool la2, .int .u64 (rt2 : Int)] 25))
  clear qu qv
  go_enter Try.func6, Try.ntmps6
  go_wp2_with fail
  generalize ((w.alloc (.cells #[.int .i64 plv, .slice A n c, .string hi, .bool la, .int .u64 (rt : Int)] 25)).alloc (.cells #[.int .i64 plv2, .slice A2 n2 c2, .string hi2, .bool la2, .int .u64 (rt2 : Int)] 25)) = W0 at *
  generalize hpv : w.heap.size + 1 = pv at Pv ⊢
  generalize hpu : w.heap.size = pu at Pu ⊢
  have HPu := Lib.hid (show w.heap.size ≤ pu by omega)
  have HPv := Lib.hid (show w.heap.size ≤ pv by omega)
  clear hpu hpv
  refine (kitConfig_any 1 f F hf _).mono ?_; rintro e w1 ⟨rfl, hK1⟩
  replace Pu := Lib.hid (hK1.blk Pu.out (fun h => h))
  replace Pv := Lib.hid (hK1.blk Pv.out (fun h => h))
  replace HK := Lib.hid (HK.out.trans hK1 (fun _ _ h => h.elim))
  clear hK1
  go_wp2_with fail
  have hal := (Kept.refl (fun _ => False) w1).alloc (.cells #[.int .i64 1, .int .i64 2, .int .i64 100, .int .i64 100, .int .i64 200, .int .i64 (F : Int), .int .u64 1000] 27)
  have B9 := Lib.hid (Blk.new w1 [.int .i64 1, .int .i64 2, .int .i64 100, .int .i64 100, .int .i64 200, .int .i64 (F : Int), .int .u64 1000] 27)
  replace Pu := Lib.hid (hal.blk Pu.out (fun h => h))
  replace Pv := Lib.hid (hal.blk Pv.out (fun h => h))
  replace HK := Lib.hid (HK.out.trans hal (fun _ _ h => h.elim))
  clear hal
  generalize w1.alloc (.cells #[.int .i64 1, .int .i64 2, .int .i64 100, .int .i64 100, .int .i64 200, .int .i64 (F : Int), .int .u64 1000] 27) = W1 at *
  generalize w1.heap.size = b9 at *
  refine (kitMem F h4 h6 _).mono ?_
  intro e w2 hok
  obtain ⟨b, g, l, fb, fd, rfl, hM2, hS2, hd, hb2, hg2, hK2⟩ := hok
  have HM := Lib.hid hM2
  have HST := Lib.hid hS2
  have HD := Lib.hid hd
  have HBG := Lib.hid (show w.heap.size ≤ b ∧ w.heap.size ≤ g ∧ b9 < b ∧ b9 < g by have := HK.out.size; have := B9.out.lt; omega)
  have HNu := Lib.hid (show ¬ Own b g pu by have := Pu.out.lt; unfold Own; omega)
  have HNv := Lib.hid (show ¬ Own b g pv by have := Pv.out.lt; unfold Own; omega)
  replace B9 := Lib.hid (hK2.blk B9.out (fun h => h))
  replace Pu := Lib.hid (hK2.blk Pu.out (fun h => h))
  replace Pv := Lib.hid (hK2.blk Pv.out (fun h => h))
  replace HK := Lib.hid (HK.out.trans hK2 (fun _ _ h => h.elim))
  clear hM2 hS2 hd hb2 hg2 hK2
  go_wp2_with fail
  have hal := (Kept.refl (fun _ => False) w2).alloc (.cells #[.int .i64 1, .int .i64 2, .int .i64 100, .int .i64 100, .int .i64 200, .int .i64 (F : Int), .int .u64 1000, .int .i64 10, .int .i64 fb, .int .i64 fd] 30)
  have B10 := Lib.hid (Blk.new w2 [.int .i64 1, .int .i64 2, .int .i64 100, .int .i64 100, .int .i64 200, .int .i64 (F : Int), .int .u64 1000, .int .i64 10, .int .i64 fb, .int .i64 fd] 30)
  have HN10 := Lib.hid (show ¬ Own b g w2.heap.size by have := HM.out.obj.lt; have := HM.out.row.lt; unfold Own; omega)
  replace B9 := Lib.hid (hal.blk B9.out (fun h => h))
  replace HM := Lib.hid (HM.out.kept hal (fun h => h) (fun h => h))
  replace Pu := Lib.hid (hal.blk Pu.out (fun h => h))
  replace Pv := Lib.hid (hal.blk Pv.out (fun h => h))
  replace HK := Lib.hid (HK.out.trans hal (fun _ _ h => h.elim))
  clear hal
  generalize w2.alloc (.cells #[.int .i64 1, .int .i64 2, .int .i64 100, .int .i64 100, .int .i64 200, .int .i64 (F : Int), .int .u64 1000, .int .i64 10, .int .i64 fb, .int .i64 fd] 30) = W2 at *
  generalize w2.heap.size = b10 at *
  refine (awake_any _).mono ?_; rintro e w4 ⟨rfl, hK4⟩
  replace B9 := Lib.hid (hK4.blk B9.out (fun h => h))
  replace B10 := Lib.hid (hK4.blk B10.out (fun h => h))
  replace HM := Lib.hid (HM.out.kept hK4 (fun h => h) (fun h => h))
  replace Pu := Lib.hid (hK4.blk Pu.out (fun h => h))
  replace Pv := Lib.hid (hK4.blk Pv.out (fun h => h))
  replace HK := Lib.hid (HK.out.trans hK4 (fun _ _ h => h.elim))
  clear hK4
  have E := Lib.hid (show Ev w w4 F fb fd b g b9 b10 from ⟨B9.out, B10.out, HK.out, ⟨HBG.out.1, HBG.out.2.1⟩, by have := HBG.out; unfold Own; omega, HN10.out⟩)
  clear B9 B10 HK HN10
  have hbE := E.out.kept.below (Nat.le_refl _) (fun _ h => h.elim)
  have HRu := Lib.hid (hR.below hbE (Nat.le_refl _))
  have HRv := Lib.hid (hR2.below hbE (Nat.le_refl _))
  clear hbE HPu HPv
  go_upto_region 5 with fail
  go_cut [12, 13] (fun vx vz wx => ∃ (bx bz : Nat) (A5 : Option Addr) (c5 : Nat) (A6 : Option Addr) (c6 : Nat), vx = .pointer (some ⟨bx, 0, none⟩) ∧ vz = .pointer (some ⟨bz, 0, none⟩) ∧ Ev w wx F fb fd b g b9 b10 ∧ Mem wx b g l 0 ∧ Px b g wx bx P A5 c5 ∧ Px b g wx bz Q A6 c6)
  case first =>
    have hdr := (Kept.refl (fun _ => False) w4).drew
    replace E := Lib.hid (E.out.none hdr)
    replace HM := Lib.hid (HM.out.kept hdr (fun h => h) (fun h => h))
    replace Pu := Lib.hid (hdr.blk Pu.out (fun h => h))
    replace Pv := Lib.hid (hdr.blk Pv.out (fun h => h))
    replace HRu := Lib.hid (HRu.out.keptF hdr (fun _ _ h => h))
    replace HRv := Lib.hid (HRv.out.keptF hdr (fun _ _ h => h))
    clear hdr
    refine wp_region_held_drew (S := fun w' => Blk w' b9 27 [.int .i64 1, .int .i64 2, .int .i64 100, .int .i64 100, .int .i64 200, .int .i64 (F : Int), .int .u64 1000] ∧ Blk w' pu 25 [.int .i64 plv, .slice A n c, .string hi, .bool la, .int .u64 (rt : Int)] ∧ Blk w' pv 25 [.int .i64 plv2, .slice A2 n2 c2, .string hi2, .bool la2, .int .u64 (rt2 : Int)]) (by kernel_rfl) ?_ (fun hHeld => ?_)
    · exact ⟨E.out.cfg, Pu.out, Pv.out⟩
    generalize w4.drew = G at *
    refine wpAnyH_take (i := 0) (oi := ⟨some 34, _, _, _, _, _⟩) (v := ?_) rfl (by kernel_rfl) (by kernel_rfl) (by kernel_rfl) (fun _ _ _ h => h) (Or.inl ⟨by rfl, ?_⟩) hHeld ?_
    rotate_left
    · (intro wq hSw; have h1 := hSw.1; have h2 := hSw.2.1; have h3 := hSw.2.2; have x0 := h1.cell (i := 0) rfl; have x1 := h1.cell (i := 1) rfl; have x2 := h1.cell (i := 2) rfl; have x3 := h1.cell (i := 3) rfl; have x4 := h1.cell (i := 4) rfl; have x5 := h1.cell (i := 5) rfl; have x6 := h1.cell (i := 6) rfl; have y0 := h2.cell (i := 0) rfl; have v0 := h3.cell (i := 0) rfl; have y1 := h2.cell (i := 1) rfl; have v1 := h3.cell (i := 1) rfl; have y2 := h2.cell (i := 2) rfl; have v2 := h3.cell (i := 2) rfl; have y3 := h2.cell (i := 3) rfl; have v3 := h3.cell (i := 3) rfl; have y4 := h2.cell (i := 4) rfl; have v4 := h3.cell (i := 4) rfl; clear h1 h2 h3; go_simp; try with_reducible rfl)
    try simp only [Act.put, List.setIfInBounds_toArray, List.set_cons_zero, List.set_cons_succ]
    refine wpAnyH_take (i := 1) (oi := ⟨some 35, _, _, _, _, _⟩) (v := ?_) rfl (by kernel_rfl) (by kernel_rfl) (by kernel_rfl) (fun _ _ _ h => h) (Or.inl ⟨by rfl, ?_⟩) hHeld ?_
    rotate_left
    · (intro wq hSw; have h1 := hSw.1; have h2 := hSw.2.1; have h3 := hSw.2.2; have x0 := h1.cell (i := 0) rfl; have x1 := h1.cell (i := 1) rfl; have x2 := h1.cell (i := 2) rfl; have x3 := h1.cell (i := 3) rfl; have x4 := h1.cell (i := 4) rfl; have x5 := h1.cell (i := 5) rfl; have x6 := h1.cell (i := 6) rfl; have y0 := h2.cell (i := 0) rfl; have v0 := h3.cell (i := 0) rfl; have y1 := h2.cell (i := 1) rfl; have v1 := h3.cell (i := 1) rfl; have y2 := h2.cell (i := 2) rfl; have v2 := h3.cell (i := 2) rfl; have y3 := h2.cell (i := 3) rfl; have v3 := h3.cell (i := 3) rfl; have y4 := h2.cell (i := 4) rfl; have v4 := h3.cell (i := 4) rfl; clear h1 h2 h3; go_simp; try with_reducible rfl)
    try simp only [Act.put, List.setIfInBounds_toArray, List.set_cons_zero, List.set_cons_succ]
    refine wpAnyH_take (i := 3) (oi := ⟨some 37, _, _, _, _, _⟩) (v := ?_) rfl (by kernel_rfl) (by kernel_rfl) (by kernel_rfl) (fun _ _ _ h => h) (Or.inl ⟨by rfl, ?_⟩) hHeld ?_
    rotate_left
    · (intro wq hSw; have h1 := hSw.1; have h2 := hSw.2.1; have h3 := hSw.2.2; have x0 := h1.cell (i := 0) rfl; have x1 := h1.cell (i := 1) rfl; have x2 := h1.cell (i := 2) rfl; have x3 := h1.cell (i := 3) rfl; have x4 := h1.cell (i := 4) rfl; have x5 := h1.cell (i := 5) rfl; have x6 := h1.cell (i := 6) rfl; have y0 := h2.cell (i := 0) rfl; have v0 := h3.cell (i := 0) rfl; have y1 := h2.cell (i := 1) rfl; have v1 := h3.cell (i := 1) rfl; have y2 := h2.cell (i := 2) rfl; have v2 := h3.cell (i := 2) rfl; have y3 := h2.cell (i := 3) rfl; have v3 := h3.cell (i := 3) rfl; have y4 := h2.cell (i := 4) rfl; have v4 := h3.cell (i := 4) rfl; clear h1 h2 h3; go_simp; try with_reducible rfl)
    try simp only [Act.put, List.setIfInBounds_toArray, List.set_cons_zero, List.set_cons_succ]
    refine wpAnyH_take (i := 4) (oi := ⟨some 38, _, _, _, _, _⟩) (v := ?_) rfl (by kernel_rfl) (by kernel_rfl) (by kernel_rfl) (fun _ _ _ h => h) (Or.inl ⟨by rfl, ?_⟩) hHeld ?_
    rotate_left
    · (intro wq hSw; have h1 := hSw.1; have h2 := hSw.2.1; have h3 := hSw.2.2; have x0 := h1.cell (i := 0) rfl; have x1 := h1.cell (i := 1) rfl; have x2 := h1.cell (i := 2) rfl; have x3 := h1.cell (i := 3) rfl; have x4 := h1.cell (i := 4) rfl; have x5 := h1.cell (i := 5) rfl; have x6 := h1.cell (i := 6) rfl; have y0 := h2.cell (i := 0) rfl; have v0 := h3.cell (i := 0) rfl; have y1 := h2.cell (i := 1) rfl; have v1 := h3.cell (i := 1) rfl; have y2 := h2.cell (i := 2) rfl; have v2 := h3.cell (i := 2) rfl; have y3 := h2.cell (i := 3) rfl; have v3 := h3.cell (i := 3) rfl; have y4 := h2.cell (i := 4) rfl; have v4 := h3.cell (i := 4) rfl; clear h1 h2 h3; go_simp; try with_reducible rfl)
    try simp only [Act.put, List.setIfInBounds_toArray, List.set_cons_zero, List.set_cons_succ]
    refine wpAnyH_ready (rs := [2, 6, 7]) (by kernel_rfl) (by simp) ?_
    refine AllReadyH.cons (o := ⟨some 36, _, _, _, _, _⟩) rfl (fun KK hK => ?_) (AllReadyH.cons (o := ⟨some 12, _, _, _, _, _⟩) rfl (fun KK hK => ?_) (AllReadyH.cons (o := ⟨some 13, _, _, _, _, _⟩) rfl (fun KK hK => ?_) AllReadyH.nil))
    · go_simp
      go_at_call 11
      refine (content_any F plv A c hi la rt xs 0 _ n hn (by omega) HRu.out P HPC.out).mono ?_; rintro e v5 ⟨A5, c5, rfl, hR, hA, hK9⟩
      have HA5 := Lib.hid (show ∀ a, A5 = some a → ¬ Own b g a.block from fun a ha e => by have := hA a ha; have := HM.out.obj.lt; have := HM.out.row.lt; unfold Own at e; omega)
      replace E := Lib.hid (E.out.none hK9)
      replace HM := Lib.hid (HM.out.kept hK9 (fun h => h) (fun h => h))
      replace Pu := Lib.hid (hK9.blk Pu.out (fun h => h))
      replace Pv := Lib.hid (hK9.blk Pv.out (fun h => h))
      replace HRu := Lib.hid (HRu.out.keptF hK9 (fun _ _ h => h))
      replace HRv := Lib.hid (HRv.out.keptF hK9 (fun _ _ h => h))
      have HR5 := Lib.hid hR
      clear hR hA hK9
      refine hK.out _ _ ?_ (fun hHeld2 => ?_)
      · exact ⟨E.out.cfg, Pu.out, Pv.out⟩
      clear hK KK hHeld
      have hHeld := hHeld2
      clear hHeld2
      try simp only [Act.put, List.setIfInBounds_toArray, List.set_cons_zero, List.set_cons_succ]
      refine wpAnyH_ready (rs := [5, 6, 7]) (by kernel_rfl) (by simp) ?_
      refine AllReadyH.cons (o := ⟨some 39, _, _, _, _, _⟩) rfl (fun KK hK => ?_) (AllReadyH.cons (o := ⟨some 12, _, _, _, _, _⟩) rfl (fun KK hK => ?_) (AllReadyH.cons (o := ⟨some 13, _, _, _, _, _⟩) rfl (fun KK hK => ?_) AllReadyH.nil))
      · go_simp
        go_at_call 11
        refine (content_any F plv2 A2 c2 hi2 la2 rt2 xs2 0 _ n2 hn2 (by omega) HRv.out Q HQC.out).mono ?_; rintro e v6 ⟨A6, c6, rfl, hR, hA, hK9⟩
        have HA6 := Lib.hid (show ∀ a, A6 = some a → ¬ Own b g a.block from fun a ha e => by have := hA a ha; have := HM.out.obj.lt; have := HM.out.row.lt; unfold Own at e; omega)
        replace E := Lib.hid (E.out.none hK9)
        replace HM := Lib.hid (HM.out.kept hK9 (fun h => h) (fun h => h))
        replace Pu := Lib.hid (hK9.blk Pu.out (fun h => h))
        replace Pv := Lib.hid (hK9.blk Pv.out (fun h => h))
        replace HRu := Lib.hid (HRu.out.keptF hK9 (fun _ _ h => h))
        replace HRv := Lib.hid (HRv.out.keptF hK9 (fun _ _ h => h))
        replace HR5 := Lib.hid (HR5.out.keptF hK9 (fun _ _ h => h))
        have HR6 := Lib.hid hR
        clear hR hA hK9
        refine hK.out _ _ ?_ (fun hHeld2 => ?_)
        · exact ⟨E.out.cfg, Pu.out, Pv.out⟩
        clear hK KK hHeld
        have hHeld := hHeld2
        clear hHeld2
        try simp only [Act.put, List.setIfInBounds_toArray, List.set_cons_zero, List.set_cons_succ]
        refine wpAnyH_ready (rs := [6, 7]) (by kernel_rfl) (by simp) ?_
        refine AllReadyH.cons (o := ⟨some 12, _, _, _, _, _⟩) rfl (fun KK hK => ?_) (AllReadyH.cons (o := ⟨some 13, _, _, _, _, _⟩) rfl (fun KK hK => ?_) AllReadyH.nil)
        · go_simp
          have hal := (Kept.refl (fun _ => False) v6).alloc (.cells #[.int .i64 0, .slice none 0 0, .string ⟨#[]⟩, .bool false, .int .u64 0] 25)
          have HBx := Lib.hid (Blk.new v6 [.int .i64 0, .slice none 0 0, .string ⟨#[]⟩, .bool false, .int .u64 0] 25)
          have HNx := Lib.hid (show ¬ Own b g v6.heap.size by have := HM.out.obj.lt; have := HM.out.row.lt; unfold Own; omega)
          have HOx := Lib.hid (show b9 < v6.heap.size ∧ b10 < v6.heap.size ∧ w.heap.size ≤ v6.heap.size from ⟨E.out.cfg.lt, E.out.lay.lt, E.out.kept.size⟩)
          have HUx := Lib.hid (show pu < v6.heap.size ∧ pv < v6.heap.size from ⟨Pu.out.lt, Pv.out.lt⟩)
          have NE5x := Lib.hid (show 0 < P.xs.length → ∀ a, A5 = some a → a.block ≠ v6.heap.size from fun hp a ha => by have := HR5.out.lt hp a ha; omega)
          have NE6x := Lib.hid (show 0 < Q.xs.length → ∀ a, A6 = some a → a.block ≠ v6.heap.size from fun hp a ha => by have := HR6.out.lt hp a ha; omega)
          replace E := Lib.hid (E.out.none hal)
          replace HM := Lib.hid (HM.out.kept hal (fun h => h) (fun h => h))
          replace Pu := Lib.hid (hal.blk Pu.out (fun h => h))
          replace Pv := Lib.hid (hal.blk Pv.out (fun h => h))
          replace HRu := Lib.hid (HRu.out.keptF hal (fun _ _ h => h))
          replace HRv := Lib.hid (HRv.out.keptF hal (fun _ _ h => h))
          replace HR5 := Lib.hid (HR5.out.keptF hal (fun _ _ h => h))
          replace HR6 := Lib.hid (HR6.out.keptF hal (fun _ _ h => h))
          clear hal
          generalize v6.alloc (.cells #[.int .i64 0, .slice none 0 0, .string ⟨#[]⟩, .bool false, .int .u64 0] 25) = Vx at *
          generalize v6.heap.size = bx at *
          refine hK.out _ _ ?_ (fun hHeld2 => ?_)
          · exact ⟨E.out.cfg, Pu.out, Pv.out⟩
          clear hK KK hHeld
          have hHeld := hHeld2
          clear hHeld2
          try simp only [Act.put, List.setIfInBounds_toArray, List.set_cons_zero, List.set_cons_succ]
          refine wpAnyH_ready (rs := [7]) (by kernel_rfl) (by simp) ?_
          refine AllReadyH.cons (o := ⟨some 13, _, _, _, _, _⟩) rfl (fun KK hK => ?_) AllReadyH.nil
          go_simp
          have hal := (Kept.refl (fun _ => False) Vx).alloc (.cells #[.int .i64 0, .slice none 0 0, .string ⟨#[]⟩, .bool false, .int .u64 0] 25)
          have HBz := Lib.hid (Blk.new Vx [.int .i64 0, .slice none 0 0, .string ⟨#[]⟩, .bool false, .int .u64 0] 25)
          have HNz := Lib.hid (show ¬ Own b g Vx.heap.size by have := HM.out.obj.lt; have := HM.out.row.lt; unfold Own; omega)
          have HOz := Lib.hid (show b9 < Vx.heap.size ∧ b10 < Vx.heap.size ∧ w.heap.size ≤ Vx.heap.size from ⟨E.out.cfg.lt, E.out.lay.lt, E.out.kept.size⟩)
          have HUz := Lib.hid (show pu < Vx.heap.size ∧ pv < Vx.heap.size from ⟨Pu.out.lt, Pv.out.lt⟩)
          have NE5z := Lib.hid (show 0 < P.xs.length → ∀ a, A5 = some a → a.block ≠ Vx.heap.size from fun hp a ha => by have := HR5.out.lt hp a ha; omega)
          have NE6z := Lib.hid (show 0 < Q.xs.length → ∀ a, A6 = some a → a.block ≠ Vx.heap.size from fun hp a ha => by have := HR6.out.lt hp a ha; omega)
          have HXZ := Lib.hid (show bx ≠ Vx.heap.size by have := HBx.out.lt; omega)
          replace E := Lib.hid (E.out.none hal)
          replace HM := Lib.hid (HM.out.kept hal (fun h => h) (fun h => h))
          replace Pu := Lib.hid (hal.blk Pu.out (fun h => h))
          replace Pv := Lib.hid (hal.blk Pv.out (fun h => h))
          replace HBx := Lib.hid (hal.blk HBx.out (fun h => h))
          replace HRu := Lib.hid (HRu.out.keptF hal (fun _ _ h => h))
          replace HRv := Lib.hid (HRv.out.keptF hal (fun _ _ h => h))
          replace HR5 := Lib.hid (HR5.out.keptF hal (fun _ _ h => h))
          replace HR6 := Lib.hid (HR6.out.keptF hal (fun _ _ h => h))
          clear hal
          generalize Vx.alloc (.cells #[.int .i64 0, .slice none 0 0, .string ⟨#[]⟩, .bool false, .int .u64 0] 25) = Vz at *
          generalize Vx.heap.size = bz at *
          refine hK.out _ _ ?_ (fun hHeld2 => ?_)
          · exact ⟨E.out.cfg, Pu.out, Pv.out⟩
          clear hK KK hHeld
          have hHeld := hHeld2
          clear hHeld2
          try simp only [Act.put, List.setIfInBounds_toArray, List.set_cons_zero, List.set_cons_succ]
          refine wpAnyH_ready (rs := [8]) (by kernel_rfl) (by simp) ?_
          refine AllReadyH.cons (o := ⟨none, _, _, _, _, _⟩) rfl (fun KK hK => ?_) AllReadyH.nil
          have u0 := HBx.out.cell (i := 0) rfl
          have zu0 := HBx.out.frozen 0
          have u1 := HBx.out.cell (i := 1) rfl
          have zu1 := HBx.out.frozen 1
          have u2 := HBx.out.cell (i := 2) rfl
          have zu2 := HBx.out.frozen 2
          have u3 := HBx.out.cell (i := 3) rfl
          have zu3 := HBx.out.frozen 3
          have u4 := HBx.out.cell (i := 4) rfl
          have zu4 := HBx.out.frozen 4
          go_simp
          clear u0 zu0 u1 zu1 u2 zu2 u3 zu3 u4 zu4
          have hkp := ((((((Kept.refl (fun i => i = bx) Vz).setCell (a := ⟨bx, 0, none⟩) (fun _ => rfl) (.int .i64 (P.lv : Int))).setCell (a := ⟨bx, 1, none⟩) (fun _ => rfl) (.slice A5 P.xs.length c5)).setCell (a := ⟨bx, 2, none⟩) (fun _ => rfl) (.string P.hi)).setCell (a := ⟨bx, 3, none⟩) (fun _ => rfl) (.bool P.la)).setCell (a := ⟨bx, 4, none⟩) (fun _ => rfl) (.int .u64 (P.rt : Int)))
          have hbs := (((((HBx.out.set 0 (.int .i64 (P.lv : Int))).set 1 (.slice A5 P.xs.length c5)).set 2 (.string P.hi)).set 3 (.bool P.la)).set 4 (.int .u64 (P.rt : Int)))
          replace HM := Lib.hid (HM.out.kept hkp (fun e => HNx.out (.inl e.symm)) (fun e => HNx.out (.inr e.symm)))
          replace E := Lib.hid (E.out.at HOx.out hkp)
          replace HR5 := Lib.hid (HR5.out.keptP hkp (fun hp a ha e => NE5x.out hp a ha e))
          replace HR6 := Lib.hid (HR6.out.keptP hkp (fun hp a ha e => NE6x.out hp a ha e))
          replace HBz := Lib.hid (hkp.blk HBz.out (fun e => by have := HXZ.out; omega))
          replace Pu := Lib.hid (hkp.blk Pu.out (fun e => by have := HUx.out; omega))
          replace Pv := Lib.hid (hkp.blk Pv.out (fun e => by have := HUx.out; omega))
          replace HBx := Lib.hid hbs
          clear hkp hbs
          generalize (((((Vz.setCell ⟨bx, 0, none⟩ (.int .i64 (P.lv : Int))).setCell ⟨bx, 1, none⟩ (.slice A5 P.xs.length c5)).setCell ⟨bx, 2, none⟩ (.string P.hi)).setCell ⟨bx, 3, none⟩ (.bool P.la)).setCell ⟨bx, 4, none⟩ (.int .u64 (P.rt : Int))) = Sx at *
          refine hK.out _ _ ?_ (fun hHeld2 => ?_)
          · exact ⟨E.out.cfg, Pu.out, Pv.out⟩
          clear hK KK hHeld
          have hHeld := hHeld2
          clear hHeld2
          try simp only [Act.put, List.setIfInBounds_toArray, List.set_cons_zero, List.set_cons_succ]
          refine wpAnyH_ready (rs := [9]) (by kernel_rfl) (by simp) ?_
          refine AllReadyH.cons (o := ⟨none, _, _, _, _, _⟩) rfl (fun KK hK => ?_) AllReadyH.nil
          have u0 := HBz.out.cell (i := 0) rfl
          have zu0 := HBz.out.frozen 0
          have u1 := HBz.out.cell (i := 1) rfl
          have zu1 := HBz.out.frozen 1
          have u2 := HBz.out.cell (i := 2) rfl
          have zu2 := HBz.out.frozen 2
          have u3 := HBz.out.cell (i := 3) rfl
          have zu3 := HBz.out.frozen 3
          have u4 := HBz.out.cell (i := 4) rfl
          have zu4 := HBz.out.frozen 4
          go_simp
          clear u0 zu0 u1 zu1 u2 zu2 u3 zu3 u4 zu4
          have hkp := ((((((Kept.refl (fun i => i = bz) Sx).setCell (a := ⟨bz, 0, none⟩) (fun _ => rfl) (.int .i64 (Q.lv : Int))).setCell (a := ⟨bz, 1, none⟩) (fun _ => rfl) (.slice A6 Q.xs.length c6)).setCell (a := ⟨bz, 2, none⟩) (fun _ => rfl) (.string Q.hi)).setCell (a := ⟨bz, 3, none⟩) (fun _ => rfl) (.bool Q.la)).setCell (a := ⟨bz, 4, none⟩) (fun _ => rfl) (.int .u64 (Q.rt : Int)))
          have hbs := (((((HBz.out.set 0 (.int .i64 (Q.lv : Int))).set 1 (.slice A6 Q.xs.length c6)).set 2 (.string Q.hi)).set 3 (.bool Q.la)).set 4 (.int .u64 (Q.rt : Int)))
          replace HM := Lib.hid (HM.out.kept hkp (fun e => HNz.out (.inl e.symm)) (fun e => HNz.out (.inr e.symm)))
          replace E := Lib.hid (E.out.at HOz.out hkp)
          replace HR5 := Lib.hid (HR5.out.keptP hkp (fun hp a ha e => NE5z.out hp a ha e))
          replace HR6 := Lib.hid (HR6.out.keptP hkp (fun hp a ha e => NE6z.out hp a ha e))
          replace HBx := Lib.hid (hkp.blk HBx.out (fun e => by have := HXZ.out; omega))
          replace Pu := Lib.hid (hkp.blk Pu.out (fun e => by have := HUz.out; omega))
          replace Pv := Lib.hid (hkp.blk Pv.out (fun e => by have := HUz.out; omega))
          replace HBz := Lib.hid hbs
          clear hkp hbs
          generalize (((((Sx.setCell ⟨bz, 0, none⟩ (.int .i64 (Q.lv : Int))).setCell ⟨bz, 1, none⟩ (.slice A6 Q.xs.length c6)).setCell ⟨bz, 2, none⟩ (.string Q.hi)).setCell ⟨bz, 3, none⟩ (.bool Q.la)).setCell ⟨bz, 4, none⟩ (.int .u64 (Q.rt : Int))) = Sz at *
          refine hK.out _ _ ?_ (fun hHeld2 => ?_)
          · exact ⟨E.out.cfg, Pu.out, Pv.out⟩
          clear hK KK hHeld
          have hHeld := hHeld2
          clear hHeld2
          try simp only [Act.put, List.setIfInBounds_toArray, List.set_cons_zero, List.set_cons_succ]
          refine wpAnyH_done (by kernel_rfl) ?_ _
          clear hHeld
          go_wp2
          go_meet
          exact ⟨bx, bz, A5, c5, A6, c6, rfl, rfl, E.out, HM.out, ⟨HBx.out, HR5.out, HNx.out, HA5.out⟩, ⟨HBz.out, HR6.out, HNz.out, HA6.out⟩⟩
        · go_simp
          have hal := (Kept.refl (fun _ => False) v6).alloc (.cells #[.int .i64 0, .slice none 0 0, .string ⟨#[]⟩, .bool false, .int .u64 0] 25)
          have HBz := Lib.hid (Blk.new v6 [.int .i64 0, .slice none 0 0, .string ⟨#[]⟩, .bool false, .int .u64 0] 25)
          have HNz := Lib.hid (show ¬ Own b g v6.heap.size by have := HM.out.obj.lt; have := HM.out.row.lt; unfold Own; omega)
          have HOz := Lib.hid (show b9 < v6.heap.size ∧ b10 < v6.heap.size ∧ w.heap.size ≤ v6.heap.size from ⟨E.out.cfg.lt, E.out.lay.lt, E.out.kept.size⟩)
          have HUz := Lib.hid (show pu < v6.heap.size ∧ pv < v6.heap.size from ⟨Pu.out.lt, Pv.out.lt⟩)
          have NE5z := Lib.hid (show 0 < P.xs.length → ∀ a, A5 = some a → a.block ≠ v6.heap.size from fun hp a ha => by have := HR5.out.lt hp a ha; omega)
          have NE6z := Lib.hid (show 0 < Q.xs.length → ∀ a, A6 = some a → a.block ≠ v6.heap.size from fun hp a ha => by have := HR6.out.lt hp a ha; omega)
          replace E := Lib.hid (E.out.none hal)
          replace HM := Lib.hid (HM.out.kept hal (fun h => h) (fun h => h))
          replace Pu := Lib.hid (hal.blk Pu.out (fun h => h))
          replace Pv := Lib.hid (hal.blk Pv.out (fun h => h))
          replace HRu := Lib.hid (HRu.out.keptF hal (fun _ _ h => h))
          replace HRv := Lib.hid (HRv.out.keptF hal (fun _ _ h => h))
          replace HR5 := Lib.hid (HR5.out.keptF hal (fun _ _ h => h))
          replace HR6 := Lib.hid (HR6.out.keptF hal (fun _ _ h => h))
          clear hal
          generalize v6.alloc (.cells #[.int .i64 0, .slice none 0 0, .string ⟨#[]⟩, .bool false, .int .u64 0] 25) = Vz at *
          generalize v6.heap.size = bz at *
          refine hK.out _ _ ?_ (fun hHeld2 => ?_)
          · exact ⟨E.out.cfg, Pu.out, Pv.out⟩
          clear hK KK hHeld
          have hHeld := hHeld2
          clear hHeld2
          try simp only [Act.put, List.setIfInBounds_toArray, List.set_cons_zero, List.set_cons_succ]
          refine wpAnyH_ready (rs := [6]) (by kernel_rfl) (by simp) ?_
          refine AllReadyH.cons (o := ⟨some 12, _, _, _, _, _⟩) rfl (fun KK hK => ?_) AllReadyH.nil
          go_simp
          have hal := (Kept.refl (fun _ => False) Vz).alloc (.cells #[.int .i64 0, .slice none 0 0, .string ⟨#[]⟩, .bool false, .int .u64 0] 25)
          have HBx := Lib.hid (Blk.new Vz [.int .i64 0, .slice none 0 0, .string ⟨#[]⟩, .bool false, .int .u64 0] 25)
          have HNx := Lib.hid (show ¬ Own b g Vz.heap.size by have := HM.out.obj.lt; have := HM.out.row.lt; unfold Own; omega)
          have HOx := Lib.hid (show b9 < Vz.heap.size ∧ b10 < Vz.heap.size ∧ w.heap.size ≤ Vz.heap.size from ⟨E.out.cfg.lt, E.out.lay.lt, E.out.kept.size⟩)
          have HUx := Lib.hid (show pu < Vz.heap.size ∧ pv < Vz.heap.size from ⟨Pu.out.lt, Pv.out.lt⟩)
          have NE5x := Lib.hid (show 0 < P.xs.length → ∀ a, A5 = some a → a.block ≠ Vz.heap.size from fun hp a ha => by have := HR5.out.lt hp a ha; omega)
          have NE6x := Lib.hid (show 0 < Q.xs.length → ∀ a, A6 = some a → a.block ≠ Vz.heap.size from fun hp a ha => by have := HR6.out.lt hp a ha; omega)
          have HXZ := Lib.hid (show bz ≠ Vz.heap.size by have := HBz.out.lt; omega)
          replace E := Lib.hid (E.out.none hal)
          replace HM := Lib.hid (HM.out.kept hal (fun h => h) (fun h => h))
          replace Pu := Lib.hid (hal.blk Pu.out (fun h => h))
          replace Pv := Lib.hid (hal.blk Pv.out (fun h => h))
          replace HBz := Lib.hid (hal.blk HBz.out (fun h => h))
          replace HRu := Lib.hid (HRu.out.keptF hal (fun _ _ h => h))
          replace HRv := Lib.hid (HRv.out.keptF hal (fun _ _ h => h))
          replace HR5 := Lib.hid (HR5.out.keptF hal (fun _ _ h => h))
          replace HR6 := Lib.hid (HR6.out.keptF hal (fun _ _ h => h))
          clear hal
          generalize Vz.alloc (.cells #[.int .i64 0, .slice none 0 0, .string ⟨#[]⟩, .bool false, .int .u64 0] 25) = Vx at *
          generalize Vz.heap.size = bx at *
          refine hK.out _ _ ?_ (fun hHeld2 => ?_)
          · exact ⟨E.out.cfg, Pu.out, Pv.out⟩
          clear hK KK hHeld
          have hHeld := hHeld2
          clear hHeld2
          try simp only [Act.put, List.setIfInBounds_toArray, List.set_cons_zero, List.set_cons_succ]
          refine wpAnyH_ready (rs := [8]) (by kernel_rfl) (by simp) ?_
          refine AllReadyH.cons (o := ⟨none, _, _, _, _, _⟩) rfl (fun KK hK => ?_) AllReadyH.nil
          have u0 := HBx.out.cell (i := 0) rfl
          have zu0 := HBx.out.frozen 0
          have u1 := HBx.out.cell (i := 1) rfl
          have zu1 := HBx.out.frozen 1
          have u2 := HBx.out.cell (i := 2) rfl
          have zu2 := HBx.out.frozen 2
          have u3 := HBx.out.cell (i := 3) rfl
          have zu3 := HBx.out.frozen 3
          have u4 := HBx.out.cell (i := 4) rfl
          have zu4 := HBx.out.frozen 4
          go_simp
          clear u0 zu0 u1 zu1 u2 zu2 u3 zu3 u4 zu4
          have hkp := ((((((Kept.refl (fun i => i = bx) Vx).setCell (a := ⟨bx, 0, none⟩) (fun _ => rfl) (.int .i64 (P.lv : Int))).setCell (a := ⟨bx, 1, none⟩) (fun _ => rfl) (.slice A5 P.xs.length c5)).setCell (a := ⟨bx, 2, none⟩) (fun _ => rfl) (.string P.hi)).setCell (a := ⟨bx, 3, none⟩) (fun _ => rfl) (.bool P.la)).setCell (a := ⟨bx, 4, none⟩) (fun _ => rfl) (.int .u64 (P.rt : Int)))
          have hbs := (((((HBx.out.set 0 (.int .i64 (P.lv : Int))).set 1 (.slice A5 P.xs.length c5)).set 2 (.string P.hi)).set 3 (.bool P.la)).set 4 (.int .u64 (P.rt : Int)))
          replace HM := Lib.hid (HM.out.kept hkp (fun e => HNx.out (.inl e.symm)) (fun e => HNx.out (.inr e.symm)))
          replace E := Lib.hid (E.out.at HOx.out hkp)
          replace HR5 := Lib.hid (HR5.out.keptP hkp (fun hp a ha e => NE5x.out hp a ha e))
          replace HR6 := Lib.hid (HR6.out.keptP hkp (fun hp a ha e => NE6x.out hp a ha e))
          replace HBz := Lib.hid (hkp.blk HBz.out (fun e => by have := HXZ.out; omega))
          replace Pu := Lib.hid (hkp.blk Pu.out (fun e => by have := HUx.out; omega))
          replace Pv := Lib.hid (hkp.blk Pv.out (fun e => by have := HUx.out; omega))
          replace HBx := Lib.hid hbs
          clear hkp hbs
          generalize (((((Vx.setCell ⟨bx, 0, none⟩ (.int .i64 (P.lv : Int))).setCell ⟨bx, 1, none⟩ (.slice A5 P.xs.length c5)).setCell ⟨bx, 2, none⟩ (.string P.hi)).setCell ⟨bx, 3, none⟩ (.bool P.la)).setCell ⟨bx, 4, none⟩ (.int .u64 (P.rt : Int))) = Sx at *
          refine hK.out _ _ ?_ (fun hHeld2 => ?_)
          · exact ⟨E.out.cfg, Pu.out, Pv.out⟩
          clear hK KK hHeld
          have hHeld := hHeld2
          clear hHeld2
          try simp only [Act.put, List.setIfInBounds_toArray, List.set_cons_zero, List.set_cons_succ]
          refine wpAnyH_ready (rs := [9]) (by kernel_rfl) (by simp) ?_
          refine AllReadyH.cons (o := ⟨none, _, _, _, _, _⟩) rfl (fun KK hK => ?_) AllReadyH.nil
          have u0 := HBz.out.cell (i := 0) rfl
          have zu0 := HBz.out.frozen 0
          have u1 := HBz.out.cell (i := 1) rfl
          have zu1 := HBz.out.frozen 1
          have u2 := HBz.out.cell (i := 2) rfl
          have zu2 := HBz.out.frozen 2
          have u3 := HBz.out.cell (i := 3) rfl
          have zu3 := HBz.out.frozen 3
          have u4 := HBz.out.cell (i := 4) rfl
          have zu4 := HBz.out.frozen 4
          go_simp
          clear u0 zu0 u1 zu1 u2 zu2 u3 zu3 u4 zu4
          have hkp := ((((((Kept.refl (fun i => i = bz) Sx).setCell (a := ⟨bz, 0, none⟩) (fun _ => rfl) (.int .i64 (Q.lv : Int))).setCell (a := ⟨bz, 1, none⟩) (fun _ => rfl) (.slice A6 Q.xs.length c6)).setCell (a := ⟨bz, 2, none⟩) (fun _ => rfl) (.string Q.hi)).setCell (a := ⟨bz, 3, none⟩) (fun _ => rfl) (.bool Q.la)).setCell (a := ⟨bz, 4, none⟩) (fun _ => rfl) (.int .u64 (Q.rt : Int)))
          have hbs := (((((HBz.out.set 0 (.int .i64 (Q.lv : Int))).set 1 (.slice A6 Q.xs.length c6)).set 2 (.string Q.hi)).set 3 (.bool Q.la)).set 4 (.int .u64 (Q.rt : Int)))
          replace HM := Lib.hid (HM.out.kept hkp (fun e => HNz.out (.inl e.symm)) (fun e => HNz.out (.inr e.symm)))
          replace E := Lib.hid (E.out.at HOz.out hkp)
          replace HR5 := Lib.hid (HR5.out.keptP hkp (fun hp a ha e => NE5z.out hp a ha e))
          replace HR6 := Lib.hid (HR6.out.keptP hkp (fun hp a ha e => NE6z.out hp a ha e))
          replace HBx := Lib.hid (hkp.blk HBx.out (fun e => by have := HXZ.out; omega))
          replace Pu := Lib.hid (hkp.blk Pu.out (fun e => by have := HUz.out; omega))
          replace Pv := Lib.hid (hkp.blk Pv.out (fun e => by have := HUz.out; omega))
          replace HBz := Lib.hid hbs
          clear hkp hbs
          generalize (((((Sx.setCell ⟨bz, 0, none⟩ (.int .i64 (Q.lv : Int))).setCell ⟨bz, 1, none⟩ (.slice A6 Q.xs.length c6)).setCell ⟨bz, 2, none⟩ (.string Q.hi)).setCell ⟨bz, 3, none⟩ (.bool Q.la)).setCell ⟨bz, 4, none⟩ (.int .u64 (Q.rt : Int))) = Sz at *
          refine hK.out _ _ ?_ (fun hHeld2 => ?_)
          · exact ⟨E.out.cfg, Pu.out, Pv.out⟩
          clear hK KK hHeld
          have hHeld := hHeld2
          clear hHeld2
          try simp only [Act.put, List.setIfInBounds_toArray, List.set_cons_zero, List.set_cons_succ]
          refine wpAnyH_done (by kernel_rfl) ?_ _
          clear hHeld
          go_wp2
          go_meet
          exact ⟨bx, bz, A5, c5, A6, c6, rfl, rfl, E.out, HM.out, ⟨HBx.out, HR5.out, HNx.out, HA5.out⟩, ⟨HBz.out, HR6.out, HNz.out, HA6.out⟩⟩
      · go_simp
        have hal := (Kept.refl (fun _ => False) v5).alloc (.cells #[.int .i64 0, .slice none 0 0, .string ⟨#[]⟩, .bool false, .int .u64 0] 25)
        have HBx := Lib.hid (Blk.new v5 [.int .i64 0, .slice none 0 0, .string ⟨#[]⟩, .bool false, .int .u64 0] 25)
        have HNx := Lib.hid (show ¬ Own b g v5.heap.size by have := HM.out.obj.lt; have := HM.out.row.lt; unfold Own; omega)
        have HOx := Lib.hid (show b9 < v5.heap.size ∧ b10 < v5.heap.size ∧ w.heap.size ≤ v5.heap.size from ⟨E.out.cfg.lt, E.out.lay.lt, E.out.kept.size⟩)
        have HUx := Lib.hid (show pu < v5.heap.size ∧ pv < v5.heap.size from ⟨Pu.out.lt, Pv.out.lt⟩)
        have NE5x := Lib.hid (show 0 < P.xs.length → ∀ a, A5 = some a → a.block ≠ v5.heap.size from fun hp a ha => by have := HR5.out.lt hp a ha; omega)
        replace E := Lib.hid (E.out.none hal)
        replace HM := Lib.hid (HM.out.kept hal (fun h => h) (fun h => h))
        replace Pu := Lib.hid (hal.blk Pu.out (fun h => h))
        replace Pv := Lib.hid (hal.blk Pv.out (fun h => h))
        replace HRu := Lib.hid (HRu.out.keptF hal (fun _ _ h => h))
        replace HRv := Lib.hid (HRv.out.keptF hal (fun _ _ h => h))
        replace HR5 := Lib.hid (HR5.out.keptF hal (fun _ _ h => h))
        clear hal
        generalize v5.alloc (.cells #[.int .i64 0, .slice none 0 0, .string ⟨#[]⟩, .bool false, .int .u64 0] 25) = Vx at *
        generalize v5.heap.size = bx at *
        refine hK.out _ _ ?_ (fun hHeld2 => ?_)
        · exact ⟨E.out.cfg, Pu.out, Pv.out⟩
        clear hK KK hHeld
        have hHeld := hHeld2
        clear hHeld2
        try simp only [Act.put, List.setIfInBounds_toArray, List.set_cons_zero, List.set_cons_succ]
        refine wpAnyH_ready (rs := [5, 7]) (by kernel_rfl) (by simp) ?_
        refine AllReadyH.cons (o := ⟨some 39, _, _, _, _, _⟩) rfl (fun KK hK => ?_) (AllReadyH.cons (o := ⟨some 13, _, _, _, _, _⟩) rfl (fun KK hK => ?_) AllReadyH.nil)
        · go_simp
          go_at_call 11
          refine (content_any F plv2 A2 c2 hi2 la2 rt2 xs2 0 _ n2 hn2 (by omega) HRv.out Q HQC.out).mono ?_; rintro e v6 ⟨A6, c6, rfl, hR, hA, hK9⟩
          have HA6 := Lib.hid (show ∀ a, A6 = some a → ¬ Own b g a.block from fun a ha e => by have := hA a ha; have := HM.out.obj.lt; have := HM.out.row.lt; unfold Own at e; omega)
          have NE6x := Lib.hid (show 0 < Q.xs.length → ∀ a, A6 = some a → a.block ≠ bx from fun _ a ha => by have := hA a ha; have := HBx.out.lt; omega)
          replace E := Lib.hid (E.out.none hK9)
          replace HM := Lib.hid (HM.out.kept hK9 (fun h => h) (fun h => h))
          replace Pu := Lib.hid (hK9.blk Pu.out (fun h => h))
          replace Pv := Lib.hid (hK9.blk Pv.out (fun h => h))
          replace HBx := Lib.hid (hK9.blk HBx.out (fun h => h))
          replace HRu := Lib.hid (HRu.out.keptF hK9 (fun _ _ h => h))
          replace HRv := Lib.hid (HRv.out.keptF hK9 (fun _ _ h => h))
          replace HR5 := Lib.hid (HR5.out.keptF hK9 (fun _ _ h => h))
          have HR6 := Lib.hid hR
          clear hR hA hK9
          refine hK.out _ _ ?_ (fun hHeld2 => ?_)
          · exact ⟨E.out.cfg, Pu.out, Pv.out⟩
          clear hK KK hHeld
          have hHeld := hHeld2
          clear hHeld2
          try simp only [Act.put, List.setIfInBounds_toArray, List.set_cons_zero, List.set_cons_succ]
          refine wpAnyH_ready (rs := [7]) (by kernel_rfl) (by simp) ?_
          refine AllReadyH.cons (o := ⟨some 13, _, _, _, _, _⟩) rfl (fun KK hK => ?_) AllReadyH.nil
          go_simp
          have hal := (Kept.refl (fun _ => False) v6).alloc (.cells #[.int .i64 0, .slice none 0 0, .string ⟨#[]⟩, .bool false, .int .u64 0] 25)
          have HBz := Lib.hid (Blk.new v6 [.int .i64 0, .slice none 0 0, .string ⟨#[]⟩, .bool false, .int .u64 0] 25)
          have HNz := Lib.hid (show ¬ Own b g v6.heap.size by have := HM.out.obj.lt; have := HM.out.row.lt; unfold Own; omega)
          have HOz := Lib.hid (show b9 < v6.heap.size ∧ b10 < v6.heap.size ∧ w.heap.size ≤ v6.heap.size from ⟨E.out.cfg.lt, E.out.lay.lt, E.out.kept.size⟩)
          have HUz := Lib.hid (show pu < v6.heap.size ∧ pv < v6.heap.size from ⟨Pu.out.lt, Pv.out.lt⟩)
          have NE5z := Lib.hid (show 0 < P.xs.length → ∀ a, A5 = some a → a.block ≠ v6.heap.size from fun hp a ha => by have := HR5.out.lt hp a ha; omega)
          have NE6z := Lib.hid (show 0 < Q.xs.length → ∀ a, A6 = some a → a.block ≠ v6.heap.size from fun hp a ha => by have := HR6.out.lt hp a ha; omega)
          have HXZ := Lib.hid (show bx ≠ v6.heap.size by have := HBx.out.lt; omega)
          replace E := Lib.hid (E.out.none hal)
          replace HM := Lib.hid (HM.out.kept hal (fun h => h) (fun h => h))
          replace Pu := Lib.hid (hal.blk Pu.out (fun h => h))
          replace Pv := Lib.hid (hal.blk Pv.out (fun h => h))
          replace HBx := Lib.hid (hal.blk HBx.out (fun h => h))
          replace HRu := Lib.hid (HRu.out.keptF hal (fun _ _ h => h))
          replace HRv := Lib.hid (HRv.out.keptF hal (fun _ _ h => h))
          replace HR5 := Lib.hid (HR5.out.keptF hal (fun _ _ h => h))
          replace HR6 := Lib.hid (HR6.out.keptF hal (fun _ _ h => h))
          clear hal
          generalize v6.alloc (.cells #[.int .i64 0, .slice none 0 0, .string ⟨#[]⟩, .bool false, .int .u64 0] 25) = Vz at *
          generalize v6.heap.size = bz at *
          refine hK.out _ _ ?_ (fun hHeld2 => ?_)
          · exact ⟨E.out.cfg, Pu.out, Pv.out⟩
          clear hK KK hHeld
          have hHeld := hHeld2
          clear hHeld2
          try simp only [Act.put, List.setIfInBounds_toArray, List.set_cons_zero, List.set_cons_succ]
          refine wpAnyH_ready (rs := [8]) (by kernel_rfl) (by simp) ?_
          refine AllReadyH.cons (o := ⟨none, _, _, _, _, _⟩) rfl (fun KK hK => ?_) AllReadyH.nil
          have u0 := HBx.out.cell (i := 0) rfl
          have zu0 := HBx.out.frozen 0
          have u1 := HBx.out.cell (i := 1) rfl
          have zu1 := HBx.out.frozen 1
          have u2 := HBx.out.cell (i := 2) rfl
          have zu2 := HBx.out.frozen 2
          have u3 := HBx.out.cell (i := 3) rfl
          have zu3 := HBx.out.frozen 3
          have u4 := HBx.out.cell (i := 4) rfl
          have zu4 := HBx.out.frozen 4
          go_simp
          clear u0 zu0 u1 zu1 u2 zu2 u3 zu3 u4 zu4
          have hkp := ((((((Kept.refl (fun i => i = bx) Vz).setCell (a := ⟨bx, 0, none⟩) (fun _ => rfl) (.int .i64 (P.lv : Int))).setCell (a := ⟨bx, 1, none⟩) (fun _ => rfl) (.slice A5 P.xs.length c5)).setCell (a := ⟨bx, 2, none⟩) (fun _ => rfl) (.string P.hi)).setCell (a := ⟨bx, 3, none⟩) (fun _ => rfl) (.bool P.la)).setCell (a := ⟨bx, 4, none⟩) (fun _ => rfl) (.int .u64 (P.rt : Int)))
          have hbs := (((((HBx.out.set 0 (.int .i64 (P.lv : Int))).set 1 (.slice A5 P.xs.length c5)).set 2 (.string P.hi)).set 3 (.bool P.la)).set 4 (.int .u64 (P.rt : Int)))
          replace HM := Lib.hid (HM.out.kept hkp (fun e => HNx.out (.inl e.symm)) (fun e => HNx.out (.inr e.symm)))
          replace E := Lib.hid (E.out.at HOx.out hkp)
          replace HR5 := Lib.hid (HR5.out.keptP hkp (fun hp a ha e => NE5x.out hp a ha e))
          replace HR6 := Lib.hid (HR6.out.keptP hkp (fun hp a ha e => NE6x.out hp a ha e))
          replace HBz := Lib.hid (hkp.blk HBz.out (fun e => by have := HXZ.out; omega))
          replace Pu := Lib.hid (hkp.blk Pu.out (fun e => by have := HUx.out; omega))
          replace Pv := Lib.hid (hkp.blk Pv.out (fun e => by have := HUx.out; omega))
          replace HBx := Lib.hid hbs
          clear hkp hbs
          generalize (((((Vz.setCell ⟨bx, 0, none⟩ (.int .i64 (P.lv : Int))).setCell ⟨bx, 1, none⟩ (.slice A5 P.xs.length c5)).setCell ⟨bx, 2, none⟩ (.string P.hi)).setCell ⟨bx, 3, none⟩ (.bool P.la)).setCell ⟨bx, 4, none⟩ (.int .u64 (P.rt : Int))) = Sx at *
          refine hK.out _ _ ?_ (fun hHeld2 => ?_)
          · exact ⟨E.out.cfg, Pu.out, Pv.out⟩
          clear hK KK hHeld
          have hHeld := hHeld2
          clear hHeld2
          try simp only [Act.put, List.setIfInBounds_toArray, List.set_cons_zero, List.set_cons_succ]
          refine wpAnyH_ready (rs := [9]) (by kernel_rfl) (by simp) ?_
          refine AllReadyH.cons (o := ⟨none, _, _, _, _, _⟩) rfl (fun KK hK => ?_) AllReadyH.nil
          have u0 := HBz.out.cell (i := 0) rfl
          have zu0 := HBz.out.frozen 0
          have u1 := HBz.out.cell (i := 1) rfl
          have zu1 := HBz.out.frozen 1
          have u2 := HBz.out.cell (i := 2) rfl
          have zu2 := HBz.out.frozen 2
          have u3 := HBz.out.cell (i := 3) rfl
          have zu3 := HBz.out.frozen 3
          have u4 := HBz.out.cell (i := 4) rfl
          have zu4 := HBz.out.frozen 4
          go_simp
          clear u0 zu0 u1 zu1 u2 zu2 u3 zu3 u4 zu4
          have hkp := ((((((Kept.refl (fun i => i = bz) Sx).setCell (a := ⟨bz, 0, none⟩) (fun _ => rfl) (.int .i64 (Q.lv : Int))).setCell (a := ⟨bz, 1, none⟩) (fun _ => rfl) (.slice A6 Q.xs.length c6)).setCell (a := ⟨bz, 2, none⟩) (fun _ => rfl) (.string Q.hi)).setCell (a := ⟨bz, 3, none⟩) (fun _ => rfl) (.bool Q.la)).setCell (a := ⟨bz, 4, none⟩) (fun _ => rfl) (.int .u64 (Q.rt : Int)))
          have hbs := (((((HBz.out.set 0 (.int .i64 (Q.lv : Int))).set 1 (.slice A6 Q.xs.length c6)).set 2 (.string Q.hi)).set 3 (.bool Q.la)).set 4 (.int .u64 (Q.rt : Int)))
          replace HM := Lib.hid (HM.out.kept hkp (fun e => HNz.out (.inl e.symm)) (fun e => HNz.out (.inr e.symm)))
          replace E := Lib.hid (E.out.at HOz.out hkp)
          replace HR5 := Lib.hid (HR5.out.keptP hkp (fun hp a ha e => NE5z.out hp a ha e))
          replace HR6 := Lib.hid (HR6.out.keptP hkp (fun hp a ha e => NE6z.out hp a ha e))
          replace HBx := Lib.hid (hkp.blk HBx.out (fun e => by have := HXZ.out; omega))
          replace Pu := Lib.hid (hkp.blk Pu.out (fun e => by have := HUz.out; omega))
          replace Pv := Lib.hid (hkp.blk Pv.out (fun e => by have := HUz.out; omega))
          replace HBz := Lib.hid hbs
          clear hkp hbs
          generalize (((((Sx.setCell ⟨bz, 0, none⟩ (.int .i64 (Q.lv : Int))).setCell ⟨bz, 1, none⟩ (.slice A6 Q.xs.length c6)).setCell ⟨bz, 2, none⟩ (.string Q.hi)).setCell ⟨bz, 3, none⟩ (.bool Q.la)).setCell ⟨bz, 4, none⟩ (.int .u64 (Q.rt : Int))) = Sz at *
          refine hK.out _ _ ?_ (fun hHeld2 => ?_)
          · exact ⟨E.out.cfg, Pu.out, Pv.out⟩
          clear hK KK hHeld
          have hHeld := hHeld2
          clear hHeld2
          try simp only [Act.put, List.setIfInBounds_toArray, List.set_cons_zero, List.set_cons_succ]
          refine wpAnyH_done (by kernel_rfl) ?_ _
          clear hHeld
          go_wp2
          go_meet
          exact ⟨bx, bz, A5, c5, A6, c6, rfl, rfl, E.out, HM.out, ⟨HBx.out, HR5.out, HNx.out, HA5.out⟩, ⟨HBz.out, HR6.out, HNz.out, HA6.out⟩⟩
        · go_simp
          have hal := (Kept.refl (fun _ => False) Vx).alloc (.cells #[.int .i64 0, .slice none 0 0, .string ⟨#[]⟩, .bool false, .int .u64 0] 25)
          have HBz := Lib.hid (Blk.new Vx [.int .i64 0, .slice none 0 0, .string ⟨#[]⟩, .bool false, .int .u64 0] 25)
          have HNz := Lib.hid (show ¬ Own b g Vx.heap.size by have := HM.out.obj.lt; have := HM.out.row.lt; unfold Own; omega)
          have HOz := Lib.hid (show b9 < Vx.heap.size ∧ b10 < Vx.heap.size ∧ w.heap.size ≤ Vx.heap.size from ⟨E.out.cfg.lt, E.out.lay.lt, E.out.kept.size⟩)
          have HUz := Lib.hid (show pu < Vx.heap.size ∧ pv < Vx.heap.size from ⟨Pu.out.lt, Pv.out.lt⟩)
          have NE5z := Lib.hid (show 0 < P.xs.length → ∀ a, A5 = some a → a.block ≠ Vx.heap.size from fun hp a ha => by have := HR5.out.lt hp a ha; omega)
          have HXZ := Lib.hid (show bx ≠ Vx.heap.size by have := HBx.out.lt; omega)
          replace E := Lib.hid (E.out.none hal)
          replace HM := Lib.hid (HM.out.kept hal (fun h => h) (fun h => h))
          replace Pu := Lib.hid (hal.blk Pu.out (fun h => h))
          replace Pv := Lib.hid (hal.blk Pv.out (fun h => h))
          replace HBx := Lib.hid (hal.blk HBx.out (fun h => h))
          replace HRu := Lib.hid (HRu.out.keptF hal (fun _ _ h => h))
          replace HRv := Lib.hid (HRv.out.keptF hal (fun _ _ h => h))
          replace HR5 := Lib.hid (HR5.out.keptF hal (fun _ _ h => h))
          clear hal
          generalize Vx.alloc (.cells #[.int .i64 0, .slice none 0 0, .string ⟨#[]⟩, .bool false, .int .u64 0] 25) = Vz at *
          generalize Vx.heap.size = bz at *
          refine hK.out _ _ ?_ (fun hHeld2 => ?_)
          · exact ⟨E.out.cfg, Pu.out, Pv.out⟩
          clear hK KK hHeld
          have hHeld := hHeld2
          clear hHeld2
          try simp only [Act.put, List.setIfInBounds_toArray, List.set_cons_zero, List.set_cons_succ]
          refine wpAnyH_ready (rs := [5]) (by kernel_rfl) (by simp) ?_
          refine AllReadyH.cons (o := ⟨some 39, _, _, _, _, _⟩) rfl (fun KK hK => ?_) AllReadyH.nil
          go_simp
          go_at_call 11
          refine (content_any F plv2 A2 c2 hi2 la2 rt2 xs2 0 _ n2 hn2 (by omega) HRv.out Q HQC.out).mono ?_; rintro e v6 ⟨A6, c6, rfl, hR, hA, hK9⟩
          have HA6 := Lib.hid (show ∀ a, A6 = some a → ¬ Own b g a.block from fun a ha e => by have := hA a ha; have := HM.out.obj.lt; have := HM.out.row.lt; unfold Own at e; omega)
          have NE6x := Lib.hid (show 0 < Q.xs.length → ∀ a, A6 = some a → a.block ≠ bx from fun _ a ha => by have := hA a ha; have := HBx.out.lt; omega)
          have NE6z := Lib.hid (show 0 < Q.xs.length → ∀ a, A6 = some a → a.block ≠ bz from fun _ a ha => by have := hA a ha; have := HBz.out.lt; omega)
          replace E := Lib.hid (E.out.none hK9)
          replace HM := Lib.hid (HM.out.kept hK9 (fun h => h) (fun h => h))
          replace Pu := Lib.hid (hK9.blk Pu.out (fun h => h))
          replace Pv := Lib.hid (hK9.blk Pv.out (fun h => h))
          replace HBx := Lib.hid (hK9.blk HBx.out (fun h => h))
          replace HBz := Lib.hid (hK9.blk HBz.out (fun h => h))
          replace HRu := Lib.hid (HRu.out.keptF hK9 (fun _ _ h => h))
          replace HRv := Lib.hid (HRv.out.keptF hK9 (fun _ _ h => h))
          replace HR5 := Lib.hid (HR5.out.keptF hK9 (fun _ _ h => h))
          have HR6 := Lib.hid hR
          clear hR hA hK9
          refine hK.out _ _ ?_ (fun hHeld2 => ?_)
          · exact ⟨E.out.cfg, Pu.out, Pv.out⟩
          clear hK KK hHeld
          have hHeld := hHeld2
          clear hHeld2
          try simp only [Act.put, List.setIfInBounds_toArray, List.set_cons_zero, List.set_cons_succ]
          refine wpAnyH_ready (rs := [8]) (by kernel_rfl) (by simp) ?_
          refine AllReadyH.cons (o := ⟨none, _, _, _, _, _⟩) rfl (fun KK hK => ?_) AllReadyH.nil
          have u0 := HBx.out.cell (i := 0) rfl
          have zu0 := HBx.out.frozen 0
          have u1 := HBx.out.cell (i := 1) rfl
          have zu1 := HBx.out.frozen 1
          have u2 := HBx.out.cell (i := 2) rfl
          have zu2 := HBx.out.frozen 2
          have u3 := HBx.out.cell (i := 3) rfl
          have zu3 := HBx.out.frozen 3
          have u4 := HBx.out.cell (i := 4) rfl
          have zu4 := HBx.out.frozen 4
          go_simp
          clear u0 zu0 u1 zu1 u2 zu2 u3 zu3 u4 zu4
          have hkp := ((((((Kept.refl (fun i => i = bx) v6).setCell (a := ⟨bx, 0, none⟩) (fun _ => rfl) (.int .i64 (P.lv : Int))).setCell (a := ⟨bx, 1, none⟩) (fun _ => rfl) (.slice A5 P.xs.length c5)).setCell (a := ⟨bx, 2, none⟩) (fun _ => rfl) (.string P.hi)).setCell (a := ⟨bx, 3, none⟩) (fun _ => rfl) (.bool P.la)).setCell (a := ⟨bx, 4, none⟩) (fun _ => rfl) (.int .u64 (P.rt : Int)))
          have hbs := (((((HBx.out.set 0 (.int .i64 (P.lv : Int))).set 1 (.slice A5 P.xs.length c5)).set 2 (.string P.hi)).set 3 (.bool P.la)).set 4 (.int .u64 (P.rt : Int)))
          replace HM := Lib.hid (HM.out.kept hkp (fun e => HNx.out (.inl e.symm)) (fun e => HNx.out (.inr e.symm)))
          replace E := Lib.hid (E.out.at HOx.out hkp)
          replace HR5 := Lib.hid (HR5.out.keptP hkp (fun hp a ha e => NE5x.out hp a ha e))
          replace HR6 := Lib.hid (HR6.out.keptP hkp (fun hp a ha e => NE6x.out hp a ha e))
          replace HBz := Lib.hid (hkp.blk HBz.out (fun e => by have := HXZ.out; omega))
          replace Pu := Lib.hid (hkp.blk Pu.out (fun e => by have := HUx.out; omega))
          replace Pv := Lib.hid (hkp.blk Pv.out (fun e => by have := HUx.out; omega))
          replace HBx := Lib.hid hbs
          clear hkp hbs
          generalize (((((v6.setCell ⟨bx, 0, none⟩ (.int .i64 (P.lv : Int))).setCell ⟨bx, 1, none⟩ (.slice A5 P.xs.length c5)).setCell ⟨bx, 2, none⟩ (.string P.hi)).setCell ⟨bx, 3, none⟩ (.bool P.la)).setCell ⟨bx, 4, none⟩ (.int .u64 (P.rt : Int))) = Sx at *
          refine hK.out _ _ ?_ (fun hHeld2 => ?_)
          · exact ⟨E.out.cfg, Pu.out, Pv.out⟩
          clear hK KK hHeld
          have hHeld := hHeld2
          clear hHeld2
          try simp only [Act.put, List.setIfInBounds_toArray, List.set_cons_zero, List.set_cons_succ]
          refine wpAnyH_ready (rs := [9]) (by kernel_rfl) (by simp) ?_
          refine AllReadyH.cons (o := ⟨none, _, _, _, _, _⟩) rfl (fun KK hK => ?_) AllReadyH.nil
          have u0 := HBz.out.cell (i := 0) rfl
          have zu0 := HBz.out.frozen 0
          have u1 := HBz.out.cell (i := 1) rfl
          have zu1 := HBz.out.frozen 1
          have u2 := HBz.out.cell (i := 2) rfl
          have zu2 := HBz.out.frozen 2
          have u3 := HBz.out.cell (i := 3) rfl
          have zu3 := HBz.out.frozen 3
          have u4 := HBz.out.cell (i := 4) rfl
          have zu4 := HBz.out.frozen 4
          go_simp
          clear u0 zu0 u1 zu1 u2 zu2 u3 zu3 u4 zu4
          have hkp := ((((((Kept.refl (fun i => i = bz) Sx).setCell (a := ⟨bz, 0, none⟩) (fun _ => rfl) (.int .i64 (Q.lv : Int))).setCell (a := ⟨bz, 1, none⟩) (fun _ => rfl) (.slice A6 Q.xs.length c6)).setCell (a := ⟨bz, 2, none⟩) (fun _ => rfl) (.string Q.hi)).setCell (a := ⟨bz, 3, none⟩) (fun _ => rfl) (.bool Q.la)).setCell (a := ⟨bz, 4, none⟩) (fun _ => rfl) (.int .u64 (Q.rt : Int)))
          have hbs := (((((HBz.out.set 0 (.int .i64 (Q.lv : Int))).set 1 (.slice A6 Q.xs.length c6)).set 2 (.string Q.hi)).set 3 (.bool Q.la)).set 4 (.int .u64 (Q.rt : Int)))
          replace HM := Lib.hid (HM.out.kept hkp (fun e => HNz.out (.inl e.symm)) (fun e => HNz.out (.inr e.symm)))
          replace E := Lib.hid (E.out.at HOz.out hkp)
          replace HR5 := Lib.hid (HR5.out.keptP hkp (fun hp a ha e => NE5z.out hp a ha e))
          replace HR6 := Lib.hid (HR6.out.keptP hkp (fun hp a ha e => NE6z.out hp a ha e))
          replace HBx := Lib.hid (hkp.blk HBx.out (fun e => by have := HXZ.out; omega))
          replace Pu := Lib.hid (hkp.blk Pu.out (fun e => by have := HUz.out; omega))
          replace Pv := Lib.hid (hkp.blk Pv.out (fun e => by have := HUz.out; omega))
          replace HBz := Lib.hid hbs
          clear hkp hbs
          generalize (((((Sx.setCell ⟨bz, 0, none⟩ (.int .i64 (Q.lv : Int))).setCell ⟨bz, 1, none⟩ (.slice A6 Q.xs.length c6)).setCell ⟨bz, 2, none⟩ (.string Q.hi)).setCell ⟨bz, 3, none⟩ (.bool Q.la)).setCell ⟨bz, 4, none⟩ (.int .u64 (Q.rt : Int))) = Sz at *
          refine hK.out _ _ ?_ (fun hHeld2 => ?_)
          · exact ⟨E.out.cfg, Pu.out, Pv.out⟩
          clear hK KK hHeld
          have hHeld := hHeld2
          clear hHeld2
          try simp only [Act.put, List.setIfInBounds_toArray, List.set_cons_zero, List.set_cons_succ]
          refine wpAnyH_done (by kernel_rfl) ?_ _
          clear hHeld
          go_wp2
          go_meet
          exact ⟨bx, bz, A5, c5, A6, c6, rfl, rfl, E.out, HM.out, ⟨HBx.out, HR5.out, HNx.out, HA5.out⟩, ⟨HBz.out, HR6.out, HNz.out, HA6.out⟩⟩
      · go_simp
        have hal := (Kept.refl (fun _ => False) v5).alloc (.cells #[.int .i64 0, .slice none 0 0, .string ⟨#[]⟩, .bool false, .int .u64 0] 25)
        have HBz := Lib.hid (Blk.new v5 [.int .i64 0, .slice none 0 0, .string ⟨#[]⟩, .bool false, .int .u64 0] 25)
        have HNz := Lib.hid (show ¬ Own b g v5.heap.size by have := HM.out.obj.lt; have := HM.out.row.lt; unfold Own; omega)
        have HOz := Lib.hid (show b9 < v5.heap.size ∧ b10 < v5.heap.size ∧ w.heap.size ≤ v5.heap.size from ⟨E.out.cfg.lt, E.out.lay.lt, E.out.kept.size⟩)
        have HUz := Lib.hid (show pu < v5.heap.size ∧ pv < v5.heap.size from ⟨Pu.out.lt, Pv.out.lt⟩)
        have NE5z := Lib.hid (show 0 < P.xs.length → ∀ a, A5 = some a → a.block ≠ v5.heap.size from fun hp a ha => by have := HR5.out.lt hp a ha; omega)
        replace E := Lib.hid (E.out.none hal)
        replace HM := Lib.hid (HM.out.kept hal (fun h => h) (fun h => h))
        replace Pu := Lib.hid (hal.blk Pu.out (fun h => h))
        replace Pv := Lib.hid (hal.blk Pv.out (fun h => h))
        replace HRu := Lib.hid (HRu.out.keptF hal (fun _ _ h => h))
        replace HRv := Lib.hid (HRv.out.keptF hal (fun _ _ h => h))
        replace HR5 := Lib.hid (HR5.out.keptF hal (fun _ _ h => h))
        clear hal
        generalize v5.alloc (.cells #[.int .i64 0, .slice none 0 0, .string ⟨#[]⟩, .bool false, .int .u64 0] 25) = Vz at *
        generalize v5.heap.size = bz at *
        refine hK.out _ _ ?_ (fun hHeld2 => ?_)
        · exact ⟨E.out.cfg, Pu.out, Pv.out⟩
        clear hK KK hHeld
        have hHeld := hHeld2
        clear hHeld2
        try simp only [Act.put, List.setIfInBounds_toArray, List.set_cons_zero, List.set_cons_succ]
        refine wpAnyH_ready (rs := [5, 6]) (by kernel_rfl) (by simp) ?_
        refine AllReadyH.cons (o := ⟨some 39, _, _, _, _, _⟩) rfl (fun KK hK => ?_) (AllReadyH.cons (o := ⟨some 12, _, _, _, _, _⟩) rfl (fun KK hK => ?_) AllReadyH.nil)
        · go_simp
          go_at_call 11
          refine (content_any F plv2 A2 c2 hi2 la2 rt2 xs2 0 _ n2 hn2 (by omega) HRv.out Q HQC.out).mono ?_; rintro e v6 ⟨A6, c6, rfl, hR, hA, hK9⟩
          have HA6 := Lib.hid (show ∀ a, A6 = some a → ¬ Own b g a.block from fun a ha e => by have := hA a ha; have := HM.out.obj.lt; have := HM.out.row.lt; unfold Own at e; omega)
          have NE6z := Lib.hid (show 0 < Q.xs.length → ∀ a, A6 = some a → a.block ≠ bz from fun _ a ha => by have := hA a ha; have := HBz.out.lt; omega)
          replace E := Lib.hid (E.out.none hK9)
          replace HM := Lib.hid (HM.out.kept hK9 (fun h => h) (fun h => h))
          replace Pu := Lib.hid (hK9.blk Pu.out (fun h => h))
          replace Pv := Lib.hid (hK9.blk Pv.out (fun h => h))
          replace HBz := Lib.hid (hK9.blk HBz.out (fun h => h))
          replace HRu := Lib.hid (HRu.out.keptF hK9 (fun _ _ h => h))
          replace HRv := Lib.hid (HRv.out.keptF hK9 (fun _ _ h => h))
          replace HR5 := Lib.hid (HR5.out.keptF hK9 (fun _ _ h => h))
          have HR6 := Lib.hid hR
          clear hR hA hK9
          refine hK.out _ _ ?_ (fun hHeld2 => ?_)
          · exact ⟨E.out.cfg, Pu.out, Pv.out⟩
          clear hK KK hHeld
          have hHeld := hHeld2
          clear hHeld2
          try simp only [Act.put, List.setIfInBounds_toArray, List.set_cons_zero, List.set_cons_succ]
          refine wpAnyH_ready (rs := [6]) (by kernel_rfl) (by simp) ?_
          refine AllReadyH.cons (o := ⟨some 12, _, _, _, _, _⟩) rfl (fun KK hK => ?_) AllReadyH.nil
          go_simp
          have hal := (Kept.refl (fun _ => False) v6).alloc (.cells #[.int .i64 0, .slice none 0 0, .string ⟨#[]⟩, .bool false, .int .u64 0] 25)
          have HBx := Lib.hid (Blk.new v6 [.int .i64 0, .slice none 0 0, .string ⟨#[]⟩, .bool false, .int .u64 0] 25)
          have HNx := Lib.hid (show ¬ Own b g v6.heap.size by have := HM.out.obj.lt; have := HM.out.row.lt; unfold Own; omega)
          have HOx := Lib.hid (show b9 < v6.heap.size ∧ b10 < v6.heap.size ∧ w.heap.size ≤ v6.heap.size from ⟨E.out.cfg.lt, E.out.lay.lt, E.out.kept.size⟩)
          have HUx := Lib.hid (show pu < v6.heap.size ∧ pv < v6.heap.size from ⟨Pu.out.lt, Pv.out.lt⟩)
          have NE5x := Lib.hid (show 0 < P.xs.length → ∀ a, A5 = some a → a.block ≠ v6.heap.size from fun hp a ha => by have := HR5.out.lt hp a ha; omega)
          have NE6x := Lib.hid (show 0 < Q.xs.length → ∀ a, A6 = some a → a.block ≠ v6.heap.size from fun hp a ha => by have := HR6.out.lt hp a ha; omega)
          have HXZ := Lib.hid (show bz ≠ v6.heap.size by have := HBz.out.lt; omega)
          replace E := Lib.hid (E.out.none hal)
          replace HM := Lib.hid (HM.out.kept hal (fun h => h) (fun h => h))
          replace Pu := Lib.hid (hal.blk Pu.out (fun h => h))
          replace Pv := Lib.hid (hal.blk Pv.out (fun h => h))
          replace HBz := Lib.hid (hal.blk HBz.out (fun h => h))
          replace HRu := Lib.hid (HRu.out.keptF hal (fun _ _ h => h))
          replace HRv := Lib.hid (HRv.out.keptF hal (fun _ _ h => h))
          replace HR5 := Lib.hid (HR5.out.keptF hal (fun _ _ h => h))
          replace HR6 := Lib.hid (HR6.out.keptF hal (fun _ _ h => h))
          clear hal
          generalize v6.alloc (.cells #[.int .i64 0, .slice none 0 0, .string ⟨#[]⟩, .bool false, .int .u64 0] 25) = Vx at *
          generalize v6.heap.size = bx at *
          refine hK.out _ _ ?_ (fun hHeld2 => ?_)
          · exact ⟨E.out.cfg, Pu.out, Pv.out⟩
          clear hK KK hHeld
          have hHeld := hHeld2
          clear hHeld2
          try simp only [Act.put, List.setIfInBounds_toArray, List.set_cons_zero, List.set_cons_succ]
          refine wpAnyH_ready (rs := [8]) (by kernel_rfl) (by simp) ?_
          refine AllReadyH.cons (o := ⟨none, _, _, _, _, _⟩) rfl (fun KK hK => ?_) AllReadyH.nil
          have u0 := HBx.out.cell (i := 0) rfl
          have zu0 := HBx.out.frozen 0
          have u1 := HBx.out.cell (i := 1) rfl
          have zu1 := HBx.out.frozen 1
          have u2 := HBx.out.cell (i := 2) rfl
          have zu2 := HBx.out.frozen 2
          have u3 := HBx.out.cell (i := 3) rfl
          have zu3 := HBx.out.frozen 3
          have u4 := HBx.out.cell (i := 4) rfl
          have zu4 := HBx.out.frozen 4
          go_simp
          clear u0 zu0 u1 zu1 u2 zu2 u3 zu3 u4 zu4
          have hkp := ((((((Kept.refl (fun i => i = bx) Vx).setCell (a := ⟨bx, 0, none⟩) (fun _ => rfl) (.int .i64 (P.lv : Int))).setCell (a := ⟨bx, 1, none⟩) (fun _ => rfl) (.slice A5 P.xs.length c5)).setCell (a := ⟨bx, 2, none⟩) (fun _ => rfl) (.string P.hi)).setCell (a := ⟨bx, 3, none⟩) (fun _ => rfl) (.bool P.la)).setCell (a := ⟨bx, 4, none⟩) (fun _ => rfl) (.int .u64 (P.rt : Int)))
          have hbs := (((((HBx.out.set 0 (.int .i64 (P.lv : Int))).set 1 (.slice A5 P.xs.length c5)).set 2 (.string P.hi)).set 3 (.bool P.la)).set 4 (.int .u64 (P.rt : Int)))
          replace HM := Lib.hid (HM.out.kept hkp (fun e => HNx.out (.inl e.symm)) (fun e => HNx.out (.inr e.symm)))
          replace E := Lib.hid (E.out.at HOx.out hkp)
          replace HR5 := Lib.hid (HR5.out.keptP hkp (fun hp a ha e => NE5x.out hp a ha e))
          replace HR6 := Lib.hid (HR6.out.keptP hkp (fun hp a ha e => NE6x.out hp a ha e))
          replace HBz := Lib.hid (hkp.blk HBz.out (fun e => by have := HXZ.out; omega))
          replace Pu := Lib.hid (hkp.blk Pu.out (fun e => by have := HUx.out; omega))
          replace Pv := Lib.hid (hkp.blk Pv.out (fun e => by have := HUx.out; omega))
          replace HBx := Lib.hid hbs
          clear hkp hbs
          generalize (((((Vx.setCell ⟨bx, 0, none⟩ (.int .i64 (P.lv : Int))).setCell ⟨bx, 1, none⟩ (.slice A5 P.xs.length c5)).setCell ⟨bx, 2, none⟩ (.string P.hi)).setCell ⟨bx, 3, none⟩ (.bool P.la)).setCell ⟨bx, 4, none⟩ (.int .u64 (P.rt : Int))) = Sx at *
          refine hK.out _ _ ?_ (fun hHeld2 => ?_)
          · exact ⟨E.out.cfg, Pu.out, Pv.out⟩
          clear hK KK hHeld
          have hHeld := hHeld2
          clear hHeld2
          try simp only [Act.put, List.setIfInBounds_toArray, List.set_cons_zero, List.set_cons_succ]
          refine wpAnyH_ready (rs := [9]) (by kernel_rfl) (by simp) ?_
          refine AllReadyH.cons (o := ⟨none, _, _, _, _, _⟩) rfl (fun KK hK => ?_) AllReadyH.nil
          have u0 := HBz.out.cell (i := 0) rfl
          have zu0 := HBz.out.frozen 0
          have u1 := HBz.out.cell (i := 1) rfl
          have zu1 := HBz.out.frozen 1
          have u2 := HBz.out.cell (i := 2) rfl
          have zu2 := HBz.out.frozen 2
          have u3 := HBz.out.cell (i := 3) rfl
          have zu3 := HBz.out.frozen 3
          have u4 := HBz.out.cell (i := 4) rfl
          have zu4 := HBz.out.frozen 4
          go_simp
          clear u0 zu0 u1 zu1 u2 zu2 u3 zu3 u4 zu4
          have hkp := ((((((Kept.refl (fun i => i = bz) Sx).setCell (a := ⟨bz, 0, none⟩) (fun _ => rfl) (.int .i64 (Q.lv : Int))).setCell (a := ⟨bz, 1, none⟩) (fun _ => rfl) (.slice A6 Q.xs.length c6)).setCell (a := ⟨bz, 2, none⟩) (fun _ => rfl) (.string Q.hi)).setCell (a := ⟨bz, 3, none⟩) (fun _ => rfl) (.bool Q.la)).setCell (a := ⟨bz, 4, none⟩) (fun _ => rfl) (.int .u64 (Q.rt : Int)))
          have hbs := (((((HBz.out.set 0 (.int .i64 (Q.lv : Int))).set 1 (.slice A6 Q.xs.length c6)).set 2 (.string Q.hi)).set 3 (.bool Q.la)).set 4 (.int .u64 (Q.rt : Int)))
          replace HM := Lib.hid (HM.out.kept hkp (fun e => HNz.out (.inl e.symm)) (fun e => HNz.out (.inr e.symm)))
          replace E := Lib.hid (E.out.at HOz.out hkp)
          replace HR5 := Lib.hid (HR5.out.keptP hkp (fun hp a ha e => NE5z.out hp a ha e))
          replace HR6 := Lib.hid (HR6.out.keptP hkp (fun hp a ha e => NE6z.out hp a ha e))
          replace HBx := Lib.hid (hkp.blk HBx.out (fun e => by have := HXZ.out; omega))
          replace Pu := Lib.hid (hkp.blk Pu.out (fun e => by have := HUz.out; omega))
          replace Pv := Lib.hid (hkp.blk Pv.out (fun e => by have := HUz.out; omega))
          replace HBz := Lib.hid hbs
          clear hkp hbs
          generalize (((((Sx.setCell ⟨bz, 0, none⟩ (.int .i64 (Q.lv : Int))).setCell ⟨bz, 1, none⟩ (.slice A6 Q.xs.length c6)).setCell ⟨bz, 2, none⟩ (.string Q.hi)).setCell ⟨bz, 3, none⟩ (.bool Q.la)).setCell ⟨bz, 4, none⟩ (.int .u64 (Q.rt : Int))) = Sz at *
          refine hK.out _ _ ?_ (fun hHeld2 => ?_)
          · exact ⟨E.out.cfg, Pu.out, Pv.out⟩
          clear hK KK hHeld
          have hHeld := hHeld2
          clear hHeld2
          try simp only [Act.put, List.setIfInBounds_toArray, List.set_cons_zero, List.set_cons_succ]
          refine wpAnyH_done (by kernel_rfl) ?_ _
          clear hHeld
          go_wp2
          go_meet
          exact ⟨bx, bz, A5, c5, A6, c6, rfl, rfl, E.out, HM.out, ⟨HBx.out, HR5.out, HNx.out, HA5.out⟩, ⟨HBz.out, HR6.out, HNz.out, HA6.out⟩⟩
        · go_simp
          have hal := (Kept.refl (fun _ => False) Vz).alloc (.cells #[.int .i64 0, .slice none 0 0, .string ⟨#[]⟩, .bool false, .int .u64 0] 25)
          have HBx := Lib.hid (Blk.new Vz [.int .i64 0, .slice none 0 0, .string ⟨#[]⟩, .bool false, .int .u64 0] 25)
          have HNx := Lib.hid (show ¬ Own b g Vz.heap.size by have := HM.out.obj.lt; have := HM.out.row.lt; unfold Own; omega)
          have HOx := Lib.hid (show b9 < Vz.heap.size ∧ b10 < Vz.heap.size ∧ w.heap.size ≤ Vz.heap.size from ⟨E.out.cfg.lt, E.out.lay.lt, E.out.kept.size⟩)
          have HUx := Lib.hid (show pu < Vz.heap.size ∧ pv < Vz.heap.size from ⟨Pu.out.lt, Pv.out.lt⟩)
          have NE5x := Lib.hid (show 0 < P.xs.length → ∀ a, A5 = some a → a.block ≠ Vz.heap.size from fun hp a ha => by have := HR5.out.lt hp a ha; omega)
          have HXZ := Lib.hid (show bz ≠ Vz.heap.size by have := HBz.out.lt; omega)
          replace E := Lib.hid (E.out.none hal)
          replace HM := Lib.hid (HM.out.kept hal (fun h => h) (fun h => h))
          replace Pu := Lib.hid (hal.blk Pu.out (fun h => h))
          replace Pv := Lib.hid (hal.blk Pv.out (fun h => h))
          replace HBz := Lib.hid (hal.blk HBz.out (fun h => h))
          replace HRu := Lib.hid (HRu.out.keptF hal (fun _ _ h => h))
          replace HRv := Lib.hid (HRv.out.keptF hal (fun _ _ h => h))
          replace HR5 := Lib.hid (HR5.out.keptF hal (fun _ _ h => h))
          clear hal
          generalize Vz.alloc (.cells #[.int .i64 0, .slice none 0 0, .string ⟨#[]⟩, .bool false, .int .u64 0] 25) = Vx at *
          generalize Vz.heap.size = bx at *
          refine hK.out _ _ ?_ (fun hHeld2 => ?_)
          · exact ⟨E.out.cfg, Pu.out, Pv.out⟩
          clear hK KK hHeld
          have hHeld := hHeld2
          clear hHeld2
          try simp only [Act.put, List.setIfInBounds_toArray, List.set_cons_zero, List.set_cons_succ]
          refine wpAnyH_ready (rs := [5]) (by kernel_rfl) (by simp) ?_
          refine AllReadyH.cons (o := ⟨some 39, _, _, _, _, _⟩) rfl (fun KK hK => ?_) AllReadyH.nil
          go_simp
          go_at_call 11
          refine (content_any F plv2 A2 c2 hi2 la2 rt2 xs2 0 _ n2 hn2 (by omega) HRv.out Q HQC.out).mono ?_; rintro e v6 ⟨A6, c6, rfl, hR, hA, hK9⟩
          have HA6 := Lib.hid (show ∀ a, A6 = some a → ¬ Own b g a.block from fun a ha e => by have := hA a ha; have := HM.out.obj.lt; have := HM.out.row.lt; unfold Own at e; omega)
          have NE6z := Lib.hid (show 0 < Q.xs.length → ∀ a, A6 = some a → a.block ≠ bz from fun _ a ha => by have := hA a ha; have := HBz.out.lt; omega)
          have NE6x := Lib.hid (show 0 < Q.xs.length → ∀ a, A6 = some a → a.block ≠ bx from fun _ a ha => by have := hA a ha; have := HBx.out.lt; omega)
          replace E := Lib.hid (E.out.none hK9)
          replace HM := Lib.hid (HM.out.kept hK9 (fun h => h) (fun h => h))
          replace Pu := Lib.hid (hK9.blk Pu.out (fun h => h))
          replace Pv := Lib.hid (hK9.blk Pv.out (fun h => h))
          replace HBz := Lib.hid (hK9.blk HBz.out (fun h => h))
          replace HBx := Lib.hid (hK9.blk HBx.out (fun h => h))
          replace HRu := Lib.hid (HRu.out.keptF hK9 (fun _ _ h => h))
          replace HRv := Lib.hid (HRv.out.keptF hK9 (fun _ _ h => h))
          replace HR5 := Lib.hid (HR5.out.keptF hK9 (fun _ _ h => h))
          have HR6 := Lib.hid hR
          clear hR hA hK9
          refine hK.out _ _ ?_ (fun hHeld2 => ?_)
          · exact ⟨E.out.cfg, Pu.out, Pv.out⟩
          clear hK KK hHeld
          have hHeld := hHeld2
          clear hHeld2
          try simp only [Act.put, List.setIfInBounds_toArray, List.set_cons_zero, List.set_cons_succ]
          refine wpAnyH_ready (rs := [8]) (by kernel_rfl) (by simp) ?_
          refine AllReadyH.cons (o := ⟨none, _, _, _, _, _⟩) rfl (fun KK hK => ?_) AllReadyH.nil
          have u0 := HBx.out.cell (i := 0) rfl
          have zu0 := HBx.out.frozen 0
          have u1 := HBx.out.cell (i := 1) rfl
          have zu1 := HBx.out.frozen 1
          have u2 := HBx.out.cell (i := 2) rfl
          have zu2 := HBx.out.frozen 2
          have u3 := HBx.out.cell (i := 3) rfl
          have zu3 := HBx.out.frozen 3
          have u4 := HBx.out.cell (i := 4) rfl
          have zu4 := HBx.out.frozen 4
          go_simp
          clear u0 zu0 u1 zu1 u2 zu2 u3 zu3 u4 zu4
          have hkp := ((((((Kept.refl (fun i => i = bx) v6).setCell (a := ⟨bx, 0, none⟩) (fun _ => rfl) (.int .i64 (P.lv : Int))).setCell (a := ⟨bx, 1, none⟩) (fun _ => rfl) (.slice A5 P.xs.length c5)).setCell (a := ⟨bx, 2, none⟩) (fun _ => rfl) (.string P.hi)).setCell (a := ⟨bx, 3, none⟩) (fun _ => rfl) (.bool P.la)).setCell (a := ⟨bx, 4, none⟩) (fun _ => rfl) (.int .u64 (P.rt : Int)))
          have hbs := (((((HBx.out.set 0 (.int .i64 (P.lv : Int))).set 1 (.slice A5 P.xs.length c5)).set 2 (.string P.hi)).set 3 (.bool P.la)).set 4 (.int .u64 (P.rt : Int)))
          replace HM := Lib.hid (HM.out.kept hkp (fun e => HNx.out (.inl e.symm)) (fun e => HNx.out (.inr e.symm)))
          replace E := Lib.hid (E.out.at HOx.out hkp)
          replace HR5 := Lib.hid (HR5.out.keptP hkp (fun hp a ha e => NE5x.out hp a ha e))
          replace HR6 := Lib.hid (HR6.out.keptP hkp (fun hp a ha e => NE6x.out hp a ha e))
          replace HBz := Lib.hid (hkp.blk HBz.out (fun e => by have := HXZ.out; omega))
          replace Pu := Lib.hid (hkp.blk Pu.out (fun e => by have := HUx.out; omega))
          replace Pv := Lib.hid (hkp.blk Pv.out (fun e => by have := HUx.out; omega))
          replace HBx := Lib.hid hbs
          clear hkp hbs
          generalize (((((v6.setCell ⟨bx, 0, none⟩ (.int .i64 (P.lv : Int))).setCell ⟨bx, 1, none⟩ (.slice A5 P.xs.length c5)).setCell ⟨bx, 2, none⟩ (.string P.hi)).setCell ⟨bx, 3, none⟩ (.bool P.la)).setCell ⟨bx, 4, none⟩ (.int .u64 (P.rt : Int))) = Sx at *
          refine hK.out _ _ ?_ (fun hHeld2 => ?_)
          · exact ⟨E.out.cfg, Pu.out, Pv.out⟩
          clear hK KK hHeld
          have hHeld := hHeld2
          clear hHeld2
          try simp only [Act.put, List.setIfInBounds_toArray, List.set_cons_zero, List.set_cons_succ]
          refine wpAnyH_ready (rs := [9]) (by kernel_rfl) (by simp) ?_
          refine AllReadyH.cons (o := ⟨none, _, _, _, _, _⟩) rfl (fun KK hK => ?_) AllReadyH.nil
          have u0 := HBz.out.cell (i := 0) rfl
          have zu0 := HBz.out.frozen 0
          have u1 := HBz.out.cell (i := 1) rfl
          have zu1 := HBz.out.frozen 1
          have u2 := HBz.out.cell (i := 2) rfl
          have zu2 := HBz.out.frozen 2
          have u3 := HBz.out.cell (i := 3) rfl
          have zu3 := HBz.out.frozen 3
          have u4 := HBz.out.cell (i := 4) rfl
          have zu4 := HBz.out.frozen 4
          go_simp
          clear u0 zu0 u1 zu1 u2 zu2 u3 zu3 u4 zu4
          have hkp := ((((((Kept.refl (fun i => i = bz) Sx).setCell (a := ⟨bz, 0, none⟩) (fun _ => rfl) (.int .i64 (Q.lv : Int))).setCell (a := ⟨bz, 1, none⟩) (fun _ => rfl) (.slice A6 Q.xs.length c6)).setCell (a := ⟨bz, 2, none⟩) (fun _ => rfl) (.string Q.hi)).setCell (a := ⟨bz, 3, none⟩) (fun _ => rfl) (.bool Q.la)).setCell (a := ⟨bz, 4, none⟩) (fun _ => rfl) (.int .u64 (Q.rt : Int)))
          have hbs := (((((HBz.out.set 0 (.int .i64 (Q.lv : Int))).set 1 (.slice A6 Q.xs.length c6)).set 2 (.string Q.hi)).set 3 (.bool Q.la)).set 4 (.int .u64 (Q.rt : Int)))
          replace HM := Lib.hid (HM.out.kept hkp (fun e => HNz.out (.inl e.symm)) (fun e => HNz.out (.inr e.symm)))
          replace E := Lib.hid (E.out.at HOz.out hkp)
          replace HR5 := Lib.hid (HR5.out.keptP hkp (fun hp a ha e => NE5z.out hp a ha e))
          replace HR6 := Lib.hid (HR6.out.keptP hkp (fun hp a ha e => NE6z.out hp a ha e))
          replace HBx := Lib.hid (hkp.blk HBx.out (fun e => by have := HXZ.out; omega))
          replace Pu := Lib.hid (hkp.blk Pu.out (fun e => by have := HUz.out; omega))
          replace Pv := Lib.hid (hkp.blk Pv.out (fun e => by have := HUz.out; omega))
          replace HBz := Lib.hid hbs
          clear hkp hbs
          generalize (((((Sx.setCell ⟨bz, 0, none⟩ (.int .i64 (Q.lv : Int))).setCell ⟨bz, 1, none⟩ (.slice A6 Q.xs.length c6)).setCell ⟨bz, 2, none⟩ (.string Q.hi)).setCell ⟨bz, 3, none⟩ (.bool Q.la)).setCell ⟨bz, 4, none⟩ (.int .u64 (Q.rt : Int))) = Sz at *
          refine hK.out _ _ ?_ (fun hHeld2 => ?_)
          · exact ⟨E.out.cfg, Pu.out, Pv.out⟩
          clear hK KK hHeld
          have hHeld := hHeld2
          clear hHeld2
          try simp only [Act.put, List.setIfInBounds_toArray, List.set_cons_zero, List.set_cons_succ]
          refine wpAnyH_done (by kernel_rfl) ?_ _
          clear hHeld
          go_wp2
          go_meet
          exact ⟨bx, bz, A5, c5, A6, c6, rfl, rfl, E.out, HM.out, ⟨HBx.out, HR5.out, HNx.out, HA5.out⟩, ⟨HBz.out, HR6.out, HNz.out, HA6.out⟩⟩
    · go_simp
      have hal := (Kept.refl (fun _ => False) G).alloc (.cells #[.int .i64 0, .slice none 0 0, .string ⟨#[]⟩, .bool false, .int .u64 0] 25)
      have HBx := Lib.hid (Blk.new G [.int .i64 0, .slice none 0 0, .string ⟨#[]⟩, .bool false, .int .u64 0] 25)
      have HNx := Lib.hid (show ¬ Own b g G.heap.size by have := HM.out.obj.lt; have := HM.out.row.lt; unfold Own; omega)
      have HOx := Lib.hid (show b9 < G.heap.size ∧ b10 < G.heap.size ∧ w.heap.size ≤ G.heap.size from ⟨E.out.cfg.lt, E.out.lay.lt, E.out.kept.size⟩)
      have HUx := Lib.hid (show pu < G.heap.size ∧ pv < G.heap.size from ⟨Pu.out.lt, Pv.out.lt⟩)
      replace E := Lib.hid (E.out.none hal)
      replace HM := Lib.hid (HM.out.kept hal (fun h => h) (fun h => h))
      replace Pu := Lib.hid (hal.blk Pu.out (fun h => h))
      replace Pv := Lib.hid (hal.blk Pv.out (fun h => h))
      replace HRu := Lib.hid (HRu.out.keptF hal (fun _ _ h => h))
      replace HRv := Lib.hid (HRv.out.keptF hal (fun _ _ h => h))
      clear hal
      generalize G.alloc (.cells #[.int .i64 0, .slice none 0 0, .string ⟨#[]⟩, .bool false, .int .u64 0] 25) = Vx at *
      generalize G.heap.size = bx at *
      refine hK.out _ _ ?_ (fun hHeld2 => ?_)
      · exact ⟨E.out.cfg, Pu.out, Pv.out⟩
      clear hK KK hHeld
      have hHeld := hHeld2
      clear hHeld2
      try simp only [Act.put, List.setIfInBounds_toArray, List.set_cons_zero, List.set_cons_succ]
      refine wpAnyH_ready (rs := [2, 7]) (by kernel_rfl) (by simp) ?_
      refine AllReadyH.cons (o := ⟨some 36, _, _, _, _, _⟩) rfl (fun KK hK => ?_) (AllReadyH.cons (o := ⟨some 13, _, _, _, _, _⟩) rfl (fun KK hK => ?_) AllReadyH.nil)
      · go_simp
        go_at_call 11
        refine (content_any F plv A c hi la rt xs 0 _ n hn (by omega) HRu.out P HPC.out).mono ?_; rintro e v5 ⟨A5, c5, rfl, hR, hA, hK9⟩
        have HA5 := Lib.hid (show ∀ a, A5 = some a → ¬ Own b g a.block from fun a ha e => by have := hA a ha; have := HM.out.obj.lt; have := HM.out.row.lt; unfold Own at e; omega)
        have NE5x := Lib.hid (show 0 < P.xs.length → ∀ a, A5 = some a → a.block ≠ bx from fun _ a ha => by have := hA a ha; have := HBx.out.lt; omega)
        replace E := Lib.hid (E.out.none hK9)
        replace HM := Lib.hid (HM.out.kept hK9 (fun h => h) (fun h => h))
        replace Pu := Lib.hid (hK9.blk Pu.out (fun h => h))
        replace Pv := Lib.hid (hK9.blk Pv.out (fun h => h))
        replace HBx := Lib.hid (hK9.blk HBx.out (fun h => h))
        replace HRu := Lib.hid (HRu.out.keptF hK9 (fun _ _ h => h))
        replace HRv := Lib.hid (HRv.out.keptF hK9 (fun _ _ h => h))
        have HR5 := Lib.hid hR
        clear hR hA hK9
        refine hK.out _ _ ?_ (fun hHeld2 => ?_)
        · exact ⟨E.out.cfg, Pu.out, Pv.out⟩
        clear hK KK hHeld
        have hHeld := hHeld2
        clear hHeld2
        try simp only [Act.put, List.setIfInBounds_toArray, List.set_cons_zero, List.set_cons_succ]
        refine wpAnyH_ready (rs := [5, 7]) (by kernel_rfl) (by simp) ?_
        refine AllReadyH.cons (o := ⟨some 39, _, _, _, _, _⟩) rfl (fun KK hK => ?_) (AllReadyH.cons (o := ⟨some 13, _, _, _, _, _⟩) rfl (fun KK hK => ?_) AllReadyH.nil)
        · go_simp
          go_at_call 11
          refine (content_any F plv2 A2 c2 hi2 la2 rt2 xs2 0 _ n2 hn2 (by omega) HRv.out Q HQC.out).mono ?_; rintro e v6 ⟨A6, c6, rfl, hR, hA, hK9⟩
          have HA6 := Lib.hid (show ∀ a, A6 = some a → ¬ Own b g a.block from fun a ha e => by have := hA a ha; have := HM.out.obj.lt; have := HM.out.row.lt; unfold Own at e; omega)
          have NE6x := Lib.hid (show 0 < Q.xs.length → ∀ a, A6 = some a → a.block ≠ bx from fun _ a ha => by have := hA a ha; have := HBx.out.lt; omega)
          replace E := Lib.hid (E.out.none hK9)
          replace HM := Lib.hid (HM.out.kept hK9 (fun h => h) (fun h => h))
          replace Pu := Lib.hid (hK9.blk Pu.out (fun h => h))
          replace Pv := Lib.hid (hK9.blk Pv.out (fun h => h))
          replace HBx := Lib.hid (hK9.blk HBx.out (fun h => h))
          replace HRu := Lib.hid (HRu.out.keptF hK9 (fun _ _ h => h))
          replace HRv := Lib.hid (HRv.out.keptF hK9 (fun _ _ h => h))
          replace HR5 := Lib.hid (HR5.out.keptF hK9 (fun _ _ h => h))
          have HR6 := Lib.hid hR
          clear hR hA hK9
          refine hK.out _ _ ?_ (fun hHeld2 => ?_)
          · exact ⟨E.out.cfg, Pu.out, Pv.out⟩
          clear hK KK hHeld
          have hHeld := hHeld2
          clear hHeld2
          try simp only [Act.put, List.setIfInBounds_toArray, List.set_cons_zero, List.set_cons_succ]
          refine wpAnyH_ready (rs := [7]) (by kernel_rfl) (by simp) ?_
          refine AllReadyH.cons (o := ⟨some 13, _, _, _, _, _⟩) rfl (fun KK hK => ?_) AllReadyH.nil
          go_simp
          have hal := (Kept.refl (fun _ => False) v6).alloc (.cells #[.int .i64 0, .slice none 0 0, .string ⟨#[]⟩, .bool false, .int .u64 0] 25)
          have HBz := Lib.hid (Blk.new v6 [.int .i64 0, .slice none 0 0, .string ⟨#[]⟩, .bool false, .int .u64 0] 25)
          have HNz := Lib.hid (show ¬ Own b g v6.heap.size by have := HM.out.obj.lt; have := HM.out.row.lt; unfold Own; omega)
          have HOz := Lib.hid (show b9 < v6.heap.size ∧ b10 < v6.heap.size ∧ w.heap.size ≤ v6.heap.size from ⟨E.out.cfg.lt, E.out.lay.lt, E.out.kept.size⟩)
          have HUz := Lib.hid (show pu < v6.heap.size ∧ pv < v6.heap.size from ⟨Pu.out.lt, Pv.out.lt⟩)
          have NE5z := Lib.hid (show 0 < P.xs.length → ∀ a, A5 = some a → a.block ≠ v6.heap.size from fun hp a ha => by have := HR5.out.lt hp a ha; omega)
          have NE6z := Lib.hid (show 0 < Q.xs.length → ∀ a, A6 = some a → a.block ≠ v6.heap.size from fun hp a ha => by have := HR6.out.lt hp a ha; omega)
          have HXZ := Lib.hid (show bx ≠ v6.heap.size by have := HBx.out.lt; omega)
          replace E := Lib.hid (E.out.none hal)
          replace HM := Lib.hid (HM.out.kept hal (fun h => h) (fun h => h))
          replace Pu := Lib.hid (hal.blk Pu.out (fun h => h))
          replace Pv := Lib.hid (hal.blk Pv.out (fun h => h))
          replace HBx := Lib.hid (hal.blk HBx.out (fun h => h))
          replace HRu := Lib.hid (HRu.out.keptF hal (fun _ _ h => h))
          replace HRv := Lib.hid (HRv.out.keptF hal (fun _ _ h => h))
          replace HR5 := Lib.hid (HR5.out.keptF hal (fun _ _ h => h))
          replace HR6 := Lib.hid (HR6.out.keptF hal (fun _ _ h => h))
          clear hal
          generalize v6.alloc (.cells #[.int .i64 0, .slice none 0 0, .string ⟨#[]⟩, .bool false, .int .u64 0] 25) = Vz at *
          generalize v6.heap.size = bz at *
          refine hK.out _ _ ?_ (fun hHeld2 => ?_)
          · exact ⟨E.out.cfg, Pu.out, Pv.out⟩
          clear hK KK hHeld
          have hHeld := hHeld2
          clear hHeld2
          try simp only [Act.put, List.setIfInBounds_toArray, List.set_cons_zero, List.set_cons_succ]
          refine wpAnyH_ready (rs := [8]) (by kernel_rfl) (by simp) ?_
          refine AllReadyH.cons (o := ⟨none, _, _, _, _, _⟩) rfl (fun KK hK => ?_) AllReadyH.nil
          have u0 := HBx.out.cell (i := 0) rfl
          have zu0 := HBx.out.frozen 0
          have u1 := HBx.out.cell (i := 1) rfl
          have zu1 := HBx.out.frozen 1
          have u2 := HBx.out.cell (i := 2) rfl
          have zu2 := HBx.out.frozen 2
          have u3 := HBx.out.cell (i := 3) rfl
          have zu3 := HBx.out.frozen 3
          have u4 := HBx.out.cell (i := 4) rfl
          have zu4 := HBx.out.frozen 4
          go_simp
          clear u0 zu0 u1 zu1 u2 zu2 u3 zu3 u4 zu4
          have hkp := ((((((Kept.refl (fun i => i = bx) Vz).setCell (a := ⟨bx, 0, none⟩) (fun _ => rfl) (.int .i64 (P.lv : Int))).setCell (a := ⟨bx, 1, none⟩) (fun _ => rfl) (.slice A5 P.xs.length c5)).setCell (a := ⟨bx, 2, none⟩) (fun _ => rfl) (.string P.hi)).setCell (a := ⟨bx, 3, none⟩) (fun _ => rfl) (.bool P.la)).setCell (a := ⟨bx, 4, none⟩) (fun _ => rfl) (.int .u64 (P.rt : Int)))
          have hbs := (((((HBx.out.set 0 (.int .i64 (P.lv : Int))).set 1 (.slice A5 P.xs.length c5)).set 2 (.string P.hi)).set 3 (.bool P.la)).set 4 (.int .u64 (P.rt : Int)))
          replace HM := Lib.hid (HM.out.kept hkp (fun e => HNx.out (.inl e.symm)) (fun e => HNx.out (.inr e.symm)))
          replace E := Lib.hid (E.out.at HOx.out hkp)
          replace HR5 := Lib.hid (HR5.out.keptP hkp (fun hp a ha e => NE5x.out hp a ha e))
          replace HR6 := Lib.hid (HR6.out.keptP hkp (fun hp a ha e => NE6x.out hp a ha e))
          replace HBz := Lib.hid (hkp.blk HBz.out (fun e => by have := HXZ.out; omega))
          replace Pu := Lib.hid (hkp.blk Pu.out (fun e => by have := HUx.out; omega))
          replace Pv := Lib.hid (hkp.blk Pv.out (fun e => by have := HUx.out; omega))
          replace HBx := Lib.hid hbs
          clear hkp hbs
          generalize (((((Vz.setCell ⟨bx, 0, none⟩ (.int .i64 (P.lv : Int))).setCell ⟨bx, 1, none⟩ (.slice A5 P.xs.length c5)).setCell ⟨bx, 2, none⟩ (.string P.hi)).setCell ⟨bx, 3, none⟩ (.bool P.la)).setCell ⟨bx, 4, none⟩ (.int .u64 (P.rt : Int))) = Sx at *
          refine hK.out _ _ ?_ (fun hHeld2 => ?_)
          · exact ⟨E.out.cfg, Pu.out, Pv.out⟩
          clear hK KK hHeld
          have hHeld := hHeld2
          clear hHeld2
          try simp only [Act.put, List.setIfInBounds_toArray, List.set_cons_zero, List.set_cons_succ]
          refine wpAnyH_ready (rs := [9]) (by kernel_rfl) (by simp) ?_
          refine AllReadyH.cons (o := ⟨none, _, _, _, _, _⟩) rfl (fun KK hK => ?_) AllReadyH.nil
          have u0 := HBz.out.cell (i := 0) rfl
          have zu0 := HBz.out.frozen 0
          have u1 := HBz.out.cell (i := 1) rfl
          have zu1 := HBz.out.frozen 1
          have u2 := HBz.out.cell (i := 2) rfl
          have zu2 := HBz.out.frozen 2
          have u3 := HBz.out.cell (i := 3) rfl
          have zu3 := HBz.out.frozen 3
          have u4 := HBz.out.cell (i := 4) rfl
          have zu4 := HBz.out.frozen 4
          go_simp
          clear u0 zu0 u1 zu1 u2 zu2 u3 zu3 u4 zu4
          have hkp := ((((((Kept.refl (fun i => i = bz) Sx).setCell (a := ⟨bz, 0, none⟩) (fun _ => rfl) (.int .i64 (Q.lv : Int))).setCell (a := ⟨bz, 1, none⟩) (fun _ => rfl) (.slice A6 Q.xs.length c6)).setCell (a := ⟨bz, 2, none⟩) (fun _ => rfl) (.string Q.hi)).setCell (a := ⟨bz, 3, none⟩) (fun _ => rfl) (.bool Q.la)).setCell (a := ⟨bz, 4, none⟩) (fun _ => rfl) (.int .u64 (Q.rt : Int)))
          have hbs := (((((HBz.out.set 0 (.int .i64 (Q.lv : Int))).set 1 (.slice A6 Q.xs.length c6)).set 2 (.string Q.hi)).set 3 (.bool Q.la)).set 4 (.int .u64 (Q.rt : Int)))
          replace HM := Lib.hid (HM.out.kept hkp (fun e => HNz.out (.inl e.symm)) (fun e => HNz.out (.inr e.symm)))
          replace E := Lib.hid (E.out.at HOz.out hkp)
          replace HR5 := Lib.hid (HR5.out.keptP hkp (fun hp a ha e => NE5z.out hp a ha e))
          replace HR6 := Lib.hid (HR6.out.keptP hkp (fun hp a ha e => NE6z.out hp a ha e))
          replace HBx := Lib.hid (hkp.blk HBx.out (fun e => by have := HXZ.out; omega))
          replace Pu := Lib.hid (hkp.blk Pu.out (fun e => by have := HUz.out; omega))
          replace Pv := Lib.hid (hkp.blk Pv.out (fun e => by have := HUz.out; omega))
          replace HBz := Lib.hid hbs
          clear hkp hbs
          generalize (((((Sx.setCell ⟨bz, 0, none⟩ (.int .i64 (Q.lv : Int))).setCell ⟨bz, 1, none⟩ (.slice A6 Q.xs.length c6)).setCell ⟨bz, 2, none⟩ (.string Q.hi)).setCell ⟨bz, 3, none⟩ (.bool Q.la)).setCell ⟨bz, 4, none⟩ (.int .u64 (Q.rt : Int))) = Sz at *
          refine hK.out _ _ ?_ (fun hHeld2 => ?_)
          · exact ⟨E.out.cfg, Pu.out, Pv.out⟩
          clear hK KK hHeld
          have hHeld := hHeld2
          clear hHeld2
          try simp only [Act.put, List.setIfInBounds_toArray, List.set_cons_zero, List.set_cons_succ]
          refine wpAnyH_done (by kernel_rfl) ?_ _
          clear hHeld
          go_wp2
          go_meet
          exact ⟨bx, bz, A5, c5, A6, c6, rfl, rfl, E.out, HM.out, ⟨HBx.out, HR5.out, HNx.out, HA5.out⟩, ⟨HBz.out, HR6.out, HNz.out, HA6.out⟩⟩
        · go_simp
          have hal := (Kept.refl (fun _ => False) v5).alloc (.cells #[.int .i64 0, .slice none 0 0, .string ⟨#[]⟩, .bool false, .int .u64 0] 25)
          have HBz := Lib.hid (Blk.new v5 [.int .i64 0, .slice none 0 0, .string ⟨#[]⟩, .bool false, .int .u64 0] 25)
          have HNz := Lib.hid (show ¬ Own b g v5.heap.size by have := HM.out.obj.lt; have := HM.out.row.lt; unfold Own; omega)
          have HOz := Lib.hid (show b9 < v5.heap.size ∧ b10 < v5.heap.size ∧ w.heap.size ≤ v5.heap.size from ⟨E.out.cfg.lt, E.out.lay.lt, E.out.kept.size⟩)
          have HUz := Lib.hid (show pu < v5.heap.size ∧ pv < v5.heap.size from ⟨Pu.out.lt, Pv.out.lt⟩)
          have NE5z := Lib.hid (show 0 < P.xs.length → ∀ a, A5 = some a → a.block ≠ v5.heap.size from fun hp a ha => by have := HR5.out.lt hp a ha; omega)
          have HXZ := Lib.hid (show bx ≠ v5.heap.size by have := HBx.out.lt; omega)
          replace E := Lib.hid (E.out.none hal)
          replace HM := Lib.hid (HM.out.kept hal (fun h => h) (fun h => h))
          replace Pu := Lib.hid (hal.blk Pu.out (fun h => h))
          replace Pv := Lib.hid (hal.blk Pv.out (fun h => h))
          replace HBx := Lib.hid (hal.blk HBx.out (fun h => h))
          replace HRu := Lib.hid (HRu.out.keptF hal (fun _ _ h => h))
          replace HRv := Lib.hid (HRv.out.keptF hal (fun _ _ h => h))
          replace HR5 := Lib.hid (HR5.out.keptF hal (fun _ _ h => h))
          clear hal
          generalize v5.alloc (.cells #[.int .i64 0, .slice none 0 0, .string ⟨#[]⟩, .bool false, .int .u64 0] 25) = Vz at *
          generalize v5.heap.size = bz at *
          refine hK.out _ _ ?_ (fun hHeld2 => ?_)
          · exact ⟨E.out.cfg, Pu.out, Pv.out⟩
          clear hK KK hHeld
          have hHeld := hHeld2
          clear hHeld2
          try simp only [Act.put, List.setIfInBounds_toArray, List.set_cons_zero, List.set_cons_succ]
          refine wpAnyH_ready (rs := [5]) (by kernel_rfl) (by simp) ?_
          refine AllReadyH.cons (o := ⟨some 39, _, _, _, _, _⟩) rfl (fun KK hK => ?_) AllReadyH.nil
          go_simp
          go_at_call 11
          refine (content_any F plv2 A2 c2 hi2 la2 rt2 xs2 0 _ n2 hn2 (by omega) HRv.out Q HQC.out).mono ?_; rintro e v6 ⟨A6, c6, rfl, hR, hA, hK9⟩
          have HA6 := Lib.hid (show ∀ a, A6 = some a → ¬ Own b g a.block from fun a ha e => by have := hA a ha; have := HM.out.obj.lt; have := HM.out.row.lt; unfold Own at e; omega)
          have NE6x := Lib.hid (show 0 < Q.xs.length → ∀ a, A6 = some a → a.block ≠ bx from fun _ a ha => by have := hA a ha; have := HBx.out.lt; omega)
          have NE6z := Lib.hid (show 0 < Q.xs.length → ∀ a, A6 = some a → a.block ≠ bz from fun _ a ha => by have := hA a ha; have := HBz.out.lt; omega)
          replace E := Lib.hid (E.out.none hK9)
          replace HM := Lib.hid (HM.out.kept hK9 (fun h => h) (fun h => h))
          replace Pu := Lib.hid (hK9.blk Pu.out (fun h => h))
          replace Pv := Lib.hid (hK9.blk Pv.out (fun h => h))
          replace HBx := Lib.hid (hK9.blk HBx.out (fun h => h))
          replace HBz := Lib.hid (hK9.blk HBz.out (fun h => h))
          replace HRu := Lib.hid (HRu.out.keptF hK9 (fun _ _ h => h))
          replace HRv := Lib.hid (HRv.out.keptF hK9 (fun _ _ h => h))
          replace HR5 := Lib.hid (HR5.out.keptF hK9 (fun _ _ h => h))
          have HR6 := Lib.hid hR
          clear hR hA hK9
          refine hK.out _ _ ?_ (fun hHeld2 => ?_)
          · exact ⟨E.out.cfg, Pu.out, Pv.out⟩
          clear hK KK hHeld
          have hHeld := hHeld2
          clear hHeld2
          try simp only [Act.put, List.setIfInBounds_toArray, List.set_cons_zero, List.set_cons_succ]
          refine wpAnyH_ready (rs := [8]) (by kernel_rfl) (by simp) ?_
          refine AllReadyH.cons (o := ⟨none, _, _, _, _, _⟩) rfl (fun KK hK => ?_) AllReadyH.nil
          have u0 := HBx.out.cell (i := 0) rfl
          have zu0 := HBx.out.frozen 0
          have u1 := HBx.out.cell (i := 1) rfl
          have zu1 := HBx.out.frozen 1
          have u2 := HBx.out.cell (i := 2) rfl
          have zu2 := HBx.out.frozen 2
          have u3 := HBx.out.cell (i := 3) rfl
          have zu3 := HBx.out.frozen 3
          have u4 := HBx.out.cell (i := 4) rfl
          have zu4 := HBx.out.frozen 4
          go_simp
          clear u0 zu0 u1 zu1 u2 zu2 u3 zu3 u4 zu4
          have hkp := ((((((Kept.refl (fun i => i = bx) v6).setCell (a := ⟨bx, 0, none⟩) (fun _ => rfl) (.int .i64 (P.lv : Int))).setCell (a := ⟨bx, 1, none⟩) (fun _ => rfl) (.slice A5 P.xs.length c5)).setCell (a := ⟨bx, 2, none⟩) (fun _ => rfl) (.string P.hi)).setCell (a := ⟨bx, 3, none⟩) (fun _ => rfl) (.bool P.la)).setCell (a := ⟨bx, 4, none⟩) (fun _ => rfl) (.int .u64 (P.rt : Int)))
          have hbs := (((((HBx.out.set 0 (.int .i64 (P.lv : Int))).set 1 (.slice A5 P.xs.length c5)).set 2 (.string P.hi)).set 3 (.bool P.la)).set 4 (.int .u64 (P.rt : Int)))
          replace HM := Lib.hid (HM.out.kept hkp (fun e => HNx.out (.inl e.symm)) (fun e => HNx.out (.inr e.symm)))
          replace E := Lib.hid (E.out.at HOx.out hkp)
          replace HR5 := Lib.hid (HR5.out.keptP hkp (fun hp a ha e => NE5x.out hp a ha e))
          replace HR6 := Lib.hid (HR6.out.keptP hkp (fun hp a ha e => NE6x.out hp a ha e))
          replace HBz := Lib.hid (hkp.blk HBz.out (fun e => by have := HXZ.out; omega))
          replace Pu := Lib.hid (hkp.blk Pu.out (fun e => by have := HUx.out; omega))
          replace Pv := Lib.hid (hkp.blk Pv.out (fun e => by have := HUx.out; omega))
          replace HBx := Lib.hid hbs
          clear hkp hbs
          generalize (((((v6.setCell ⟨bx, 0, none⟩ (.int .i64 (P.lv : Int))).setCell ⟨bx, 1, none⟩ (.slice A5 P.xs.length c5)).setCell ⟨bx, 2, none⟩ (.string P.hi)).setCell ⟨bx, 3, none⟩ (.bool P.la)).setCell ⟨bx, 4, none⟩ (.int .u64 (P.rt : Int))) = Sx at *
          refine hK.out _ _ ?_ (fun hHeld2 => ?_)
          · exact ⟨E.out.cfg, Pu.out, Pv.out⟩
          clear hK KK hHeld
          have hHeld := hHeld2
          clear hHeld2
          try simp only [Act.put, List.setIfInBounds_toArray, List.set_cons_zero, List.set_cons_succ]
          refine wpAnyH_ready (rs := [9]) (by kernel_rfl) (by simp) ?_
          refine AllReadyH.cons (o := ⟨none, _, _, _, _, _⟩) rfl (fun KK hK => ?_) AllReadyH.nil
          have u0 := HBz.out.cell (i := 0) rfl
          have zu0 := HBz.out.frozen 0
          have u1 := HBz.out.cell (i := 1) rfl
          have zu1 := HBz.out.frozen 1
          have u2 := HBz.out.cell (i := 2) rfl
          have zu2 := HBz.out.frozen 2
          have u3 := HBz.out.cell (i := 3) rfl
          have zu3 := HBz.out.frozen 3
          have u4 := HBz.out.cell (i := 4) rfl
          have zu4 := HBz.out.frozen 4
          go_simp
          clear u0 zu0 u1 zu1 u2 zu2 u3 zu3 u4 zu4
          have hkp := ((((((Kept.refl (fun i => i = bz) Sx).setCell (a := ⟨bz, 0, none⟩) (fun _ => rfl) (.int .i64 (Q.lv : Int))).setCell (a := ⟨bz, 1, none⟩) (fun _ => rfl) (.slice A6 Q.xs.length c6)).setCell (a := ⟨bz, 2, none⟩) (fun _ => rfl) (.string Q.hi)).setCell (a := ⟨bz, 3, none⟩) (fun _ => rfl) (.bool Q.la)).setCell (a := ⟨bz, 4, none⟩) (fun _ => rfl) (.int .u64 (Q.rt : Int)))
          have hbs := (((((HBz.out.set 0 (.int .i64 (Q.lv : Int))).set 1 (.slice A6 Q.xs.length c6)).set 2 (.string Q.hi)).set 3 (.bool Q.la)).set 4 (.int .u64 (Q.rt : Int)))
          replace HM := Lib.hid (HM.out.kept hkp (fun e => HNz.out (.inl e.symm)) (fun e => HNz.out (.inr e.symm)))
          replace E := Lib.hid (E.out.at HOz.out hkp)
          replace HR5 := Lib.hid (HR5.out.keptP hkp (fun hp a ha e => NE5z.out hp a ha e))
          replace HR6 := Lib.hid (HR6.out.keptP hkp (fun hp a ha e => NE6z.out hp a ha e))
          replace HBx := Lib.hid (hkp.blk HBx.out (fun e => by have := HXZ.out; omega))
          replace Pu := Lib.hid (hkp.blk Pu.out (fun e => by have := HUz.out; omega))
          replace Pv := Lib.hid (hkp.blk Pv.out (fun e => by have := HUz.out; omega))
          replace HBz := Lib.hid hbs
          clear hkp hbs
          generalize (((((Sx.setCell ⟨bz, 0, none⟩ (.int .i64 (Q.lv : Int))).setCell ⟨bz, 1, none⟩ (.slice A6 Q.xs.length c6)).setCell ⟨bz, 2, none⟩ (.string Q.hi)).setCell ⟨bz, 3, none⟩ (.bool Q.la)).setCell ⟨bz, 4, none⟩ (.int .u64 (Q.rt : Int))) = Sz at *
          refine hK.out _ _ ?_ (fun hHeld2 => ?_)
          · exact ⟨E.out.cfg, Pu.out, Pv.out⟩
          clear hK KK hHeld
          have hHeld := hHeld2
          clear hHeld2
          try simp only [Act.put, List.setIfInBounds_toArray, List.set_cons_zero, List.set_cons_succ]
          refine wpAnyH_done (by kernel_rfl) ?_ _
          clear hHeld
          go_wp2
          go_meet
          exact ⟨bx, bz, A5, c5, A6, c6, rfl, rfl, E.out, HM.out, ⟨HBx.out, HR5.out, HNx.out, HA5.out⟩, ⟨HBz.out, HR6.out, HNz.out, HA6.out⟩⟩
      · go_simp
        have hal := (Kept.refl (fun _ => False) Vx).alloc (.cells #[.int .i64 0, .slice none 0 0, .string ⟨#[]⟩, .bool false, .int .u64 0] 25)
        have HBz := Lib.hid (Blk.new Vx [.int .i64 0, .slice none 0 0, .string ⟨#[]⟩, .bool false, .int .u64 0] 25)
        have HNz := Lib.hid (show ¬ Own b g Vx.heap.size by have := HM.out.obj.lt; have := HM.out.row.lt; unfold Own; omega)
        have HOz := Lib.hid (show b9 < Vx.heap.size ∧ b10 < Vx.heap.size ∧ w.heap.size ≤ Vx.heap.size from ⟨E.out.cfg.lt, E.out.lay.lt, E.out.kept.size⟩)
        have HUz := Lib.hid (show pu < Vx.heap.size ∧ pv < Vx.heap.size from ⟨Pu.out.lt, Pv.out.lt⟩)
        have HXZ := Lib.hid (show bx ≠ Vx.heap.size by have := HBx.out.lt; omega)
        replace E := Lib.hid (E.out.none hal)
        replace HM := Lib.hid (HM.out.kept hal (fun h => h) (fun h => h))
        replace Pu := Lib.hid (hal.blk Pu.out (fun h => h))
        replace Pv := Lib.hid (hal.blk Pv.out (fun h => h))
        replace HBx := Lib.hid (hal.blk HBx.out (fun h => h))
        replace HRu := Lib.hid (HRu.out.keptF hal (fun _ _ h => h))
        replace HRv := Lib.hid (HRv.out.keptF hal (fun _ _ h => h))
        clear hal
        generalize Vx.alloc (.cells #[.int .i64 0, .slice none 0 0, .string ⟨#[]⟩, .bool false, .int .u64 0] 25) = Vz at *
        generalize Vx.heap.size = bz at *
        refine hK.out _ _ ?_ (fun hHeld2 => ?_)
        · exact ⟨E.out.cfg, Pu.out, Pv.out⟩
        clear hK KK hHeld
        have hHeld := hHeld2
        clear hHeld2
        try simp only [Act.put, List.setIfInBounds_toArray, List.set_cons_zero, List.set_cons_succ]
        refine wpAnyH_ready (rs := [2]) (by kernel_rfl) (by simp) ?_
        refine AllReadyH.cons (o := ⟨some 36, _, _, _, _, _⟩) rfl (fun KK hK => ?_) AllReadyH.nil
        go_simp
        go_at_call 11
        refine (content_any F plv A c hi la rt xs 0 _ n hn (by omega) HRu.out P HPC.out).mono ?_; rintro e v5 ⟨A5, c5, rfl, hR, hA, hK9⟩
        have HA5 := Lib.hid (show ∀ a, A5 = some a → ¬ Own b g a.block from fun a ha e => by have := hA a ha; have := HM.out.obj.lt; have := HM.out.row.lt; unfold Own at e; omega)
        have NE5x := Lib.hid (show 0 < P.xs.length → ∀ a, A5 = some a → a.block ≠ bx from fun _ a ha => by have := hA a ha; have := HBx.out.lt; omega)
        have NE5z := Lib.hid (show 0 < P.xs.length → ∀ a, A5 = some a → a.block ≠ bz from fun _ a ha => by have := hA a ha; have := HBz.out.lt; omega)
        replace E := Lib.hid (E.out.none hK9)
        replace HM := Lib.hid (HM.out.kept hK9 (fun h => h) (fun h => h))
        replace Pu := Lib.hid (hK9.blk Pu.out (fun h => h))
        replace Pv := Lib.hid (hK9.blk Pv.out (fun h => h))
        replace HBx := Lib.hid (hK9.blk HBx.out (fun h => h))
        replace HBz := Lib.hid (hK9.blk HBz.out (fun h => h))
        replace HRu := Lib.hid (HRu.out.keptF hK9 (fun _ _ h => h))
        replace HRv := Lib.hid (HRv.out.keptF hK9 (fun _ _ h => h))
        have HR5 := Lib.hid hR
        clear hR hA hK9
        refine hK.out _ _ ?_ (fun hHeld2 => ?_)
        · exact ⟨E.out.cfg, Pu.out, Pv.out⟩
        clear hK KK hHeld
        have hHeld := hHeld2
        clear hHeld2
        try simp only [Act.put, List.setIfInBounds_toArray, List.set_cons_zero, List.set_cons_succ]
        refine wpAnyH_ready (rs := [5]) (by kernel_rfl) (by simp) ?_
        refine AllReadyH.cons (o := ⟨some 39, _, _, _, _, _⟩) rfl (fun KK hK => ?_) AllReadyH.nil
        go_simp
        go_at_call 11
        refine (content_any F plv2 A2 c2 hi2 la2 rt2 xs2 0 _ n2 hn2 (by omega) HRv.out Q HQC.out).mono ?_; rintro e v6 ⟨A6, c6, rfl, hR, hA, hK9⟩
        have HA6 := Lib.hid (show ∀ a, A6 = some a → ¬ Own b g a.block from fun a ha e => by have := hA a ha; have := HM.out.obj.lt; have := HM.out.row.lt; unfold Own at e; omega)
        have NE6x := Lib.hid (show 0 < Q.xs.length → ∀ a, A6 = some a → a.block ≠ bx from fun _ a ha => by have := hA a ha; have := HBx.out.lt; omega)
        have NE6z := Lib.hid (show 0 < Q.xs.length → ∀ a, A6 = some a → a.block ≠ bz from fun _ a ha => by have := hA a ha; have := HBz.out.lt; omega)
        replace E := Lib.hid (E.out.none hK9)
        replace HM := Lib.hid (HM.out.kept hK9 (fun h => h) (fun h => h))
        replace Pu := Lib.hid (hK9.blk Pu.out (fun h => h))
        replace Pv := Lib.hid (hK9.blk Pv.out (fun h => h))
        replace HBx := Lib.hid (hK9.blk HBx.out (fun h => h))
        replace HBz := Lib.hid (hK9.blk HBz.out (fun h => h))
        replace HRu := Lib.hid (HRu.out.keptF hK9 (fun _ _ h => h))
        replace HRv := Lib.hid (HRv.out.keptF hK9 (fun _ _ h => h))
        replace HR5 := Lib.hid (HR5.out.keptF hK9 (fun _ _ h => h))
        have HR6 := Lib.hid hR
        clear hR hA hK9
        refine hK.out _ _ ?_ (fun hHeld2 => ?_)
        · exact ⟨E.out.cfg, Pu.out, Pv.out⟩
        clear hK KK hHeld
        have hHeld := hHeld2
        clear hHeld2
        try simp only [Act.put, List.setIfInBounds_toArray, List.set_cons_zero, List.set_cons_succ]
        refine wpAnyH_ready (rs := [8]) (by kernel_rfl) (by simp) ?_
        refine AllReadyH.cons (o := ⟨none, _, _, _, _, _⟩) rfl (fun KK hK => ?_) AllReadyH.nil
        have u0 := HBx.out.cell (i := 0) rfl
        have zu0 := HBx.out.frozen 0
        have u1 := HBx.out.cell (i := 1) rfl
        have zu1 := HBx.out.frozen 1
        have u2 := HBx.out.cell (i := 2) rfl
        have zu2 := HBx.out.frozen 2
        have u3 := HBx.out.cell (i := 3) rfl
        have zu3 := HBx.out.frozen 3
        have u4 := HBx.out.cell (i := 4) rfl
        have zu4 := HBx.out.frozen 4
        go_simp
        clear u0 zu0 u1 zu1 u2 zu2 u3 zu3 u4 zu4
        have hkp := ((((((Kept.refl (fun i => i = bx) v6).setCell (a := ⟨bx, 0, none⟩) (fun _ => rfl) (.int .i64 (P.lv : Int))).setCell (a := ⟨bx, 1, none⟩) (fun _ => rfl) (.slice A5 P.xs.length c5)).setCell (a := ⟨bx, 2, none⟩) (fun _ => rfl) (.string P.hi)).setCell (a := ⟨bx, 3, none⟩) (fun _ => rfl) (.bool P.la)).setCell (a := ⟨bx, 4, none⟩) (fun _ => rfl) (.int .u64 (P.rt : Int)))
        have hbs := (((((HBx.out.set 0 (.int .i64 (P.lv : Int))).set 1 (.slice A5 P.xs.length c5)).set 2 (.string P.hi)).set 3 (.bool P.la)).set 4 (.int .u64 (P.rt : Int)))
        replace HM := Lib.hid (HM.out.kept hkp (fun e => HNx.out (.inl e.symm)) (fun e => HNx.out (.inr e.symm)))
        replace E := Lib.hid (E.out.at HOx.out hkp)
        replace HR5 := Lib.hid (HR5.out.keptP hkp (fun hp a ha e => NE5x.out hp a ha e))
        replace HR6 := Lib.hid (HR6.out.keptP hkp (fun hp a ha e => NE6x.out hp a ha e))
        replace HBz := Lib.hid (hkp.blk HBz.out (fun e => by have := HXZ.out; omega))
        replace Pu := Lib.hid (hkp.blk Pu.out (fun e => by have := HUx.out; omega))
        replace Pv := Lib.hid (hkp.blk Pv.out (fun e => by have := HUx.out; omega))
        replace HBx := Lib.hid hbs
        clear hkp hbs
        generalize (((((v6.setCell ⟨bx, 0, none⟩ (.int .i64 (P.lv : Int))).setCell ⟨bx, 1, none⟩ (.slice A5 P.xs.length c5)).setCell ⟨bx, 2, none⟩ (.string P.hi)).setCell ⟨bx, 3, none⟩ (.bool P.la)).setCell ⟨bx, 4, none⟩ (.int .u64 (P.rt : Int))) = Sx at *
        refine hK.out _ _ ?_ (fun hHeld2 => ?_)
        · exact ⟨E.out.cfg, Pu.out, Pv.out⟩
        clear hK KK hHeld
        have hHeld := hHeld2
        clear hHeld2
        try simp only [Act.put, List.setIfInBounds_toArray, List.set_cons_zero, List.set_cons_succ]
        refine wpAnyH_ready (rs := [9]) (by kernel_rfl) (by simp) ?_
        refine AllReadyH.cons (o := ⟨none, _, _, _, _, _⟩) rfl (fun KK hK => ?_) AllReadyH.nil
        have u0 := HBz.out.cell (i := 0) rfl
        have zu0 := HBz.out.frozen 0
        have u1 := HBz.out.cell (i := 1) rfl
        have zu1 := HBz.out.frozen 1
        have u2 := HBz.out.cell (i := 2) rfl
        have zu2 := HBz.out.frozen 2
        have u3 := HBz.out.cell (i := 3) rfl
        have zu3 := HBz.out.frozen 3
        have u4 := HBz.out.cell (i := 4) rfl
        have zu4 := HBz.out.frozen 4
        go_simp
        clear u0 zu0 u1 zu1 u2 zu2 u3 zu3 u4 zu4
        have hkp := ((((((Kept.refl (fun i => i = bz) Sx).setCell (a := ⟨bz, 0, none⟩) (fun _ => rfl) (.int .i64 (Q.lv : Int))).setCell (a := ⟨bz, 1, none⟩) (fun _ => rfl) (.slice A6 Q.xs.length c6)).setCell (a := ⟨bz, 2, none⟩) (fun _ => rfl) (.string Q.hi)).setCell (a := ⟨bz, 3, none⟩) (fun _ => rfl) (.bool Q.la)).setCell (a := ⟨bz, 4, none⟩) (fun _ => rfl) (.int .u64 (Q.rt : Int)))
        have hbs := (((((HBz.out.set 0 (.int .i64 (Q.lv : Int))).set 1 (.slice A6 Q.xs.length c6)).set 2 (.string Q.hi)).set 3 (.bool Q.la)).set 4 (.int .u64 (Q.rt : Int)))
        replace HM := Lib.hid (HM.out.kept hkp (fun e => HNz.out (.inl e.symm)) (fun e => HNz.out (.inr e.symm)))
        replace E := Lib.hid (E.out.at HOz.out hkp)
        replace HR5 := Lib.hid (HR5.out.keptP hkp (fun hp a ha e => NE5z.out hp a ha e))
        replace HR6 := Lib.hid (HR6.out.keptP hkp (fun hp a ha e => NE6z.out hp a ha e))
        replace HBx := Lib.hid (hkp.blk HBx.out (fun e => by have := HXZ.out; omega))
        replace Pu := Lib.hid (hkp.blk Pu.out (fun e => by have := HUz.out; omega))
        replace Pv := Lib.hid (hkp.blk Pv.out (fun e => by have := HUz.out; omega))
        replace HBz := Lib.hid hbs
        clear hkp hbs
        generalize (((((Sx.setCell ⟨bz, 0, none⟩ (.int .i64 (Q.lv : Int))).setCell ⟨bz, 1, none⟩ (.slice A6 Q.xs.length c6)).setCell ⟨bz, 2, none⟩ (.string Q.hi)).setCell ⟨bz, 3, none⟩ (.bool Q.la)).setCell ⟨bz, 4, none⟩ (.int .u64 (Q.rt : Int))) = Sz at *
        refine hK.out _ _ ?_ (fun hHeld2 => ?_)
        · exact ⟨E.out.cfg, Pu.out, Pv.out⟩
        clear hK KK hHeld
        have hHeld := hHeld2
        clear hHeld2
        try simp only [Act.put, List.setIfInBounds_toArray, List.set_cons_zero, List.set_cons_succ]
        refine wpAnyH_done (by kernel_rfl) ?_ _
        clear hHeld
        go_wp2
        go_meet
        exact ⟨bx, bz, A5, c5, A6, c6, rfl, rfl, E.out, HM.out, ⟨HBx.out, HR5.out, HNx.out, HA5.out⟩, ⟨HBz.out, HR6.out, HNz.out, HA6.out⟩⟩
    · go_simp
      have hal := (Kept.refl (fun _ => False) G).alloc (.cells #[.int .i64 0, .slice none 0 0, .string ⟨#[]⟩, .bool false, .int .u64 0] 25)
      have HBz := Lib.hid (Blk.new G [.int .i64 0, .slice none 0 0, .string ⟨#[]⟩, .bool false, .int .u64 0] 25)
      have HNz := Lib.hid (show ¬ Own b g G.heap.size by have := HM.out.obj.lt; have := HM.out.row.lt; unfold Own; omega)
      have HOz := Lib.hid (show b9 < G.heap.size ∧ b10 < G.heap.size ∧ w.heap.size ≤ G.heap.size from ⟨E.out.cfg.lt, E.out.lay.lt, E.out.kept.size⟩)
      have HUz := Lib.hid (show pu < G.heap.size ∧ pv < G.heap.size from ⟨Pu.out.lt, Pv.out.lt⟩)
      replace E := Lib.hid (E.out.none hal)
      replace HM := Lib.hid (HM.out.kept hal (fun h => h) (fun h => h))
      replace Pu := Lib.hid (hal.blk Pu.out (fun h => h))
      replace Pv := Lib.hid (hal.blk Pv.out (fun h => h))
      replace HRu := Lib.hid (HRu.out.keptF hal (fun _ _ h => h))
      replace HRv := Lib.hid (HRv.out.keptF hal (fun _ _ h => h))
      clear hal
      generalize G.alloc (.cells #[.int .i64 0, .slice none 0 0, .string ⟨#[]⟩, .bool false, .int .u64 0] 25) = Vz at *
      generalize G.heap.size = bz at *
      refine hK.out _ _ ?_ (fun hHeld2 => ?_)
      · exact ⟨E.out.cfg, Pu.out, Pv.out⟩
      clear hK KK hHeld
      have hHeld := hHeld2
      clear hHeld2
      try simp only [Act.put, List.setIfInBounds_toArray, List.set_cons_zero, List.set_cons_succ]
      refine wpAnyH_ready (rs := [2, 6]) (by kernel_rfl) (by simp) ?_
      refine AllReadyH.cons (o := ⟨some 36, _, _, _, _, _⟩) rfl (fun KK hK => ?_) (AllReadyH.cons (o := ⟨some 12, _, _, _, _, _⟩) rfl (fun KK hK => ?_) AllReadyH.nil)
      · go_simp
        go_at_call 11
        refine (content_any F plv A c hi la rt xs 0 _ n hn (by omega) HRu.out P HPC.out).mono ?_; rintro e v5 ⟨A5, c5, rfl, hR, hA, hK9⟩
        have HA5 := Lib.hid (show ∀ a, A5 = some a → ¬ Own b g a.block from fun a ha e => by have := hA a ha; have := HM.out.obj.lt; have := HM.out.row.lt; unfold Own at e; omega)
        have NE5z := Lib.hid (show 0 < P.xs.length → ∀ a, A5 = some a → a.block ≠ bz from fun _ a ha => by have := hA a ha; have := HBz.out.lt; omega)
        replace E := Lib.hid (E.out.none hK9)
        replace HM := Lib.hid (HM.out.kept hK9 (fun h => h) (fun h => h))
        replace Pu := Lib.hid (hK9.blk Pu.out (fun h => h))
        replace Pv := Lib.hid (hK9.blk Pv.out (fun h => h))
        replace HBz := Lib.hid (hK9.blk HBz.out (fun h => h))
        replace HRu := Lib.hid (HRu.out.keptF hK9 (fun _ _ h => h))
        replace HRv := Lib.hid (HRv.out.keptF hK9 (fun _ _ h => h))
        have HR5 := Lib.hid hR
        clear hR hA hK9
        refine hK.out _ _ ?_ (fun hHeld2 => ?_)
        · exact ⟨E.out.cfg, Pu.out, Pv.out⟩
        clear hK KK hHeld
        have hHeld := hHeld2
        clear hHeld2
        try simp only [Act.put, List.setIfInBounds_toArray, List.set_cons_zero, List.set_cons_succ]
        refine wpAnyH_ready (rs := [5, 6]) (by kernel_rfl) (by simp) ?_
        refine AllReadyH.cons (o := ⟨some 39, _, _, _, _, _⟩) rfl (fun KK hK => ?_) (AllReadyH.cons (o := ⟨some 12, _, _, _, _, _⟩) rfl (fun KK hK => ?_) AllReadyH.nil)
        · go_simp
          go_at_call 11
          refine (content_any F plv2 A2 c2 hi2 la2 rt2 xs2 0 _ n2 hn2 (by omega) HRv.out Q HQC.out).mono ?_; rintro e v6 ⟨A6, c6, rfl, hR, hA, hK9⟩
          have HA6 := Lib.hid (show ∀ a, A6 = some a → ¬ Own b g a.block from fun a ha e => by have := hA a ha; have := HM.out.obj.lt; have := HM.out.row.lt; unfold Own at e; omega)
          have NE6z := Lib.hid (show 0 < Q.xs.length → ∀ a, A6 = some a → a.block ≠ bz from fun _ a ha => by have := hA a ha; have := HBz.out.lt; omega)
          replace E := Lib.hid (E.out.none hK9)
          replace HM := Lib.hid (HM.out.kept hK9 (fun h => h) (fun h => h))
          replace Pu := Lib.hid (hK9.blk Pu.out (fun h => h))
          replace Pv := Lib.hid (hK9.blk Pv.out (fun h => h))
          replace HBz := Lib.hid (hK9.blk HBz.out (fun h => h))
          replace HRu := Lib.hid (HRu.out.keptF hK9 (fun _ _ h => h))
          replace HRv := Lib.hid (HRv.out.keptF hK9 (fun _ _ h => h))
          replace HR5 := Lib.hid (HR5.out.keptF hK9 (fun _ _ h => h))
          have HR6 := Lib.hid hR
          clear hR hA hK9
          refine hK.out _ _ ?_ (fun hHeld2 => ?_)
          · exact ⟨E.out.cfg, Pu.out, Pv.out⟩
          clear hK KK hHeld
          have hHeld := hHeld2
          clear hHeld2
          try simp only [Act.put, List.setIfInBounds_toArray, List.set_cons_zero, List.set_cons_succ]
          refine wpAnyH_ready (rs := [6]) (by kernel_rfl) (by simp) ?_
          refine AllReadyH.cons (o := ⟨some 12, _, _, _, _, _⟩) rfl (fun KK hK => ?_) AllReadyH.nil
          go_simp
          have hal := (Kept.refl (fun _ => False) v6).alloc (.cells #[.int .i64 0, .slice none 0 0, .string ⟨#[]⟩, .bool false, .int .u64 0] 25)
          have HBx := Lib.hid (Blk.new v6 [.int .i64 0, .slice none 0 0, .string ⟨#[]⟩, .bool false, .int .u64 0] 25)
          have HNx := Lib.hid (show ¬ Own b g v6.heap.size by have := HM.out.obj.lt; have := HM.out.row.lt; unfold Own; omega)
          have HOx := Lib.hid (show b9 < v6.heap.size ∧ b10 < v6.heap.size ∧ w.heap.size ≤ v6.heap.size from ⟨E.out.cfg.lt, E.out.lay.lt, E.out.kept.size⟩)
          have HUx := Lib.hid (show pu < v6.heap.size ∧ pv < v6.heap.size from ⟨Pu.out.lt, Pv.out.lt⟩)
          have NE5x := Lib.hid (show 0 < P.xs.length → ∀ a, A5 = some a → a.block ≠ v6.heap.size from fun hp a ha => by have := HR5.out.lt hp a ha; omega)
          have NE6x := Lib.hid (show 0 < Q.xs.length → ∀ a, A6 = some a → a.block ≠ v6.heap.size from fun hp a ha => by have := HR6.out.lt hp a ha; omega)
          have HXZ := Lib.hid (show bz ≠ v6.heap.size by have := HBz.out.lt; omega)
          replace E := Lib.hid (E.out.none hal)
          replace HM := Lib.hid (HM.out.kept hal (fun h => h) (fun h => h))
          replace Pu := Lib.hid (hal.blk Pu.out (fun h => h))
          replace Pv := Lib.hid (hal.blk Pv.out (fun h => h))
          replace HBz := Lib.hid (hal.blk HBz.out (fun h => h))
          replace HRu := Lib.hid (HRu.out.keptF hal (fun _ _ h => h))
          replace HRv := Lib.hid (HRv.out.keptF hal (fun _ _ h => h))
          replace HR5 := Lib.hid (HR5.out.keptF hal (fun _ _ h => h))
          replace HR6 := Lib.hid (HR6.out.keptF hal (fun _ _ h => h))
          clear hal
          generalize v6.alloc (.cells #[.int .i64 0, .slice none 0 0, .string ⟨#[]⟩, .bool false, .int .u64 0] 25) = Vx at *
          generalize v6.heap.size = bx at *
          refine hK.out _ _ ?_ (fun hHeld2 => ?_)
          · exact ⟨E.out.cfg, Pu.out, Pv.out⟩
          clear hK KK hHeld
          have hHeld := hHeld2
          clear hHeld2
          try simp only [Act.put, List.setIfInBounds_toArray, List.set_cons_zero, List.set_cons_succ]
          refine wpAnyH_ready (rs := [8]) (by kernel_rfl) (by simp) ?_
          refine AllReadyH.cons (o := ⟨none, _, _, _, _, _⟩) rfl (fun KK hK => ?_) AllReadyH.nil
          have u0 := HBx.out.cell (i := 0) rfl
          have zu0 := HBx.out.frozen 0
          have u1 := HBx.out.cell (i := 1) rfl
          have zu1 := HBx.out.frozen 1
          have u2 := HBx.out.cell (i := 2) rfl
          have zu2 := HBx.out.frozen 2
          have u3 := HBx.out.cell (i := 3) rfl
          have zu3 := HBx.out.frozen 3
          have u4 := HBx.out.cell (i := 4) rfl
          have zu4 := HBx.out.frozen 4
          go_simp
          clear u0 zu0 u1 zu1 u2 zu2 u3 zu3 u4 zu4
          have hkp := ((((((Kept.refl (fun i => i = bx) Vx).setCell (a := ⟨bx, 0, none⟩) (fun _ => rfl) (.int .i64 (P.lv : Int))).setCell (a := ⟨bx, 1, none⟩) (fun _ => rfl) (.slice A5 P.xs.length c5)).setCell (a := ⟨bx, 2, none⟩) (fun _ => rfl) (.string P.hi)).setCell (a := ⟨bx, 3, none⟩) (fun _ => rfl) (.bool P.la)).setCell (a := ⟨bx, 4, none⟩) (fun _ => rfl) (.int .u64 (P.rt : Int)))
          have hbs := (((((HBx.out.set 0 (.int .i64 (P.lv : Int))).set 1 (.slice A5 P.xs.length c5)).set 2 (.string P.hi)).set 3 (.bool P.la)).set 4 (.int .u64 (P.rt : Int)))
          replace HM := Lib.hid (HM.out.kept hkp (fun e => HNx.out (.inl e.symm)) (fun e => HNx.out (.inr e.symm)))
          replace E := Lib.hid (E.out.at HOx.out hkp)
          replace HR5 := Lib.hid (HR5.out.keptP hkp (fun hp a ha e => NE5x.out hp a ha e))
          replace HR6 := Lib.hid (HR6.out.keptP hkp (fun hp a ha e => NE6x.out hp a ha e))
          replace HBz := Lib.hid (hkp.blk HBz.out (fun e => by have := HXZ.out; omega))
          replace Pu := Lib.hid (hkp.blk Pu.out (fun e => by have := HUx.out; omega))
          replace Pv := Lib.hid (hkp.blk Pv.out (fun e => by have := HUx.out; omega))
          replace HBx := Lib.hid hbs
          clear hkp hbs
          generalize (((((Vx.setCell ⟨bx, 0, none⟩ (.int .i64 (P.lv : Int))).setCell ⟨bx, 1, none⟩ (.slice A5 P.xs.length c5)).setCell ⟨bx, 2, none⟩ (.string P.hi)).setCell ⟨bx, 3, none⟩ (.bool P.la)).setCell ⟨bx, 4, none⟩ (.int .u64 (P.rt : Int))) = Sx at *
          refine hK.out _ _ ?_ (fun hHeld2 => ?_)
          · exact ⟨E.out.cfg, Pu.out, Pv.out⟩
          clear hK KK hHeld
          have hHeld := hHeld2
          clear hHeld2
          try simp only [Act.put, List.setIfInBounds_toArray, List.set_cons_zero, List.set_cons_succ]
          refine wpAnyH_ready (rs := [9]) (by kernel_rfl) (by simp) ?_
          refine AllReadyH.cons (o := ⟨none, _, _, _, _, _⟩) rfl (fun KK hK => ?_) AllReadyH.nil
          have u0 := HBz.out.cell (i := 0) rfl
          have zu0 := HBz.out.frozen 0
          have u1 := HBz.out.cell (i := 1) rfl
          have zu1 := HBz.out.frozen 1
          have u2 := HBz.out.cell (i := 2) rfl
          have zu2 := HBz.out.frozen 2
          have u3 := HBz.out.cell (i := 3) rfl
          have zu3 := HBz.out.frozen 3
          have u4 := HBz.out.cell (i := 4) rfl
          have zu4 := HBz.out.frozen 4
          go_simp
          clear u0 zu0 u1 zu1 u2 zu2 u3 zu3 u4 zu4
          have hkp := ((((((Kept.refl (fun i => i = bz) Sx).setCell (a := ⟨bz, 0, none⟩) (fun _ => rfl) (.int .i64 (Q.lv : Int))).setCell (a := ⟨bz, 1, none⟩) (fun _ => rfl) (.slice A6 Q.xs.length c6)).setCell (a := ⟨bz, 2, none⟩) (fun _ => rfl) (.string Q.hi)).setCell (a := ⟨bz, 3, none⟩) (fun _ => rfl) (.bool Q.la)).setCell (a := ⟨bz, 4, none⟩) (fun _ => rfl) (.int .u64 (Q.rt : Int)))
          have hbs := (((((HBz.out.set 0 (.int .i64 (Q.lv : Int))).set 1 (.slice A6 Q.xs.length c6)).set 2 (.string Q.hi)).set 3 (.bool Q.la)).set 4 (.int .u64 (Q.rt : Int)))
          replace HM := Lib.hid (HM.out.kept hkp (fun e => HNz.out (.inl e.symm)) (fun e => HNz.out (.inr e.symm)))
          replace E := Lib.hid (E.out.at HOz.out hkp)
          replace HR5 := Lib.hid (HR5.out.keptP hkp (fun hp a ha e => NE5z.out hp a ha e))
          replace HR6 := Lib.hid (HR6.out.keptP hkp (fun hp a ha e => NE6z.out hp a ha e))
          replace HBx := Lib.hid (hkp.blk HBx.out (fun e => by have := HXZ.out; omega))
          replace Pu := Lib.hid (hkp.blk Pu.out (fun e => by have := HUz.out; omega))
          replace Pv := Lib.hid (hkp.blk Pv.out (fun e => by have := HUz.out; omega))
          replace HBz := Lib.hid hbs
          clear hkp hbs
          generalize (((((Sx.setCell ⟨bz, 0, none⟩ (.int .i64 (Q.lv : Int))).setCell ⟨bz, 1, none⟩ (.slice A6 Q.xs.length c6)).setCell ⟨bz, 2, none⟩ (.string Q.hi)).setCell ⟨bz, 3, none⟩ (.bool Q.la)).setCell ⟨bz, 4, none⟩ (.int .u64 (Q.rt : Int))) = Sz at *
          refine hK.out _ _ ?_ (fun hHeld2 => ?_)
          · exact ⟨E.out.cfg, Pu.out, Pv.out⟩
          clear hK KK hHeld
          have hHeld := hHeld2
          clear hHeld2
          try simp only [Act.put, List.setIfInBounds_toArray, List.set_cons_zero, List.set_cons_succ]
          refine wpAnyH_done (by kernel_rfl) ?_ _
          clear hHeld
          go_wp2
          go_meet
          exact ⟨bx, bz, A5, c5, A6, c6, rfl, rfl, E.out, HM.out, ⟨HBx.out, HR5.out, HNx.out, HA5.out⟩, ⟨HBz.out, HR6.out, HNz.out, HA6.out⟩⟩
        · go_simp
          have hal := (Kept.refl (fun _ => False) v5).alloc (.cells #[.int .i64 0, .slice none 0 0, .string ⟨#[]⟩, .bool false, .int .u64 0] 25)
          have HBx := Lib.hid (Blk.new v5 [.int .i64 0, .slice none 0 0, .string ⟨#[]⟩, .bool false, .int .u64 0] 25)
          have HNx := Lib.hid (show ¬ Own b g v5.heap.size by have := HM.out.obj.lt; have := HM.out.row.lt; unfold Own; omega)
          have HOx := Lib.hid (show b9 < v5.heap.size ∧ b10 < v5.heap.size ∧ w.heap.size ≤ v5.heap.size from ⟨E.out.cfg.lt, E.out.lay.lt, E.out.kept.size⟩)
          have HUx := Lib.hid (show pu < v5.heap.size ∧ pv < v5.heap.size from ⟨Pu.out.lt, Pv.out.lt⟩)
          have NE5x := Lib.hid (show 0 < P.xs.length → ∀ a, A5 = some a → a.block ≠ v5.heap.size from fun hp a ha => by have := HR5.out.lt hp a ha; omega)
          have HXZ := Lib.hid (show bz ≠ v5.heap.size by have := HBz.out.lt; omega)
          replace E := Lib.hid (E.out.none hal)
          replace HM := Lib.hid (HM.out.kept hal (fun h => h) (fun h => h))
          replace Pu := Lib.hid (hal.blk Pu.out (fun h => h))
          replace Pv := Lib.hid (hal.blk Pv.out (fun h => h))
          replace HBz := Lib.hid (hal.blk HBz.out (fun h => h))
          replace HRu := Lib.hid (HRu.out.keptF hal (fun _ _ h => h))
          replace HRv := Lib.hid (HRv.out.keptF hal (fun _ _ h => h))
          replace HR5 := Lib.hid (HR5.out.keptF hal (fun _ _ h => h))
          clear hal
          generalize v5.alloc (.cells #[.int .i64 0, .slice none 0 0, .string ⟨#[]⟩, .bool false, .int .u64 0] 25) = Vx at *
          generalize v5.heap.size = bx at *
          refine hK.out _ _ ?_ (fun hHeld2 => ?_)
          · exact ⟨E.out.cfg, Pu.out, Pv.out⟩
          clear hK KK hHeld
          have hHeld := hHeld2
          clear hHeld2
          try simp only [Act.put, List.setIfInBounds_toArray, List.set_cons_zero, List.set_cons_succ]
          refine wpAnyH_ready (rs := [5]) (by kernel_rfl) (by simp) ?_
          refine AllReadyH.cons (o := ⟨some 39, _, _, _, _, _⟩) rfl (fun KK hK => ?_) AllReadyH.nil
          go_simp
          go_at_call 11
          refine (content_any F plv2 A2 c2 hi2 la2 rt2 xs2 0 _ n2 hn2 (by omega) HRv.out Q HQC.out).mono ?_; rintro e v6 ⟨A6, c6, rfl, hR, hA, hK9⟩
          have HA6 := Lib.hid (show ∀ a, A6 = some a → ¬ Own b g a.block from fun a ha e => by have := hA a ha; have := HM.out.obj.lt; have := HM.out.row.lt; unfold Own at e; omega)
          have NE6z := Lib.hid (show 0 < Q.xs.length → ∀ a, A6 = some a → a.block ≠ bz from fun _ a ha => by have := hA a ha; have := HBz.out.lt; omega)
          have NE6x := Lib.hid (show 0 < Q.xs.length → ∀ a, A6 = some a → a.block ≠ bx from fun _ a ha => by have := hA a ha; have := HBx.out.lt; omega)
          replace E := Lib.hid (E.out.none hK9)
          replace HM := Lib.hid (HM.out.kept hK9 (fun h => h) (fun h => h))
          replace Pu := Lib.hid (hK9.blk Pu.out (fun h => h))
          replace Pv := Lib.hid (hK9.blk Pv.out (fun h => h))
          replace HBz := Lib.hid (hK9.blk HBz.out (fun h => h))
          replace HBx := Lib.hid (hK9.blk HBx.out (fun h => h))
          replace HRu := Lib.hid (HRu.out.keptF hK9 (fun _ _ h => h))
          replace HRv := Lib.hid (HRv.out.keptF hK9 (fun _ _ h => h))
          replace HR5 := Lib.hid (HR5.out.keptF hK9 (fun _ _ h => h))
          have HR6 := Lib.hid hR
          clear hR hA hK9
          refine hK.out _ _ ?_ (fun hHeld2 => ?_)
          · exact ⟨E.out.cfg, Pu.out, Pv.out⟩
          clear hK KK hHeld
          have hHeld := hHeld2
          clear hHeld2
          try simp only [Act.put, List.setIfInBounds_toArray, List.set_cons_zero, List.set_cons_succ]
          refine wpAnyH_ready (rs := [8]) (by kernel_rfl) (by simp) ?_
          refine AllReadyH.cons (o := ⟨none, _, _, _, _, _⟩) rfl (fun KK hK => ?_) AllReadyH.nil
          have u0 := HBx.out.cell (i := 0) rfl
          have zu0 := HBx.out.frozen 0
          have u1 := HBx.out.cell (i := 1) rfl
          have zu1 := HBx.out.frozen 1
          have u2 := HBx.out.cell (i := 2) rfl
          have zu2 := HBx.out.frozen 2
          have u3 := HBx.out.cell (i := 3) rfl
          have zu3 := HBx.out.frozen 3
          have u4 := HBx.out.cell (i := 4) rfl
          have zu4 := HBx.out.frozen 4
          go_simp
          clear u0 zu0 u1 zu1 u2 zu2 u3 zu3 u4 zu4
          have hkp := ((((((Kept.refl (fun i => i = bx) v6).setCell (a := ⟨bx, 0, none⟩) (fun _ => rfl) (.int .i64 (P.lv : Int))).setCell (a := ⟨bx, 1, none⟩) (fun _ => rfl) (.slice A5 P.xs.length c5)).setCell (a := ⟨bx, 2, none⟩) (fun _ => rfl) (.string P.hi)).setCell (a := ⟨bx, 3, none⟩) (fun _ => rfl) (.bool P.la)).setCell (a := ⟨bx, 4, none⟩) (fun _ => rfl) (.int .u64 (P.rt : Int)))
          have hbs := (((((HBx.out.set 0 (.int .i64 (P.lv : Int))).set 1 (.slice A5 P.xs.length c5)).set 2 (.string P.hi)).set 3 (.bool P.la)).set 4 (.int .u64 (P.rt : Int)))
          replace HM := Lib.hid (HM.out.kept hkp (fun e => HNx.out (.inl e.symm)) (fun e => HNx.out (.inr e.symm)))
          replace E := Lib.hid (E.out.at HOx.out hkp)
          replace HR5 := Lib.hid (HR5.out.keptP hkp (fun hp a ha e => NE5x.out hp a ha e))
          replace HR6 := Lib.hid (HR6.out.keptP hkp (fun hp a ha e => NE6x.out hp a ha e))
          replace HBz := Lib.hid (hkp.blk HBz.out (fun e => by have := HXZ.out; omega))
          replace Pu := Lib.hid (hkp.blk Pu.out (fun e => by have := HUx.out; omega))
          replace Pv := Lib.hid (hkp.blk Pv.out (fun e => by have := HUx.out; omega))
          replace HBx := Lib.hid hbs
          clear hkp hbs
          generalize (((((v6.setCell ⟨bx, 0, none⟩ (.int .i64 (P.lv : Int))).setCell ⟨bx, 1, none⟩ (.slice A5 P.xs.length c5)).setCell ⟨bx, 2, none⟩ (.string P.hi)).setCell ⟨bx, 3, none⟩ (.bool P.la)).setCell ⟨bx, 4, none⟩ (.int .u64 (P.rt : Int))) = Sx at *
          refine hK.out _ _ ?_ (fun hHeld2 => ?_)
          · exact ⟨E.out.cfg, Pu.out, Pv.out⟩
          clear hK KK hHeld
          have hHeld := hHeld2
          clear hHeld2
          try simp only [Act.put, List.setIfInBounds_toArray, List.set_cons_zero, List.set_cons_succ]
          refine wpAnyH_ready (rs := [9]) (by kernel_rfl) (by simp) ?_
          refine AllReadyH.cons (o := ⟨none, _, _, _, _, _⟩) rfl (fun KK hK => ?_) AllReadyH.nil
          have u0 := HBz.out.cell (i := 0) rfl
          have zu0 := HBz.out.frozen 0
          have u1 := HBz.out.cell (i := 1) rfl
          have zu1 := HBz.out.frozen 1
          have u2 := HBz.out.cell (i := 2) rfl
          have zu2 := HBz.out.frozen 2
          have u3 := HBz.out.cell (i := 3) rfl
          have zu3 := HBz.out.frozen 3
          have u4 := HBz.out.cell (i := 4) rfl
          have zu4 := HBz.out.frozen 4
          go_simp
          clear u0 zu0 u1 zu1 u2 zu2 u3 zu3 u4 zu4
          have hkp := ((((((Kept.refl (fun i => i = bz) Sx).setCell (a := ⟨bz, 0, none⟩) (fun _ => rfl) (.int .i64 (Q.lv : Int))).setCell (a := ⟨bz, 1, none⟩) (fun _ => rfl) (.slice A6 Q.xs.length c6)).setCell (a := ⟨bz, 2, none⟩) (fun _ => rfl) (.string Q.hi)).setCell (a := ⟨bz, 3, none⟩) (fun _ => rfl) (.bool Q.la)).setCell (a := ⟨bz, 4, none⟩) (fun _ => rfl) (.int .u64 (Q.rt : Int)))
          have hbs := (((((HBz.out.set 0 (.int .i64 (Q.lv : Int))).set 1 (.slice A6 Q.xs.length c6)).set 2 (.string Q.hi)).set 3 (.bool Q.la)).set 4 (.int .u64 (Q.rt : Int)))
          replace HM := Lib.hid (HM.out.kept hkp (fun e => HNz.out (.inl e.symm)) (fun e => HNz.out (.inr e.symm)))
          replace E := Lib.hid (E.out.at HOz.out hkp)
          replace HR5 := Lib.hid (HR5.out.keptP hkp (fun hp a ha e => NE5z.out hp a ha e))
          replace HR6 := Lib.hid (HR6.out.keptP hkp (fun hp a ha e => NE6z.out hp a ha e))
          replace HBx := Lib.hid (hkp.blk HBx.out (fun e => by have := HXZ.out; omega))
          replace Pu := Lib.hid (hkp.blk Pu.out (fun e => by have := HUz.out; omega))
          replace Pv := Lib.hid (hkp.blk Pv.out (fun e => by have := HUz.out; omega))
          replace HBz := Lib.hid hbs
          clear hkp hbs
          generalize (((((Sx.setCell ⟨bz, 0, none⟩ (.int .i64 (Q.lv : Int))).setCell ⟨bz, 1, none⟩ (.slice A6 Q.xs.length c6)).setCell ⟨bz, 2, none⟩ (.string Q.hi)).setCell ⟨bz, 3, none⟩ (.bool Q.la)).setCell ⟨bz, 4, none⟩ (.int .u64 (Q.rt : Int))) = Sz at *
          refine hK.out _ _ ?_ (fun hHeld2 => ?_)
          · exact ⟨E.out.cfg, Pu.out, Pv.out⟩
          clear hK KK hHeld
          have hHeld := hHeld2
          clear hHeld2
          try simp only [Act.put, List.setIfInBounds_toArray, List.set_cons_zero, List.set_cons_succ]
          refine wpAnyH_done (by kernel_rfl) ?_ _
          clear hHeld
          go_wp2
          go_meet
          exact ⟨bx, bz, A5, c5, A6, c6, rfl, rfl, E.out, HM.out, ⟨HBx.out, HR5.out, HNx.out, HA5.out⟩, ⟨HBz.out, HR6.out, HNz.out, HA6.out⟩⟩
      · go_simp
        have hal := (Kept.refl (fun _ => False) Vz).alloc (.cells #[.int .i64 0, .slice none 0 0, .string ⟨#[]⟩, .bool false, .int .u64 0] 25)
        have HBx := Lib.hid (Blk.new Vz [.int .i64 0, .slice none 0 0, .string ⟨#[]⟩, .bool false, .int .u64 0] 25)
        have HNx := Lib.hid (show ¬ Own b g Vz.heap.size by have := HM.out.obj.lt; have := HM.out.row.lt; unfold Own; omega)
        have HOx := Lib.hid (show b9 < Vz.heap.size ∧ b10 < Vz.heap.size ∧ w.heap.size ≤ Vz.heap.size from ⟨E.out.cfg.lt, E.out.lay.lt, E.out.kept.size⟩)
        have HUx := Lib.hid (show pu < Vz.heap.size ∧ pv < Vz.heap.size from ⟨Pu.out.lt, Pv.out.lt⟩)
        have HXZ := Lib.hid (show bz ≠ Vz.heap.size by have := HBz.out.lt; omega)
        replace E := Lib.hid (E.out.none hal)
        replace HM := Lib.hid (HM.out.kept hal (fun h => h) (fun h => h))
        replace Pu := Lib.hid (hal.blk Pu.out (fun h => h))
        replace Pv := Lib.hid (hal.blk Pv.out (fun h => h))
        replace HBz := Lib.hid (hal.blk HBz.out (fun h => h))
        replace HRu := Lib.hid (HRu.out.keptF hal (fun _ _ h => h))
        replace HRv := Lib.hid (HRv.out.keptF hal (fun _ _ h => h))
        clear hal
        generalize Vz.alloc (.cells #[.int .i64 0, .slice none 0 0, .string ⟨#[]⟩, .bool false, .int .u64 0] 25) = Vx at *
        generalize Vz.heap.size = bx at *
        refine hK.out _ _ ?_ (fun hHeld2 => ?_)
        · exact ⟨E.out.cfg, Pu.out, Pv.out⟩
        clear hK KK hHeld
        have hHeld := hHeld2
        clear hHeld2
        try simp only [Act.put, List.setIfInBounds_toArray, List.set_cons_zero, List.set_cons_succ]
        refine wpAnyH_ready (rs := [2]) (by kernel_rfl) (by simp) ?_
        refine AllReadyH.cons (o := ⟨some 36, _, _, _, _, _⟩) rfl (fun KK hK => ?_) AllReadyH.nil
        go_simp
        go_at_call 11
        refine (content_any F plv A c hi la rt xs 0 _ n hn (by omega) HRu.out P HPC.out).mono ?_; rintro e v5 ⟨A5, c5, rfl, hR, hA, hK9⟩
        have HA5 := Lib.hid (show ∀ a, A5 = some a → ¬ Own b g a.block from fun a ha e => by have := hA a ha; have := HM.out.obj.lt; have := HM.out.row.lt; unfold Own at e; omega)
        have NE5z := Lib.hid (show 0 < P.xs.length → ∀ a, A5 = some a → a.block ≠ bz from fun _ a ha => by have := hA a ha; have := HBz.out.lt; omega)
        have NE5x := Lib.hid (show 0 < P.xs.length → ∀ a, A5 = some a → a.block ≠ bx from fun _ a ha => by have := hA a ha; have := HBx.out.lt; omega)
        replace E := Lib.hid (E.out.none hK9)
        replace HM := Lib.hid (HM.out.kept hK9 (fun h => h) (fun h => h))
        replace Pu := Lib.hid (hK9.blk Pu.out (fun h => h))
        replace Pv := Lib.hid (hK9.blk Pv.out (fun h => h))
        replace HBz := Lib.hid (hK9.blk HBz.out (fun h => h))
        replace HBx := Lib.hid (hK9.blk HBx.out (fun h => h))
        replace HRu := Lib.hid (HRu.out.keptF hK9 (fun _ _ h => h))
        replace HRv := Lib.hid (HRv.out.keptF hK9 (fun _ _ h => h))
        have HR5 := Lib.hid hR
        clear hR hA hK9
        refine hK.out _ _ ?_ (fun hHeld2 => ?_)
        · exact ⟨E.out.cfg, Pu.out, Pv.out⟩
        clear hK KK hHeld
        have hHeld := hHeld2
        clear hHeld2
        try simp only [Act.put, List.setIfInBounds_toArray, List.set_cons_zero, List.set_cons_succ]
        refine wpAnyH_ready (rs := [5]) (by kernel_rfl) (by simp) ?_
        refine AllReadyH.cons (o := ⟨some 39, _, _, _, _, _⟩) rfl (fun KK hK => ?_) AllReadyH.nil
        go_simp
        go_at_call 11
        refine (content_any F plv2 A2 c2 hi2 la2 rt2 xs2 0 _ n2 hn2 (by omega) HRv.out Q HQC.out).mono ?_; rintro e v6 ⟨A6, c6, rfl, hR, hA, hK9⟩
        have HA6 := Lib.hid (show ∀ a, A6 = some a → ¬ Own b g a.block from fun a ha e => by have := hA a ha; have := HM.out.obj.lt; have := HM.out.row.lt; unfold Own at e; omega)
        have NE6z := Lib.hid (show 0 < Q.xs.length → ∀ a, A6 = some a → a.block ≠ bz from fun _ a ha => by have := hA a ha; have := HBz.out.lt; omega)
        have NE6x := Lib.hid (show 0 < Q.xs.length → ∀ a, A6 = some a → a.block ≠ bx from fun _ a ha => by have := hA a ha; have := HBx.out.lt; omega)
        replace E := Lib.hid (E.out.none hK9)
        replace HM := Lib.hid (HM.out.kept hK9 (fun h => h) (fun h => h))
        replace Pu := Lib.hid (hK9.blk Pu.out (fun h => h))
        replace Pv := Lib.hid (hK9.blk Pv.out (fun h => h))
        replace HBz := Lib.hid (hK9.blk HBz.out (fun h => h))
        replace HBx := Lib.hid (hK9.blk HBx.out (fun h => h))
        replace HRu := Lib.hid (HRu.out.keptF hK9 (fun _ _ h => h))
        replace HRv := Lib.hid (HRv.out.keptF hK9 (fun _ _ h => h))
        replace HR5 := Lib.hid (HR5.out.keptF hK9 (fun _ _ h => h))
        have HR6 := Lib.hid hR
        clear hR hA hK9
        refine hK.out _ _ ?_ (fun hHeld2 => ?_)
        · exact ⟨E.out.cfg, Pu.out, Pv.out⟩
        clear hK KK hHeld
        have hHeld := hHeld2
        clear hHeld2
        try simp only [Act.put, List.setIfInBounds_toArray, List.set_cons_zero, List.set_cons_succ]
        refine wpAnyH_ready (rs := [8]) (by kernel_rfl) (by simp) ?_
        refine AllReadyH.cons (o := ⟨none, _, _, _, _, _⟩) rfl (fun KK hK => ?_) AllReadyH.nil
        have u0 := HBx.out.cell (i := 0) rfl
        have zu0 := HBx.out.frozen 0
        have u1 := HBx.out.cell (i := 1) rfl
        have zu1 := HBx.out.frozen 1
        have u2 := HBx.out.cell (i := 2) rfl
        have zu2 := HBx.out.frozen 2
        have u3 := HBx.out.cell (i := 3) rfl
        have zu3 := HBx.out.frozen 3
        have u4 := HBx.out.cell (i := 4) rfl
        have zu4 := HBx.out.frozen 4
        go_simp
        clear u0 zu0 u1 zu1 u2 zu2 u3 zu3 u4 zu4
        have hkp := ((((((Kept.refl (fun i => i = bx) v6).setCell (a := ⟨bx, 0, none⟩) (fun _ => rfl) (.int .i64 (P.lv : Int))).setCell (a := ⟨bx, 1, none⟩) (fun _ => rfl) (.slice A5 P.xs.length c5)).setCell (a := ⟨bx, 2, none⟩) (fun _ => rfl) (.string P.hi)).setCell (a := ⟨bx, 3, none⟩) (fun _ => rfl) (.bool P.la)).setCell (a := ⟨bx, 4, none⟩) (fun _ => rfl) (.int .u64 (P.rt : Int)))
        have hbs := (((((HBx.out.set 0 (.int .i64 (P.lv : Int))).set 1 (.slice A5 P.xs.length c5)).set 2 (.string P.hi)).set 3 (.bool P.la)).set 4 (.int .u64 (P.rt : Int)))
        replace HM := Lib.hid (HM.out.kept hkp (fun e => HNx.out (.inl e.symm)) (fun e => HNx.out (.inr e.symm)))
        replace E := Lib.hid (E.out.at HOx.out hkp)
        replace HR5 := Lib.hid (HR5.out.keptP hkp (fun hp a ha e => NE5x.out hp a ha e))
        replace HR6 := Lib.hid (HR6.out.keptP hkp (fun hp a ha e => NE6x.out hp a ha e))
        replace HBz := Lib.hid (hkp.blk HBz.out (fun e => by have := HXZ.out; omega))
        replace Pu := Lib.hid (hkp.blk Pu.out (fun e => by have := HUx.out; omega))
        replace Pv := Lib.hid (hkp.blk Pv.out (fun e => by have := HUx.out; omega))
        replace HBx := Lib.hid hbs
        clear hkp hbs
        generalize (((((v6.setCell ⟨bx, 0, none⟩ (.int .i64 (P.lv : Int))).setCell ⟨bx, 1, none⟩ (.slice A5 P.xs.length c5)).setCell ⟨bx, 2, none⟩ (.string P.hi)).setCell ⟨bx, 3, none⟩ (.bool P.la)).setCell ⟨bx, 4, none⟩ (.int .u64 (P.rt : Int))) = Sx at *
        refine hK.out _ _ ?_ (fun hHeld2 => ?_)
        · exact ⟨E.out.cfg, Pu.out, Pv.out⟩
        clear hK KK hHeld
        have hHeld := hHeld2
        clear hHeld2
        try simp only [Act.put, List.setIfInBounds_toArray, List.set_cons_zero, List.set_cons_succ]
        refine wpAnyH_ready (rs := [9]) (by kernel_rfl) (by simp) ?_
        refine AllReadyH.cons (o := ⟨none, _, _, _, _, _⟩) rfl (fun KK hK => ?_) AllReadyH.nil
        have u0 := HBz.out.cell (i := 0) rfl
        have zu0 := HBz.out.frozen 0
        have u1 := HBz.out.cell (i := 1) rfl
        have zu1 := HBz.out.frozen 1
        have u2 := HBz.out.cell (i := 2) rfl
        have zu2 := HBz.out.frozen 2
        have u3 := HBz.out.cell (i := 3) rfl
        have zu3 := HBz.out.frozen 3
        have u4 := HBz.out.cell (i := 4) rfl
        have zu4 := HBz.out.frozen 4
        go_simp
        clear u0 zu0 u1 zu1 u2 zu2 u3 zu3 u4 zu4
        have hkp := ((((((Kept.refl (fun i => i = bz) Sx).setCell (a := ⟨bz, 0, none⟩) (fun _ => rfl) (.int .i64 (Q.lv : Int))).setCell (a := ⟨bz, 1, none⟩) (fun _ => rfl) (.slice A6 Q.xs.length c6)).setCell (a := ⟨bz, 2, none⟩) (fun _ => rfl) (.string Q.hi)).setCell (a := ⟨bz, 3, none⟩) (fun _ => rfl) (.bool Q.la)).setCell (a := ⟨bz, 4, none⟩) (fun _ => rfl) (.int .u64 (Q.rt : Int)))
        have hbs := (((((HBz.out.set 0 (.int .i64 (Q.lv : Int))).set 1 (.slice A6 Q.xs.length c6)).set 2 (.string Q.hi)).set 3 (.bool Q.la)).set 4 (.int .u64 (Q.rt : Int)))
        replace HM := Lib.hid (HM.out.kept hkp (fun e => HNz.out (.inl e.symm)) (fun e => HNz.out (.inr e.symm)))
        replace E := Lib.hid (E.out.at HOz.out hkp)
        replace HR5 := Lib.hid (HR5.out.keptP hkp (fun hp a ha e => NE5z.out hp a ha e))
        replace HR6 := Lib.hid (HR6.out.keptP hkp (fun hp a ha e => NE6z.out hp a ha e))
        replace HBx := Lib.hid (hkp.blk HBx.out (fun e => by have := HXZ.out; omega))
        replace Pu := Lib.hid (hkp.blk Pu.out (fun e => by have := HUz.out; omega))
        replace Pv := Lib.hid (hkp.blk Pv.out (fun e => by have := HUz.out; omega))
        replace HBz := Lib.hid hbs
        clear hkp hbs
        generalize (((((Sx.setCell ⟨bz, 0, none⟩ (.int .i64 (Q.lv : Int))).setCell ⟨bz, 1, none⟩ (.slice A6 Q.xs.length c6)).setCell ⟨bz, 2, none⟩ (.string Q.hi)).setCell ⟨bz, 3, none⟩ (.bool Q.la)).setCell ⟨bz, 4, none⟩ (.int .u64 (Q.rt : Int))) = Sz at *
        refine hK.out _ _ ?_ (fun hHeld2 => ?_)
        · exact ⟨E.out.cfg, Pu.out, Pv.out⟩
        clear hK KK hHeld
        have hHeld := hHeld2
        clear hHeld2
        try simp only [Act.put, List.setIfInBounds_toArray, List.set_cons_zero, List.set_cons_succ]
        refine wpAnyH_done (by kernel_rfl) ?_ _
        clear hHeld
        go_wp2
        go_meet
        exact ⟨bx, bz, A5, c5, A6, c6, rfl, rfl, E.out, HM.out, ⟨HBx.out, HR5.out, HNx.out, HA5.out⟩, ⟨HBz.out, HR6.out, HNz.out, HA6.out⟩⟩
  case rest =>
    obtain ⟨bx, bz, A5, c5, A6, c6, rfl, rfl, hE, hM, hX, hY⟩ := hcut
    rename World => w5
    clear E HM Pu Pv HRu HRv HNu HNv
    have E := Lib.hid hE
    have HM := Lib.hid hM
    have X := Lib.hid hX
    have Y := Lib.hid hY
    clear hE hM hX hY
    have x0 := E.out.cfg.cell (i := 0) rfl
    have x1 := E.out.cfg.cell (i := 1) rfl
    have x2 := E.out.cfg.cell (i := 2) rfl
    have x3 := E.out.cfg.cell (i := 3) rfl
    have x4 := E.out.cfg.cell (i := 4) rfl
    have x5 := E.out.cfg.cell (i := 5) rfl
    have x6 := E.out.cfg.cell (i := 6) rfl
    have y0 := X.out.blk.cell (i := 0) rfl
    have y1 := X.out.blk.cell (i := 1) rfl
    have y2 := X.out.blk.cell (i := 2) rfl
    have y3 := X.out.blk.cell (i := 3) rfl
    have y4 := X.out.blk.cell (i := 4) rfl
    go_wp2_with fail
    refine (put_any F 1 h4 h6 (by omega) (by omega) P HWF.out HPL.out HFT.out.lv A5 c5 b g l 0 _ HM.out X.out.row X.out.nr).mono ?_; rintro e w6 ⟨rfl, hM6, hK6⟩
    clear x0 x1 x2 x3 x4 x5 x6
    clear y0 y1 y2 y3 y4
    obtain ⟨l6, hl6⟩ : ∃ x, app l (pst (nad F 1) P) = x := ⟨_, rfl⟩
    rw [hl6] at hM6
    have HADS := Lib.hid (HST.out.ads (nid := 1) h4 h6 (by omega) (by omega))
    have HN6 := Lib.hid (show Nats l6 by rw [← hl6]; exact HST.out.nats.app (HFT.out.pstN _))
    have HH6 := Lib.hid (show Holds (nad F 1) l6 P by rw [← hl6]; intro r hr; have := pst_holds HADS.out rfl HPL.out (P.xs.length + 3) (Nat.le_refl _) r hr; rw [← pst_length (nad F 1) P, List.take_length] at this; exact this)
    have HL6 := Lib.hid (show l6.length = l.length by rw [← hl6, app_length])
    replace HM := Lib.hid hM6
    replace E := Lib.hid (E.out.own hK6)
    replace X := Lib.hid (X.out.own hK6)
    replace Y := Lib.hid (Y.out.own hK6)
    clear hl6 hM6 hK6
    have x0 := E.out.cfg.cell (i := 0) rfl
    have x1 := E.out.cfg.cell (i := 1) rfl
    have x2 := E.out.cfg.cell (i := 2) rfl
    have x3 := E.out.cfg.cell (i := 3) rfl
    have x4 := E.out.cfg.cell (i := 4) rfl
    have x5 := E.out.cfg.cell (i := 5) rfl
    have x6 := E.out.cfg.cell (i := 6) rfl
    go_wp2_with fail
    refine (ref_to F 1 0 h4 h6 (by omega) (nla F 1) rfl _).mono ?_; rintro e w7 ⟨rfl, hK7⟩
    clear x0 x1 x2 x3 x4 x5 x6
    replace HM := Lib.hid (HM.out.kept hK7 (fun h => h) (fun h => h))
    replace E := Lib.hid (E.out.none hK7)
    replace X := Lib.hid (X.out.none hK7)
    replace Y := Lib.hid (Y.out.none hK7)
    clear hK7
    obtain ⟨la0, hla0⟩ : ∃ x, nla F 1 = x := ⟨_, rfl⟩
    rw [hla0]
    have HLA := Lib.hid hla0
    clear hla0
    go_wp2_with fail
    refine (end_of wd wn hwd HWN.out _).mono ?_; rintro e w8 ⟨rfl, rfl⟩
    go_wp2_with fail
    refine (lock_of wn wo hwn1 HWO.out _).mono ?_; rintro e w8 ⟨rfl, rfl⟩
    go_wp2_with fail
    refine (poke_any b g l6 0 la0 (wo : Int) 0 ⟨#[]⟩ _ HM.out).mono ?_; rintro e w8 ⟨rfl, hM8, hK8⟩
    obtain ⟨l8, hl8⟩ : ∃ x, putAt l6 la0 ((wo : Int), ⟨#[]⟩, 0) = x := ⟨_, rfl⟩
    rw [hl8] at hM8
    have HN8 := Lib.hid (show Nats l8 by rw [← hl8]; exact HN6.out.put _ ⟨wo, 0, _, rfl, hwo1, by omega⟩)
    have HL8 := Lib.hid (show l8.length = l.length by rw [← hl8, putAt_length]; exact HL6.out)
    have HH8 := Lib.hid (show Holds (nad F 1) l8 P from fun r hr => by
      have hne := HADS.out.ne r (by have := HPL.out; omega)
      rw [← hl8, ← HLA.out, cellAt_other (Ne.symm hne)]; exact HH6.out r hr)
    have HLR := Lib.hid (show 0 ≤ la0 ∧ la0 < l8.length by rw [HL8.out, ← HLA.out]; exact HADS.out.lat)
    replace HM := Lib.hid hM8
    replace E := Lib.hid (E.out.own hK8)
    replace X := Lib.hid (X.out.own hK8)
    replace Y := Lib.hid (Y.out.own hK8)
    clear hl8 hM8 hK8 HN6 HH6 HL6
    have x0 := E.out.lay.cell (i := 0) rfl
    have x1 := E.out.lay.cell (i := 1) rfl
    have x2 := E.out.lay.cell (i := 2) rfl
    have x3 := E.out.lay.cell (i := 3) rfl
    have x4 := E.out.lay.cell (i := 4) rfl
    have x5 := E.out.lay.cell (i := 5) rfl
    have x6 := E.out.lay.cell (i := 6) rfl
    have x7 := E.out.lay.cell (i := 7) rfl
    have x8 := E.out.lay.cell (i := 8) rfl
    have x9 := E.out.lay.cell (i := 9) rfl
    have y0 := X.out.blk.cell (i := 0) rfl
    have y1 := X.out.blk.cell (i := 1) rfl
    have y2 := X.out.blk.cell (i := 2) rfl
    have y3 := X.out.blk.cell (i := 3) rfl
    have y4 := X.out.blk.cell (i := 4) rfl
    have z0 := Y.out.blk.cell (i := 0) rfl
    have z1 := Y.out.blk.cell (i := 1) rfl
    have z2 := Y.out.blk.cell (i := 2) rfl
    have z3 := Y.out.blk.cell (i := 3) rfl
    have z4 := Y.out.blk.cell (i := 4) rfl
    go_wp2_with fail
    refine (newWrite_any 1 2 100 100 200 F 1000 10 fb fd (limF h4 h6) HD.out 1 wo P.lv A5 c5 P.hi P.la P.rt P.xs Q.lv A6 c6 Q.hi Q.la Q.rt Q.xs _ P.xs.length Q.xs.length rfl rfl (by have := HPL.out; omega) (by have := HQL.out; omega) HFT.out.lv HFQ.out.lv hwo1 X.out.row Y.out.row).mono ?_; rintro e w9 ⟨q, Z, rfl, hC9, hq9, hK9⟩
    clear x0 x1 x2 x3 x4 x5 x6 x7 x8 x9
    clear y0 y1 y2 y3 y4
    clear z0 z1 z2 z3 z4
    obtain ⟨ss, hss⟩ : ∃ x, wsto (nla F 1) wb we (chg (pst (nad F 1) P) (pst (nad F 1) Q)) = x := ⟨_, rfl⟩
    have HSS := Lib.hid (show wsto la0 wb we (chg (pst (nad F 1) P) (pst (nad F 1) Q)) = ss by rw [← HLA.out]; exact hss)
    have HSL := Lib.hid (show 2 ≤ ss.length ∧ ss.length ≤ 12 by
      rw [← hss, wsto_length]; have := chg_length (pst (nad F 1) P) (pst (nad F 1) Q); rw [pst_length] at this; have := HQL.out; omega)
    have HC := Lib.hid (show Stm Z w9 q 94 ss 0 1 we Q by rw [← hss, ← HWE.out, ← HWB.out]; exact hC9)
    obtain ⟨s0, hs0⟩ : ∃ x, w8.heap.size = x := ⟨_, rfl⟩
    have HOY := Lib.hid (show Pold s0 bz Q A6 by rw [← hs0]; exact Y.out.old)
    have HOE := Lib.hid (show b9 < s0 ∧ b10 < s0 ∧ w.heap.size ≤ s0 by rw [← hs0]; exact ⟨E.out.cfg.lt, E.out.lay.lt, E.out.kept.size⟩)
    have HOM := Lib.hid (show b < s0 ∧ g < s0 by rw [← hs0]; exact ⟨HM.out.obj.lt, HM.out.row.lt⟩)
    have HZ := Lib.hid (show ∀ i, Z i → s0 ≤ i by rw [← hs0]; exact hq9)
    have HNS := Lib.hid (show ∀ s ∈ ss, NatCell s.2 by rw [← hss]; exact wsto_nats hwb1 hwe1 (HFQ.out.chgN _ _))
    have HMID := Lib.hid (show ∀ j, 1 ≤ j → j < ss.length → (cellAt (app l8 (ss.take j)) la0).1 = (wb : Int) from fun j h1 h2 => by
      rw [← HSS.out] at h2 ⊢; rw [wsto_length] at h2
      exact wsto_mid HLR.out (by rw [← HLA.out]; exact chg_ne HADS.out HQL.out) h1 (by omega))
    have HEND := Lib.hid (show (cellAt (app l8 ss) la0).1 = (we : Int) ∧ Holds (nad F 1) (app l8 ss) Q by
      refine ⟨?_, ?_⟩
      · rw [← HSS.out]; exact wsto_end HLR.out
      · rw [← hss]; exact wsto_holds HADS.out HL8.out HH8.out HPL.out HQL.out)
    clear hss
    replace HM := Lib.hid (HM.out.kept hK9 (fun h => h) (fun h => h))
    replace E := Lib.hid (E.out.none hK9)
    replace X := Lib.hid (X.out.none hK9)
    replace Y := Lib.hid (Y.out.none hK9)
    clear hK9
    clear hs0 hC9 hq9 HST HH8 HADS HLR HSS HWF HPL HFT HFQ HPC HQC
    go_wp2_with fail
    go_loopw [18, 17] (fun vk vd wr => ∃ (k : Nat), k ≤ ss.length ∧ vk = .int .i64 k ∧ vd = .bool (k == ss.length) ∧ Stm Z wr q 94 ss k 1 we Q ∧ Mem wr b g (app l8 (ss.take k)) k ∧ Ev w wr F fb fd b g b9 b10 ∧ Px b g wr bz Q A6 c6) (fun i _ _ => 100 - (intOf i).toNat)
    case atStart => exact ⟨0, by omega, rfl, by rw [show (0 == ss.length) = false by have := HSL.out; simp; omega], HC.out, HM.out, E.out, Y.out⟩
    case round =>
      obtain ⟨k, hkl, rfl, rfl, hC, hM, hE, hY⟩ := hrel
      clear HC HM E X Y
      rename World => wr
      have HC := Lib.hid hC
      have HM := Lib.hid hM
      have E := Lib.hid hE
      have Y := Lib.hid hY
      clear hC hM hE hY
      have hk12 : k ≤ 12 := by have := HSL.out; omega
      by_cases hlt : k < ss.length
      · have hkd : (k == ss.length) = false := by simp; omega
        obtain ⟨ad, cN, cK, cM, hs⟩ := sto_ex hlt
        have hst : Calls Try.prog 21 #[.pointer (some ⟨q, 0, none⟩), .pointer (some ⟨b, 0, none⟩)] wr _ :=
          wstep_any Z q ss k 1 we Q wr HC.out b g (app l8 (ss.take k)) k HM.out (fun h => by have := HZ.out b h; have := HOM.out; omega) (fun h => by have := HZ.out g h; have := HOM.out; omega) (by omega) (by have := HSL.out; omega) ad cN cM cK hs (k + 1 == ss.length) rfl
        rw [← app_take hs] at hst
        obtain ⟨dn, hdn⟩ : ∃ x, (k + 1 == ss.length) = x := ⟨_, rfl⟩
        rw [hdn] at hst
        obtain ⟨l9, hl9⟩ : ∃ x, app l8 (ss.take (k + 1)) = x := ⟨_, rfl⟩
        rw [hl9] at hst
        have HN9 := Lib.hid (show Nats l9 by rw [← hl9]; exact nats_take HN8.out HNS.out _)
        have HSTP := Lib.hid hst
        have HDN := Lib.hid hdn
        have HL9 := Lib.hid hl9
        obtain ⟨now, hnow⟩ : ∃ x, cellAt l9 la0 = x := ⟨_, rfl⟩
        obtain ⟨nN, nK, nM⟩ := now
        have HNOW := Lib.hid hnow
        have HNN := Lib.hid (show (dn = true → nN = (we : Int) ∧ Holds (nad F 1) l9 Q) ∧ (dn = false → nN = (wb : Int)) by
          refine ⟨fun h => ?_, fun h => ?_⟩
          · rw [h] at hdn
            have hk1 : k + 1 = ss.length := by simpa using hdn
            have he : l9 = app l8 ss := by rw [← hl9, hk1, List.take_length]
            rw [he] at hnow ⊢
            exact ⟨by rw [← HEND.out.1, hnow], HEND.out.2⟩
          · rw [h] at hdn
            have hk1 : k + 1 ≠ ss.length := by simpa using hdn
            rw [← HMID.out (k + 1) (by omega) (by omega), hl9, hnow])
        rw [hkd]
        clear hst hdn hl9 hs hnow hkd
        go_wp2_with fail
        refine HSTP.out.mono ?_; rintro e w10 ⟨rfl, hM, hC, hK⟩
        have HE2 := Lib.hid (E.out.step HZ.out HOE.out hK)
        have HY2 := Lib.hid (Y.out.step HZ.out HOY.out hK)
        have HM2 := Lib.hid hM
        have HC2 := Lib.hid hC
        clear hM hC hK HSTP E Y HM HC
        have hfc := cfield0 nN nM nK
        go_upto_region 16 with fail
        go_cut [19, 20] (fun vn vz wx => ∃ (bp : Nat) (Pz : Pg) (Ap : Option Addr) (cp : Nat), vn = .int .u64 nN ∧ vz = .pointer (some ⟨bp, 0, none⟩) ∧ (dn = true → Pz = Q) ∧ Px b g wx bp Pz Ap cp ∧ Stm Z wx q 94 ss (k + 1) 1 we Q ∧ Mem wx b g l9 (k + 1) ∧ Ev w wx F fb fd b g b9 b10 ∧ Px b g wx bz Q A6 c6)
        case first =>
          have hdr := (Kept.refl (fun _ => False) w10).drew
          replace HE2 := Lib.hid (HE2.out.none hdr)
          replace HM2 := Lib.hid (HM2.out.kept hdr (fun h => h) (fun h => h))
          replace HY2 := Lib.hid (HY2.out.none hdr)
          replace HC2 := Lib.hid (HC2.out.kept hdr (fun _ _ h => h))
          clear hdr
          refine wp_region_held_drew (S := fun w' => Blk w' b10 30 [.int .i64 1, .int .i64 2, .int .i64 100, .int .i64 100, .int .i64 200, .int .i64 (F : Int), .int .u64 1000, .int .i64 10, .int .i64 fb, .int .i64 fd] ∧ Blk w' bz 25 [.int .i64 (Q.lv : Int), .slice A6 Q.xs.length c6, .string Q.hi, .bool Q.la, .int .u64 (Q.rt : Int)]) (by kernel_rfl) ?_ (fun hHeld => ?_)
          · exact ⟨HE2.out.lay, HY2.out.blk⟩
          generalize w10.drew = G at *
          refine wpAnyH_take (i := 0) (oi := ⟨some 71, _, _, _, _, _⟩) (v := ?_) rfl (by kernel_rfl) (by kernel_rfl) (by kernel_rfl) (fun _ _ _ h => h) (Or.inl ⟨by rfl, ?_⟩) hHeld ?_
          rotate_left
          · (intro wq hSw; go_simp; try with_reducible rfl)
          try simp only [Act.put, List.setIfInBounds_toArray, List.set_cons_zero, List.set_cons_succ]
          refine wpAnyH_take (i := 1) (oi := ⟨some 72, _, _, _, _, _⟩) (v := ?_) rfl (by kernel_rfl) (by kernel_rfl) (by kernel_rfl) (fun _ _ _ h => h) (Or.inl ⟨by rfl, ?_⟩) hHeld ?_
          rotate_left
          · (intro wq hSw; go_simp; try with_reducible rfl)
          try simp only [Act.put, List.setIfInBounds_toArray, List.set_cons_zero, List.set_cons_succ]
          refine wpAnyH_take (i := 4) (oi := ⟨some 75, _, _, _, _, _⟩) (v := ?_) rfl (by kernel_rfl) (by kernel_rfl) (by kernel_rfl) (fun _ _ _ h => h) (Or.inl ⟨by rfl, ?_⟩) hHeld ?_
          rotate_left
          · (intro wq hSw; have h1 := hSw.1; have x0 := h1.cell (i := 0) rfl; have x1 := h1.cell (i := 1) rfl; have x2 := h1.cell (i := 2) rfl; have x3 := h1.cell (i := 3) rfl; have x4 := h1.cell (i := 4) rfl; have x5 := h1.cell (i := 5) rfl; have x6 := h1.cell (i := 6) rfl; have x7 := h1.cell (i := 7) rfl; have x8 := h1.cell (i := 8) rfl; have x9 := h1.cell (i := 9) rfl; clear h1; go_simp; try with_reducible rfl)
          try simp only [Act.put, List.setIfInBounds_toArray, List.set_cons_zero, List.set_cons_succ]
          refine wpAnyH_take (i := 5) (oi := ⟨some 76, _, _, _, _, _⟩) (v := ?_) rfl (by kernel_rfl) (by kernel_rfl) (by kernel_rfl) (fun _ _ _ h => h) (Or.inl ⟨by rfl, ?_⟩) hHeld ?_
          rotate_left
          · (intro wq hSw; go_simp; try with_reducible rfl)
          try simp only [Act.put, List.setIfInBounds_toArray, List.set_cons_zero, List.set_cons_succ]
          refine wpAnyH_ready (rs := [2, 7]) (by kernel_rfl) (by simp) ?_
          refine AllReadyH.cons (o := ⟨some 73, _, _, _, _, _⟩) rfl (fun KK hK => ?_) (AllReadyH.cons (o := ⟨some 20, _, _, _, _, _⟩) rfl (fun KK hK => ?_) AllReadyH.nil)
          · go_simp
            go_at_call 16
            refine (peek_any b g l9 _ la0 nN nM nK _ HM2.out HNOW.out).mono ?_; rintro e v11 ⟨rfl, hk9⟩
            replace HE2 := Lib.hid (HE2.out.none hk9)
            replace HM2 := Lib.hid (HM2.out.kept hk9 (fun h => h) (fun h => h))
            replace HY2 := Lib.hid (HY2.out.none hk9)
            replace HC2 := Lib.hid (HC2.out.kept hk9 (fun _ _ h => h))
            clear hk9
            refine hK.out _ _ ?_ (fun hHeld2 => ?_)
            · exact ⟨HE2.out.lay, HY2.out.blk⟩
            clear hK KK hHeld
            have hHeld := hHeld2
            clear hHeld2
            try simp only [Act.put, List.setIfInBounds_toArray, List.set_cons_zero, List.set_cons_succ]
            refine wpAnyH_take (i := 3) (oi := ⟨some 74, _, _, _, _, _⟩) (v := ?_) rfl (by kernel_rfl) (by kernel_rfl) (by kernel_rfl) (fun _ _ _ h => h) (Or.inl ⟨by rfl, ?_⟩) hHeld ?_
            rotate_left
            · (intro wq hSw; go_simp; try with_reducible rfl)
            try simp only [Act.put, List.setIfInBounds_toArray, List.set_cons_zero, List.set_cons_succ]
            refine wpAnyH_ready (rs := [6, 7]) (by kernel_rfl) (by simp) ?_
            refine AllReadyH.cons (o := ⟨some 77, _, _, _, _, _⟩) rfl (fun KK hK => ?_) (AllReadyH.cons (o := ⟨some 20, _, _, _, _, _⟩) rfl (fun KK hK => ?_) AllReadyH.nil)
            · go_simp
              go_at_call 15
              refine (nodepeek_any 1 2 100 100 200 F 1000 10 fb fd (limF h4 h6) HD.out 1 b g l9 _ _ HM2.out HN9.out).mono ?_; rintro e v12 ⟨m, hm0, hm1, hm2, Ap, cp, rfl, hRz, hAz, hk9⟩
              obtain ⟨yz, hyz⟩ : ∃ x, rdn F l9 (adr 100 (F : Int) 10 ((1 : Nat) : Int)) m = x := ⟨_, rfl⟩
              have HPZ := Lib.hid (show dn = true → yz.pg = Q from fun h => by
                rw [← hyz]; have := peek_got (ad := nad F 1) HN9.out (HNN.out.1 h).2 HWQ.out HQL.out hm0 hm1 hm2
                show (rdn F l9 (nad F 1) m).pg = Q; rw [this]; exact got_end Q)
              have hRz2 : Rs v12 Ap cp yz.xs := by rw [← hyz]; exact hRz
              have HAZ := Lib.hid (show ∀ a, Ap = some a → ¬ Own b g a.block from fun a ha e => by have := hAz a ha; have := HM2.out.obj.lt; have := HM2.out.row.lt; unfold Own at e; omega)
              replace HE2 := Lib.hid (HE2.out.none hk9)
              replace HM2 := Lib.hid (HM2.out.kept hk9 (fun h => h) (fun h => h))
              replace HY2 := Lib.hid (HY2.out.none hk9)
              replace HC2 := Lib.hid (HC2.out.kept hk9 (fun _ _ h => h))
              have HRZ := Lib.hid hRz2
              have hYZ := hyz
              clear hm0 hm1 hm2 hRz hAz hk9 hRz2 hyz
              rw [hYZ]
              clear hYZ
              refine hK.out _ _ ?_ (fun hHeld2 => ?_)
              · exact ⟨HE2.out.lay, HY2.out.blk⟩
              clear hK KK hHeld
              have hHeld := hHeld2
              clear hHeld2
              try simp only [Act.put, List.setIfInBounds_toArray, List.set_cons_zero, List.set_cons_succ]
              refine wpAnyH_ready (rs := [7]) (by kernel_rfl) (by simp) ?_
              refine AllReadyH.cons (o := ⟨some 20, _, _, _, _, _⟩) rfl (fun KK hK => ?_) AllReadyH.nil
              go_simp
              have hal := (Kept.refl (fun _ => False) v12).alloc (.cells #[.int .i64 0, .slice none 0 0, .string ⟨#[]⟩, .bool false, .int .u64 0] 25)
              have HBz := Lib.hid (Blk.new v12 [.int .i64 0, .slice none 0 0, .string ⟨#[]⟩, .bool false, .int .u64 0] 25)
              have HNz := Lib.hid (show ¬ Own b g v12.heap.size by have := HM2.out.obj.lt; have := HM2.out.row.lt; unfold Own; omega)
              have HOz := Lib.hid (show b9 < v12.heap.size ∧ b10 < v12.heap.size ∧ w.heap.size ≤ v12.heap.size from ⟨HE2.out.cfg.lt, HE2.out.lay.lt, HE2.out.kept.size⟩)
              have HOl := Lib.hid (And.intro HY2.out.old HC2.out.lt)
              have HNEZ := Lib.hid (show 0 < yz.xs.length → ∀ a, Ap = some a → a.block ≠ v12.heap.size from fun hp a ha => by have := HRZ.out.lt hp a ha; omega)
              replace HE2 := Lib.hid (HE2.out.none hal)
              replace HM2 := Lib.hid (HM2.out.kept hal (fun h => h) (fun h => h))
              replace HY2 := Lib.hid (HY2.out.none hal)
              replace HC2 := Lib.hid (HC2.out.kept hal (fun _ _ h => h))
              replace HRZ := Lib.hid (HRZ.out.keptF hal (fun _ _ h => h))
              clear hal
              generalize v12.alloc (.cells #[.int .i64 0, .slice none 0 0, .string ⟨#[]⟩, .bool false, .int .u64 0] 25) = V7 at *
              generalize v12.heap.size = bp at *
              refine hK.out _ _ ?_ (fun hHeld2 => ?_)
              · exact ⟨HE2.out.lay, HY2.out.blk⟩
              clear hK KK hHeld
              have hHeld := hHeld2
              clear hHeld2
              try simp only [Act.put, List.setIfInBounds_toArray, List.set_cons_zero, List.set_cons_succ]
              refine wpAnyH_take (i := 8) (oi := ⟨some 19, _, _, _, _, _⟩) (v := ?_) rfl (by kernel_rfl) (by kernel_rfl) (by kernel_rfl) (fun _ _ _ h => h) (Or.inl ⟨by rfl, ?_⟩) hHeld ?_
              rotate_left
              · (intro wq hSw; go_simp; try with_reducible rfl)
              try simp only [Act.put, List.setIfInBounds_toArray, List.set_cons_zero, List.set_cons_succ]
              refine wpAnyH_ready (rs := [9]) (by kernel_rfl) (by simp) ?_
              refine AllReadyH.cons (o := ⟨none, _, _, _, _, _⟩) rfl (fun KK hK => ?_) AllReadyH.nil
              have u0 := HBz.out.cell (i := 0) rfl
              have zu0 := HBz.out.frozen 0
              have u1 := HBz.out.cell (i := 1) rfl
              have zu1 := HBz.out.frozen 1
              have u2 := HBz.out.cell (i := 2) rfl
              have zu2 := HBz.out.frozen 2
              have u3 := HBz.out.cell (i := 3) rfl
              have zu3 := HBz.out.frozen 3
              have u4 := HBz.out.cell (i := 4) rfl
              have zu4 := HBz.out.frozen 4
              go_simp
              clear u0 zu0 u1 zu1 u2 zu2 u3 zu3 u4 zu4
              have hkp := ((((((Kept.refl (fun i => i = bp) V7).setCell (a := ⟨bp, 0, none⟩) (fun _ => rfl) (.int .i64 (yz.lv : Int))).setCell (a := ⟨bp, 1, none⟩) (fun _ => rfl) (.slice Ap yz.xs.length cp)).setCell (a := ⟨bp, 2, none⟩) (fun _ => rfl) (.string yz.hi)).setCell (a := ⟨bp, 3, none⟩) (fun _ => rfl) (.bool yz.la)).setCell (a := ⟨bp, 4, none⟩) (fun _ => rfl) (.int .u64 (yz.rt : Int)))
              have hbs := (((((HBz.out.set 0 (.int .i64 (yz.lv : Int))).set 1 (.slice Ap yz.xs.length cp)).set 2 (.string yz.hi)).set 3 (.bool yz.la)).set 4 (.int .u64 (yz.rt : Int)))
              replace HM2 := Lib.hid (HM2.out.kept hkp (fun e => HNz.out (.inl e.symm)) (fun e => HNz.out (.inr e.symm)))
              replace HE2 := Lib.hid (HE2.out.at HOz.out hkp)
              replace HRZ := Lib.hid (HRZ.out.keptP hkp (fun hp a ha e => HNEZ.out hp a ha e))
              replace HC2 := Lib.hid (HC2.out.kept hkp (fun i hi e => by have := HOl.out.2 i hi; omega))
              replace HY2 := Lib.hid (show Px b g _ bz Q A6 c6 from ⟨hkp.blk HY2.out.blk (fun e => by have := HOl.out.1.bp; omega), HY2.out.row.keptP hkp (fun hp a ha e => by have := HOl.out.1.row hp a ha; omega), HY2.out.ne, HY2.out.nr⟩)
              replace HBz := Lib.hid hbs
              clear hkp hbs
              generalize (((((V7.setCell ⟨bp, 0, none⟩ (.int .i64 (yz.lv : Int))).setCell ⟨bp, 1, none⟩ (.slice Ap yz.xs.length cp)).setCell ⟨bp, 2, none⟩ (.string yz.hi)).setCell ⟨bp, 3, none⟩ (.bool yz.la)).setCell ⟨bp, 4, none⟩ (.int .u64 (yz.rt : Int))) = S9 at *
              refine hK.out _ _ ?_ (fun hHeld2 => ?_)
              · exact ⟨HE2.out.lay, HY2.out.blk⟩
              clear hK KK hHeld
              have hHeld := hHeld2
              clear hHeld2
              try simp only [Act.put, List.setIfInBounds_toArray, List.set_cons_zero, List.set_cons_succ]
              refine wpAnyH_done (by kernel_rfl) ?_ _
              clear hHeld
              go_wp2
              go_meet
              exact ⟨bp, yz.pg, Ap, cp, rfl, rfl, HPZ.out, ⟨HBz.out, HRZ.out, HNz.out, HAZ.out⟩, HC2.out, HM2.out, HE2.out, HY2.out⟩
            · go_simp
              have hal := (Kept.refl (fun _ => False) v11).alloc (.cells #[.int .i64 0, .slice none 0 0, .string ⟨#[]⟩, .bool false, .int .u64 0] 25)
              have HBz := Lib.hid (Blk.new v11 [.int .i64 0, .slice none 0 0, .string ⟨#[]⟩, .bool false, .int .u64 0] 25)
              have HNz := Lib.hid (show ¬ Own b g v11.heap.size by have := HM2.out.obj.lt; have := HM2.out.row.lt; unfold Own; omega)
              have HOz := Lib.hid (show b9 < v11.heap.size ∧ b10 < v11.heap.size ∧ w.heap.size ≤ v11.heap.size from ⟨HE2.out.cfg.lt, HE2.out.lay.lt, HE2.out.kept.size⟩)
              have HOl := Lib.hid (And.intro HY2.out.old HC2.out.lt)
              replace HE2 := Lib.hid (HE2.out.none hal)
              replace HM2 := Lib.hid (HM2.out.kept hal (fun h => h) (fun h => h))
              replace HY2 := Lib.hid (HY2.out.none hal)
              replace HC2 := Lib.hid (HC2.out.kept hal (fun _ _ h => h))
              clear hal
              generalize v11.alloc (.cells #[.int .i64 0, .slice none 0 0, .string ⟨#[]⟩, .bool false, .int .u64 0] 25) = V7 at *
              generalize v11.heap.size = bp at *
              refine hK.out _ _ ?_ (fun hHeld2 => ?_)
              · exact ⟨HE2.out.lay, HY2.out.blk⟩
              clear hK KK hHeld
              have hHeld := hHeld2
              clear hHeld2
              try simp only [Act.put, List.setIfInBounds_toArray, List.set_cons_zero, List.set_cons_succ]
              refine wpAnyH_ready (rs := [6]) (by kernel_rfl) (by simp) ?_
              refine AllReadyH.cons (o := ⟨some 77, _, _, _, _, _⟩) rfl (fun KK hK => ?_) AllReadyH.nil
              go_simp
              go_at_call 15
              refine (nodepeek_any 1 2 100 100 200 F 1000 10 fb fd (limF h4 h6) HD.out 1 b g l9 _ _ HM2.out HN9.out).mono ?_; rintro e v12 ⟨m, hm0, hm1, hm2, Ap, cp, rfl, hRz, hAz, hk9⟩
              obtain ⟨yz, hyz⟩ : ∃ x, rdn F l9 (adr 100 (F : Int) 10 ((1 : Nat) : Int)) m = x := ⟨_, rfl⟩
              have HPZ := Lib.hid (show dn = true → yz.pg = Q from fun h => by
                rw [← hyz]; have := peek_got (ad := nad F 1) HN9.out (HNN.out.1 h).2 HWQ.out HQL.out hm0 hm1 hm2
                show (rdn F l9 (nad F 1) m).pg = Q; rw [this]; exact got_end Q)
              have hRz2 : Rs v12 Ap cp yz.xs := by rw [← hyz]; exact hRz
              have HAZ := Lib.hid (show ∀ a, Ap = some a → ¬ Own b g a.block from fun a ha e => by have := hAz a ha; have := HM2.out.obj.lt; have := HM2.out.row.lt; unfold Own at e; omega)
              have HNEZ := Lib.hid (show 0 < yz.xs.length → ∀ a, Ap = some a → a.block ≠ bp from fun _ a ha => by have := hAz a ha; have := HBz.out.lt; omega)
              replace HE2 := Lib.hid (HE2.out.none hk9)
              replace HM2 := Lib.hid (HM2.out.kept hk9 (fun h => h) (fun h => h))
              replace HY2 := Lib.hid (HY2.out.none hk9)
              replace HC2 := Lib.hid (HC2.out.kept hk9 (fun _ _ h => h))
              replace HBz := Lib.hid (hk9.blk HBz.out (fun h => h))
              have HRZ := Lib.hid hRz2
              have hYZ := hyz
              clear hm0 hm1 hm2 hRz hAz hk9 hRz2 hyz
              rw [hYZ]
              clear hYZ
              refine hK.out _ _ ?_ (fun hHeld2 => ?_)
              · exact ⟨HE2.out.lay, HY2.out.blk⟩
              clear hK KK hHeld
              have hHeld := hHeld2
              clear hHeld2
              try simp only [Act.put, List.setIfInBounds_toArray, List.set_cons_zero, List.set_cons_succ]
              refine wpAnyH_take (i := 8) (oi := ⟨some 19, _, _, _, _, _⟩) (v := ?_) rfl (by kernel_rfl) (by kernel_rfl) (by kernel_rfl) (fun _ _ _ h => h) (Or.inl ⟨by rfl, ?_⟩) hHeld ?_
              rotate_left
              · (intro wq hSw; go_simp; try with_reducible rfl)
              try simp only [Act.put, List.setIfInBounds_toArray, List.set_cons_zero, List.set_cons_succ]
              refine wpAnyH_ready (rs := [9]) (by kernel_rfl) (by simp) ?_
              refine AllReadyH.cons (o := ⟨none, _, _, _, _, _⟩) rfl (fun KK hK => ?_) AllReadyH.nil
              have u0 := HBz.out.cell (i := 0) rfl
              have zu0 := HBz.out.frozen 0
              have u1 := HBz.out.cell (i := 1) rfl
              have zu1 := HBz.out.frozen 1
              have u2 := HBz.out.cell (i := 2) rfl
              have zu2 := HBz.out.frozen 2
              have u3 := HBz.out.cell (i := 3) rfl
              have zu3 := HBz.out.frozen 3
              have u4 := HBz.out.cell (i := 4) rfl
              have zu4 := HBz.out.frozen 4
              go_simp
              clear u0 zu0 u1 zu1 u2 zu2 u3 zu3 u4 zu4
              have hkp := ((((((Kept.refl (fun i => i = bp) v12).setCell (a := ⟨bp, 0, none⟩) (fun _ => rfl) (.int .i64 (yz.lv : Int))).setCell (a := ⟨bp, 1, none⟩) (fun _ => rfl) (.slice Ap yz.xs.length cp)).setCell (a := ⟨bp, 2, none⟩) (fun _ => rfl) (.string yz.hi)).setCell (a := ⟨bp, 3, none⟩) (fun _ => rfl) (.bool yz.la)).setCell (a := ⟨bp, 4, none⟩) (fun _ => rfl) (.int .u64 (yz.rt : Int)))
              have hbs := (((((HBz.out.set 0 (.int .i64 (yz.lv : Int))).set 1 (.slice Ap yz.xs.length cp)).set 2 (.string yz.hi)).set 3 (.bool yz.la)).set 4 (.int .u64 (yz.rt : Int)))
              replace HM2 := Lib.hid (HM2.out.kept hkp (fun e => HNz.out (.inl e.symm)) (fun e => HNz.out (.inr e.symm)))
              replace HE2 := Lib.hid (HE2.out.at HOz.out hkp)
              replace HRZ := Lib.hid (HRZ.out.keptP hkp (fun hp a ha e => HNEZ.out hp a ha e))
              replace HC2 := Lib.hid (HC2.out.kept hkp (fun i hi e => by have := HOl.out.2 i hi; omega))
              replace HY2 := Lib.hid (show Px b g _ bz Q A6 c6 from ⟨hkp.blk HY2.out.blk (fun e => by have := HOl.out.1.bp; omega), HY2.out.row.keptP hkp (fun hp a ha e => by have := HOl.out.1.row hp a ha; omega), HY2.out.ne, HY2.out.nr⟩)
              replace HBz := Lib.hid hbs
              clear hkp hbs
              generalize (((((v12.setCell ⟨bp, 0, none⟩ (.int .i64 (yz.lv : Int))).setCell ⟨bp, 1, none⟩ (.slice Ap yz.xs.length cp)).setCell ⟨bp, 2, none⟩ (.string yz.hi)).setCell ⟨bp, 3, none⟩ (.bool yz.la)).setCell ⟨bp, 4, none⟩ (.int .u64 (yz.rt : Int))) = S9 at *
              refine hK.out _ _ ?_ (fun hHeld2 => ?_)
              · exact ⟨HE2.out.lay, HY2.out.blk⟩
              clear hK KK hHeld
              have hHeld := hHeld2
              clear hHeld2
              try simp only [Act.put, List.setIfInBounds_toArray, List.set_cons_zero, List.set_cons_succ]
              refine wpAnyH_done (by kernel_rfl) ?_ _
              clear hHeld
              go_wp2
              go_meet
              exact ⟨bp, yz.pg, Ap, cp, rfl, rfl, HPZ.out, ⟨HBz.out, HRZ.out, HNz.out, HAZ.out⟩, HC2.out, HM2.out, HE2.out, HY2.out⟩
          · go_simp
            have hal := (Kept.refl (fun _ => False) G).alloc (.cells #[.int .i64 0, .slice none 0 0, .string ⟨#[]⟩, .bool false, .int .u64 0] 25)
            have HBz := Lib.hid (Blk.new G [.int .i64 0, .slice none 0 0, .string ⟨#[]⟩, .bool false, .int .u64 0] 25)
            have HNz := Lib.hid (show ¬ Own b g G.heap.size by have := HM2.out.obj.lt; have := HM2.out.row.lt; unfold Own; omega)
            have HOz := Lib.hid (show b9 < G.heap.size ∧ b10 < G.heap.size ∧ w.heap.size ≤ G.heap.size from ⟨HE2.out.cfg.lt, HE2.out.lay.lt, HE2.out.kept.size⟩)
            have HOl := Lib.hid (And.intro HY2.out.old HC2.out.lt)
            replace HE2 := Lib.hid (HE2.out.none hal)
            replace HM2 := Lib.hid (HM2.out.kept hal (fun h => h) (fun h => h))
            replace HY2 := Lib.hid (HY2.out.none hal)
            replace HC2 := Lib.hid (HC2.out.kept hal (fun _ _ h => h))
            clear hal
            generalize G.alloc (.cells #[.int .i64 0, .slice none 0 0, .string ⟨#[]⟩, .bool false, .int .u64 0] 25) = V7 at *
            generalize G.heap.size = bp at *
            refine hK.out _ _ ?_ (fun hHeld2 => ?_)
            · exact ⟨HE2.out.lay, HY2.out.blk⟩
            clear hK KK hHeld
            have hHeld := hHeld2
            clear hHeld2
            try simp only [Act.put, List.setIfInBounds_toArray, List.set_cons_zero, List.set_cons_succ]
            refine wpAnyH_ready (rs := [2]) (by kernel_rfl) (by simp) ?_
            refine AllReadyH.cons (o := ⟨some 73, _, _, _, _, _⟩) rfl (fun KK hK => ?_) AllReadyH.nil
            go_simp
            go_at_call 16
            refine (peek_any b g l9 _ la0 nN nM nK _ HM2.out HNOW.out).mono ?_; rintro e v11 ⟨rfl, hk9⟩
            replace HE2 := Lib.hid (HE2.out.none hk9)
            replace HM2 := Lib.hid (HM2.out.kept hk9 (fun h => h) (fun h => h))
            replace HY2 := Lib.hid (HY2.out.none hk9)
            replace HC2 := Lib.hid (HC2.out.kept hk9 (fun _ _ h => h))
            replace HBz := Lib.hid (hk9.blk HBz.out (fun h => h))
            clear hk9
            refine hK.out _ _ ?_ (fun hHeld2 => ?_)
            · exact ⟨HE2.out.lay, HY2.out.blk⟩
            clear hK KK hHeld
            have hHeld := hHeld2
            clear hHeld2
            try simp only [Act.put, List.setIfInBounds_toArray, List.set_cons_zero, List.set_cons_succ]
            refine wpAnyH_take (i := 3) (oi := ⟨some 74, _, _, _, _, _⟩) (v := ?_) rfl (by kernel_rfl) (by kernel_rfl) (by kernel_rfl) (fun _ _ _ h => h) (Or.inl ⟨by rfl, ?_⟩) hHeld ?_
            rotate_left
            · (intro wq hSw; go_simp; try with_reducible rfl)
            try simp only [Act.put, List.setIfInBounds_toArray, List.set_cons_zero, List.set_cons_succ]
            refine wpAnyH_ready (rs := [6]) (by kernel_rfl) (by simp) ?_
            refine AllReadyH.cons (o := ⟨some 77, _, _, _, _, _⟩) rfl (fun KK hK => ?_) AllReadyH.nil
            go_simp
            go_at_call 15
            refine (nodepeek_any 1 2 100 100 200 F 1000 10 fb fd (limF h4 h6) HD.out 1 b g l9 _ _ HM2.out HN9.out).mono ?_; rintro e v12 ⟨m, hm0, hm1, hm2, Ap, cp, rfl, hRz, hAz, hk9⟩
            obtain ⟨yz, hyz⟩ : ∃ x, rdn F l9 (adr 100 (F : Int) 10 ((1 : Nat) : Int)) m = x := ⟨_, rfl⟩
            have HPZ := Lib.hid (show dn = true → yz.pg = Q from fun h => by
              rw [← hyz]; have := peek_got (ad := nad F 1) HN9.out (HNN.out.1 h).2 HWQ.out HQL.out hm0 hm1 hm2
              show (rdn F l9 (nad F 1) m).pg = Q; rw [this]; exact got_end Q)
            have hRz2 : Rs v12 Ap cp yz.xs := by rw [← hyz]; exact hRz
            have HAZ := Lib.hid (show ∀ a, Ap = some a → ¬ Own b g a.block from fun a ha e => by have := hAz a ha; have := HM2.out.obj.lt; have := HM2.out.row.lt; unfold Own at e; omega)
            have HNEZ := Lib.hid (show 0 < yz.xs.length → ∀ a, Ap = some a → a.block ≠ bp from fun _ a ha => by have := hAz a ha; have := HBz.out.lt; omega)
            replace HE2 := Lib.hid (HE2.out.none hk9)
            replace HM2 := Lib.hid (HM2.out.kept hk9 (fun h => h) (fun h => h))
            replace HY2 := Lib.hid (HY2.out.none hk9)
            replace HC2 := Lib.hid (HC2.out.kept hk9 (fun _ _ h => h))
            replace HBz := Lib.hid (hk9.blk HBz.out (fun h => h))
            have HRZ := Lib.hid hRz2
            have hYZ := hyz
            clear hm0 hm1 hm2 hRz hAz hk9 hRz2 hyz
            rw [hYZ]
            clear hYZ
            refine hK.out _ _ ?_ (fun hHeld2 => ?_)
            · exact ⟨HE2.out.lay, HY2.out.blk⟩
            clear hK KK hHeld
            have hHeld := hHeld2
            clear hHeld2
            try simp only [Act.put, List.setIfInBounds_toArray, List.set_cons_zero, List.set_cons_succ]
            refine wpAnyH_take (i := 8) (oi := ⟨some 19, _, _, _, _, _⟩) (v := ?_) rfl (by kernel_rfl) (by kernel_rfl) (by kernel_rfl) (fun _ _ _ h => h) (Or.inl ⟨by rfl, ?_⟩) hHeld ?_
            rotate_left
            · (intro wq hSw; go_simp; try with_reducible rfl)
            try simp only [Act.put, List.setIfInBounds_toArray, List.set_cons_zero, List.set_cons_succ]
            refine wpAnyH_ready (rs := [9]) (by kernel_rfl) (by simp) ?_
            refine AllReadyH.cons (o := ⟨none, _, _, _, _, _⟩) rfl (fun KK hK => ?_) AllReadyH.nil
            have u0 := HBz.out.cell (i := 0) rfl
            have zu0 := HBz.out.frozen 0
            have u1 := HBz.out.cell (i := 1) rfl
            have zu1 := HBz.out.frozen 1
            have u2 := HBz.out.cell (i := 2) rfl
            have zu2 := HBz.out.frozen 2
            have u3 := HBz.out.cell (i := 3) rfl
            have zu3 := HBz.out.frozen 3
            have u4 := HBz.out.cell (i := 4) rfl
            have zu4 := HBz.out.frozen 4
            go_simp
            clear u0 zu0 u1 zu1 u2 zu2 u3 zu3 u4 zu4
            have hkp := ((((((Kept.refl (fun i => i = bp) v12).setCell (a := ⟨bp, 0, none⟩) (fun _ => rfl) (.int .i64 (yz.lv : Int))).setCell (a := ⟨bp, 1, none⟩) (fun _ => rfl) (.slice Ap yz.xs.length cp)).setCell (a := ⟨bp, 2, none⟩) (fun _ => rfl) (.string yz.hi)).setCell (a := ⟨bp, 3, none⟩) (fun _ => rfl) (.bool yz.la)).setCell (a := ⟨bp, 4, none⟩) (fun _ => rfl) (.int .u64 (yz.rt : Int)))
            have hbs := (((((HBz.out.set 0 (.int .i64 (yz.lv : Int))).set 1 (.slice Ap yz.xs.length cp)).set 2 (.string yz.hi)).set 3 (.bool yz.la)).set 4 (.int .u64 (yz.rt : Int)))
            replace HM2 := Lib.hid (HM2.out.kept hkp (fun e => HNz.out (.inl e.symm)) (fun e => HNz.out (.inr e.symm)))
            replace HE2 := Lib.hid (HE2.out.at HOz.out hkp)
            replace HRZ := Lib.hid (HRZ.out.keptP hkp (fun hp a ha e => HNEZ.out hp a ha e))
            replace HC2 := Lib.hid (HC2.out.kept hkp (fun i hi e => by have := HOl.out.2 i hi; omega))
            replace HY2 := Lib.hid (show Px b g _ bz Q A6 c6 from ⟨hkp.blk HY2.out.blk (fun e => by have := HOl.out.1.bp; omega), HY2.out.row.keptP hkp (fun hp a ha e => by have := HOl.out.1.row hp a ha; omega), HY2.out.ne, HY2.out.nr⟩)
            replace HBz := Lib.hid hbs
            clear hkp hbs
            generalize (((((v12.setCell ⟨bp, 0, none⟩ (.int .i64 (yz.lv : Int))).setCell ⟨bp, 1, none⟩ (.slice Ap yz.xs.length cp)).setCell ⟨bp, 2, none⟩ (.string yz.hi)).setCell ⟨bp, 3, none⟩ (.bool yz.la)).setCell ⟨bp, 4, none⟩ (.int .u64 (yz.rt : Int))) = S9 at *
            refine hK.out _ _ ?_ (fun hHeld2 => ?_)
            · exact ⟨HE2.out.lay, HY2.out.blk⟩
            clear hK KK hHeld
            have hHeld := hHeld2
            clear hHeld2
            try simp only [Act.put, List.setIfInBounds_toArray, List.set_cons_zero, List.set_cons_succ]
            refine wpAnyH_done (by kernel_rfl) ?_ _
            clear hHeld
            go_wp2
            go_meet
            exact ⟨bp, yz.pg, Ap, cp, rfl, rfl, HPZ.out, ⟨HBz.out, HRZ.out, HNz.out, HAZ.out⟩, HC2.out, HM2.out, HE2.out, HY2.out⟩
        case rest =>
          obtain ⟨bp, Pz, Ap, cp, rfl, rfl, hPz, hX, hC, hM, hE, hY⟩ := hcut
          rename World => w11
          clear HE2 HY2 HM2 HC2 hfc
          have HC2 := Lib.hid hC
          have HM2 := Lib.hid hM
          have HE2 := Lib.hid hE
          have HY2 := Lib.hid hY
          have HX2 := Lib.hid hX
          clear hC hM hE hY hX
          cases dn with
          | false =>
            have hnn : nN = (wb : Int) := HNN.out.2 rfl
            subst hnn
            go_wp2_with fail
            refine (changing_of wb true hwb1 (by rw [HWX.out.1]; rfl) _).mono ?_; rintro e w12 ⟨rfl, rfl⟩
            go_wp2_with fail
            refine (begin_of wo wb hwo1 HWB.out _).mono ?_; rintro e w12 ⟨rfl, rfl⟩
            go_wp2
            go_roundw
            case rel => exact ⟨k + 1, by omega, by go_num, by rw [HDN.out], HC2.out, by rw [HL9.out]; exact HM2.out, HE2.out, HY2.out⟩
            case measure => simp [intOf]; omega
          | true =>
            have hnn : nN = (we : Int) := (HNN.out.1 rfl).1
            subst hnn
            obtain rfl := hPz rfl
            go_wp2_with fail
            refine (changing_of we false hwe1 (by have := HWX.out.2.1; simp; omega) _).mono ?_; rintro e w12 ⟨rfl, rfl⟩
            have hno : ((we : Int) == (wo : Int)) = false := by have := HWX.out.2.2; simp; omega
            go_wp2_with fail
            refine (begin_of wo wb hwo1 HWB.out _).mono ?_; rintro e w12 ⟨rfl, rfl⟩
            go_wp2_with fail
            refine (end_of wb we hwb1 HWE.out _).mono ?_; rintro e w12 ⟨rfl, rfl⟩
            have p0 := HX2.out.blk.cell (i := 0) rfl
            have p1 := HX2.out.blk.cell (i := 1) rfl
            have p2 := HX2.out.blk.cell (i := 2) rfl
            have p3 := HX2.out.blk.cell (i := 3) rfl
            have p4 := HX2.out.blk.cell (i := 4) rfl
            have y0 := HY2.out.blk.cell (i := 0) rfl
            have y1 := HY2.out.blk.cell (i := 1) rfl
            have y2 := HY2.out.blk.cell (i := 2) rfl
            have y3 := HY2.out.blk.cell (i := 3) rfl
            have y4 := HY2.out.blk.cell (i := 4) rfl
            go_wp2_with fail
            refine (refSame_yes Pz Ap A6 cp c6 _ (by have := HQL.out; omega) HX2.out.row HY2.out.row).mono ?_; rintro e w12 ⟨rfl, hK9⟩
            clear p0 p1 p2 p3 p4 y0 y1 y2 y3 y4
            replace HM2 := Lib.hid (HM2.out.kept hK9 (fun h => h) (fun h => h))
            replace HE2 := Lib.hid (HE2.out.none hK9)
            replace HY2 := Lib.hid (HY2.out.none hK9)
            replace HC2 := Lib.hid (HC2.out.kept hK9 (fun _ _ h => h))
            clear hK9 HX2
            go_wp2
            go_roundw
            case rel => exact ⟨k + 1, by omega, by go_num, by rw [HDN.out], HC2.out, by rw [HL9.out]; exact HM2.out, HE2.out, HY2.out⟩
            case measure => simp [intOf]; omega
      · obtain rfl : k = ss.length := by omega
        rw [show (ss.length == ss.length) = true by simp]
        go_wp2
        go_ret
        exact ⟨rfl, E.out.kept.below (Nat.le_refl _) (fun _ h => h.elim)⟩

end Go.Proofs.Ytlehpcbhfdnkdaa
