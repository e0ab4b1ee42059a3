/-
  The View of a memory, and its height. Condition: the kit's small configurations.
-/
import Derived.Test.YtboieccjikcdiaaDesPage
namespace Go.Proofs.Ytboieccjikcdiaa
open Go.RowKit Go.Deep Plain
set_option linter.unusedVariables false

theorem cells_at (b g : Nat) (l : List Cel) (k : Nat) (w : World) (gv : Nat) (hgv : w.heap.size = gv) (h : Mem w b g l k) (hl : l.length ≤ 1099511627776) :
    Calls Try.prog 18 #[.pointer (some ⟨b, 0, none⟩)] w fun e w' => e = .returned (.slice (some ⟨gv, 0, none⟩) l.length l.length) ∧ Blk w' gv 49 (flat3 l) ∧ Kept (fun _ => False) w w' := by
  subst hgv; exact kitCells_any b g l k w h hl
set_option maxHeartbeats 2000000 in
theorem view_any (F : Nat) (b g : Nat) (l : List Cel) (k n : Nat) (hl : l.length = n) (hn : n ≤ 1048576) (w : World) (hm : Mem w b g l k) :
    Calls Try.prog 11 #[.agg #[.int .i64 1, .int .i64 2, .int .i64 100, .int .i64 100, .int .i64 200, .int .i64 (F : Int), .int .u64 1000], .pointer (some ⟨b, 0, none⟩)] w fun e w' => ∃ gv, e = .returned (.agg #[.int .i64 1, .int .i64 2, .int .i64 100, .int .i64 100, .int .i64 200, .int .i64 (F : Int), .int .u64 1000, .slice (some ⟨gv, 0, none⟩) n n]) ∧ Blk w' gv 49 (flat3 l) ∧ w.heap.size ≤ gv ∧ Kept (fun _ => False) w w' := by
  have HM := Lib.hid hm
  have HL := Lib.hid hl
  clear hm hl
  go_enter Try.func11, Try.ntmps11
  go_wp2_with fail
  have hal := ((Kept.refl (fun _ => False) w).alloc (.cells #[.int .i64 1, .int .i64 2, .int .i64 100, .int .i64 100, .int .i64 200, .int .i64 (F : Int), .int .u64 1000] 25)).alloc (.cells #[.int .i64 0, .int .i64 0, .int .i64 0, .int .i64 0, .int .i64 0, .int .i64 0, .int .u64 0, .slice none 0 0] 35)
  have HB := Lib.hid ((Blk.new w [.int .i64 1, .int .i64 2, .int .i64 100, .int .i64 100, .int .i64 200, .int .i64 (F : Int), .int .u64 1000] 25).alloc (.cells #[.int .i64 0, .int .i64 0, .int .i64 0, .int .i64 0, .int .i64 0, .int .i64 0, .int .u64 0, .slice none 0 0] 35))
  have hNN := Blk.new (w.alloc (.cells #[.int .i64 1, .int .i64 2, .int .i64 100, .int .i64 100, .int .i64 200, .int .i64 (F : Int), .int .u64 1000] 25)) [.int .i64 0, .int .i64 0, .int .i64 0, .int .i64 0, .int .i64 0, .int .i64 0, .int .u64 0, .slice none 0 0] 35
  have hsz1 : (w.alloc (.cells #[.int .i64 1, .int .i64 2, .int .i64 100, .int .i64 100, .int .i64 200, .int .i64 (F : Int), .int .u64 1000] 25)).heap.size = w.heap.size + 1 := nblk_alloc _ _
  rw [hsz1] at hNN
  have HN := Lib.hid hNN
  have HM2 := Lib.hid (HM.out.kept hal (fun h => h) (fun h => h))
  have HK := Lib.hid hal
  clear hal hNN hsz1 HM
  generalize (w.alloc (.cells #[.int .i64 1, .int .i64 2, .int .i64 100, .int .i64 100, .int .i64 200, .int .i64 (F : Int), .int .u64 1000] 25)).alloc (.cells #[.int .i64 0, .int .i64 0, .int .i64 0, .int .i64 0, .int .i64 0, .int .i64 0, .int .u64 0, .slice none 0 0] 35) = W at *
  generalize hr1 : w.heap.size + 1 = r1 at *
  generalize hr0 : w.heap.size = r0 at *
  have HR := Lib.hid (show r1 = r0 + 1 by omega)
  have HR0 := Lib.hid hr0
  clear hr0 hr1
  replace HM2 := Lib.hid (HM2.out.drew)
  replace HN := Lib.hid (HN.out.of (w' := W.drew) rfl)
  replace HB := Lib.hid (HB.out.of (w' := W.drew) rfl)
  replace HK := Lib.hid HK.out.drew
  refine wp_region_held_drew (S := (fun w' => Blk w' r0 25 [.int .i64 1, .int .i64 2, .int .i64 100, .int .i64 100, .int .i64 200, .int .i64 (F : Int), .int .u64 1000])) (by kernel_rfl) ?_ (fun hHeld => ?_)
  · exact HB.out
  have HN0 := Lib.hid (show r1 < W.drew.heap.size from HN.out.lt)
  generalize W.drew = G at *
  obtain ⟨gv, hgv⟩ : ∃ gv, G.heap.size = gv := ⟨_, rfl⟩
  replace HN0 := Lib.hid (show r1 < gv by have := HN0.out; omega)
  refine wpAnyH_take (i := 0) (oi := ⟨some 5, _, _, _, _, _⟩) (v := ?_) rfl (by kernel_rfl) (by kernel_rfl) (by kernel_rfl) (fun _ _ _ h => h) (Or.inl ⟨by rfl, ?_⟩) hHeld ?_
  rotate_left
  · (intro wq hSw; have hb9 := hSw; have x0 := hb9.cell (i := 0) rfl; have x1 := hb9.cell (i := 1) rfl; have x2 := hb9.cell (i := 2) rfl; have x3 := hb9.cell (i := 3) rfl; have x4 := hb9.cell (i := 4) rfl; have x5 := hb9.cell (i := 5) rfl; have x6 := hb9.cell (i := 6) rfl; clear hb9; go_simp; try with_reducible rfl)
  try simp only [Act.put, List.setIfInBounds_toArray, List.set_cons_zero, List.set_cons_succ]
  refine wpAnyH_take (i := 1) (oi := ⟨some 6, _, _, _, _, _⟩) (v := ?_) rfl (by kernel_rfl) (by kernel_rfl) (by kernel_rfl) (fun _ _ _ h => h) (Or.inl ⟨by rfl, ?_⟩) hHeld ?_
  rotate_left
  · (intro wq hSw; go_simp; try with_reducible rfl)
  try simp only [Act.put, List.setIfInBounds_toArray, List.set_cons_zero, List.set_cons_succ]
  refine wpAnyH_ready (rs := [2]) (by kernel_rfl) (by simp) ?_
  refine AllReadyH.cons (o := ⟨some 7, _, _, _, _, _⟩) rfl (fun KK hK => ?_) AllReadyH.nil
  go_simp
  go_at_call 18
  refine Calls.mono (cells_at b g l k G gv hgv HM2.out (by have := HL.out; omega)) ?_; rintro e G2 ⟨rfl, hBv, hKv⟩
  rw [HL.out]
  have HBv := Lib.hid hBv
  replace HN := Lib.hid (hKv.blk HN.out (fun h => h))
  replace HB := Lib.hid (hKv.blk HB.out (fun h => h))
  have HGV := Lib.hid (show r1 < gv by have := HN0.out; omega)
  replace HK := Lib.hid (HK.out.trans hKv (fun _ _ h => h))
  clear hBv hKv
  refine hK.out _ _ ?_ (fun hHeld2 => ?_)
  · exact HB.out
  clear hK KK hHeld
  have hHeld := hHeld2
  clear hHeld2
  try simp only [Act.put, List.setIfInBounds_toArray, List.set_cons_zero, List.set_cons_succ]
  refine wpAnyH_take (i := 3) (oi := ⟨some 8, _, _, _, _, _⟩) (v := ?_) rfl (by kernel_rfl) (by kernel_rfl) (by kernel_rfl) (fun _ _ _ h => h) (Or.inl ⟨by rfl, ?_⟩) hHeld ?_
  rotate_left
  · (intro wq hSw; go_simp; try with_reducible rfl)
  try simp only [Act.put, List.setIfInBounds_toArray, List.set_cons_zero, List.set_cons_succ]
  refine wpAnyH_ready (rs := [4]) (by kernel_rfl) (by simp) ?_
  refine AllReadyH.cons (o := ⟨none, _, _, _, _, _⟩) rfl (fun KK hK => ?_) AllReadyH.nil
  have h9 := HN.out
  have s0 := h9.cell (i := 0) rfl
  have s1 := h9.cell (i := 1) rfl
  have s2 := h9.cell (i := 2) rfl
  have s3 := h9.cell (i := 3) rfl
  have s4 := h9.cell (i := 4) rfl
  have s5 := h9.cell (i := 5) rfl
  have s6 := h9.cell (i := 6) rfl
  have s7 := h9.cell (i := 7) rfl
  have z0 := h9.frozen 0
  have z1 := h9.frozen 1
  have z2 := h9.frozen 2
  have z3 := h9.frozen 3
  have z4 := h9.frozen 4
  have z5 := h9.frozen 5
  have z6 := h9.frozen 6
  have z7 := h9.frozen 7
  clear h9
  go_simp
  replace HBv := Lib.hid (((((((((HBv.out).other (a := ⟨r1, 0, none⟩) (by have := HGV.out; show gv ≠ r1; omega) (.int .i64 1)).other (a := ⟨r1, 1, none⟩) (by have := HGV.out; show gv ≠ r1; omega) (.int .i64 2)).other (a := ⟨r1, 2, none⟩) (by have := HGV.out; show gv ≠ r1; omega) (.int .i64 100)).other (a := ⟨r1, 3, none⟩) (by have := HGV.out; show gv ≠ r1; omega) (.int .i64 100)).other (a := ⟨r1, 4, none⟩) (by have := HGV.out; show gv ≠ r1; omega) (.int .i64 200)).other (a := ⟨r1, 5, none⟩) (by have := HGV.out; show gv ≠ r1; omega) (.int .i64 (F : Int))).other (a := ⟨r1, 6, none⟩) (by have := HGV.out; show gv ≠ r1; omega) (.int .u64 1000)).other (a := ⟨r1, 7, none⟩) (by have := HGV.out; show gv ≠ r1; omega) (.slice (some ⟨gv, 0, none⟩) n n))
  replace HN := Lib.hid (((((((((HN.out).set 0 (.int .i64 1)).set 1 (.int .i64 2)).set 2 (.int .i64 100)).set 3 (.int .i64 100)).set 4 (.int .i64 200)).set 5 (.int .i64 (F : Int))).set 6 (.int .u64 1000)).set 7 (.slice (some ⟨gv, 0, none⟩) n n))
  replace HB := Lib.hid (((((((((HB.out).other (a := ⟨r1, 0, none⟩) (by have := HR.out; show r0 ≠ r1; omega) (.int .i64 1)).other (a := ⟨r1, 1, none⟩) (by have := HR.out; show r0 ≠ r1; omega) (.int .i64 2)).other (a := ⟨r1, 2, none⟩) (by have := HR.out; show r0 ≠ r1; omega) (.int .i64 100)).other (a := ⟨r1, 3, none⟩) (by have := HR.out; show r0 ≠ r1; omega) (.int .i64 100)).other (a := ⟨r1, 4, none⟩) (by have := HR.out; show r0 ≠ r1; omega) (.int .i64 200)).other (a := ⟨r1, 5, none⟩) (by have := HR.out; show r0 ≠ r1; omega) (.int .i64 (F : Int))).other (a := ⟨r1, 6, none⟩) (by have := HR.out; show r0 ≠ r1; omega) (.int .u64 1000)).other (a := ⟨r1, 7, none⟩) (by have := HR.out; show r0 ≠ r1; omega) (.slice (some ⟨gv, 0, none⟩) n n))
  replace HK := Lib.hid (((((((((HK.out).setNew (b := r1) (by rw [HR.out, HR0.out]; omega) 0 (.int .i64 1)).setNew (b := r1) (by rw [HR.out, HR0.out]; omega) 1 (.int .i64 2)).setNew (b := r1) (by rw [HR.out, HR0.out]; omega) 2 (.int .i64 100)).setNew (b := r1) (by rw [HR.out, HR0.out]; omega) 3 (.int .i64 100)).setNew (b := r1) (by rw [HR.out, HR0.out]; omega) 4 (.int .i64 200)).setNew (b := r1) (by rw [HR.out, HR0.out]; omega) 5 (.int .i64 (F : Int))).setNew (b := r1) (by rw [HR.out, HR0.out]; omega) 6 (.int .u64 1000)).setNew (b := r1) (by rw [HR.out, HR0.out]; omega) 7 (.slice (some ⟨gv, 0, none⟩) n n))
  clear s0 z0 s1 z1 s2 z2 s3 z3 s4 z4 s5 z5 s6 z6 s7 z7
  refine hK.out _ _ ?_ (fun hHeld2 => ?_)
  · exact HB.out
  clear hK KK hHeld
  have hHeld := hHeld2
  clear hHeld2
  try simp only [Act.put, List.setIfInBounds_toArray, List.set_cons_zero, List.set_cons_succ]
  refine wpAnyH_done (by kernel_rfl) ?_ _
  clear hHeld
  clear hgv
  have q0 := HN.out.cell (i := 0) rfl
  have q1 := HN.out.cell (i := 1) rfl
  have q2 := HN.out.cell (i := 2) rfl
  have q3 := HN.out.cell (i := 3) rfl
  have q4 := HN.out.cell (i := 4) rfl
  have q5 := HN.out.cell (i := 5) rfl
  have q6 := HN.out.cell (i := 6) rfl
  have q7 := HN.out.cell (i := 7) rfl
  go_wp2
  refine bodyPost_ret (v := .agg #[.int .i64 1, .int .i64 2, .int .i64 100, .int .i64 100, .int .i64 200, .int .i64 (F : Int), .int .u64 1000, .slice (some ⟨gv, 0, none⟩) n n]) ?_ rfl ?_
  · simp [results, Try.results11, go_sem, q0, q1, q2, q3, q4, q5, q6, q7]
  exact ⟨gv, rfl, HBv.out, by have := HGV.out; have := HR.out; have := HR0.out; omega, HK.out⟩

theorem pfield0 (lv : Int) (A : Option Addr) (n c : Nat) (hi : ByteArray) (la : Bool) (rt : Int) (w : World) : (Instr.field 43 (.agg #[.int .i64 lv, .slice A n c, .string hi, .bool la, .int .u64 rt]) 0).run Try.prog w = .ok (.int .i64 lv) w := by kernel_rfl
set_option maxHeartbeats 2000000 in
theorem height_any (F : Nat) (h4 : 4 ≤ F) (h6 : F ≤ 6) (g n : Nat) (l : List Cel) (hl : l.length = n) (rt : Nat) (M0 : Int) (K0 : ByteArray) (h1 : 1 ≤ rt) (h2 : rt ≤ 100) (P : Pg) (hH : Holds (nad F rt) l P) (hw : Wf P) (hF : P.xs.length ≤ F) (hlv : P.lv ≤ 1000) (w : World) (hv : Blk w g 49 (flat3 l)) (hc : cellAt l 0 = ((rt : Int), K0, M0)) :
    Calls Try.prog 12 #[.agg #[.int .i64 1, .int .i64 2, .int .i64 100, .int .i64 100, .int .i64 200, .int .i64 (F : Int), .int .u64 1000, .slice (some ⟨g, 0, none⟩) n n]] w fun e w' => e = .returned (.int .i64 ((P.lv : Int) + 1)) ∧ Kept (fun _ => False) w w' := by
  have HV0 := Lib.hid hv
  have HC := Lib.hid hc
  have HH := Lib.hid hH
  have HW := Lib.hid hw
  have hfd := field0 (rt : Int) M0 K0
  have hwr : IntKind.i64.wrap ((P.lv : Int) + 1) = (P.lv : Int) + 1 := by rw [IntKind.wrap_i64]; omega
  clear hv hc hH hw
  go_enter Try.func12, Try.ntmps12
  go_wp2_with fail
  have hal := (Kept.refl (fun _ => False) w).alloc (.cells #[.int .i64 1, .int .i64 2, .int .i64 100, .int .i64 100, .int .i64 200, .int .i64 (F : Int), .int .u64 1000, .slice (some ⟨g, 0, none⟩) n n] 35)
  have HB := Lib.hid (Blk.new w [.int .i64 1, .int .i64 2, .int .i64 100, .int .i64 100, .int .i64 200, .int .i64 (F : Int), .int .u64 1000, .slice (some ⟨g, 0, none⟩) n n] 35)
  have HV := Lib.hid (hal.blk HV0.out (fun h => h))
  have HK := Lib.hid hal
  clear hal HV0
  generalize w.heap.size = r0 at HB ⊢
  generalize w.alloc (.cells #[.int .i64 1, .int .i64 2, .int .i64 100, .int .i64 100, .int .i64 200, .int .i64 (F : Int), .int .u64 1000, .slice (some ⟨g, 0, none⟩) n n] 35) = W at *
  replace HV := Lib.hid (HV.out.of (w' := W.drew) rfl)
  replace HB := Lib.hid (HB.out.of (w' := W.drew) rfl)
  replace HK := Lib.hid HK.out.drew
  refine wp_region_held_drew (S := (fun w' => Blk w' r0 35 [.int .i64 1, .int .i64 2, .int .i64 100, .int .i64 100, .int .i64 200, .int .i64 (F : Int), .int .u64 1000, .slice (some ⟨g, 0, none⟩) n n])) (by kernel_rfl) ?_ (fun hHeld => ?_)
  · exact HB.out
  generalize W.drew = G0 at *
  refine wpAnyH_take (i := 0) (oi := ⟨some 3, _, _, _, _, _⟩) (v := ?_) rfl (by kernel_rfl) (by kernel_rfl) (by kernel_rfl) (fun _ _ _ h => h) (Or.inl ⟨by rfl, ?_⟩) hHeld ?_
  rotate_left
  · (intro wq hSw; have hb9 := hSw; have x0 := hb9.cell (i := 0) rfl; have x1 := hb9.cell (i := 1) rfl; have x2 := hb9.cell (i := 2) rfl; have x3 := hb9.cell (i := 3) rfl; have x4 := hb9.cell (i := 4) rfl; have x5 := hb9.cell (i := 5) rfl; have x6 := hb9.cell (i := 6) rfl; have x7 := hb9.cell (i := 7) rfl; clear hb9; go_simp; try with_reducible rfl)
  try simp only [Act.put, List.setIfInBounds_toArray, List.set_cons_zero, List.set_cons_succ]
  refine wpAnyH_take (i := 1) (oi := ⟨some 4, _, _, _, _, _⟩) (v := ?_) rfl (by kernel_rfl) (by kernel_rfl) (by kernel_rfl) (fun _ _ _ h => h) (Or.inl ⟨by rfl, ?_⟩) hHeld ?_
  rotate_left
  · (intro wq hSw; have hb9 := hSw; have x0 := hb9.cell (i := 0) rfl; have x1 := hb9.cell (i := 1) rfl; have x2 := hb9.cell (i := 2) rfl; have x3 := hb9.cell (i := 3) rfl; have x4 := hb9.cell (i := 4) rfl; have x5 := hb9.cell (i := 5) rfl; have x6 := hb9.cell (i := 6) rfl; have x7 := hb9.cell (i := 7) rfl; clear hb9; go_simp; try with_reducible rfl)
  try simp only [Act.put, List.setIfInBounds_toArray, List.set_cons_zero, List.set_cons_succ]
  refine wpAnyH_ready (rs := [2]) (by kernel_rfl) (by simp) ?_
  refine AllReadyH.cons (o := ⟨some 5, _, _, _, _, _⟩) rfl (fun KK hK => ?_) AllReadyH.nil
  go_simp
  go_at_call 31
  refine (vat_any F h4 h6 g n l hl 0 (rt : Int) M0 K0 _ HV.out HC.out).mono ?_; rintro e G ⟨rfl, hB⟩
  replace HV := Lib.hid (hB.blk HV.out (fun h => h))
  replace HB := Lib.hid (hB.blk HB.out (fun h => h))
  replace HK := Lib.hid (HK.out.trans hB (fun _ _ h => h))
  clear hB
  refine hK.out _ _ ?_ (fun hHeld2 => ?_)
  · exact HB.out
  clear hK KK hHeld
  have hHeld := hHeld2
  clear hHeld2
  try simp only [Act.put, List.setIfInBounds_toArray, List.set_cons_zero, List.set_cons_succ]
  refine wpAnyH_take (i := 3) (oi := ⟨some 6, _, _, _, _, _⟩) (v := .int .u64 (rt : Int)) rfl (by kernel_rfl) (by kernel_rfl) (by kernel_rfl) (fun _ _ _ h => h) (Or.inl ⟨by rfl, ?_⟩) hHeld ?_
  · (intro wq hSw; go_simp; try first | (with_reducible rfl) | (simp; omega) | (intros; omega) | simp [*])
  try simp only [Act.put, List.setIfInBounds_toArray, List.set_cons_zero, List.set_cons_succ]
  refine wpAnyH_ready (rs := [4]) (by kernel_rfl) (by simp) ?_
  refine AllReadyH.cons (o := ⟨some 7, _, _, _, _, _⟩) rfl (fun KK hK => ?_) AllReadyH.nil
  go_simp
  go_at_call 21
  refine (vpage_any F h4 h6 g n l hl rt h1 h2 P HH.out HW.out hF (by omega) _ HV.out).mono ?_; rintro e G3 ⟨A9, c9, rfl, -, -, hB⟩
  have hpf := pfield0 (P.lv : Int) A9 P.xs.length c9 P.hi P.la (P.rt : Int)
  replace HV := Lib.hid (hB.blk HV.out (fun h => h))
  replace HB := Lib.hid (hB.blk HB.out (fun h => h))
  replace HK := Lib.hid (HK.out.trans hB (fun _ _ h => h))
  clear hB
  refine hK.out _ _ ?_ (fun hHeld2 => ?_)
  · exact HB.out
  clear hK KK hHeld
  have hHeld := hHeld2
  clear hHeld2
  try simp only [Act.put, List.setIfInBounds_toArray, List.set_cons_zero, List.set_cons_succ]
  refine wpAnyH_take (i := 5) (oi := ⟨some 8, _, _, _, _, _⟩) (v := .int .i64 (P.lv : Int)) rfl (by kernel_rfl) (by kernel_rfl) (by kernel_rfl) (fun _ _ _ h => h) (Or.inl ⟨by rfl, ?_⟩) hHeld ?_
  · (intro wq hSw; go_simp; try first | (with_reducible rfl) | (simp; omega) | (intros; omega) | simp [*])
  try simp only [Act.put, List.setIfInBounds_toArray, List.set_cons_zero, List.set_cons_succ]
  refine wpAnyH_take (i := 6) (oi := ⟨some 9, _, _, _, _, _⟩) (v := .int .i64 ((P.lv : Int) + 1)) rfl (by kernel_rfl) (by kernel_rfl) (by kernel_rfl) (fun _ _ _ h => h) (Or.inl ⟨by rfl, ?_⟩) hHeld ?_
  · (intro wq hSw; go_simp; try first | (with_reducible rfl) | (simp; omega) | (intros; omega) | simp [*])
  try simp only [Act.put, List.setIfInBounds_toArray, List.set_cons_zero, List.set_cons_succ]
  refine wpAnyH_take (i := 7) (oi := ⟨some 2, _, _, _, _, _⟩) (v := ?_) rfl (by kernel_rfl) (by kernel_rfl) (by kernel_rfl) (fun _ _ _ h => h) (Or.inl ⟨by rfl, ?_⟩) hHeld ?_
  rotate_left
  · (intro wq hSw; go_simp; try with_reducible rfl)
  try simp only [Act.put, List.setIfInBounds_toArray, List.set_cons_zero, List.set_cons_succ]
  refine wpAnyH_done (by kernel_rfl) ?_ _
  clear hHeld
  go_wp2
  go_ret
  exact ⟨rfl, HK.out⟩

end Go.Proofs.Ytboieccjikcdiaa
