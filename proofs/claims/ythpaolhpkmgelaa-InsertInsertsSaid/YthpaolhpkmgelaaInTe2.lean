/-
  View and its Latch where the configuration has 10 nodes; the cells behind an Insert. Condition: a fanout of four to six.
-/
import Derived.Test.YthpaolhpkmgelaaInTen
import Derived.Test.YthpaolhpkmgelaaInRun
namespace Go.Proofs.Ythpaolhpkmgelaa
section
open Go.RowKit Go.Deep Plain
set_option linter.unusedVariables false

set_option maxHeartbeats 2000000 in
theorem view_anyT (F : Nat) (b g : Nat) (l : List Cel) (k n : Nat) (hl : l.length = n) (hn : n ≤ 1048576) (w : World) (hm : Mem w b g l k) :
    Calls Try.prog 9 #[.agg #[.int .i64 1, .int .i64 2, .int .i64 10, .int .i64 100, .int .i64 200, .int .i64 (F : Int), .int .u64 1000], .pointer (some ⟨b, 0, none⟩)] w fun e w' => ∃ gv, e = .returned (.agg #[.int .i64 1, .int .i64 2, .int .i64 10, .int .i64 100, .int .i64 200, .int .i64 (F : Int), .int .u64 1000, .slice (some ⟨gv, 0, none⟩) n n]) ∧ Blk w' gv 50 (flat3 l) ∧ w.heap.size ≤ gv ∧ Kept (fun _ => False) w w' := by
  have HM := Lib.hid hm
  have HL := Lib.hid hl
  clear hm hl
  go_enter Try.func9, Try.ntmps9
  go_wp2_with fail
  have hal := ((Kept.refl (fun _ => False) w).alloc (.cells #[.int .i64 1, .int .i64 2, .int .i64 10, .int .i64 100, .int .i64 200, .int .i64 (F : Int), .int .u64 1000] 25)).alloc (.cells #[.int .i64 0, .int .i64 0, .int .i64 0, .int .i64 0, .int .i64 0, .int .i64 0, .int .u64 0, .slice none 0 0] 45)
  have HB := Lib.hid ((Blk.new w [.int .i64 1, .int .i64 2, .int .i64 10, .int .i64 100, .int .i64 200, .int .i64 (F : Int), .int .u64 1000] 25).alloc (.cells #[.int .i64 0, .int .i64 0, .int .i64 0, .int .i64 0, .int .i64 0, .int .i64 0, .int .u64 0, .slice none 0 0] 45))
  have hNN := Blk.new (w.alloc (.cells #[.int .i64 1, .int .i64 2, .int .i64 10, .int .i64 100, .int .i64 200, .int .i64 (F : Int), .int .u64 1000] 25)) [.int .i64 0, .int .i64 0, .int .i64 0, .int .i64 0, .int .i64 0, .int .i64 0, .int .u64 0, .slice none 0 0] 45
  have hsz1 : (w.alloc (.cells #[.int .i64 1, .int .i64 2, .int .i64 10, .int .i64 100, .int .i64 200, .int .i64 (F : Int), .int .u64 1000] 25)).heap.size = w.heap.size + 1 := nblk_alloc _ _
  rw [hsz1] at hNN
  have HN := Lib.hid hNN
  have HM2 := Lib.hid (HM.out.kept hal (fun h => h) (fun h => h))
  have HK := Lib.hid hal
  clear hal hNN hsz1 HM
  generalize (w.alloc (.cells #[.int .i64 1, .int .i64 2, .int .i64 10, .int .i64 100, .int .i64 200, .int .i64 (F : Int), .int .u64 1000] 25)).alloc (.cells #[.int .i64 0, .int .i64 0, .int .i64 0, .int .i64 0, .int .i64 0, .int .i64 0, .int .u64 0, .slice none 0 0] 45) = W at *
  generalize hr1 : w.heap.size + 1 = r1 at *
  generalize hr0 : w.heap.size = r0 at *
  have HR := Lib.hid (show r1 = r0 + 1 by omega)
  have HR0 := Lib.hid hr0
  clear hr0 hr1
  replace HM2 := Lib.hid (HM2.out.drew)
  replace HN := Lib.hid (HN.out.of (w' := W.drew) rfl)
  replace HB := Lib.hid (HB.out.of (w' := W.drew) rfl)
  replace HK := Lib.hid HK.out.drew
  refine wp_region_held_drew (S := (fun w' => Blk w' r0 25 [.int .i64 1, .int .i64 2, .int .i64 10, .int .i64 100, .int .i64 200, .int .i64 (F : Int), .int .u64 1000])) (by kernel_rfl) ?_ (fun hHeld => ?_)
  · exact HB.out
  have HN0 := Lib.hid (show r1 < W.drew.heap.size from HN.out.lt)
  generalize W.drew = G at *
  obtain ⟨gv, hgv⟩ : ∃ gv, G.heap.size = gv := ⟨_, rfl⟩
  replace HN0 := Lib.hid (show r1 < gv by have := HN0.out; omega)
  refine wpAnyH_take (i := 0) (oi := ⟨some 5, _, _, _, _, _⟩) (v := ?_) rfl (by kernel_rfl) (by kernel_rfl) (by kernel_rfl) (fun _ _ _ h => h) (Or.inl ⟨by rfl, ?_⟩) hHeld ?_
  rotate_left
  · (intro wq hSw; have hb9 := hSw; have x0 := hb9.cell (i := 0) rfl; have x1 := hb9.cell (i := 1) rfl; have x2 := hb9.cell (i := 2) rfl; have x3 := hb9.cell (i := 3) rfl; have x4 := hb9.cell (i := 4) rfl; have x5 := hb9.cell (i := 5) rfl; have x6 := hb9.cell (i := 6) rfl; clear hb9; go_simp; try with_reducible rfl)
  try simp only [Act.put, List.setIfInBounds_toArray, List.set_cons_zero, List.set_cons_succ]
  refine wpAnyH_take (i := 1) (oi := ⟨some 6, _, _, _, _, _⟩) (v := ?_) rfl (by kernel_rfl) (by kernel_rfl) (by kernel_rfl) (fun _ _ _ h => h) (Or.inl ⟨by rfl, ?_⟩) hHeld ?_
  rotate_left
  · (intro wq hSw; go_simp; try with_reducible rfl)
  try simp only [Act.put, List.setIfInBounds_toArray, List.set_cons_zero, List.set_cons_succ]
  refine wpAnyH_ready (rs := [2]) (by kernel_rfl) (by simp) ?_
  refine AllReadyH.cons (o := ⟨some 7, _, _, _, _, _⟩) rfl (fun KK hK => ?_) AllReadyH.nil
  go_simp
  go_at_call 6
  refine Calls.mono (cells_at b g l k G gv hgv HM2.out (by have := HL.out; omega)) ?_; rintro e G2 ⟨rfl, hBv, hKv⟩
  rw [HL.out]
  have HBv := Lib.hid hBv
  replace HN := Lib.hid (hKv.blk HN.out (fun h => h))
  replace HB := Lib.hid (hKv.blk HB.out (fun h => h))
  have HGV := Lib.hid (show r1 < gv by have := HN0.out; omega)
  replace HK := Lib.hid (HK.out.trans hKv (fun _ _ h => h))
  clear hBv hKv
  refine hK.out _ _ ?_ (fun hHeld2 => ?_)
  · exact HB.out
  clear hK KK hHeld
  have hHeld := hHeld2
  clear hHeld2
  try simp only [Act.put, List.setIfInBounds_toArray, List.set_cons_zero, List.set_cons_succ]
  refine wpAnyH_take (i := 3) (oi := ⟨some 8, _, _, _, _, _⟩) (v := ?_) rfl (by kernel_rfl) (by kernel_rfl) (by kernel_rfl) (fun _ _ _ h => h) (Or.inl ⟨by rfl, ?_⟩) hHeld ?_
  rotate_left
  · (intro wq hSw; go_simp; try with_reducible rfl)
  try simp only [Act.put, List.setIfInBounds_toArray, List.set_cons_zero, List.set_cons_succ]
  refine wpAnyH_ready (rs := [4]) (by kernel_rfl) (by simp) ?_
  refine AllReadyH.cons (o := ⟨none, _, _, _, _, _⟩) rfl (fun KK hK => ?_) AllReadyH.nil
  have h9 := HN.out
  have s0 := h9.cell (i := 0) rfl
  have s1 := h9.cell (i := 1) rfl
  have s2 := h9.cell (i := 2) rfl
  have s3 := h9.cell (i := 3) rfl
  have s4 := h9.cell (i := 4) rfl
  have s5 := h9.cell (i := 5) rfl
  have s6 := h9.cell (i := 6) rfl
  have s7 := h9.cell (i := 7) rfl
  have z0 := h9.frozen 0
  have z1 := h9.frozen 1
  have z2 := h9.frozen 2
  have z3 := h9.frozen 3
  have z4 := h9.frozen 4
  have z5 := h9.frozen 5
  have z6 := h9.frozen 6
  have z7 := h9.frozen 7
  clear h9
  go_simp
  replace HBv := Lib.hid (((((((((HBv.out).other (a := ⟨r1, 0, none⟩) (by have := HGV.out; show gv ≠ r1; omega) (.int .i64 1)).other (a := ⟨r1, 1, none⟩) (by have := HGV.out; show gv ≠ r1; omega) (.int .i64 2)).other (a := ⟨r1, 2, none⟩) (by have := HGV.out; show gv ≠ r1; omega) (.int .i64 10)).other (a := ⟨r1, 3, none⟩) (by have := HGV.out; show gv ≠ r1; omega) (.int .i64 100)).other (a := ⟨r1, 4, none⟩) (by have := HGV.out; show gv ≠ r1; omega) (.int .i64 200)).other (a := ⟨r1, 5, none⟩) (by have := HGV.out; show gv ≠ r1; omega) (.int .i64 (F : Int))).other (a := ⟨r1, 6, none⟩) (by have := HGV.out; show gv ≠ r1; omega) (.int .u64 1000)).other (a := ⟨r1, 7, none⟩) (by have := HGV.out; show gv ≠ r1; omega) (.slice (some ⟨gv, 0, none⟩) n n))
  replace HN := Lib.hid (((((((((HN.out).set 0 (.int .i64 1)).set 1 (.int .i64 2)).set 2 (.int .i64 10)).set 3 (.int .i64 100)).set 4 (.int .i64 200)).set 5 (.int .i64 (F : Int))).set 6 (.int .u64 1000)).set 7 (.slice (some ⟨gv, 0, none⟩) n n))
  replace HB := Lib.hid (((((((((HB.out).other (a := ⟨r1, 0, none⟩) (by have := HR.out; show r0 ≠ r1; omega) (.int .i64 1)).other (a := ⟨r1, 1, none⟩) (by have := HR.out; show r0 ≠ r1; omega) (.int .i64 2)).other (a := ⟨r1, 2, none⟩) (by have := HR.out; show r0 ≠ r1; omega) (.int .i64 10)).other (a := ⟨r1, 3, none⟩) (by have := HR.out; show r0 ≠ r1; omega) (.int .i64 100)).other (a := ⟨r1, 4, none⟩) (by have := HR.out; show r0 ≠ r1; omega) (.int .i64 200)).other (a := ⟨r1, 5, none⟩) (by have := HR.out; show r0 ≠ r1; omega) (.int .i64 (F : Int))).other (a := ⟨r1, 6, none⟩) (by have := HR.out; show r0 ≠ r1; omega) (.int .u64 1000)).other (a := ⟨r1, 7, none⟩) (by have := HR.out; show r0 ≠ r1; omega) (.slice (some ⟨gv, 0, none⟩) n n))
  replace HK := Lib.hid (((((((((HK.out).setNew (b := r1) (by rw [HR.out, HR0.out]; omega) 0 (.int .i64 1)).setNew (b := r1) (by rw [HR.out, HR0.out]; omega) 1 (.int .i64 2)).setNew (b := r1) (by rw [HR.out, HR0.out]; omega) 2 (.int .i64 10)).setNew (b := r1) (by rw [HR.out, HR0.out]; omega) 3 (.int .i64 100)).setNew (b := r1) (by rw [HR.out, HR0.out]; omega) 4 (.int .i64 200)).setNew (b := r1) (by rw [HR.out, HR0.out]; omega) 5 (.int .i64 (F : Int))).setNew (b := r1) (by rw [HR.out, HR0.out]; omega) 6 (.int .u64 1000)).setNew (b := r1) (by rw [HR.out, HR0.out]; omega) 7 (.slice (some ⟨gv, 0, none⟩) n n))
  clear s0 z0 s1 z1 s2 z2 s3 z3 s4 z4 s5 z5 s6 z6 s7 z7
  refine hK.out _ _ ?_ (fun hHeld2 => ?_)
  · exact HB.out
  clear hK KK hHeld
  have hHeld := hHeld2
  clear hHeld2
  try simp only [Act.put, List.setIfInBounds_toArray, List.set_cons_zero, List.set_cons_succ]
  refine wpAnyH_done (by kernel_rfl) ?_ _
  clear hHeld
  clear hgv
  have q0 := HN.out.cell (i := 0) rfl
  have q1 := HN.out.cell (i := 1) rfl
  have q2 := HN.out.cell (i := 2) rfl
  have q3 := HN.out.cell (i := 3) rfl
  have q4 := HN.out.cell (i := 4) rfl
  have q5 := HN.out.cell (i := 5) rfl
  have q6 := HN.out.cell (i := 6) rfl
  have q7 := HN.out.cell (i := 7) rfl
  go_wp2
  refine bodyPost_ret (v := .agg #[.int .i64 1, .int .i64 2, .int .i64 10, .int .i64 100, .int .i64 200, .int .i64 (F : Int), .int .u64 1000, .slice (some ⟨gv, 0, none⟩) n n]) ?_ rfl ?_
  · simp [results, Try.results9, go_sem, q0, q1, q2, q3, q4, q5, q6, q7]
  exact ⟨gv, rfl, HBv.out, by have := HGV.out; have := HR.out; have := HR0.out; omega, HK.out⟩

set_option maxHeartbeats 2000000 in
theorem vlatch_anyT (F : Nat) (h4 : 4 ≤ F) (h6 : F ≤ 6) (g n : Nat) (l : List Cel) (hl : l.length = n) (nid : Nat) (a : Int) (hla : nodeAt 10 (F : Int) 10 (nid : Int) ((0 : Nat) : Int) = a) (N M : Int) (K : ByteArray) (w : World) (hv : Blk w g 50 (flat3 l)) (hc : cellAt l a = (N, K, M)) :
    Calls Try.prog 20 #[.agg #[.int .i64 1, .int .i64 2, .int .i64 10, .int .i64 100, .int .i64 200, .int .i64 (F : Int), .int .u64 1000, .slice (some ⟨g, 0, none⟩) n n], .int .u64 (nid : Int)] w fun e w' => e = .returned (.int .u64 N) ∧ Kept (fun _ => False) w w' := by
  have HV0 := Lib.hid hv
  have HC := Lib.hid hc
  clear hv hc
  go_enter Try.func20, Try.ntmps20
  go_wp2_with fail
  have hal := (Kept.refl (fun _ => False) w).alloc (.cells #[.int .i64 1, .int .i64 2, .int .i64 10, .int .i64 100, .int .i64 200, .int .i64 (F : Int), .int .u64 1000, .slice (some ⟨g, 0, none⟩) n n] 45)
  have HV := Lib.hid (hal.blk HV0.out (fun h => h))
  have HK := Lib.hid hal
  clear hal HV0
  generalize w.alloc (.cells #[.int .i64 1, .int .i64 2, .int .i64 10, .int .i64 100, .int .i64 200, .int .i64 (F : Int), .int .u64 1000, .slice (some ⟨g, 0, none⟩) n n] 45) = W at *
  have hrf := hla
  refine (vpart_anyT F h4 h6 g n l hl nid 0 (by omega) a hla N M K _ HV.out HC.out).mono ?_; rintro e w2 ⟨rfl, hK2⟩
  have f0 := field0 N M K
  have HK2 := Lib.hid (HK.out.trans hK2 (fun _ _ h => h))
  clear hK2
  go_wp2
  go_ret
  exact ⟨rfl, HK2.out⟩

end

section
open Go.RowKit Go.Deep Plain
set_option linter.unusedVariables false

theorem wsto_app0 {la : Int} {wb we : Nat} {cs : List Sto} {l : List Cel} : app l (wsto la wb we cs) = putAt (app (putAt l la ((wb : Int), (⟨#[]⟩ : ByteArray), (0 : Int))) cs) la ((we : Int), (⟨#[]⟩ : ByteArray), (0 : Int)) := by
  unfold wsto; rw [app_snoc]; rfl
theorem wsto_holds0 {F : Nat} {la : Int} {ad : Nat → Int} {n : Nat} (ha : Ads F la ad n) {wb we : Nat} {l : List Cel} (hn : l.length = n) {P Q : Pg} (hP : Holds ad l P) (hF : P.xs.length ≤ F) (hQ : Q.xs.length ≤ F) : Holds ad (app l (wsto la wb we (chg (pst ad P) (pst ad Q)))) Q := by
  have h1 : Holds ad (putAt l la ((wb : Int), (⟨#[]⟩ : ByteArray), (0 : Int))) P := fun r hr => by
    rw [cellAt_other (Ne.symm (ha.ne r (by omega)))]; exact hP r hr
  have h2 := chg_holds ha (by rw [putAt_length]; exact hn) h1 hF hQ
  intro r hr
  rw [wsto_app0, cellAt_other (Ne.symm (ha.ne r (by omega)))]
  exact h2 r hr
/-- Behind all stores of a Write: the latch's word; what lies elsewhere. -/
theorem wsto_lat {F : Nat} {la : Int} {ad : Nat → Int} {n : Nat} (ha : Ads F la ad n) {wb we : Nat} {cs : List Sto} {l : List Cel} (hn : l.length = n) : cellAt (app l (wsto la wb we cs)) la = ((we : Int), (⟨#[]⟩ : ByteArray), (0 : Int)) := by
  rw [wsto_app0, cellAt_same (by rw [app_length, putAt_length, hn]; exact ha.lat)]
theorem wsto_far {F : Nat} {la : Int} {ad : Nat → Int} {n : Nat} {wb we : Nat} {l : List Cel} {P Q : Pg} {i : Int} (h1 : i ≠ la) (h2 : ∀ r, r < Q.xs.length + 3 → ad r ≠ i) : cellAt (app l (wsto la wb we (chg (pst ad P) (pst ad Q)))) i = cellAt l i := by
  rw [wsto_app0, cellAt_other (Ne.symm h1), app_other _ _ (fun s hs => by
    obtain ⟨r, hr, rfl⟩ := chg_addr hs
    exact h2 r hr), cellAt_other (Ne.symm h1)]
theorem pst_far {ad : Nat → Int} {l : List Cel} {Q : Pg} {i : Int} (h2 : ∀ r, r < Q.xs.length + 3 → ad r ≠ i) : cellAt (app l (pst ad Q)) i = cellAt l i :=
  app_other _ _ (fun s hs => by
    obtain ⟨r, hr, rfl⟩ := pst_addr hs
    exact h2 r hr)
theorem pst_holds0 {F : Nat} {la : Int} {ad : Nat → Int} {n : Nat} (ha : Ads F la ad n) {l : List Cel} (hn : l.length = n) {Q : Pg} (hQ : Q.xs.length ≤ F) : Holds ad (app l (pst ad Q)) Q := fun r hr => by
  have := pst_holds ha hn hQ (Q.xs.length + 3) (Nat.le_refl _) r hr
  rwa [List.take_of_length_le (by rw [pst_length]; exact Nat.le_refl _)] at this
/-- Where the nodes lie. -/
theorem far2 {F id : Nat} (h4 : 4 ≤ F) (h6 : F ≤ 6) (h1 : 3 ≤ id) (h2 : id ≤ 10) : nlaT F 2 = 10 + ((F : Int) + 4) ∧ nlaT F 2 + (F : Int) + 4 ≤ nlaT F id := by
  have e1 := nla_eqT (F := F) (nid := 2) (by omega) (by omega)
  have e2 := nla_eqT (F := F) (nid := id) (by omega) h2
  have h3 : (2 : Int) * (F : Int) ≤ ((id : Int) - 1) * (F : Int) := Int.mul_le_mul_of_nonneg_right (by omega) (by omega)
  constructor <;> omega
/-- The cells behind the law's hold. -/
structure HL (F : Nat) (P : Pg) (Nv n : Nat) (l : List Cel) : Prop where
  len : l.length = n
  lo : 10 + 10 * (F : Int) + 40 ≤ (n : Int)
  hi : n ≤ 1048576
  c4 : cellAt l 4 = ((Nv : Int), (⟨#[]⟩ : ByteArray), (0 : Int))
  lat : cellAt l (nlaT F 2) = ((41 : Int), (⟨#[]⟩ : ByteArray), (0 : Int))
  pg : Holds (nadT F 2) l P
theorem HL.start {F : Nat} {P : Pg} {Nv : Nat} (h4 : 4 ≤ F) (h6 : F ≤ 6) (hF : P.xs.length ≤ F) : ∃ n, HL F P Nv n (putAt (putAt (app (startCells 1 2 10 100 200 (F : Int)) (pst (nadT F 2) P)) (nlaT F 2) ((41 : Int), (⟨#[]⟩ : ByteArray), (0 : Int))) 4 ((Nv : Int), (⟨#[]⟩ : ByteArray), (0 : Int))) := by
  have hl := startCells_length 1 2 10 100 200 (F : Int) (limFT h4 h6)
  have hall : allCells 1 2 10 100 200 (F : Int) = 10 + (10 * (F : Int) + 40) + 100 + 600 := by
    unfold allCells firstRecord firstChain firstNode; omega
  have ha : Ads F (nlaT F 2) (nadT F 2) (startCells 1 2 10 100 200 (F : Int)).length := ads_ofT h4 h6 (by omega) (by omega) (by omega)
  have e1 := (far2 (F := F) (id := 3) h4 h6 (by omega) (by omega)).1
  have had : ∀ r, r < F + 3 → nadT F 2 r = nlaT F 2 + 1 + (r : Int) := fun r hr => nad_eqT (by omega) (by omega) hr
  refine ⟨_, by rw [putAt_length, putAt_length, app_length], by omega, by omega, ?_, ?_, fun r hr => ?_⟩
  · rw [cellAt_same (by rw [putAt_length, app_length]; omega)]
  · rw [cellAt_other (by omega), cellAt_same (by rw [app_length]; exact ha.lat)]
  · have h1 := had r (by omega)
    rw [cellAt_other (by omega), cellAt_other (by omega)]
    exact pst_holds0 ha rfl hF r hr
/-- The end of an Insert that needs no node. -/
theorem HL.end0 {F : Nat} {P X : Pg} {Nv n wb we : Nat} {l : List Cel} (h : HL F P Nv n l) (h4 : 4 ≤ F) (h6 : F ≤ 6) (hP : P.xs.length ≤ F) (hX : X.xs.length ≤ F) :
    ∀ l', l' = app l (wsto (nlaT F 2) wb we (chg (pst (nadT F 2) P) (pst (nadT F 2) X))) → l'.length = n ∧ cellAt l' 4 = ((Nv : Int), (⟨#[]⟩ : ByteArray), (0 : Int)) ∧ cellAt l' (nlaT F 2) = ((we : Int), (⟨#[]⟩ : ByteArray), (0 : Int)) ∧ Holds (nadT F 2) l' X ∧ ∀ i : Int, (∀ j : Nat, j < F + 4 → i ≠ nlaT F 2 + (j : Int)) → cellAt l' i = cellAt l i := by
  rintro l' rfl
  have hlo := h.lo
  have ha : Ads F (nlaT F 2) (nadT F 2) n := ads_ofT h4 h6 (by omega) (by omega) h.lo
  have e1 := (far2 (F := F) (id := 3) h4 h6 (by omega) (by omega)).1
  have had : ∀ r, r < F + 3 → nadT F 2 r = nlaT F 2 + 1 + (r : Int) := fun r hr => nad_eqT (by omega) (by omega) hr
  have hfar : ∀ i : Int, (∀ j : Nat, j < F + 4 → i ≠ nlaT F 2 + (j : Int)) → cellAt (app l (wsto (nlaT F 2) wb we (chg (pst (nadT F 2) P) (pst (nadT F 2) X)))) i = cellAt l i := fun i hi => by
    have h0 := hi 0 (by omega)
    refine wsto_far (F := F) (n := n) (by omega) (fun r hr => ?_)
    have h1 := had r (by omega)
    have h2 := hi (r + 1) (by omega)
    omega
  exact ⟨by rw [app_length]; exact h.len, by rw [hfar 4 (fun j hj => by omega)]; exact h.c4, wsto_lat ha h.len, wsto_holds0 ha h.len h.pg hP hX, hfar⟩
/-- The end of an Insert that has taken a node. -/
theorem HL.end1 {F : Nat} {P Y R : Pg} {Nv n wb we id : Nat} {l : List Cel} (h : HL F P Nv n l) (h4 : 4 ≤ F) (h6 : F ≤ 6) (hP : P.xs.length ≤ F) (hY : Y.xs.length ≤ F) (hR : R.xs.length ≤ F) (h3 : 3 ≤ id) (h10 : id ≤ 10) :
    ∀ l', l' = app (app (putAt l 4 ((id : Int), (⟨#[]⟩ : ByteArray), (0 : Int))) (pst (nadT F id) R ++ [(nlaT F id, ((1 : Int), (⟨#[]⟩ : ByteArray), (0 : Int)))])) (wsto (nlaT F 2) wb we (chg (pst (nadT F 2) P) (pst (nadT F 2) Y))) → l'.length = n ∧ cellAt l' 4 = ((id : Int), (⟨#[]⟩ : ByteArray), (0 : Int)) ∧ cellAt l' (nlaT F 2) = ((we : Int), (⟨#[]⟩ : ByteArray), (0 : Int)) ∧ cellAt l' (nlaT F id) = ((1 : Int), (⟨#[]⟩ : ByteArray), (0 : Int)) ∧ Holds (nadT F 2) l' Y ∧ Holds (nadT F id) l' R ∧
      ∀ i : Int, i ≠ 4 → (∀ j : Nat, j < F + 4 → i ≠ nlaT F 2 + (j : Int) ∧ i ≠ nlaT F id + (j : Int)) → cellAt l' i = cellAt l i := by
  rintro l' rfl
  have hlo := h.lo
  have hln := h.len
  have ha : Ads F (nlaT F 2) (nadT F 2) n := ads_ofT h4 h6 (by omega) (by omega) h.lo
  have hb : Ads F (nlaT F id) (nadT F id) n := ads_ofT h4 h6 (by omega) h10 h.lo
  have e1 := far2 (F := F) (id := id) h4 h6 h3 h10
  have had : ∀ r, r < F + 3 → nadT F 2 r = nlaT F 2 + 1 + (r : Int) := fun r hr => nad_eqT (by omega) (by omega) hr
  have hbd : ∀ r, r < F + 3 → nadT F id r = nlaT F id + 1 + (r : Int) := fun r hr => nad_eqT (by omega) h10 hr
  rw [app_snoc]
  generalize hl1 : putAt (app (putAt l 4 ((id : Int), (⟨#[]⟩ : ByteArray), (0 : Int))) (pst (nadT F id) R)) (nlaT F id) ((1 : Int), (⟨#[]⟩ : ByteArray), (0 : Int)) = l1
  have hn1 : l1.length = n := by rw [← hl1, putAt_length, app_length, putAt_length]; exact h.len
  have far1 : ∀ i : Int, i ≠ 4 → (∀ j : Nat, j < F + 4 → i ≠ nlaT F id + (j : Int)) → cellAt l1 i = cellAt l i := fun i h0 hi => by
    have h1 := hi 0 (by omega)
    rw [← hl1, cellAt_other (by omega), pst_far (fun r hr => by
      have h1 := hbd r (by omega)
      have h2 := hi (r + 1) (by omega)
      omega), cellAt_other (Ne.symm h0)]
  have c41 : cellAt l1 4 = ((id : Int), (⟨#[]⟩ : ByteArray), (0 : Int)) := by
    rw [← hl1, cellAt_other (by omega), pst_far (fun r hr => by have h1 := hbd r (by omega); omega), cellAt_same (by omega)]
  have hP1 : Holds (nadT F 2) l1 P := fun r hr => by
    have h1 := had r (by omega)
    rw [far1 _ (by omega) (fun j hj => by omega)]; exact h.pg r hr
  have hR1 : Holds (nadT F id) l1 R := fun r hr => by
    have h1 := hbd r (by omega)
    rw [← hl1, cellAt_other (by omega)]
    exact pst_holds0 hb (by rw [putAt_length]; exact h.len) hR r hr
  have hlat1 : cellAt l1 (nlaT F id) = ((1 : Int), (⟨#[]⟩ : ByteArray), (0 : Int)) := by
    rw [← hl1, cellAt_same (by rw [app_length, putAt_length, hln]; exact hb.lat)]
  have hfar : ∀ i : Int, (∀ j : Nat, j < F + 4 → i ≠ nlaT F 2 + (j : Int)) → cellAt (app l1 (wsto (nlaT F 2) wb we (chg (pst (nadT F 2) P) (pst (nadT F 2) Y)))) i = cellAt l1 i := fun i hi => by
    have h0 := hi 0 (by omega)
    refine wsto_far (F := F) (n := n) (by omega) (fun r hr => ?_)
    have h1 := had r (by omega)
    have h2 := hi (r + 1) (by omega)
    omega
  exact ⟨by rw [app_length]; exact hn1, by rw [hfar 4 (fun j hj => by omega)]; exact c41, wsto_lat ha hn1, by rw [hfar _ (fun j hj => by omega)]; exact hlat1, wsto_holds0 ha hn1 hP1 hP hY, fun r hr => by
    have h1 := hbd r (by omega)
    rw [hfar _ (fun j hj => by omega)]; exact hR1 r hr, fun i h0 hi => by
    rw [hfar _ (fun j hj => (hi j hj).1), far1 _ h0 (fun j hj => (hi j hj).2)]⟩
theorem neq_cel (N M : Int) (K : ByteArray) (w : World) : (binOp .neq 50 (.agg #[.int .u64 N, .string K, .int .u64 M]) (.agg #[.int .u64 N, .string K, .int .u64 M])).run Try.prog w = .ok (.bool false) w := by simp [go_sem]
end

end Go.Proofs.Ythpaolhpkmgelaa
