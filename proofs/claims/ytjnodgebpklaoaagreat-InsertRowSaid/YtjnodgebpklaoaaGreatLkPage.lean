/-
 What Page of a view answers. Condition: the kit's small configurations.
-/
import Derived.Test.YtjnodgebpklaoaaGreatLkView
namespace Go.Proofs.YtjnodgebpklaoaaGreat
set_option maxHeartbeats 8000000
set_option maxRecDepth 100000
section
open Go.RowKit Go.Deep Plain
set_option linter.unusedVariables false

theorem Rs.one_at (w : World) (k : ByteArray) (r b : Nat) (h : w.heap.size = b) : Rs (w.alloc (.cells #[.string k, .int .u64 (r : Int)] 60)) (some ⟨b, 0, none⟩) 1 [(k, r)] := by subst h; exact Rs.one w k r
theorem field1 (a c : Int) (s : ByteArray) (w : World) : (Instr.field 54 (.agg #[.int .u64 a, .string s, .int .u64 c]) 1).run Tryz.prog w = .ok (.string s) w := by kernel_rfl
theorem field2 (a c : Int) (s : ByteArray) (w : World) : (Instr.field 54 (.agg #[.int .u64 a, .string s, .int .u64 c]) 2).run Tryz.prog w = .ok (.int .u64 c) w := by kernel_rfl
theorem hi_cell {hi : ByteArray} {la : Bool} (h : la = true → hi = ⟨#[]⟩) : ∃ m : Nat, hiCel hi la = (0, hi, (m : Int)) ∧ ((m : Int) == 1) = la := by
 unfold hiCel
 cases la
 ·exact ⟨0, rfl, rfl⟩
 ·rw [h rfl]; exact ⟨1, rfl, rfl⟩
theorem vpart_to (F : Nat) (h4 : 4 ≤ F) (h6 : F ≤ 6) (g n : Nat) (l : List Cel) (hl : l.length = n) (nid part : Nat) (pI : Int) (hpI : pI = (part : Int)) (hp : part < F + 4) (a : Int) (ha : nodeAt 100 (F : Int) 10 (nid : Int) (part : Int) = a) (N M : Int) (K : ByteArray) (w : World) (hv : Blk w g 54 (flat3 l)) (hc : cellAt l a = (N, K, M)) :
  Calls Tryz.prog 128 #[.agg #[.int .i64 1, .int .i64 2, .int .i64 100, .int .i64 100, .int .i64 200, .int .i64 (F : Int), .int .u64 1000, .slice (some ⟨g, 0, none⟩) n n], .int .u64 (nid : Int), .int .i64 pI] w fun e w' => e = .returned (.agg #[.int .u64 N, .string K, .int .u64 M]) ∧ Kept (fun _ => False) w w' := by
 subst hpI; exact vpart_any F h4 h6 g n l hl nid part hp a ha N M K w hv hc
theorem vpage_any (F : Nat) (h4 : 4 ≤ F) (h6 : F ≤ 6) (g n : Nat) (l : List Cel) (hl : l.length = n) (nid : Nat) (h1 : 1 ≤ nid) (h2 : nid ≤ 100) (P : Pg) (hP : Holds (nad F nid) l P) (hw : Wf P) (hF : P.xs.length ≤ F) (hlv : P.lv < 9223372036854775808) (w : World) (hv : Blk w g 54 (flat3 l)) :
  Calls Tryz.prog 81 #[.agg #[.int .i64 1, .int .i64 2, .int .i64 100, .int .i64 100, .int .i64 200, .int .i64 (F : Int), .int .u64 1000, .slice (some ⟨g, 0, none⟩) n n], .int .u64 (nid : Int)] w fun e w' => ∃ (A : Option Addr) (c : Nat), e = .returned (.agg #[.int .i64 (P.lv : Int), .slice A P.xs.length c, .string P.hi, .bool P.la, .int .u64 (P.rt : Int)]) ∧ Rs w' A c P.xs ∧ (∀ a, A = some a → w.heap.size ≤ a.block) ∧ Kept (fun _ => False) w w' := by
 obtain ⟨m1, hm1, hm2⟩ := hi_cell hw
 have HC1 := Hd (show cellAt l (nad F nid 0) = ((P.xs.length : Int), (⟨#[]⟩ : ByteArray), (P.lv : Int)) from hP 0 (by omega))
 have HC2 := Hd (show cellAt l (nad F nid 1) = (0, P.hi, (m1 : Int)) from (hP 1 (by omega)).trans hm1)
 have HC3 := Hd (show cellAt l (nad F nid 2) = ((P.rt : Int), (⟨#[]⟩ : ByteArray), 0) from hP 2 (by omega))
 have HCS := Hd (show ∀ (j : Nat) (x : Sl), P.xs[j]? = some x → cellAt l (nad F nid (j + 3)) = ((x.2 : Int), x.1, 0) from fun j x hx => (hP (j + 3) (by have := (List.getElem?_eq_some_iff.1 hx).1; omega)).trans (pc_slot hx))
 obtain ⟨a0, ha0⟩ : ∃ a, nodeAt 100 (F : Int) 10 (nid : Int) ((0 : Nat) : Int) = a := ⟨_, rfl⟩
 have hpos : ¬ a0 < 0 := by
  have := nla_eq (F := F) h1 h2
  have hb := node_bd (F := F) h6 h1 h2
  unfold nla at this
  rw [← ha0]
  show ¬ nodeAt 100 (F : Int) 10 (nid : Int) 0 < 0
  omega
 have hwr : IntKind.i64.wrap (P.lv : Int) = (P.lv : Int) := by rw [IntKind.wrap_i64]; omega
 have hfa1 := fun w => field1 0 (m1 : Int) P.hi w
 have hfa2 := fun w => field2 0 (m1 : Int) P.hi w
 have hfa3 := fun w => field0 (P.rt : Int) 0 ⟨#[]⟩ w
 have HNN := Hd (rfl : P.xs.length = P.xs.length)
 obtain ⟨n0, hn0⟩ : ∃ n0, P.xs.length = n0 := ⟨_, rfl⟩
 rw [hn0] at hF HC1
 have HN0 := Hd hn0
 have HL := Hd hl
 have HM2 := Hd hm2
 have HV0 := Hd hv
 clear hP hm1 hn0 hl hv HNN
 go_enter Tryz.func81, Tryz.ntmps81
 go_wp2_with fail
 have hal := ((Kept.refl (fun _ => False) w).alloc (.cells #[.int .i64 1, .int .i64 2, .int .i64 100, .int .i64 100, .int .i64 200, .int .i64 (F : Int), .int .u64 1000, .slice (some ⟨g, 0, none⟩) n n] 63)).alloc (.cells #[.int .i64 0, .slice none 0 0, .string ⟨#[]⟩, .bool false, .int .u64 0] 38)
 have HB := Hd ((Blk.new w [.int .i64 1, .int .i64 2, .int .i64 100, .int .i64 100, .int .i64 200, .int .i64 (F : Int), .int .u64 1000, .slice (some ⟨g, 0, none⟩) n n] 63).alloc (.cells #[.int .i64 0, .slice none 0 0, .string ⟨#[]⟩, .bool false, .int .u64 0] 38))
 have hNN := Blk.new (w.alloc (.cells #[.int .i64 1, .int .i64 2, .int .i64 100, .int .i64 100, .int .i64 200, .int .i64 (F : Int), .int .u64 1000, .slice (some ⟨g, 0, none⟩) n n] 63)) [.int .i64 0, .slice none 0 0, .string ⟨#[]⟩, .bool false, .int .u64 0] 38
 have hsz1 : (w.alloc (.cells #[.int .i64 1, .int .i64 2, .int .i64 100, .int .i64 100, .int .i64 200, .int .i64 (F : Int), .int .u64 1000, .slice (some ⟨g, 0, none⟩) n n] 63)).heap.size = w.heap.size + 1 := nblk_alloc _ _
 rw [hsz1] at hNN
 have HN := Hd hNN
 have HV := Hd (hal.blk HV0.out (fun h => h))
 have HK := Hd hal
 have hsw := hal.size
 clear hal hNN hsz1 hsw
 generalize (w.alloc (.cells #[.int .i64 1, .int .i64 2, .int .i64 100, .int .i64 100, .int .i64 200, .int .i64 (F : Int), .int .u64 1000, .slice (some ⟨g, 0, none⟩) n n] 63)).alloc (.cells #[.int .i64 0, .slice none 0 0, .string ⟨#[]⟩, .bool false, .int .u64 0] 38) = W at *
 generalize hr1 : w.heap.size + 1 = r1 at *
 generalize hr0 : w.heap.size = r0 at *
 have HR := Hd (show r0 < r1 by omega)
 have HR0 := Hd hr0
 clear hr0 hr1 HV0
 refine (ref_to F nid 0 h4 h6 (by omega) a0 ha0 _).mono ?_; rintro e w1 ⟨rfl, hK1⟩
 replace HB := Hd (hK1.blk HB.out (fun h => h))
 replace HN := Hd (hK1.blk HN.out (fun h => h))
 replace HV := Hd (hK1.blk HV.out (fun h => h))
 replace HK := Hd (HK.out.trans hK1 (fun _ _ h => h))
 clear hK1
 have hb9 := HB.out
 obtain ⟨x0, x1, x2, x3, x4, x5, x6, x7⟩ := hb9.c8
 clear hb9
 go_wp2_with fail
 refine (vpart_to F h4 h6 g n l HL.out nid 1 1 rfl (by omega) (nad F nid 0) (putPst (P := P) (l := l) h1 h2 0 (by omega)) _ _ _ _ HV.out HC1.out).mono ?_; rintro e w2 ⟨rfl, hK2⟩
 replace HB := Hd (hK2.blk HB.out (fun h => h))
 replace HN := Hd (hK2.blk HN.out (fun h => h))
 replace HV := Hd (hK2.blk HV.out (fun h => h))
 replace HK := Hd (HK.out.trans hK2 (fun _ _ h => h))
 clear hK2 x0 x1 x2 x3 x4 x5 x6 x7
 go_wp2_with fail
 have hal := (Kept.refl (fun _ => False) w2).alloc (.cells #[.int .u64 (n0 : Int), .string ⟨#[]⟩, .int .u64 (P.lv : Int)] 54)
 have H5 := Hd (Blk.new w2 [.int .u64 (n0 : Int), .string ⟨#[]⟩, .int .u64 (P.lv : Int)] 54)
 replace HB := Hd (hal.blk HB.out (fun h => h))
 replace HN := Hd (hal.blk HN.out (fun h => h))
 replace HV := Hd (hal.blk HV.out (fun h => h))
 replace HK := Hd (HK.out.trans hal (fun _ _ h => h))
 clear hal
 generalize w2.heap.size = r5 at *
 generalize w2.alloc (.cells #[.int .u64 (n0 : Int), .string ⟨#[]⟩, .int .u64 (P.lv : Int)] 54) = W5 at *
 refine wp_region_held_drew (S := (fun w' => Kept (fun _ => False) W5 w')) (by kernel_rfl) ?_ (fun hHeld => ?_)
 ·exact (Kept.refl _ _).drew
 have HLT := Hd (show r0 < W5.heap.size ∧ r1 < W5.heap.size ∧ g < W5.heap.size ∧ r5 < W5.heap.size from ⟨HB.out.lt, HN.out.lt, HV.out.lt, H5.out.lt⟩)
 have HG5 := Hd (show g < W5.heap.size from HV.out.lt)
 have HVG := Hd (HV.out.of (w' := W5.drew) rfl)
 have HW := Hd ((Kept.refl (fun _ => False) W5).drew)
 generalize W5.drew = G at *
 refine tkH 0 18 ?_ rfl ?_ hHeld ?_
 rotate_left
 ·(intro wq hSw; go_simp; try with_reducible rfl)
 try simp only [aP,aA,aZ,aS]
 refine tkH 1 19 ?_ rfl ?_ hHeld ?_
 rotate_left
 ·(intro wq hSw; have hb9 := HB.out.of (hSw.block _ HB.out.lt (fun h => h)); obtain ⟨x0, x1, x2, x3, x4, x5, x6, x7⟩ := hb9.c8; have hc9 := H5.out.of (hSw.block _ H5.out.lt (fun h => h)); obtain ⟨y0, y1, y2⟩ := hc9.c3; clear hb9 hc9; go_simp; try with_reducible rfl)
 try simp only [aP,aA,aZ,aS]
 refine tkH 2 20 (.int .i64 (P.lv : Int)) rfl ?_ hHeld ?_
 ·(intro wq hSw; go_simp; try first | (with_reducible rfl) | (simp; omega) | (intros; omega) | simp [*])
 try simp only [aP,aA,aZ,aS]
 refine tkH 3 21 ?_ rfl ?_ hHeld ?_
 rotate_left
 ·(intro wq hSw; have hb9 := HB.out.of (hSw.block _ HB.out.lt (fun h => h)); obtain ⟨x0, x1, x2, x3, x4, x5, x6, x7⟩ := hb9.c8; have hc9 := H5.out.of (hSw.block _ H5.out.lt (fun h => h)); obtain ⟨y0, y1, y2⟩ := hc9.c3; clear hb9 hc9; go_simp; try with_reducible rfl)
 try simp only [aP,aA,aZ,aS]
 refine tkH 4 22 ?_ rfl ?_ hHeld ?_
 rotate_left
 ·(intro wq hSw; go_simp; try with_reducible rfl)
 try simp only [aP,aA,aZ,aS]
 refine tkH 7 25 ?_ rfl ?_ hHeld ?_
 rotate_left
 ·(intro wq hSw; have hb9 := HB.out.of (hSw.block _ HB.out.lt (fun h => h)); obtain ⟨x0, x1, x2, x3, x4, x5, x6, x7⟩ := hb9.c8; have hc9 := H5.out.of (hSw.block _ H5.out.lt (fun h => h)); obtain ⟨y0, y1, y2⟩ := hc9.c3; clear hb9 hc9; go_simp; try with_reducible rfl)
 try simp only [aP,aA,aZ,aS]
 refine tkH 8 26 ?_ rfl ?_ hHeld ?_
 rotate_left
 ·(intro wq hSw; go_simp; try with_reducible rfl)
 try simp only [aP,aA,aZ,aS]
 refine tkH 12 30 ?_ rfl ?_ hHeld ?_
 rotate_left
 ·(intro wq hSw; have hb9 := HB.out.of (hSw.block _ HB.out.lt (fun h => h)); obtain ⟨x0, x1, x2, x3, x4, x5, x6, x7⟩ := hb9.c8; have hc9 := H5.out.of (hSw.block _ H5.out.lt (fun h => h)); obtain ⟨y0, y1, y2⟩ := hc9.c3; clear hb9 hc9; go_simp; try with_reducible rfl)
 try simp only [aP,aA,aZ,aS]
 refine tkH 13 31 ?_ rfl ?_ hHeld ?_
 rotate_left
 ·(intro wq hSw; go_simp; try with_reducible rfl)
 try simp only [aP,aA,aZ,aS]
 refine wpAnyH_ready (rs := [5, 17]) (by kernel_rfl) (by simp) ?_
 refine AllReadyH.cons (o := ⟨some 23, _, _, _, _, _⟩) rfl (fun KK hK => ?_) (AllReadyH.cons (o := ⟨some 6, _, _, _, _, _⟩) rfl (fun KK hK => ?_) (AllReadyH.nil))
 ·go_simp
  go_at_call 128
  refine (vpart_to F h4 h6 g n l HL.out nid 2 2 rfl (by omega) (nad F nid 1) (putPst (P := P) (l := l) h1 h2 1 (by omega)) _ _ _ _ HVG.out HC2.out).mono ?_; rintro e G ⟨rfl, hB⟩
  replace HW := Hd (HW.out.trans hB (fun _ _ h => h))
  replace HVG := Hd (hB.blk HVG.out (fun h => h))
  try replace H6 := Hd (hB.blk H6.out (fun h => h))
  clear hB
  refine hK.out _ _ ?_ (fun hHeld2 => ?_)
  ·exact HW.out
  clear hK KK hHeld
  have hHeld := hHeld2
  clear hHeld2
  try simp only [aP,aA,aZ,aS]
  refine tkH 6 24 (.string P.hi) rfl ?_ hHeld ?_
  ·(intro wq hSw; go_simp; try first | (with_reducible rfl) | (simp; omega) | (intros; omega) | simp [*])
  try simp only [aP,aA,aZ,aS]
  refine wpAnyH_ready (rs := [9, 17]) (by kernel_rfl) (by simp) ?_
  refine AllReadyH.cons (o := ⟨some 27, _, _, _, _, _⟩) rfl (fun KK hK => ?_) (AllReadyH.cons (o := ⟨some 6, _, _, _, _, _⟩) rfl (fun KK hK => ?_) (AllReadyH.nil))
  ·go_simp
   go_at_call 128
   refine (vpart_to F h4 h6 g n l HL.out nid 2 2 rfl (by omega) (nad F nid 1) (putPst (P := P) (l := l) h1 h2 1 (by omega)) _ _ _ _ HVG.out HC2.out).mono ?_; rintro e G ⟨rfl, hB⟩
   replace HW := Hd (HW.out.trans hB (fun _ _ h => h))
   replace HVG := Hd (hB.blk HVG.out (fun h => h))
   try replace H6 := Hd (hB.blk H6.out (fun h => h))
   clear hB
   refine hK.out _ _ ?_ (fun hHeld2 => ?_)
   ·exact HW.out
   clear hK KK hHeld
   have hHeld := hHeld2
   clear hHeld2
   try simp only [aP,aA,aZ,aS]
   refine tkH 10 28 (.int .u64 (m1 : Int)) rfl ?_ hHeld ?_
   ·(intro wq hSw; go_simp; try first | (with_reducible rfl) | (simp; omega) | (intros; omega) | simp [*])
   try simp only [aP,aA,aZ,aS]
   refine tkH 11 29 (.bool P.la) rfl ?_ hHeld ?_
   ·(intro wq hSw; go_simp; try first | (with_reducible rfl) | (simp; omega) | (intros; omega) | simp [*])
   try simp only [aP,aA,aZ,aS]
   refine wpAnyH_ready (rs := [14, 17]) (by kernel_rfl) (by simp) ?_
   refine AllReadyH.cons (o := ⟨some 32, _, _, _, _, _⟩) rfl (fun KK hK => ?_) (AllReadyH.cons (o := ⟨some 6, _, _, _, _, _⟩) rfl (fun KK hK => ?_) (AllReadyH.nil))
   ·go_simp
    go_at_call 128
    refine (vpart_to F h4 h6 g n l HL.out nid 3 3 rfl (by omega) (nad F nid 2) (putPst (P := P) (l := l) h1 h2 2 (by omega)) _ _ _ _ HVG.out HC3.out).mono ?_; rintro e G ⟨rfl, hB⟩
    replace HW := Hd (HW.out.trans hB (fun _ _ h => h))
    replace HVG := Hd (hB.blk HVG.out (fun h => h))
    try replace H6 := Hd (hB.blk H6.out (fun h => h))
    clear hB
    refine hK.out _ _ ?_ (fun hHeld2 => ?_)
    ·exact HW.out
    clear hK KK hHeld
    have hHeld := hHeld2
    clear hHeld2
    try simp only [aP,aA,aZ,aS]
    refine tkH 15 33 (.int .u64 (P.rt : Int)) rfl ?_ hHeld ?_
    ·(intro wq hSw; go_simp; try first | (with_reducible rfl) | (simp; omega) | (intros; omega) | simp [*])
    try simp only [aP,aA,aZ,aS]
    refine tkH 16 34 ?_ rfl ?_ hHeld ?_
    rotate_left
    ·(intro wq hSw; go_simp; try with_reducible rfl)
    try simp only [aP,aA,aZ,aS]
    refine wpAnyH_ready (rs := [17]) (by kernel_rfl) (by simp) ?_
    refine AllReadyH.cons (o := ⟨some 6, _, _, _, _, _⟩) rfl (fun KK hK => ?_) (AllReadyH.nil)
    go_simp
    have hr6 : W5.heap.size ≤ G.heap.size := HW.out.size
    replace HW := Hd (HW.out.alloc (.cells #[.int .i64 0, .slice none 0 0, .string ⟨#[]⟩, .bool false, .int .u64 0] 38))
    replace HVG := Hd (HVG.out.alloc (.cells #[.int .i64 0, .slice none 0 0, .string ⟨#[]⟩, .bool false, .int .u64 0] 38))
    have H6 := Hd (Blk.new G [.int .i64 0, .slice none 0 0, .string ⟨#[]⟩, .bool false, .int .u64 0] 38)
    generalize G.heap.size = r6 at *
    have HR6 := Hd hr6
    clear hr6
    generalize G.alloc (.cells #[.int .i64 0, .slice none 0 0, .string ⟨#[]⟩, .bool false, .int .u64 0] 38) = G at *
    refine hK.out _ _ ?_ (fun hHeld2 => ?_)
    ·exact HW.out
    clear hK KK hHeld
    have hHeld := hHeld2
    clear hHeld2
    try simp only [aP,aA,aZ,aS]
    refine wpAnyH_ready (rs := [18]) (by kernel_rfl) (by simp) ?_
    refine AllReadyH.cons (o := ⟨none, _, _, _, _, _⟩) rfl (fun KK hK => ?_) (AllReadyH.nil)
    have hs9 := H6.out
    obtain ⟨s0, s1, s2, s3, s4⟩ := hs9.c5
    have z0 := hs9.frozen 0
    have z1 := hs9.frozen 1
    have z2 := hs9.frozen 2
    have z3 := hs9.frozen 3
    have z4 := hs9.frozen 4
    clear hs9
    go_simp
    replace HW := Hd ((((((HW.out).setNew HR6.out 0 (.int .i64 (P.lv : Int))).setNew HR6.out 1 (.slice none 0 0)).setNew HR6.out 2 (.string P.hi)).setNew HR6.out 3 (.bool P.la)).setNew HR6.out 4 (.int .u64 (P.rt : Int)))
    replace HVG := Hd ((((((HVG.out).other (a := ⟨r6, 0, none⟩) (by have := HG5.out; have := HR6.out; show g ≠ r6; omega) (.int .i64 (P.lv : Int))).other (a := ⟨r6, 1, none⟩) (by have := HG5.out; have := HR6.out; show g ≠ r6; omega) (.slice none 0 0)).other (a := ⟨r6, 2, none⟩) (by have := HG5.out; have := HR6.out; show g ≠ r6; omega) (.string P.hi)).other (a := ⟨r6, 3, none⟩) (by have := HG5.out; have := HR6.out; show g ≠ r6; omega) (.bool P.la)).other (a := ⟨r6, 4, none⟩) (by have := HG5.out; have := HR6.out; show g ≠ r6; omega) (.int .u64 (P.rt : Int)))
    replace H6 := Hd ((((((H6.out).set 0 (.int .i64 (P.lv : Int))).set 1 (.slice none 0 0)).set 2 (.string P.hi)).set 3 (.bool P.la)).set 4 (.int .u64 (P.rt : Int)))
    clear s0 s1 s2 s3 s4 z0 z1 z2 z3 z4
    generalize (((((G).setCell ⟨r6, 0, none⟩ (.int .i64 (P.lv : Int))).setCell ⟨r6, 1, none⟩ (.slice none 0 0)).setCell ⟨r6, 2, none⟩ (.string P.hi)).setCell ⟨r6, 3, none⟩ (.bool P.la)).setCell ⟨r6, 4, none⟩ (.int .u64 (P.rt : Int)) = G at *
    refine hK.out _ _ ?_ (fun hHeld2 => ?_)
    ·exact HW.out
    clear hK KK hHeld
    have hHeld := hHeld2
    clear hHeld2
    try simp only [aP,aA,aZ,aS]
    refine wpAnyH_done (by kernel_rfl) ?_ _
    clear hHeld
    go_wp2_with fail
    replace HB := Hd (HW.out.blk HB.out (fun h => h))
    replace HN := Hd (HW.out.blk HN.out (fun h => h))
    replace H5 := Hd (HW.out.blk H5.out (fun h => h))
    replace HK := Hd (HK.out.trans HW.out (fun _ _ h => h))
    have hlt5 := H5.out.lt
    have hlt6 := H6.out.lt
    have hltn := HN.out.lt
    have hltb := HB.out.lt
    have hltg := HVG.out.lt
    have HNE := Hd (show r6 ≠ r0 ∧ r6 ≠ r1 ∧ r6 ≠ g ∧ r6 ≠ r5 by have h1 := HR6.out; have h2 := HLT.out; omega)
    have HGW := Hd (show w.heap.size ≤ G.heap.size from HK.out.size)
    clear HW
    go_loopw [7] (fun i wr => ∃ (j : Nat) (A : Option Addr) (c : Nat), j ≤ n0 ∧ i = .int .i64 j ∧ Blk wr r6 38 [.int .i64 (P.lv : Int), .slice A j c, .string P.hi, .bool P.la, .int .u64 (P.rt : Int)] ∧ wr.ownsRow G.heap.size 60 2 (.slice A j c) j (flat (P.xs.take j)) ∧ Kept (fun i => i = r6) G wr) (fun i _ => n0 - (intOf i).toNat)
    case atStart => exact ⟨0, none, 0, Nat.zero_le _, rfl, H6.out, World.ownsRow_nil _ _ _ _, Kept.refl _ _⟩
    case round =>
     obtain ⟨j, A, c, hj, rfl, hX6, hO, hKr⟩ := hrel
     have HX6 := Hd hX6
     have HO := Hd hO
     have HKr := Hd hKr
     have HBr := Hd (hKr.blk HB.out (fun e => HNE.out.1 e.symm))
     have H5r := Hd (hKr.blk H5.out (fun e => HNE.out.2.2.2 e.symm))
     have HVr := Hd (hKr.blk HVG.out (fun e => HNE.out.2.2.1 e.symm))
     have HNr := Hd (hKr.blk HN.out (fun e => HNE.out.2.1 e.symm))
     have hsr := hKr.size
     clear hX6 hO hKr
     have hb9 := HBr.out
     obtain ⟨x0, x1, x2, x3, x4, x5, x6, x7⟩ := hb9.c8
     have hc9 := H5r.out
     obtain ⟨y0, y1, y2⟩ := hc9.c3
     clear hb9 hc9
     by_cases hlt : j < n0
     ·obtain ⟨k, r, hx⟩ : ∃ k r, P.xs[j]? = some (k, r) := ⟨_, _, List.getElem?_eq_getElem (by have := HN0.out; omega)⟩
      have HX := Hd hx
      have HCJ := Hd (HCS.out j _ hx)
      have hjF : (j : Int) < (F : Int) := by omega
      have hjn : (j : Int) < (n0 : Int) := by omega
      have d1 : decide ((j : Int) < (n0 : Int)) = true := decide_eq_true hjn
      have d2 : decide ((j : Int) < (F : Int)) = true := decide_eq_true hjF
      have hwj : IntKind.u64.wrap (j : Int) = (j : Int) := by rw [IntKind.wrap_u64]; omega
      clear hx
      go_wp2_with fail
      refine (vpart_to F h4 h6 g n l HL.out nid (4 + j) (4 + (j : Int)) (by omega) (by omega) (nad F nid (j + 3)) (by have := putPst (P := P) (l := l) (F := F) h1 h2 (j + 3) (by omega); rw [← this]; congr 1; omega) _ _ _ _ HVr.out HCJ.out).mono ?_; rintro e w6 ⟨rfl, hK6⟩
      replace HX6 := Hd (hK6.blk HX6.out (fun h => h))
      have hx69 := HX6.out
      have x61 := hx69.k 1 rfl
      have hl69 := hx69.lt
      have hB6 := hK6.below (B := wr.heap.size) (by omega) (fun _ h => h.elim)
      replace HO := Hd (own_below HO.out hB6 (Nat.le_refl _))
      replace HKr := Hd (HKr.out.trans hK6 (fun _ _ h => h.elim))
      have hs6 : G.heap.size ≤ w6.heap.size := Nat.le_trans hsr hK6.size
      clear hx69 hK6 hB6 hsr x0 x1 x2 x3 x4 x5 x6 x7 y0 y1 y2
      go_wp2_with (at_builtin; go_must (refine wpList_app rfl (.tmp 55) (.tmp 61) rfl G.heap.size _ j (P.xs.take j) rfl ((HO.out.alloc _).alloc _) (some ⟨w6.heap.size + 1, 0, none⟩) 1 1 [(k, r)] rfl rfl (Rs.one_at _ k r _ (nblk_alloc _ _)) (by omega) (by rw [nblk_alloc, nblk_alloc]; omega) ?_))
      intro v7 w7 hO7 hB7
      obtain ⟨A7, c7, rfl, -, -, -⟩ := Rs.own hO7
      have hal6 := ((Below.refl G.heap.size w6).alloc hs6 (.cells #[.int .u64 (r : Int), .string k, .int .u64 0] 54)).alloc (by rw [nblk_alloc]; omega) (.cells #[.string k, .int .u64 (r : Int)] 60)
      have hB67 := hal6.trans hB7
      have hK67 := Below.kept hB67 (S := fun i => G.heap.size ≤ i) (fun i _ h => h)
      have hX7 := hK67.blk HX6.out (by omega)
      have HK7 := Hd (HKr.out.trans hK67 (fun i hi h => by omega))
      have HX7 := Hd (hX7.set 1 (.slice A7 (j + 1) c7))
      have z71 := hX7.frozen 1
      have x71 := hX7.k 1 rfl
      have HO7 := Hd (show (w7.setCell ⟨r6, 1, none⟩ (.slice A7 (j + 1) c7)).ownsRow G.heap.size 60 2 (.slice A7 (j + 1) c7) (j + 1) (flat (P.xs.take (j + 1))) from by
       rw [List.take_add_one, HX.out]; exact ownsRow_setCell_below hO7 hlt6 _)
      have HKz := Hd (HK7.out.setCell (a := ⟨r6, 1, none⟩) (fun _ => rfl) (.slice A7 (j + 1) c7))
      clear hO7 hB7 hal6 hB67 hK67 hX7 HX6 HO HKr HK7 x61
      go_wp2
      go_roundw
      case rel => exact ⟨j + 1, A7, c7, by omega, by go_num, HX7.out, HO7.out, HKz.out⟩
      case measure => simp [intOf]; omega
     ·obtain rfl : j = n0 := by omega
      have d1 : decide ((j : Int) < (j : Int)) = false := decide_eq_false (by omega)
      have hwj : IntKind.u64.wrap (j : Int) = (j : Int) := by rw [IntKind.wrap_u64]; omega
      have hx69 := HX6.out
      obtain ⟨u0, u1, u2, u3, u4⟩ := hx69.c5
      have hn9 := HNr.out
      obtain ⟨v0, v1, v2, v3, v4⟩ := hn9.c5
      have z0 := hn9.frozen 0
      have z1 := hn9.frozen 1
      have z2 := hn9.frozen 2
      have z3 := hn9.frozen 3
      have z4 := hn9.frozen 4
      have hOa := HO.out
      rw [List.take_of_length_le (by rw [HN0.out]; exact Nat.le_refl _)] at hOa
      have hO5 := own_res hOa hltn (.int .i64 (P.lv : Int)) (.slice A j c) (.string P.hi) (.bool P.la) (.int .u64 (P.rt : Int))
      have hNz := ((((hn9.set 0 (.int .i64 (P.lv : Int))).set 1 (.slice A j c)).set 2 (.string P.hi)).set 3 (.bool P.la)).set 4 (.int .u64 (P.rt : Int))
      have hKz := ((((((HK.out.trans (HKr.out.mono (T := fun i => i = r6 ∨ i = r1) (fun i e => .inl e)) (fun i hi e => by have := HR6.out; have := HLT.out; have := HR0.out; have := HR.out; omega)).setNew (b := r1) (by have := HR0.out; have := HR.out; omega) 0 (.int .i64 (P.lv : Int))).setNew (b := r1) (by have := HR0.out; have := HR.out; omega) 1 (.slice A j c)).setNew (b := r1) (by have := HR0.out; have := HR.out; omega) 2 (.string P.hi)).setNew (b := r1) (by have := HR0.out; have := HR.out; omega) 3 (.bool P.la)).setNew (b := r1) (by have := HR0.out; have := HR.out; omega) 4 (.int .u64 (P.rt : Int)))
      have HO5 := Hd hO5
      have HNz := Hd hNz
      have HKz := Hd hKz
      clear hx69 hn9 hOa hO5 hNz hKz HX6 HO HKr
      go_wp2
      obtain ⟨q0, q1, q2, q3, q4⟩ := HNz.out.c5
      refine bodyPost_ret (v := .agg #[.int .i64 (P.lv : Int), .slice A j c, .string P.hi, .bool P.la, .int .u64 (P.rt : Int)]) ?_ rfl ?_
      ·simp [results, Tryz.results81, go_sem, q0, q1, q2, q3, q4]
      obtain ⟨A9, c9, he9, -, hR9, hA9⟩ := Rs.own HO5.out
      cases he9
      exact ⟨A, c, by rw [HN0.out], hR9, fun a ha => by have := hA9 a ha; have := HGW.out; omega, HKz.out⟩
   ·go_simp
    have hr6 : W5.heap.size ≤ G.heap.size := HW.out.size
    replace HW := Hd (HW.out.alloc (.cells #[.int .i64 0, .slice none 0 0, .string ⟨#[]⟩, .bool false, .int .u64 0] 38))
    replace HVG := Hd (HVG.out.alloc (.cells #[.int .i64 0, .slice none 0 0, .string ⟨#[]⟩, .bool false, .int .u64 0] 38))
    have H6 := Hd (Blk.new G [.int .i64 0, .slice none 0 0, .string ⟨#[]⟩, .bool false, .int .u64 0] 38)
    generalize G.heap.size = r6 at *
    have HR6 := Hd hr6
    clear hr6
    generalize G.alloc (.cells #[.int .i64 0, .slice none 0 0, .string ⟨#[]⟩, .bool false, .int .u64 0] 38) = G at *
    refine hK.out _ _ ?_ (fun hHeld2 => ?_)
    ·exact HW.out
    clear hK KK hHeld
    have hHeld := hHeld2
    clear hHeld2
    try simp only [aP,aA,aZ,aS]
    refine wpAnyH_ready (rs := [14]) (by kernel_rfl) (by simp) ?_
    refine AllReadyH.cons (o := ⟨some 32, _, _, _, _, _⟩) rfl (fun KK hK => ?_) (AllReadyH.nil)
    go_simp
    go_at_call 128
    refine (vpart_to F h4 h6 g n l HL.out nid 3 3 rfl (by omega) (nad F nid 2) (putPst (P := P) (l := l) h1 h2 2 (by omega)) _ _ _ _ HVG.out HC3.out).mono ?_; rintro e G ⟨rfl, hB⟩
    replace HW := Hd (HW.out.trans hB (fun _ _ h => h))
    replace HVG := Hd (hB.blk HVG.out (fun h => h))
    try replace H6 := Hd (hB.blk H6.out (fun h => h))
    clear hB
    refine hK.out _ _ ?_ (fun hHeld2 => ?_)
    ·exact HW.out
    clear hK KK hHeld
    have hHeld := hHeld2
    clear hHeld2
    try simp only [aP,aA,aZ,aS]
    refine tkH 15 33 (.int .u64 (P.rt : Int)) rfl ?_ hHeld ?_
    ·(intro wq hSw; go_simp; try first | (with_reducible rfl) | (simp; omega) | (intros; omega) | simp [*])
    try simp only [aP,aA,aZ,aS]
    refine tkH 16 34 ?_ rfl ?_ hHeld ?_
    rotate_left
    ·(intro wq hSw; go_simp; try with_reducible rfl)
    try simp only [aP,aA,aZ,aS]
    refine wpAnyH_ready (rs := [18]) (by kernel_rfl) (by simp) ?_
    refine AllReadyH.cons (o := ⟨none, _, _, _, _, _⟩) rfl (fun KK hK => ?_) (AllReadyH.nil)
    have hs9 := H6.out
    obtain ⟨s0, s1, s2, s3, s4⟩ := hs9.c5
    have z0 := hs9.frozen 0
    have z1 := hs9.frozen 1
    have z2 := hs9.frozen 2
    have z3 := hs9.frozen 3
    have z4 := hs9.frozen 4
    clear hs9
    go_simp
    replace HW := Hd ((((((HW.out).setNew HR6.out 0 (.int .i64 (P.lv : Int))).setNew HR6.out 1 (.slice none 0 0)).setNew HR6.out 2 (.string P.hi)).setNew HR6.out 3 (.bool P.la)).setNew HR6.out 4 (.int .u64 (P.rt : Int)))
    replace HVG := Hd ((((((HVG.out).other (a := ⟨r6, 0, none⟩) (by have := HG5.out; have := HR6.out; show g ≠ r6; omega) (.int .i64 (P.lv : Int))).other (a := ⟨r6, 1, none⟩) (by have := HG5.out; have := HR6.out; show g ≠ r6; omega) (.slice none 0 0)).other (a := ⟨r6, 2, none⟩) (by have := HG5.out; have := HR6.out; show g ≠ r6; omega) (.string P.hi)).other (a := ⟨r6, 3, none⟩) (by have := HG5.out; have := HR6.out; show g ≠ r6; omega) (.bool P.la)).other (a := ⟨r6, 4, none⟩) (by have := HG5.out; have := HR6.out; show g ≠ r6; omega) (.int .u64 (P.rt : Int)))
    replace H6 := Hd ((((((H6.out).set 0 (.int .i64 (P.lv : Int))).set 1 (.slice none 0 0)).set 2 (.string P.hi)).set 3 (.bool P.la)).set 4 (.int .u64 (P.rt : Int)))
    clear s0 s1 s2 s3 s4 z0 z1 z2 z3 z4
    generalize (((((G).setCell ⟨r6, 0, none⟩ (.int .i64 (P.lv : Int))).setCell ⟨r6, 1, none⟩ (.slice none 0 0)).setCell ⟨r6, 2, none⟩ (.string P.hi)).setCell ⟨r6, 3, none⟩ (.bool P.la)).setCell ⟨r6, 4, none⟩ (.int .u64 (P.rt : Int)) = G at *
    refine hK.out _ _ ?_ (fun hHeld2 => ?_)
    ·exact HW.out
    clear hK KK hHeld
    have hHeld := hHeld2
    clear hHeld2
    try simp only [aP,aA,aZ,aS]
    refine wpAnyH_done (by kernel_rfl) ?_ _
    clear hHeld
    go_wp2_with fail
    replace HB := Hd (HW.out.blk HB.out (fun h => h))
    replace HN := Hd (HW.out.blk HN.out (fun h => h))
    replace H5 := Hd (HW.out.blk H5.out (fun h => h))
    replace HK := Hd (HK.out.trans HW.out (fun _ _ h => h))
    have hlt5 := H5.out.lt
    have hlt6 := H6.out.lt
    have hltn := HN.out.lt
    have hltb := HB.out.lt
    have hltg := HVG.out.lt
    have HNE := Hd (show r6 ≠ r0 ∧ r6 ≠ r1 ∧ r6 ≠ g ∧ r6 ≠ r5 by have h1 := HR6.out; have h2 := HLT.out; omega)
    have HGW := Hd (show w.heap.size ≤ G.heap.size from HK.out.size)
    clear HW
    go_loopw [7] (fun i wr => ∃ (j : Nat) (A : Option Addr) (c : Nat), j ≤ n0 ∧ i = .int .i64 j ∧ Blk wr r6 38 [.int .i64 (P.lv : Int), .slice A j c, .string P.hi, .bool P.la, .int .u64 (P.rt : Int)] ∧ wr.ownsRow G.heap.size 60 2 (.slice A j c) j (flat (P.xs.take j)) ∧ Kept (fun i => i = r6) G wr) (fun i _ => n0 - (intOf i).toNat)
    case atStart => exact ⟨0, none, 0, Nat.zero_le _, rfl, H6.out, World.ownsRow_nil _ _ _ _, Kept.refl _ _⟩
    case round =>
     obtain ⟨j, A, c, hj, rfl, hX6, hO, hKr⟩ := hrel
     have HX6 := Hd hX6
     have HO := Hd hO
     have HKr := Hd hKr
     have HBr := Hd (hKr.blk HB.out (fun e => HNE.out.1 e.symm))
     have H5r := Hd (hKr.blk H5.out (fun e => HNE.out.2.2.2 e.symm))
     have HVr := Hd (hKr.blk HVG.out (fun e => HNE.out.2.2.1 e.symm))
     have HNr := Hd (hKr.blk HN.out (fun e => HNE.out.2.1 e.symm))
     have hsr := hKr.size
     clear hX6 hO hKr
     have hb9 := HBr.out
     obtain ⟨x0, x1, x2, x3, x4, x5, x6, x7⟩ := hb9.c8
     have hc9 := H5r.out
     obtain ⟨y0, y1, y2⟩ := hc9.c3
     clear hb9 hc9
     by_cases hlt : j < n0
     ·obtain ⟨k, r, hx⟩ : ∃ k r, P.xs[j]? = some (k, r) := ⟨_, _, List.getElem?_eq_getElem (by have := HN0.out; omega)⟩
      have HX := Hd hx
      have HCJ := Hd (HCS.out j _ hx)
      have hjF : (j : Int) < (F : Int) := by omega
      have hjn : (j : Int) < (n0 : Int) := by omega
      have d1 : decide ((j : Int) < (n0 : Int)) = true := decide_eq_true hjn
      have d2 : decide ((j : Int) < (F : Int)) = true := decide_eq_true hjF
      have hwj : IntKind.u64.wrap (j : Int) = (j : Int) := by rw [IntKind.wrap_u64]; omega
      clear hx
      go_wp2_with fail
      refine (vpart_to F h4 h6 g n l HL.out nid (4 + j) (4 + (j : Int)) (by omega) (by omega) (nad F nid (j + 3)) (by have := putPst (P := P) (l := l) (F := F) h1 h2 (j + 3) (by omega); rw [← this]; congr 1; omega) _ _ _ _ HVr.out HCJ.out).mono ?_; rintro e w6 ⟨rfl, hK6⟩
      replace HX6 := Hd (hK6.blk HX6.out (fun h => h))
      have hx69 := HX6.out
      have x61 := hx69.k 1 rfl
      have hl69 := hx69.lt
      have hB6 := hK6.below (B := wr.heap.size) (by omega) (fun _ h => h.elim)
      replace HO := Hd (own_below HO.out hB6 (Nat.le_refl _))
      replace HKr := Hd (HKr.out.trans hK6 (fun _ _ h => h.elim))
      have hs6 : G.heap.size ≤ w6.heap.size := Nat.le_trans hsr hK6.size
      clear hx69 hK6 hB6 hsr x0 x1 x2 x3 x4 x5 x6 x7 y0 y1 y2
      go_wp2_with (at_builtin; go_must (refine wpList_app rfl (.tmp 55) (.tmp 61) rfl G.heap.size _ j (P.xs.take j) rfl ((HO.out.alloc _).alloc _) (some ⟨w6.heap.size + 1, 0, none⟩) 1 1 [(k, r)] rfl rfl (Rs.one_at _ k r _ (nblk_alloc _ _)) (by omega) (by rw [nblk_alloc, nblk_alloc]; omega) ?_))
      intro v7 w7 hO7 hB7
      obtain ⟨A7, c7, rfl, -, -, -⟩ := Rs.own hO7
      have hal6 := ((Below.refl G.heap.size w6).alloc hs6 (.cells #[.int .u64 (r : Int), .string k, .int .u64 0] 54)).alloc (by rw [nblk_alloc]; omega) (.cells #[.string k, .int .u64 (r : Int)] 60)
      have hB67 := hal6.trans hB7
      have hK67 := Below.kept hB67 (S := fun i => G.heap.size ≤ i) (fun i _ h => h)
      have hX7 := hK67.blk HX6.out (by omega)
      have HK7 := Hd (HKr.out.trans hK67 (fun i hi h => by omega))
      have HX7 := Hd (hX7.set 1 (.slice A7 (j + 1) c7))
      have z71 := hX7.frozen 1
      have x71 := hX7.k 1 rfl
      have HO7 := Hd (show (w7.setCell ⟨r6, 1, none⟩ (.slice A7 (j + 1) c7)).ownsRow G.heap.size 60 2 (.slice A7 (j + 1) c7) (j + 1) (flat (P.xs.take (j + 1))) from by
       rw [List.take_add_one, HX.out]; exact ownsRow_setCell_below hO7 hlt6 _)
      have HKz := Hd (HK7.out.setCell (a := ⟨r6, 1, none⟩) (fun _ => rfl) (.slice A7 (j + 1) c7))
      clear hO7 hB7 hal6 hB67 hK67 hX7 HX6 HO HKr HK7 x61
      go_wp2
      go_roundw
      case rel => exact ⟨j + 1, A7, c7, by omega, by go_num, HX7.out, HO7.out, HKz.out⟩
      case measure => simp [intOf]; omega
     ·obtain rfl : j = n0 := by omega
      have d1 : decide ((j : Int) < (j : Int)) = false := decide_eq_false (by omega)
      have hwj : IntKind.u64.wrap (j : Int) = (j : Int) := by rw [IntKind.wrap_u64]; omega
      have hx69 := HX6.out
      obtain ⟨u0, u1, u2, u3, u4⟩ := hx69.c5
      have hn9 := HNr.out
      obtain ⟨v0, v1, v2, v3, v4⟩ := hn9.c5
      have z0 := hn9.frozen 0
      have z1 := hn9.frozen 1
      have z2 := hn9.frozen 2
      have z3 := hn9.frozen 3
      have z4 := hn9.frozen 4
      have hOa := HO.out
      rw [List.take_of_length_le (by rw [HN0.out]; exact Nat.le_refl _)] at hOa
      have hO5 := own_res hOa hltn (.int .i64 (P.lv : Int)) (.slice A j c) (.string P.hi) (.bool P.la) (.int .u64 (P.rt : Int))
      have hNz := ((((hn9.set 0 (.int .i64 (P.lv : Int))).set 1 (.slice A j c)).set 2 (.string P.hi)).set 3 (.bool P.la)).set 4 (.int .u64 (P.rt : Int))
      have hKz := ((((((HK.out.trans (HKr.out.mono (T := fun i => i = r6 ∨ i = r1) (fun i e => .inl e)) (fun i hi e => by have := HR6.out; have := HLT.out; have := HR0.out; have := HR.out; omega)).setNew (b := r1) (by have := HR0.out; have := HR.out; omega) 0 (.int .i64 (P.lv : Int))).setNew (b := r1) (by have := HR0.out; have := HR.out; omega) 1 (.slice A j c)).setNew (b := r1) (by have := HR0.out; have := HR.out; omega) 2 (.string P.hi)).setNew (b := r1) (by have := HR0.out; have := HR.out; omega) 3 (.bool P.la)).setNew (b := r1) (by have := HR0.out; have := HR.out; omega) 4 (.int .u64 (P.rt : Int)))
      have HO5 := Hd hO5
      have HNz := Hd hNz
      have HKz := Hd hKz
      clear hx69 hn9 hOa hO5 hNz hKz HX6 HO HKr
      go_wp2
      obtain ⟨q0, q1, q2, q3, q4⟩ := HNz.out.c5
      refine bodyPost_ret (v := .agg #[.int .i64 (P.lv : Int), .slice A j c, .string P.hi, .bool P.la, .int .u64 (P.rt : Int)]) ?_ rfl ?_
      ·simp [results, Tryz.results81, go_sem, q0, q1, q2, q3, q4]
      obtain ⟨A9, c9, he9, -, hR9, hA9⟩ := Rs.own HO5.out
      cases he9
      exact ⟨A, c, by rw [HN0.out], hR9, fun a ha => by have := hA9 a ha; have := HGW.out; omega, HKz.out⟩
  ·go_simp
   have hr6 : W5.heap.size ≤ G.heap.size := HW.out.size
   replace HW := Hd (HW.out.alloc (.cells #[.int .i64 0, .slice none 0 0, .string ⟨#[]⟩, .bool false, .int .u64 0] 38))
   replace HVG := Hd (HVG.out.alloc (.cells #[.int .i64 0, .slice none 0 0, .string ⟨#[]⟩, .bool false, .int .u64 0] 38))
   have H6 := Hd (Blk.new G [.int .i64 0, .slice none 0 0, .string ⟨#[]⟩, .bool false, .int .u64 0] 38)
   generalize G.heap.size = r6 at *
   have HR6 := Hd hr6
   clear hr6
   generalize G.alloc (.cells #[.int .i64 0, .slice none 0 0, .string ⟨#[]⟩, .bool false, .int .u64 0] 38) = G at *
   refine hK.out _ _ ?_ (fun hHeld2 => ?_)
   ·exact HW.out
   clear hK KK hHeld
   have hHeld := hHeld2
   clear hHeld2
   try simp only [aP,aA,aZ,aS]
   refine wpAnyH_ready (rs := [9]) (by kernel_rfl) (by simp) ?_
   refine AllReadyH.cons (o := ⟨some 27, _, _, _, _, _⟩) rfl (fun KK hK => ?_) (AllReadyH.nil)
   go_simp
   go_at_call 128
   refine (vpart_to F h4 h6 g n l HL.out nid 2 2 rfl (by omega) (nad F nid 1) (putPst (P := P) (l := l) h1 h2 1 (by omega)) _ _ _ _ HVG.out HC2.out).mono ?_; rintro e G ⟨rfl, hB⟩
   replace HW := Hd (HW.out.trans hB (fun _ _ h => h))
   replace HVG := Hd (hB.blk HVG.out (fun h => h))
   try replace H6 := Hd (hB.blk H6.out (fun h => h))
   clear hB
   refine hK.out _ _ ?_ (fun hHeld2 => ?_)
   ·exact HW.out
   clear hK KK hHeld
   have hHeld := hHeld2
   clear hHeld2
   try simp only [aP,aA,aZ,aS]
   refine tkH 10 28 (.int .u64 (m1 : Int)) rfl ?_ hHeld ?_
   ·(intro wq hSw; go_simp; try first | (with_reducible rfl) | (simp; omega) | (intros; omega) | simp [*])
   try simp only [aP,aA,aZ,aS]
   refine tkH 11 29 (.bool P.la) rfl ?_ hHeld ?_
   ·(intro wq hSw; go_simp; try first | (with_reducible rfl) | (simp; omega) | (intros; omega) | simp [*])
   try simp only [aP,aA,aZ,aS]
   refine wpAnyH_ready (rs := [14]) (by kernel_rfl) (by simp) ?_
   refine AllReadyH.cons (o := ⟨some 32, _, _, _, _, _⟩) rfl (fun KK hK => ?_) (AllReadyH.nil)
   go_simp
   go_at_call 128
   refine (vpart_to F h4 h6 g n l HL.out nid 3 3 rfl (by omega) (nad F nid 2) (putPst (P := P) (l := l) h1 h2 2 (by omega)) _ _ _ _ HVG.out HC3.out).mono ?_; rintro e G ⟨rfl, hB⟩
   replace HW := Hd (HW.out.trans hB (fun _ _ h => h))
   replace HVG := Hd (hB.blk HVG.out (fun h => h))
   try replace H6 := Hd (hB.blk H6.out (fun h => h))
   clear hB
   refine hK.out _ _ ?_ (fun hHeld2 => ?_)
   ·exact HW.out
   clear hK KK hHeld
   have hHeld := hHeld2
   clear hHeld2
   try simp only [aP,aA,aZ,aS]
   refine tkH 15 33 (.int .u64 (P.rt : Int)) rfl ?_ hHeld ?_
   ·(intro wq hSw; go_simp; try first | (with_reducible rfl) | (simp; omega) | (intros; omega) | simp [*])
   try simp only [aP,aA,aZ,aS]
   refine tkH 16 34 ?_ rfl ?_ hHeld ?_
   rotate_left
   ·(intro wq hSw; go_simp; try with_reducible rfl)
   try simp only [aP,aA,aZ,aS]
   refine wpAnyH_ready (rs := [18]) (by kernel_rfl) (by simp) ?_
   refine AllReadyH.cons (o := ⟨none, _, _, _, _, _⟩) rfl (fun KK hK => ?_) (AllReadyH.nil)
   have hs9 := H6.out
   obtain ⟨s0, s1, s2, s3, s4⟩ := hs9.c5
   have z0 := hs9.frozen 0
   have z1 := hs9.frozen 1
   have z2 := hs9.frozen 2
   have z3 := hs9.frozen 3
   have z4 := hs9.frozen 4
   clear hs9
   go_simp
   replace HW := Hd ((((((HW.out).setNew HR6.out 0 (.int .i64 (P.lv : Int))).setNew HR6.out 1 (.slice none 0 0)).setNew HR6.out 2 (.string P.hi)).setNew HR6.out 3 (.bool P.la)).setNew HR6.out 4 (.int .u64 (P.rt : Int)))
   replace HVG := Hd ((((((HVG.out).other (a := ⟨r6, 0, none⟩) (by have := HG5.out; have := HR6.out; show g ≠ r6; omega) (.int .i64 (P.lv : Int))).other (a := ⟨r6, 1, none⟩) (by have := HG5.out; have := HR6.out; show g ≠ r6; omega) (.slice none 0 0)).other (a := ⟨r6, 2, none⟩) (by have := HG5.out; have := HR6.out; show g ≠ r6; omega) (.string P.hi)).other (a := ⟨r6, 3, none⟩) (by have := HG5.out; have := HR6.out; show g ≠ r6; omega) (.bool P.la)).other (a := ⟨r6, 4, none⟩) (by have := HG5.out; have := HR6.out; show g ≠ r6; omega) (.int .u64 (P.rt : Int)))
   replace H6 := Hd ((((((H6.out).set 0 (.int .i64 (P.lv : Int))).set 1 (.slice none 0 0)).set 2 (.string P.hi)).set 3 (.bool P.la)).set 4 (.int .u64 (P.rt : Int)))
   clear s0 s1 s2 s3 s4 z0 z1 z2 z3 z4
   generalize (((((G).setCell ⟨r6, 0, none⟩ (.int .i64 (P.lv : Int))).setCell ⟨r6, 1, none⟩ (.slice none 0 0)).setCell ⟨r6, 2, none⟩ (.string P.hi)).setCell ⟨r6, 3, none⟩ (.bool P.la)).setCell ⟨r6, 4, none⟩ (.int .u64 (P.rt : Int)) = G at *
   refine hK.out _ _ ?_ (fun hHeld2 => ?_)
   ·exact HW.out
   clear hK KK hHeld
   have hHeld := hHeld2
   clear hHeld2
   try simp only [aP,aA,aZ,aS]
   refine wpAnyH_done (by kernel_rfl) ?_ _
   clear hHeld
   go_wp2_with fail
   replace HB := Hd (HW.out.blk HB.out (fun h => h))
   replace HN := Hd (HW.out.blk HN.out (fun h => h))
   replace H5 := Hd (HW.out.blk H5.out (fun h => h))
   replace HK := Hd (HK.out.trans HW.out (fun _ _ h => h))
   have hlt5 := H5.out.lt
   have hlt6 := H6.out.lt
   have hltn := HN.out.lt
   have hltb := HB.out.lt
   have hltg := HVG.out.lt
   have HNE := Hd (show r6 ≠ r0 ∧ r6 ≠ r1 ∧ r6 ≠ g ∧ r6 ≠ r5 by have h1 := HR6.out; have h2 := HLT.out; omega)
   have HGW := Hd (show w.heap.size ≤ G.heap.size from HK.out.size)
   clear HW
   go_loopw [7] (fun i wr => ∃ (j : Nat) (A : Option Addr) (c : Nat), j ≤ n0 ∧ i = .int .i64 j ∧ Blk wr r6 38 [.int .i64 (P.lv : Int), .slice A j c, .string P.hi, .bool P.la, .int .u64 (P.rt : Int)] ∧ wr.ownsRow G.heap.size 60 2 (.slice A j c) j (flat (P.xs.take j)) ∧ Kept (fun i => i = r6) G wr) (fun i _ => n0 - (intOf i).toNat)
   case atStart => exact ⟨0, none, 0, Nat.zero_le _, rfl, H6.out, World.ownsRow_nil _ _ _ _, Kept.refl _ _⟩
   case round =>
    obtain ⟨j, A, c, hj, rfl, hX6, hO, hKr⟩ := hrel
    have HX6 := Hd hX6
    have HO := Hd hO
    have HKr := Hd hKr
    have HBr := Hd (hKr.blk HB.out (fun e => HNE.out.1 e.symm))
    have H5r := Hd (hKr.blk H5.out (fun e => HNE.out.2.2.2 e.symm))
    have HVr := Hd (hKr.blk HVG.out (fun e => HNE.out.2.2.1 e.symm))
    have HNr := Hd (hKr.blk HN.out (fun e => HNE.out.2.1 e.symm))
    have hsr := hKr.size
    clear hX6 hO hKr
    have hb9 := HBr.out
    obtain ⟨x0, x1, x2, x3, x4, x5, x6, x7⟩ := hb9.c8
    have hc9 := H5r.out
    obtain ⟨y0, y1, y2⟩ := hc9.c3
    clear hb9 hc9
    by_cases hlt : j < n0
    ·obtain ⟨k, r, hx⟩ : ∃ k r, P.xs[j]? = some (k, r) := ⟨_, _, List.getElem?_eq_getElem (by have := HN0.out; omega)⟩
     have HX := Hd hx
     have HCJ := Hd (HCS.out j _ hx)
     have hjF : (j : Int) < (F : Int) := by omega
     have hjn : (j : Int) < (n0 : Int) := by omega
     have d1 : decide ((j : Int) < (n0 : Int)) = true := decide_eq_true hjn
     have d2 : decide ((j : Int) < (F : Int)) = true := decide_eq_true hjF
     have hwj : IntKind.u64.wrap (j : Int) = (j : Int) := by rw [IntKind.wrap_u64]; omega
     clear hx
     go_wp2_with fail
     refine (vpart_to F h4 h6 g n l HL.out nid (4 + j) (4 + (j : Int)) (by omega) (by omega) (nad F nid (j + 3)) (by have := putPst (P := P) (l := l) (F := F) h1 h2 (j + 3) (by omega); rw [← this]; congr 1; omega) _ _ _ _ HVr.out HCJ.out).mono ?_; rintro e w6 ⟨rfl, hK6⟩
     replace HX6 := Hd (hK6.blk HX6.out (fun h => h))
     have hx69 := HX6.out
     have x61 := hx69.k 1 rfl
     have hl69 := hx69.lt
     have hB6 := hK6.below (B := wr.heap.size) (by omega) (fun _ h => h.elim)
     replace HO := Hd (own_below HO.out hB6 (Nat.le_refl _))
     replace HKr := Hd (HKr.out.trans hK6 (fun _ _ h => h.elim))
     have hs6 : G.heap.size ≤ w6.heap.size := Nat.le_trans hsr hK6.size
     clear hx69 hK6 hB6 hsr x0 x1 x2 x3 x4 x5 x6 x7 y0 y1 y2
     go_wp2_with (at_builtin; go_must (refine wpList_app rfl (.tmp 55) (.tmp 61) rfl G.heap.size _ j (P.xs.take j) rfl ((HO.out.alloc _).alloc _) (some ⟨w6.heap.size + 1, 0, none⟩) 1 1 [(k, r)] rfl rfl (Rs.one_at _ k r _ (nblk_alloc _ _)) (by omega) (by rw [nblk_alloc, nblk_alloc]; omega) ?_))
     intro v7 w7 hO7 hB7
     obtain ⟨A7, c7, rfl, -, -, -⟩ := Rs.own hO7
     have hal6 := ((Below.refl G.heap.size w6).alloc hs6 (.cells #[.int .u64 (r : Int), .string k, .int .u64 0] 54)).alloc (by rw [nblk_alloc]; omega) (.cells #[.string k, .int .u64 (r : Int)] 60)
     have hB67 := hal6.trans hB7
     have hK67 := Below.kept hB67 (S := fun i => G.heap.size ≤ i) (fun i _ h => h)
     have hX7 := hK67.blk HX6.out (by omega)
     have HK7 := Hd (HKr.out.trans hK67 (fun i hi h => by omega))
     have HX7 := Hd (hX7.set 1 (.slice A7 (j + 1) c7))
     have z71 := hX7.frozen 1
     have x71 := hX7.k 1 rfl
     have HO7 := Hd (show (w7.setCell ⟨r6, 1, none⟩ (.slice A7 (j + 1) c7)).ownsRow G.heap.size 60 2 (.slice A7 (j + 1) c7) (j + 1) (flat (P.xs.take (j + 1))) from by
      rw [List.take_add_one, HX.out]; exact ownsRow_setCell_below hO7 hlt6 _)
     have HKz := Hd (HK7.out.setCell (a := ⟨r6, 1, none⟩) (fun _ => rfl) (.slice A7 (j + 1) c7))
     clear hO7 hB7 hal6 hB67 hK67 hX7 HX6 HO HKr HK7 x61
     go_wp2
     go_roundw
     case rel => exact ⟨j + 1, A7, c7, by omega, by go_num, HX7.out, HO7.out, HKz.out⟩
     case measure => simp [intOf]; omega
    ·obtain rfl : j = n0 := by omega
     have d1 : decide ((j : Int) < (j : Int)) = false := decide_eq_false (by omega)
     have hwj : IntKind.u64.wrap (j : Int) = (j : Int) := by rw [IntKind.wrap_u64]; omega
     have hx69 := HX6.out
     obtain ⟨u0, u1, u2, u3, u4⟩ := hx69.c5
     have hn9 := HNr.out
     obtain ⟨v0, v1, v2, v3, v4⟩ := hn9.c5
     have z0 := hn9.frozen 0
     have z1 := hn9.frozen 1
     have z2 := hn9.frozen 2
     have z3 := hn9.frozen 3
     have z4 := hn9.frozen 4
     have hOa := HO.out
     rw [List.take_of_length_le (by rw [HN0.out]; exact Nat.le_refl _)] at hOa
     have hO5 := own_res hOa hltn (.int .i64 (P.lv : Int)) (.slice A j c) (.string P.hi) (.bool P.la) (.int .u64 (P.rt : Int))
     have hNz := ((((hn9.set 0 (.int .i64 (P.lv : Int))).set 1 (.slice A j c)).set 2 (.string P.hi)).set 3 (.bool P.la)).set 4 (.int .u64 (P.rt : Int))
     have hKz := ((((((HK.out.trans (HKr.out.mono (T := fun i => i = r6 ∨ i = r1) (fun i e => .inl e)) (fun i hi e => by have := HR6.out; have := HLT.out; have := HR0.out; have := HR.out; omega)).setNew (b := r1) (by have := HR0.out; have := HR.out; omega) 0 (.int .i64 (P.lv : Int))).setNew (b := r1) (by have := HR0.out; have := HR.out; omega) 1 (.slice A j c)).setNew (b := r1) (by have := HR0.out; have := HR.out; omega) 2 (.string P.hi)).setNew (b := r1) (by have := HR0.out; have := HR.out; omega) 3 (.bool P.la)).setNew (b := r1) (by have := HR0.out; have := HR.out; omega) 4 (.int .u64 (P.rt : Int)))
     have HO5 := Hd hO5
     have HNz := Hd hNz
     have HKz := Hd hKz
     clear hx69 hn9 hOa hO5 hNz hKz HX6 HO HKr
     go_wp2
     obtain ⟨q0, q1, q2, q3, q4⟩ := HNz.out.c5
     refine bodyPost_ret (v := .agg #[.int .i64 (P.lv : Int), .slice A j c, .string P.hi, .bool P.la, .int .u64 (P.rt : Int)]) ?_ rfl ?_
     ·simp [results, Tryz.results81, go_sem, q0, q1, q2, q3, q4]
     obtain ⟨A9, c9, he9, -, hR9, hA9⟩ := Rs.own HO5.out
     cases he9
     exact ⟨A, c, by rw [HN0.out], hR9, fun a ha => by have := hA9 a ha; have := HGW.out; omega, HKz.out⟩
 ·go_simp
  have hr6 : W5.heap.size ≤ G.heap.size := HW.out.size
  replace HW := Hd (HW.out.alloc (.cells #[.int .i64 0, .slice none 0 0, .string ⟨#[]⟩, .bool false, .int .u64 0] 38))
  replace HVG := Hd (HVG.out.alloc (.cells #[.int .i64 0, .slice none 0 0, .string ⟨#[]⟩, .bool false, .int .u64 0] 38))
  have H6 := Hd (Blk.new G [.int .i64 0, .slice none 0 0, .string ⟨#[]⟩, .bool false, .int .u64 0] 38)
  generalize G.heap.size = r6 at *
  have HR6 := Hd hr6
  clear hr6
  generalize G.alloc (.cells #[.int .i64 0, .slice none 0 0, .string ⟨#[]⟩, .bool false, .int .u64 0] 38) = G at *
  refine hK.out _ _ ?_ (fun hHeld2 => ?_)
  ·exact HW.out
  clear hK KK hHeld
  have hHeld := hHeld2
  clear hHeld2
  try simp only [aP,aA,aZ,aS]
  refine wpAnyH_ready (rs := [5]) (by kernel_rfl) (by simp) ?_
  refine AllReadyH.cons (o := ⟨some 23, _, _, _, _, _⟩) rfl (fun KK hK => ?_) (AllReadyH.nil)
  go_simp
  go_at_call 128
  refine (vpart_to F h4 h6 g n l HL.out nid 2 2 rfl (by omega) (nad F nid 1) (putPst (P := P) (l := l) h1 h2 1 (by omega)) _ _ _ _ HVG.out HC2.out).mono ?_; rintro e G ⟨rfl, hB⟩
  replace HW := Hd (HW.out.trans hB (fun _ _ h => h))
  replace HVG := Hd (hB.blk HVG.out (fun h => h))
  try replace H6 := Hd (hB.blk H6.out (fun h => h))
  clear hB
  refine hK.out _ _ ?_ (fun hHeld2 => ?_)
  ·exact HW.out
  clear hK KK hHeld
  have hHeld := hHeld2
  clear hHeld2
  try simp only [aP,aA,aZ,aS]
  refine tkH 6 24 (.string P.hi) rfl ?_ hHeld ?_
  ·(intro wq hSw; go_simp; try first | (with_reducible rfl) | (simp; omega) | (intros; omega) | simp [*])
  try simp only [aP,aA,aZ,aS]
  refine wpAnyH_ready (rs := [9]) (by kernel_rfl) (by simp) ?_
  refine AllReadyH.cons (o := ⟨some 27, _, _, _, _, _⟩) rfl (fun KK hK => ?_) (AllReadyH.nil)
  go_simp
  go_at_call 128
  refine (vpart_to F h4 h6 g n l HL.out nid 2 2 rfl (by omega) (nad F nid 1) (putPst (P := P) (l := l) h1 h2 1 (by omega)) _ _ _ _ HVG.out HC2.out).mono ?_; rintro e G ⟨rfl, hB⟩
  replace HW := Hd (HW.out.trans hB (fun _ _ h => h))
  replace HVG := Hd (hB.blk HVG.out (fun h => h))
  try replace H6 := Hd (hB.blk H6.out (fun h => h))
  clear hB
  refine hK.out _ _ ?_ (fun hHeld2 => ?_)
  ·exact HW.out
  clear hK KK hHeld
  have hHeld := hHeld2
  clear hHeld2
  try simp only [aP,aA,aZ,aS]
  refine tkH 10 28 (.int .u64 (m1 : Int)) rfl ?_ hHeld ?_
  ·(intro wq hSw; go_simp; try first | (with_reducible rfl) | (simp; omega) | (intros; omega) | simp [*])
  try simp only [aP,aA,aZ,aS]
  refine tkH 11 29 (.bool P.la) rfl ?_ hHeld ?_
  ·(intro wq hSw; go_simp; try first | (with_reducible rfl) | (simp; omega) | (intros; omega) | simp [*])
  try simp only [aP,aA,aZ,aS]
  refine wpAnyH_ready (rs := [14]) (by kernel_rfl) (by simp) ?_
  refine AllReadyH.cons (o := ⟨some 32, _, _, _, _, _⟩) rfl (fun KK hK => ?_) (AllReadyH.nil)
  go_simp
  go_at_call 128
  refine (vpart_to F h4 h6 g n l HL.out nid 3 3 rfl (by omega) (nad F nid 2) (putPst (P := P) (l := l) h1 h2 2 (by omega)) _ _ _ _ HVG.out HC3.out).mono ?_; rintro e G ⟨rfl, hB⟩
  replace HW := Hd (HW.out.trans hB (fun _ _ h => h))
  replace HVG := Hd (hB.blk HVG.out (fun h => h))
  try replace H6 := Hd (hB.blk H6.out (fun h => h))
  clear hB
  refine hK.out _ _ ?_ (fun hHeld2 => ?_)
  ·exact HW.out
  clear hK KK hHeld
  have hHeld := hHeld2
  clear hHeld2
  try simp only [aP,aA,aZ,aS]
  refine tkH 15 33 (.int .u64 (P.rt : Int)) rfl ?_ hHeld ?_
  ·(intro wq hSw; go_simp; try first | (with_reducible rfl) | (simp; omega) | (intros; omega) | simp [*])
  try simp only [aP,aA,aZ,aS]
  refine tkH 16 34 ?_ rfl ?_ hHeld ?_
  rotate_left
  ·(intro wq hSw; go_simp; try with_reducible rfl)
  try simp only [aP,aA,aZ,aS]
  refine wpAnyH_ready (rs := [18]) (by kernel_rfl) (by simp) ?_
  refine AllReadyH.cons (o := ⟨none, _, _, _, _, _⟩) rfl (fun KK hK => ?_) (AllReadyH.nil)
  have hs9 := H6.out
  obtain ⟨s0, s1, s2, s3, s4⟩ := hs9.c5
  have z0 := hs9.frozen 0
  have z1 := hs9.frozen 1
  have z2 := hs9.frozen 2
  have z3 := hs9.frozen 3
  have z4 := hs9.frozen 4
  clear hs9
  go_simp
  replace HW := Hd ((((((HW.out).setNew HR6.out 0 (.int .i64 (P.lv : Int))).setNew HR6.out 1 (.slice none 0 0)).setNew HR6.out 2 (.string P.hi)).setNew HR6.out 3 (.bool P.la)).setNew HR6.out 4 (.int .u64 (P.rt : Int)))
  replace HVG := Hd ((((((HVG.out).other (a := ⟨r6, 0, none⟩) (by have := HG5.out; have := HR6.out; show g ≠ r6; omega) (.int .i64 (P.lv : Int))).other (a := ⟨r6, 1, none⟩) (by have := HG5.out; have := HR6.out; show g ≠ r6; omega) (.slice none 0 0)).other (a := ⟨r6, 2, none⟩) (by have := HG5.out; have := HR6.out; show g ≠ r6; omega) (.string P.hi)).other (a := ⟨r6, 3, none⟩) (by have := HG5.out; have := HR6.out; show g ≠ r6; omega) (.bool P.la)).other (a := ⟨r6, 4, none⟩) (by have := HG5.out; have := HR6.out; show g ≠ r6; omega) (.int .u64 (P.rt : Int)))
  replace H6 := Hd ((((((H6.out).set 0 (.int .i64 (P.lv : Int))).set 1 (.slice none 0 0)).set 2 (.string P.hi)).set 3 (.bool P.la)).set 4 (.int .u64 (P.rt : Int)))
  clear s0 s1 s2 s3 s4 z0 z1 z2 z3 z4
  generalize (((((G).setCell ⟨r6, 0, none⟩ (.int .i64 (P.lv : Int))).setCell ⟨r6, 1, none⟩ (.slice none 0 0)).setCell ⟨r6, 2, none⟩ (.string P.hi)).setCell ⟨r6, 3, none⟩ (.bool P.la)).setCell ⟨r6, 4, none⟩ (.int .u64 (P.rt : Int)) = G at *
  refine hK.out _ _ ?_ (fun hHeld2 => ?_)
  ·exact HW.out
  clear hK KK hHeld
  have hHeld := hHeld2
  clear hHeld2
  try simp only [aP,aA,aZ,aS]
  refine wpAnyH_done (by kernel_rfl) ?_ _
  clear hHeld
  go_wp2_with fail
  replace HB := Hd (HW.out.blk HB.out (fun h => h))
  replace HN := Hd (HW.out.blk HN.out (fun h => h))
  replace H5 := Hd (HW.out.blk H5.out (fun h => h))
  replace HK := Hd (HK.out.trans HW.out (fun _ _ h => h))
  have hlt5 := H5.out.lt
  have hlt6 := H6.out.lt
  have hltn := HN.out.lt
  have hltb := HB.out.lt
  have hltg := HVG.out.lt
  have HNE := Hd (show r6 ≠ r0 ∧ r6 ≠ r1 ∧ r6 ≠ g ∧ r6 ≠ r5 by have h1 := HR6.out; have h2 := HLT.out; omega)
  have HGW := Hd (show w.heap.size ≤ G.heap.size from HK.out.size)
  clear HW
  go_loopw [7] (fun i wr => ∃ (j : Nat) (A : Option Addr) (c : Nat), j ≤ n0 ∧ i = .int .i64 j ∧ Blk wr r6 38 [.int .i64 (P.lv : Int), .slice A j c, .string P.hi, .bool P.la, .int .u64 (P.rt : Int)] ∧ wr.ownsRow G.heap.size 60 2 (.slice A j c) j (flat (P.xs.take j)) ∧ Kept (fun i => i = r6) G wr) (fun i _ => n0 - (intOf i).toNat)
  case atStart => exact ⟨0, none, 0, Nat.zero_le _, rfl, H6.out, World.ownsRow_nil _ _ _ _, Kept.refl _ _⟩
  case round =>
   obtain ⟨j, A, c, hj, rfl, hX6, hO, hKr⟩ := hrel
   have HX6 := Hd hX6
   have HO := Hd hO
   have HKr := Hd hKr
   have HBr := Hd (hKr.blk HB.out (fun e => HNE.out.1 e.symm))
   have H5r := Hd (hKr.blk H5.out (fun e => HNE.out.2.2.2 e.symm))
   have HVr := Hd (hKr.blk HVG.out (fun e => HNE.out.2.2.1 e.symm))
   have HNr := Hd (hKr.blk HN.out (fun e => HNE.out.2.1 e.symm))
   have hsr := hKr.size
   clear hX6 hO hKr
   have hb9 := HBr.out
   obtain ⟨x0, x1, x2, x3, x4, x5, x6, x7⟩ := hb9.c8
   have hc9 := H5r.out
   obtain ⟨y0, y1, y2⟩ := hc9.c3
   clear hb9 hc9
   by_cases hlt : j < n0
   ·obtain ⟨k, r, hx⟩ : ∃ k r, P.xs[j]? = some (k, r) := ⟨_, _, List.getElem?_eq_getElem (by have := HN0.out; omega)⟩
    have HX := Hd hx
    have HCJ := Hd (HCS.out j _ hx)
    have hjF : (j : Int) < (F : Int) := by omega
    have hjn : (j : Int) < (n0 : Int) := by omega
    have d1 : decide ((j : Int) < (n0 : Int)) = true := decide_eq_true hjn
    have d2 : decide ((j : Int) < (F : Int)) = true := decide_eq_true hjF
    have hwj : IntKind.u64.wrap (j : Int) = (j : Int) := by rw [IntKind.wrap_u64]; omega
    clear hx
    go_wp2_with fail
    refine (vpart_to F h4 h6 g n l HL.out nid (4 + j) (4 + (j : Int)) (by omega) (by omega) (nad F nid (j + 3)) (by have := putPst (P := P) (l := l) (F := F) h1 h2 (j + 3) (by omega); rw [← this]; congr 1; omega) _ _ _ _ HVr.out HCJ.out).mono ?_; rintro e w6 ⟨rfl, hK6⟩
    replace HX6 := Hd (hK6.blk HX6.out (fun h => h))
    have hx69 := HX6.out
    have x61 := hx69.k 1 rfl
    have hl69 := hx69.lt
    have hB6 := hK6.below (B := wr.heap.size) (by omega) (fun _ h => h.elim)
    replace HO := Hd (own_below HO.out hB6 (Nat.le_refl _))
    replace HKr := Hd (HKr.out.trans hK6 (fun _ _ h => h.elim))
    have hs6 : G.heap.size ≤ w6.heap.size := Nat.le_trans hsr hK6.size
    clear hx69 hK6 hB6 hsr x0 x1 x2 x3 x4 x5 x6 x7 y0 y1 y2
    go_wp2_with (at_builtin; go_must (refine wpList_app rfl (.tmp 55) (.tmp 61) rfl G.heap.size _ j (P.xs.take j) rfl ((HO.out.alloc _).alloc _) (some ⟨w6.heap.size + 1, 0, none⟩) 1 1 [(k, r)] rfl rfl (Rs.one_at _ k r _ (nblk_alloc _ _)) (by omega) (by rw [nblk_alloc, nblk_alloc]; omega) ?_))
    intro v7 w7 hO7 hB7
    obtain ⟨A7, c7, rfl, -, -, -⟩ := Rs.own hO7
    have hal6 := ((Below.refl G.heap.size w6).alloc hs6 (.cells #[.int .u64 (r : Int), .string k, .int .u64 0] 54)).alloc (by rw [nblk_alloc]; omega) (.cells #[.string k, .int .u64 (r : Int)] 60)
    have hB67 := hal6.trans hB7
    have hK67 := Below.kept hB67 (S := fun i => G.heap.size ≤ i) (fun i _ h => h)
    have hX7 := hK67.blk HX6.out (by omega)
    have HK7 := Hd (HKr.out.trans hK67 (fun i hi h => by omega))
    have HX7 := Hd (hX7.set 1 (.slice A7 (j + 1) c7))
    have z71 := hX7.frozen 1
    have x71 := hX7.k 1 rfl
    have HO7 := Hd (show (w7.setCell ⟨r6, 1, none⟩ (.slice A7 (j + 1) c7)).ownsRow G.heap.size 60 2 (.slice A7 (j + 1) c7) (j + 1) (flat (P.xs.take (j + 1))) from by
     rw [List.take_add_one, HX.out]; exact ownsRow_setCell_below hO7 hlt6 _)
    have HKz := Hd (HK7.out.setCell (a := ⟨r6, 1, none⟩) (fun _ => rfl) (.slice A7 (j + 1) c7))
    clear hO7 hB7 hal6 hB67 hK67 hX7 HX6 HO HKr HK7 x61
    go_wp2
    go_roundw
    case rel => exact ⟨j + 1, A7, c7, by omega, by go_num, HX7.out, HO7.out, HKz.out⟩
    case measure => simp [intOf]; omega
   ·obtain rfl : j = n0 := by omega
    have d1 : decide ((j : Int) < (j : Int)) = false := decide_eq_false (by omega)
    have hwj : IntKind.u64.wrap (j : Int) = (j : Int) := by rw [IntKind.wrap_u64]; omega
    have hx69 := HX6.out
    obtain ⟨u0, u1, u2, u3, u4⟩ := hx69.c5
    have hn9 := HNr.out
    obtain ⟨v0, v1, v2, v3, v4⟩ := hn9.c5
    have z0 := hn9.frozen 0
    have z1 := hn9.frozen 1
    have z2 := hn9.frozen 2
    have z3 := hn9.frozen 3
    have z4 := hn9.frozen 4
    have hOa := HO.out
    rw [List.take_of_length_le (by rw [HN0.out]; exact Nat.le_refl _)] at hOa
    have hO5 := own_res hOa hltn (.int .i64 (P.lv : Int)) (.slice A j c) (.string P.hi) (.bool P.la) (.int .u64 (P.rt : Int))
    have hNz := ((((hn9.set 0 (.int .i64 (P.lv : Int))).set 1 (.slice A j c)).set 2 (.string P.hi)).set 3 (.bool P.la)).set 4 (.int .u64 (P.rt : Int))
    have hKz := ((((((HK.out.trans (HKr.out.mono (T := fun i => i = r6 ∨ i = r1) (fun i e => .inl e)) (fun i hi e => by have := HR6.out; have := HLT.out; have := HR0.out; have := HR.out; omega)).setNew (b := r1) (by have := HR0.out; have := HR.out; omega) 0 (.int .i64 (P.lv : Int))).setNew (b := r1) (by have := HR0.out; have := HR.out; omega) 1 (.slice A j c)).setNew (b := r1) (by have := HR0.out; have := HR.out; omega) 2 (.string P.hi)).setNew (b := r1) (by have := HR0.out; have := HR.out; omega) 3 (.bool P.la)).setNew (b := r1) (by have := HR0.out; have := HR.out; omega) 4 (.int .u64 (P.rt : Int)))
    have HO5 := Hd hO5
    have HNz := Hd hNz
    have HKz := Hd hKz
    clear hx69 hn9 hOa hO5 hNz hKz HX6 HO HKr
    go_wp2
    obtain ⟨q0, q1, q2, q3, q4⟩ := HNz.out.c5
    refine bodyPost_ret (v := .agg #[.int .i64 (P.lv : Int), .slice A j c, .string P.hi, .bool P.la, .int .u64 (P.rt : Int)]) ?_ rfl ?_
    ·simp [results, Tryz.results81, go_sem, q0, q1, q2, q3, q4]
    obtain ⟨A9, c9, he9, -, hR9, hA9⟩ := Rs.own HO5.out
    cases he9
    exact ⟨A, c, by rw [HN0.out], hR9, fun a ha => by have := hA9 a ha; have := HGW.out; omega, HKz.out⟩
end
end Go.Proofs.YtjnodgebpklaoaaGreat
