/-
  What Sound of a view answers for a planted tree. Condition: the kit's small configurations.
-/
import Derived.Test.YtndadgenkmgmaaaGreatLkSndB
import Derived.Test.YtndadgenkmgmaaaGreatLkSndC
namespace Go.Proofs.YtndadgenkmgmaaaGreat
open Go.RowKit Go.Deep Plain
set_option linter.unusedVariables false

theorem infoStr : (Tryz.prog.info? 9).map (fun i => (i.zero, i.size, i.bytes)) = some (some (.string ByteArray.empty), 1, 16) := by kernel_rfl
theorem pfield2 (lv : Int) (A : Option Addr) (n c : Nat) (hi : ByteArray) (la : Bool) (rt : Int) (w : World) : (Instr.field 46 (.agg #[.int .i64 lv, .slice A n c, .string hi, .bool la, .int .u64 rt]) 2).run Tryz.prog w = .ok (.string hi) w := by kernel_rfl
theorem pfield3 (lv : Int) (A : Option Addr) (n c : Nat) (hi : ByteArray) (la : Bool) (rt : Int) (w : World) : (Instr.field 46 (.agg #[.int .i64 lv, .slice A n c, .string hi, .bool la, .int .u64 rt]) 3).run Tryz.prog w = .ok (.bool la) w := by kernel_rfl
/-- The low keys of the first j nodes of a level. -/
def lows0 (lo : Nat → ByteArray) (j : Nat) : List ByteArray := (List.range j).map lo
def strv (ks : List ByteArray) : List Value := ks.map fun k => Value.string k
theorem lows0_step (lo : Nat → ByteArray) (j : Nat) : strv (lows0 lo (j + 1)) = strv (lows0 lo j) ++ [.string (lo j)] := by
  unfold lows0 strv; rw [List.range_succ, List.map_append, List.map_append]; rfl
theorem lows0_at (lo : Nat → ByteArray) {i j : Nat} (h : i < j) : (strv (lows0 lo j))[i]? = some (.string (lo i)) := by
  unfold lows0 strv; rw [List.getElem?_map, List.getElem?_map, List.getElem?_range h]; rfl
theorem strs_slice {w : World} {base n : Nat} {v : Value} {xs : List Value} (h : w.ownsRow base 9 1 v n xs) : ∃ A c, v = .slice A n c := by
  rcases h.2 with ⟨rfl, rfl⟩ | ⟨g, cap, cur, rfl, _⟩
  · exact ⟨none, 0, rfl⟩
  · exact ⟨_, cap, rfl⟩
set_option maxRecDepth 100000 in
set_option maxHeartbeats 8000000 in
theorem vsound_all (F : Nat) (h4 : 4 ≤ F) (h6 : F ≤ 6) (g n : Nat) (l : List Cel) (hl : l.length = n) (H : Nat) (st mm : Nat → Nat) (lo : Nat → Nat → ByteArray) (pg : Nat → Nat → Pg) (T : Tr F l H st mm lo pg) (ks : List ByteArray) (off : Nat → Nat) (hlv : Leaves ks (mm 0) (lo 0) (pg 0) off) (hz : ∀ m, 1 ≤ m → m ≤ 100 → cellAt l (nla F m) = cel0) (hhi : ∀ L', L' < H → ∀ i, i < mm L' → ∀ x ∈ (pg L' i).xs, cov (pg L' i) x.1 = true) (hr : Rest F ks.length l) (hk40 : ks.length ≤ 100) (w : World) (hv : Blk w g 56 (flat3 l)) :
    Calls Tryz.prog 38 #[.agg #[.int .i64 1, .int .i64 2, .int .i64 100, .int .i64 100, .int .i64 200, .int .i64 (F : Int), .int .u64 1000, .slice (some ⟨g, 0, none⟩) n n]] w fun e w' => e = .returned (.bool true) ∧ Kept (fun _ => False) w w' := by
  have HZ := Lib.hid hz
  have HHI := Lib.hid hhi
  have HLV := Lib.hid hlv
  have HRE := Lib.hid hr
  have hH1 := T.H1
  have hH100 := T.H100
  have h0 : 0 < H := by omega
  obtain ⟨top, htop⟩ : ∃ top, st (H - 1) = top := ⟨_, rfl⟩
  have HRT := Lib.hid (show cellAt l 0 = ((top : Int), (⟨#[]⟩ : ByteArray), (0 : Int)) from by rw [← htop]; exact T.root)
  have HTOT := Lib.hid (show cellAt l 4 = ((top : Int), (⟨#[]⟩ : ByteArray), (0 : Int)) from by rw [← htop]; exact T.tot)
  have htb : 1 ≤ top ∧ top ≤ 100 := by rw [← htop]; have := T.all (L := H - 1) (i := 0) (by omega) (by have := T.one; omega); omega
  have HTOP := Lib.hid htop
  clear hz hhi hlv hr htop
  obtain ⟨i0, hi0, hz0, hz1, hz2⟩ := info_parts infoStr
  have HI0 := Lib.hid hi0
  have HI1 := Lib.hid hz0
  have HI2 := Lib.hid hz1
  have HI3 := Lib.hid hz2
  clear hi0 hz0 hz1 hz2
  have HV0 := Lib.hid hv
  clear hv
  go_enter Tryz.func38, Tryz.ntmps38
  go_upto_region 1 with fail
  have hal := (Kept.refl (fun _ => False) w).alloc (.cells #[.int .i64 1, .int .i64 2, .int .i64 100, .int .i64 100, .int .i64 200, .int .i64 (F : Int), .int .u64 1000, .slice (some ⟨g, 0, none⟩) n n] 38)
  have HB := Lib.hid (Blk.new w [.int .i64 1, .int .i64 2, .int .i64 100, .int .i64 100, .int .i64 200, .int .i64 (F : Int), .int .u64 1000, .slice (some ⟨g, 0, none⟩) n n] 38)
  have HV := Lib.hid (hal.blk HV0.out (fun h => h))
  have HK := Lib.hid hal
  clear hal
  generalize w.alloc (.cells #[.int .i64 1, .int .i64 2, .int .i64 100, .int .i64 100, .int .i64 200, .int .i64 (F : Int), .int .u64 1000, .slice (some ⟨g, 0, none⟩) n n] 38) = W at *
  generalize hr0 : w.heap.size = r0 at *
  have HR0 := Lib.hid hr0
  clear hr0
  have f0 := field0 (top : Int) 0 ⟨#[]⟩
  refine qregion (fun w' => Kept (fun _ => False) W w') (by kernel_rfl) (by kernel_rfl) (Kept.refl _ _).drew ?_
  refine qstep (o := ⟨some 10, _, _, _, _, _⟩) (v := ?_) (by rfl) (fun wq hSw => ?_) ?_
  rotate_left
  · (have hb9 := hSw.blk HB.out (fun h => h); have x0 := hb9.cell (i := 0) rfl; have x1 := hb9.cell (i := 1) rfl; have x2 := hb9.cell (i := 2) rfl; have x3 := hb9.cell (i := 3) rfl; have x4 := hb9.cell (i := 4) rfl; have x5 := hb9.cell (i := 5) rfl; have x6 := hb9.cell (i := 6) rfl; have x7 := hb9.cell (i := 7) rfl; clear hb9; go_simp; try with_reducible rfl)
  try simp only [Act.put, List.setIfInBounds_toArray, List.set_cons_zero, List.set_cons_succ]
  refine qstep (o := ⟨some 11, _, _, _, _, _⟩) (v := ?_) (by rfl) (fun wq hSw => ?_) ?_
  rotate_left
  · (have hb9 := hSw.blk HB.out (fun h => h); have x0 := hb9.cell (i := 0) rfl; have x1 := hb9.cell (i := 1) rfl; have x2 := hb9.cell (i := 2) rfl; have x3 := hb9.cell (i := 3) rfl; have x4 := hb9.cell (i := 4) rfl; have x5 := hb9.cell (i := 5) rfl; have x6 := hb9.cell (i := 6) rfl; have x7 := hb9.cell (i := 7) rfl; clear hb9; go_simp; try with_reducible rfl)
  try simp only [Act.put, List.setIfInBounds_toArray, List.set_cons_zero, List.set_cons_succ]
  refine qcall (o := ⟨some 12, _, _, _, _, _⟩) (v := .agg #[.int .u64 (top : Int), .string ⟨#[]⟩, .int .u64 0]) (by rfl) (fun wq hSw => ?_) (fun wq hSw => Calls.mono (vat_any F h4 h6 g n l hl 0 (top : Int) 0 ⟨#[]⟩ _ (hSw.blk HV.out (fun h => h)) HRT.out) ?_) ?_
  · (go_simp; try with_reducible rfl)
  · rintro e w9 ⟨rfl, hk⟩; exact ⟨rfl, hSw.trans hk (fun _ _ h => h)⟩
  try simp only [Act.put, List.setIfInBounds_toArray, List.set_cons_zero, List.set_cons_succ]
  refine qstep (o := ⟨some 13, _, _, _, _, _⟩) (v := ?_) (by rfl) (fun wq hSw => ?_) ?_
  rotate_left
  · (go_simp; try with_reducible rfl)
  try simp only [Act.put, List.setIfInBounds_toArray, List.set_cons_zero, List.set_cons_succ]
  refine qcall (o := ⟨some 14, _, _, _, _, _⟩) (v := .bool true) (by rfl) (fun wq hSw => ?_) (fun wq hSw => Calls.mono (vnode_in F h4 h6 g n l hl top top 0 ⟨#[]⟩ (by omega) (by omega) (Nat.le_refl _) _ (hSw.blk HV.out (fun h => h)) HTOT.out) ?_) ?_
  · (go_simp; try with_reducible rfl)
  · rintro e w9 ⟨rfl, hk⟩; exact ⟨rfl, hSw.trans hk (fun _ _ h => h)⟩
  try simp only [Act.put, List.setIfInBounds_toArray, List.set_cons_zero, List.set_cons_succ]
  refine qstep (o := ⟨some 15, _, _, _, _, _⟩) (v := .bool false) (by rfl) (fun wq hSw => ?_) ?_
  · (go_simp; try first | (with_reducible rfl) | (simp; omega) | (intros; omega) | simp [*])
  try simp only [Act.put, List.setIfInBounds_toArray, List.set_cons_zero, List.set_cons_succ]
  refine qstep (o := ⟨some 16, _, _, _, _, _⟩) (v := .bool false) (by rfl) (fun wq hSw => ?_) ?_
  · (go_simp; try first | (with_reducible rfl) | (simp; omega) | (intros; omega) | simp [*])
  try simp only [Act.put, List.setIfInBounds_toArray, List.set_cons_zero, List.set_cons_succ]
  refine qstep (o := ⟨some 17, _, _, _, _, _⟩) (v := ?_) (by rfl) (fun wq hSw => ?_) ?_
  rotate_left
  · (have hb9 := hSw.blk HB.out (fun h => h); have x0 := hb9.cell (i := 0) rfl; have x1 := hb9.cell (i := 1) rfl; have x2 := hb9.cell (i := 2) rfl; have x3 := hb9.cell (i := 3) rfl; have x4 := hb9.cell (i := 4) rfl; have x5 := hb9.cell (i := 5) rfl; have x6 := hb9.cell (i := 6) rfl; have x7 := hb9.cell (i := 7) rfl; clear hb9; go_simp; try with_reducible rfl)
  try simp only [Act.put, List.setIfInBounds_toArray, List.set_cons_zero, List.set_cons_succ]
  refine qcall (o := ⟨some 18, _, _, _, _, _⟩) (v := .bool true) (by rfl) (fun wq hSw => ?_) (fun wq hSw => Calls.mono (vcounters_any F h4 h6 g n l hl top ks.length HTOT.out (by omega) HRE.out hk40 _ (hSw.blk HV.out (fun h => h))) ?_) ?_
  · (go_simp; try with_reducible rfl)
  · rintro e w9 ⟨rfl, hk⟩; exact ⟨rfl, hSw.trans hk (fun _ _ h => h)⟩
  try simp only [Act.put, List.setIfInBounds_toArray, List.set_cons_zero, List.set_cons_succ]
  refine qstep (o := ⟨some 19, _, _, _, _, _⟩) (v := .bool false) (by rfl) (fun wq hSw => ?_) ?_
  · (go_simp; try first | (with_reducible rfl) | (simp; omega) | (intros; omega) | simp [*])
  try simp only [Act.put, List.setIfInBounds_toArray, List.set_cons_zero, List.set_cons_succ]
  refine qstep (o := ⟨some 20, _, _, _, _, _⟩) (v := .bool false) (by rfl) (fun wq hSw => ?_) ?_
  · (go_simp; try first | (with_reducible rfl) | (simp; omega) | (intros; omega) | simp [*])
  try simp only [Act.put, List.setIfInBounds_toArray, List.set_cons_zero, List.set_cons_succ]
  refine qstep (o := ⟨some 21, _, _, _, _, _⟩) (v := .bool false) (by rfl) (fun wq hSw => ?_) ?_
  · (go_simp; try first | (with_reducible rfl) | (simp; omega) | (intros; omega) | simp [*])
  try simp only [Act.put, List.setIfInBounds_toArray, List.set_cons_zero, List.set_cons_succ]
  refine qstep (o := ⟨some 22, _, _, _, _, _⟩) (v := ?_) (by rfl) (fun wq hSw => ?_) ?_
  rotate_left
  · (have hb9 := hSw.blk HB.out (fun h => h); have x0 := hb9.cell (i := 0) rfl; have x1 := hb9.cell (i := 1) rfl; have x2 := hb9.cell (i := 2) rfl; have x3 := hb9.cell (i := 3) rfl; have x4 := hb9.cell (i := 4) rfl; have x5 := hb9.cell (i := 5) rfl; have x6 := hb9.cell (i := 6) rfl; have x7 := hb9.cell (i := 7) rfl; clear hb9; go_simp; try with_reducible rfl)
  try simp only [Act.put, List.setIfInBounds_toArray, List.set_cons_zero, List.set_cons_succ]
  refine qcall (o := ⟨some 23, _, _, _, _, _⟩) (v := .bool true) (by rfl) (fun wq hSw => ?_) (fun wq hSw => Calls.mono (vchains_any F h4 h6 g n l hl H st mm lo pg T h0 ks off HLV.out hk40 HRE.out _ (hSw.blk HV.out (fun h => h))) ?_) ?_
  · (go_simp; try with_reducible rfl)
  · rintro e w9 ⟨rfl, hk⟩; exact ⟨rfl, hSw.trans hk (fun _ _ h => h)⟩
  try simp only [Act.put, List.setIfInBounds_toArray, List.set_cons_zero, List.set_cons_succ]
  refine qstep (o := ⟨some 24, _, _, _, _, _⟩) (v := .bool false) (by rfl) (fun wq hSw => ?_) ?_
  · (go_simp; try first | (with_reducible rfl) | (simp; omega) | (intros; omega) | simp [*])
  try simp only [Act.put, List.setIfInBounds_toArray, List.set_cons_zero, List.set_cons_succ]
  refine qstep (o := ⟨some 25, _, _, _, _, _⟩) (v := .bool false) (by rfl) (fun wq hSw => ?_) ?_
  · (go_simp; try first | (with_reducible rfl) | (simp; omega) | (intros; omega) | simp [*])
  try simp only [Act.put, List.setIfInBounds_toArray, List.set_cons_zero, List.set_cons_succ]
  refine wpQuiet_nil ?_
  intro wz hHeld
  have HB1 := Lib.hid (hHeld.blk HB.out (fun h => h))
  have HV1 := Lib.hid (hHeld.blk HV.out (fun h => h))
  have HK := Lib.hid (HK.out.trans hHeld (fun _ _ h => h))
  clear hHeld HB HV f0
  rename World => V1
  go_wp2_with fail
  go_loopw [3, 4, 5] (fun bv wv lvv wr => ∃ lv : Nat, lv ≤ H ∧ lvv = .int .i64 (lv : Int) ∧ ((lv = 0 ∧ bv = .slice none 0 0 ∧ wv = .slice none 0 0 ∧ Kept (fun _ => False) V1 wr) ∨ ∃ (L1 mB gB oB cB gW oW cW : Nat), lv = L1 + 1 ∧ mm L1 = mB ∧ bv = .slice (some ⟨gB, oB, none⟩) mB cB ∧ wv = .slice (some ⟨gW, oW, none⟩) mB cW ∧ gB < wr.heap.size ∧ (∀ k, k < mB → wr.cell? ⟨gB, oB + k, none⟩ = some (.int .u64 ((st L1 + k : Nat) : Int))) ∧ gW < wr.heap.size ∧ (∀ k, k < mB → wr.cell? ⟨gW, oW + k, none⟩ = some (.string (lo L1 k))) ∧ Kept (fun _ => False) V1 wr)) (fun _ _ lvv _ => H - (intOf lvv).toNat)
  case atStart => exact ⟨0, Nat.zero_le _, rfl, .inl ⟨rfl, rfl, rfl, Kept.refl _ _⟩⟩
  case round =>
    rename World => V2
    obtain ⟨lv, hlvH, rfl, hrel⟩ := hrel
    have hH : ((pg (H - 1) 0).lv : Int) + 1 = (H : Int) := by have := (T.lev (H - 1) (by omega)).lv 0 (by have := T.one; omega); omega
    have hnd0 := (T.lev (H - 1) (by omega)).nd 0 (by have := T.one; omega)
    have HND := Lib.hid (show Nd F l top (pg (H - 1) 0) from by rw [← HTOP.out]; exact hnd0)
    have hKV : Kept (fun _ => False) V1 V2 := by
      rcases hrel with ⟨-, -, -, h⟩ | ⟨_, _, _, _, _, _, _, _, -, -, -, -, -, -, -, -, h⟩
      · exact h
      · exact h
    have HREL := Lib.hid hrel
    have hbox := hKV.blk HB1.out (fun h => h)
    have x0 := hbox.cell (i := 0) rfl
    have x1 := hbox.cell (i := 1) rfl
    have x2 := hbox.cell (i := 2) rfl
    have x3 := hbox.cell (i := 3) rfl
    have x4 := hbox.cell (i := 4) rfl
    have x5 := hbox.cell (i := 5) rfl
    have x6 := hbox.cell (i := 6) rfl
    have x7 := hbox.cell (i := 7) rfl
    have HBr := Lib.hid hbox
    have HVr := Lib.hid (hKV.blk HV1.out (fun h => h))
    have HHG := Lib.hid (show Calls Tryz.prog 13 #[.agg #[.int .i64 1, .int .i64 2, .int .i64 100, .int .i64 100, .int .i64 200, .int .i64 (F : Int), .int .u64 1000, .slice (some ⟨g, 0, none⟩) n n]] V2 fun e w' => e = .returned (.int .i64 (H : Int)) ∧ Kept (fun _ => False) V2 w' from by
      have := height_any F h4 h6 g n l hl top 0 ⟨#[]⟩ htb.1 htb.2 (pg (H - 1) 0) HND.out.holds HND.out.wf HND.out.len (by omega) V2 HVr.out HRT.out
      rw [hH] at this
      exact this)
    have HKV := Lib.hid hKV
    clear hrel hbox hKV hnd0 hH
    by_cases hlv : lv < H
    · have hlvI : (lv : Int) < (H : Int) := by omega
      have hmp := (T.lev lv hlv).pos
      have hmt := (T.lev lv hlv).top
      go_wp2_with fail
      refine HHG.out.mono ?_; rintro e w2 ⟨rfl, hK2⟩
      have HK1 := Lib.hid hK2
      replace HBr := Lib.hid (hK2.blk HBr.out (fun h => h))
      replace HVr := Lib.hid (hK2.blk HVr.out (fun h => h))
      clear hK2 x0 x1 x2 x3 x4 x5 x6 x7 HHG
      have hbox := HBr.out
      have x0 := hbox.cell (i := 0) rfl
      have x1 := hbox.cell (i := 1) rfl
      have x2 := hbox.cell (i := 2) rfl
      have x3 := hbox.cell (i := 3) rfl
      have x4 := hbox.cell (i := 4) rfl
      have x5 := hbox.cell (i := 5) rfl
      have x6 := hbox.cell (i := 6) rfl
      have x7 := hbox.cell (i := 7) rfl
      clear hbox
      go_wp2_with fail
      refine (vlevel_in F h4 h6 g n l hl H st mm lo pg T lv hlv _ HVr.out).mono ?_; rintro e V3 ⟨AL, cL, rfl, hAL, hK9⟩
      obtain ⟨gL, oL, rfl, hgL, -, hcL⟩ := hAL (by omega)
      replace HBr := Lib.hid (hK9.blk HBr.out (fun h => h))
      replace HVr := Lib.hid (hK9.blk HVr.out (fun h => h))
      have HK2 := Lib.hid (HK1.out.trans hK9 (fun _ _ h => h))
      clear hK9 hAL HK1 x0 x1 x2 x3 x4 x5 x6 x7
      replace HK := Lib.hid (HK.out.trans HKV.out (fun _ _ h => h))
      rcases HREL.out with ⟨hl0, rfl, rfl, -⟩ | ⟨L1, mB, gB, oB, cB, gW, oW, cW, hle, hmB, rfl, rfl, hgB, hbc, hgW, hwc, -⟩
      · clear HREL
        have HL0 := Lib.hid hl0
        clear hl0
        have HIL := Lib.hid (show mm lv - 1 < mm lv by omega)
        obtain ⟨m1, hm1⟩ : ∃ m1, mm lv - 1 = m1 := ⟨_, rfl⟩
        obtain ⟨nid0, hnid0⟩ : ∃ nid0, st lv + (mm lv - 1) = nid0 := ⟨_, rfl⟩
        obtain ⟨hi3, hhi3⟩ : ∃ x, (pg lv (mm lv - 1)).hi = x := ⟨_, rfl⟩
        have hla0 : (pg lv (mm lv - 1)).la = true := ((T.lev lv hlv).last (mm lv - 1) (by omega)).1
        obtain ⟨la3, hla3⟩ : ∃ x, (pg lv (mm lv - 1)).la = x := ⟨_, rfl⟩
        have hl3 : la3 = true := by rw [← hla3]; exact hla0
        have HHI3 := Lib.hid hhi3
        have HLA3 := Lib.hid hla3
        have HNI := Lib.hid hnid0
        have HPAGE := Lib.hid (show ∀ W', Kept (fun _ => False) V3 W' → Calls Tryz.prog 18 #[.agg #[.int .i64 1, .int .i64 2, .int .i64 100, .int .i64 100, .int .i64 200, .int .i64 (F : Int), .int .u64 1000, .slice (some ⟨g, 0, none⟩) n n], .int .u64 (nid0 : Int)] W' fun e w' => ∃ (A : Option Addr) (c n3 rt3 : Nat), e = .returned (.agg #[.int .i64 (lv : Int), .slice A n3 c, .string hi3, .bool la3, .int .u64 (rt3 : Int)]) ∧ Kept (fun _ => False) W' w' from fun W' hW => by
          refine (tpage_any F h4 h6 g n l hl H st mm lo pg T lv (mm lv - 1) nid0 hlv HIL.out HNI.out.symm lv rfl W' (hW.blk HVr.out (fun h => h))).mono ?_
          rintro e w' ⟨A, c, rfl, -, -, hk⟩
          rw [HHI3.out, HLA3.out]
          exact ⟨A, c, _, _, rfl, hk⟩)
        obtain ⟨m, hm⟩ : ∃ m, mm lv = m := ⟨_, rfl⟩
        rw [hm] at hcL hmp hmt
        rw [hm]
        have HMM := Lib.hid hm
        have HCLA := Lib.hid (show ∀ i, i < m → V3.cell? ⟨gL, oL + i, none⟩ = some (.int .u64 ((st lv + i : Nat) : Int)) from fun i hi => hcL i _ (ids_at hi))
        have hcl1 := HCLA.out m1 (by rw [← hm1, hm]; omega)
        have hnid1 : st lv + m1 = nid0 := by rw [← hm1]; exact hnid0
        rw [hnid1] at hcl1
        have HCL := Lib.hid hcl1
        have hgLr : gL < V3.heap.size := hgL
        have hm1I : (m1 : Int) = (m : Int) - 1 := by rw [← hm1, hm]; omega
        have hm1a : IntKind.i64.wrap ((m : Int) - 1) = (m1 : Int) := by rw [IntKind.wrap_i64]; omega
        have hm1b : (m1 : Int) < (m : Int) := by omega
        have hm0 : ((m : Int) == 0) = false := by simp; omega
        subst hl3
        have HM1 := Lib.hid hm1I
        clear hcL hcl1 hnid0 hnid1 hhi3 hla0 hla3 hm hm1 hm1I
        go_upto_region 9 with fail
        refine wp_region_held_drew (S := (fun w' => Kept (fun _ => False) V3 w')) (by kernel_rfl) ?_ (fun hHeld => ?_)
        · exact (Kept.refl _ _).drew
        have HW := Lib.hid ((Kept.refl (fun _ => False) V3).drew)
        generalize V3.drew = G at *
        refine wpAnyH_take (i := 0) (oi := ⟨some 35, _, _, _, _, _⟩) (v := ?_) rfl (by kernel_rfl) (by kernel_rfl) (by kernel_rfl) (fun _ _ _ h => h) (Or.inl ⟨by rfl, ?_⟩) hHeld ?_
        rotate_left
        · (intro wq hSw; go_simp; try with_reducible rfl)
        try simp only [Act.put, List.setIfInBounds_toArray, List.set_cons_zero, List.set_cons_succ]
        refine wpAnyH_take (i := 1) (oi := ⟨some 36, _, _, _, _, _⟩) (v := ?_) rfl (by kernel_rfl) (by kernel_rfl) (by kernel_rfl) (fun _ _ _ h => h) (Or.inl ⟨by rfl, ?_⟩) hHeld ?_
        rotate_left
        · (intro wq hSw; go_simp; try with_reducible rfl)
        try simp only [Act.put, List.setIfInBounds_toArray, List.set_cons_zero, List.set_cons_succ]
        refine wpAnyH_take (i := 2) (oi := ⟨some 37, _, _, _, _, _⟩) (v := .bool false) rfl (by kernel_rfl) (by kernel_rfl) (by kernel_rfl) (fun _ _ _ h => h) (Or.inl ⟨by rfl, ?_⟩) hHeld ?_
        · (intro wq hSw; go_simp; try first | (with_reducible rfl) | (simp; omega) | (intros; omega) | simp [*])
        try simp only [Act.put, List.setIfInBounds_toArray, List.set_cons_zero, List.set_cons_succ]
        refine wpAnyH_take (i := 3) (oi := ⟨some 38, _, _, _, _, _⟩) (v := .bool false) rfl (by kernel_rfl) (by kernel_rfl) (by kernel_rfl) (fun _ _ _ h => h) (Or.inl ⟨by rfl, ?_⟩) hHeld ?_
        · (intro wq hSw; go_simp; try first | (with_reducible rfl) | (simp; omega) | (intros; omega) | simp [*])
        try simp only [Act.put, List.setIfInBounds_toArray, List.set_cons_zero, List.set_cons_succ]
        refine wpAnyH_take (i := 4) (oi := ⟨some 39, _, _, _, _, _⟩) (v := ?_) rfl (by kernel_rfl) (by kernel_rfl) (by kernel_rfl) (fun _ _ _ h => h) (Or.inl ⟨by rfl, ?_⟩) hHeld ?_
        rotate_left
        · (intro wq hSw; have hb9 := hSw.blk HBr.out (fun h => h); have x0 := hb9.cell (i := 0) rfl; have x1 := hb9.cell (i := 1) rfl; have x2 := hb9.cell (i := 2) rfl; have x3 := hb9.cell (i := 3) rfl; have x4 := hb9.cell (i := 4) rfl; have x5 := hb9.cell (i := 5) rfl; have x6 := hb9.cell (i := 6) rfl; have x7 := hb9.cell (i := 7) rfl; clear hb9; have hc9 := (hSw.cell (p := ⟨gL, oL + m1, none⟩) hgLr (fun h => h)).trans HCL.out; go_simp; try with_reducible rfl)
        try simp only [Act.put, List.setIfInBounds_toArray, List.set_cons_zero, List.set_cons_succ]
        refine wpAnyH_take (i := 5) (oi := ⟨some 40, _, _, _, _, _⟩) (v := ?_) rfl (by kernel_rfl) (by kernel_rfl) (by kernel_rfl) (fun _ _ _ h => h) (Or.inl ⟨by rfl, ?_⟩) hHeld ?_
        rotate_left
        · (intro wq hSw; go_simp; try with_reducible rfl)
        try simp only [Act.put, List.setIfInBounds_toArray, List.set_cons_zero, List.set_cons_succ]
        refine wpAnyH_take (i := 6) (oi := ⟨some 41, _, _, _, _, _⟩) (v := ?_) rfl (by kernel_rfl) (by kernel_rfl) (by kernel_rfl) (fun _ _ _ h => h) (Or.inl ⟨by rfl, ?_⟩) hHeld ?_
        rotate_left
        · (intro wq hSw; go_simp; try with_reducible rfl)
        try simp only [Act.put, List.setIfInBounds_toArray, List.set_cons_zero, List.set_cons_succ]
        refine wpAnyH_take (i := 7) (oi := ⟨some 42, _, _, _, _, _⟩) (v := ?_) rfl (by kernel_rfl) (by kernel_rfl) (by kernel_rfl) (fun _ _ _ h => h) (Or.inl ⟨by rfl, ?_⟩) hHeld ?_
        rotate_left
        · (intro wq hSw; go_simp; try with_reducible rfl)
        try simp only [Act.put, List.setIfInBounds_toArray, List.set_cons_zero, List.set_cons_succ]
        refine wpAnyH_take (i := 8) (oi := ⟨some 43, _, _, _, _, _⟩) (v := .int .i64 (m1 : Int)) rfl (by kernel_rfl) (by kernel_rfl) (by kernel_rfl) (fun _ _ _ h => h) (Or.inl ⟨by rfl, ?_⟩) hHeld ?_
        · (intro wq hSw; go_simp; try first | (with_reducible rfl) | (simp; omega) | (intros; omega) | simp [*])
        try simp only [Act.put, List.setIfInBounds_toArray, List.set_cons_zero, List.set_cons_succ]
        refine wpAnyH_take (i := 9) (oi := ⟨some 44, _, _, _, _, _⟩) (v := ?_) rfl (by kernel_rfl) (by kernel_rfl) (by kernel_rfl) (fun _ _ _ h => h) (Or.inl ⟨by rfl, ?_⟩) hHeld ?_
        rotate_left
        · (intro wq hSw; go_simp; try with_reducible rfl)
        try simp only [Act.put, List.setIfInBounds_toArray, List.set_cons_zero, List.set_cons_succ]
        refine wpAnyH_take (i := 10) (oi := ⟨some 45, _, _, _, _, _⟩) (v := ?_) rfl (by kernel_rfl) (by kernel_rfl) (by kernel_rfl) (fun _ _ _ h => h) (Or.inl ⟨by rfl, ?_⟩) hHeld ?_
        rotate_left
        · (intro wq hSw; have hb9 := hSw.blk HBr.out (fun h => h); have x0 := hb9.cell (i := 0) rfl; have x1 := hb9.cell (i := 1) rfl; have x2 := hb9.cell (i := 2) rfl; have x3 := hb9.cell (i := 3) rfl; have x4 := hb9.cell (i := 4) rfl; have x5 := hb9.cell (i := 5) rfl; have x6 := hb9.cell (i := 6) rfl; have x7 := hb9.cell (i := 7) rfl; clear hb9; have hc9 := (hSw.cell (p := ⟨gL, oL + m1, none⟩) hgLr (fun h => h)).trans HCL.out; go_simp; try with_reducible rfl)
        try simp only [Act.put, List.setIfInBounds_toArray, List.set_cons_zero, List.set_cons_succ]
        refine wpAnyH_ready (rs := [11]) (by kernel_rfl) (by simp) ?_
        refine AllReadyH.cons (o := ⟨some 46, _, _, _, _, _⟩) rfl (fun KK hK => ?_) (AllReadyH.nil)
        go_simp
        go_at_call 18
        refine (HPAGE.out _ HW.out).mono ?_; rintro e G ⟨A3, c3, n3, rt3, rfl, hK3⟩
        replace HW := Lib.hid (HW.out.trans hK3 (fun _ _ h => h))
        have hpf := pfield3 (lv : Int) A3 n3 c3 hi3 true (rt3 : Int)
        clear hK3
        refine hK.out _ _ ?_ (fun hHeld2 => ?_)
        · exact HW.out
        clear hK KK hHeld
        have hHeld := hHeld2
        clear hHeld2
        try simp only [Act.put, List.setIfInBounds_toArray, List.set_cons_zero, List.set_cons_succ]
        refine wpAnyH_take (i := 12) (oi := ⟨some 47, _, _, _, _, _⟩) (v := .bool true) rfl (by kernel_rfl) (by kernel_rfl) (by kernel_rfl) (fun _ _ _ h => h) (Or.inl ⟨by rfl, ?_⟩) hHeld ?_
        · (intro wq hSw; go_simp; try first | (with_reducible rfl) | (simp; omega) | (intros; omega) | simp [*])
        try simp only [Act.put, List.setIfInBounds_toArray, List.set_cons_zero, List.set_cons_succ]
        refine wpAnyH_take (i := 13) (oi := ⟨some 48, _, _, _, _, _⟩) (v := .bool false) rfl (by kernel_rfl) (by kernel_rfl) (by kernel_rfl) (fun _ _ _ h => h) (Or.inl ⟨by rfl, ?_⟩) hHeld ?_
        · (intro wq hSw; go_simp; try first | (with_reducible rfl) | (simp; omega) | (intros; omega) | simp [*])
        try simp only [Act.put, List.setIfInBounds_toArray, List.set_cons_zero, List.set_cons_succ]
        refine wpAnyH_take (i := 14) (oi := ⟨some 49, _, _, _, _, _⟩) (v := .bool false) rfl (by kernel_rfl) (by kernel_rfl) (by kernel_rfl) (fun _ _ _ h => h) (Or.inl ⟨by rfl, ?_⟩) hHeld ?_
        · (intro wq hSw; go_simp; try first | (with_reducible rfl) | (simp; omega) | (intros; omega) | simp [*])
        try simp only [Act.put, List.setIfInBounds_toArray, List.set_cons_zero, List.set_cons_succ]
        refine wpAnyH_done (by kernel_rfl) ?_ _
        clear hHeld
        replace HBr := Lib.hid (HW.out.blk HBr.out (fun h => h))
        replace HVr := Lib.hid (HW.out.blk HVr.out (fun h => h))
        have HKa := Lib.hid (HK2.out.trans HW.out (fun _ _ h => h))
        have HKl := Lib.hid HW.out
        clear HW HPAGE HCL hm1a hm1b hm0 HK2
        rename World => V4
        go_wp2_with fail
        go_loopw [7, 8, 9] (fun ov lv8 iv wr => ∃ (i : Nat) (lw : ByteArray), i ≤ m ∧ iv = .int .i64 (i : Int) ∧ lv8 = .string lw ∧ (i < m → lw = lo lv i) ∧ slLen ov = i ∧ wr.ownsRow V4.heap.size 9 1 ov i (strv (lows0 (lo lv) i)) ∧ Below V4.heap.size V4 wr) (fun _ _ iv _ => m - (intOf iv).toNat)
        case atStart => exact ⟨0, ⟨#[]⟩, Nat.zero_le _, rfl, rfl, fun _ => (T.lev lv hlv).low0.symm, rfl, World.ownsRow_nil _ _ _ _, Below.refl _ _⟩
        case round =>
          rename World => V5
          obtain ⟨i, lw, hi1, rfl, rfl, hlw, hsl, hO, hBl⟩ := hrel
          have HO := Lib.hid hO
          have HBl := Lib.hid hBl
          have hz5 := hBl.size
          obtain ⟨A0, c0, rfl⟩ := strs_slice hO
          have hK45 := Below.kept hBl (S := fun _ => False) (fun i hi h => by omega)
          have HB5 := Lib.hid (hK45.blk HBr.out (fun h => h))
          have HV5 := Lib.hid (hK45.blk HVr.out (fun h => h))
          have HK5w := Lib.hid (HKa.out.trans hK45 (fun _ _ h => h))
          have hgL4 : gL < V4.heap.size := Nat.lt_of_lt_of_le hgL HKl.out.size
          clear hO hBl hsl
          by_cases him1 : i < m
          · have him : i < mm lv := by rw [HMM.out]; exact him1
            have himI : (i : Int) < (m : Int) := by omega
            obtain ⟨nid, hnid⟩ : ∃ nid, st lv + i = nid := ⟨_, rfl⟩
            have hlwe := hlw him1
            have hcl := HCLA.out i him1
            rw [hnid] at hcl
            have HCLb := Lib.hid ((HKl.out.cell (p := ⟨gL, oL + i, none⟩) hgL (fun h => h)).trans hcl)
            have HCL5 := Lib.hid ((hK45.cell (p := ⟨gL, oL + i, none⟩) hgL4 (fun h => h)).trans HCLb.out)
            have hgL5 : gL < V5.heap.size := by omega
            have HNI := Lib.hid hnid
            subst hlwe
            obtain ⟨lw, hlwq⟩ : ∃ lw, lo lv i = lw := ⟨_, rfl⟩
            have HLWQ := Lib.hid hlwq
            clear hK45 hcl hnid hlw hlwq
            go_upto_region 16 with fail
            refine qregion (fun w' => Kept (fun _ => False) V5 w') (by kernel_rfl) (by kernel_rfl) (Kept.refl _ _).drew ?_
            refine qstep (o := ⟨some 56, _, _, _, _, _⟩) (v := ?_) (by rfl) (fun wq hSw => ?_) ?_
            rotate_left
            · (have hb9 := hSw.blk HB5.out (fun h => h); have x0 := hb9.cell (i := 0) rfl; have x1 := hb9.cell (i := 1) rfl; have x2 := hb9.cell (i := 2) rfl; have x3 := hb9.cell (i := 3) rfl; have x4 := hb9.cell (i := 4) rfl; have x5 := hb9.cell (i := 5) rfl; have x6 := hb9.cell (i := 6) rfl; have x7 := hb9.cell (i := 7) rfl; clear hb9; have hc9 := (hSw.cell (p := ⟨gL, oL + i, none⟩) hgL5 (fun h => h)).trans HCL5.out; go_simp; try with_reducible rfl)
            try simp only [Act.put, List.setIfInBounds_toArray, List.set_cons_zero, List.set_cons_succ]
            refine qstep (o := ⟨some 57, _, _, _, _, _⟩) (v := ?_) (by rfl) (fun wq hSw => ?_) ?_
            rotate_left
            · (go_simp; try with_reducible rfl)
            try simp only [Act.put, List.setIfInBounds_toArray, List.set_cons_zero, List.set_cons_succ]
            refine qstep (o := ⟨some 58, _, _, _, _, _⟩) (v := ?_) (by rfl) (fun wq hSw => ?_) ?_
            rotate_left
            · (go_simp; try with_reducible rfl)
            try simp only [Act.put, List.setIfInBounds_toArray, List.set_cons_zero, List.set_cons_succ]
            refine qstep (o := ⟨some 59, _, _, _, _, _⟩) (v := ?_) (by rfl) (fun wq hSw => ?_) ?_
            rotate_left
            · (go_simp; try with_reducible rfl)
            try simp only [Act.put, List.setIfInBounds_toArray, List.set_cons_zero, List.set_cons_succ]
            refine qstep (o := ⟨some 60, _, _, _, _, _⟩) (v := ?_) (by rfl) (fun wq hSw => ?_) ?_
            rotate_left
            · (have hb9 := hSw.blk HB5.out (fun h => h); have x0 := hb9.cell (i := 0) rfl; have x1 := hb9.cell (i := 1) rfl; have x2 := hb9.cell (i := 2) rfl; have x3 := hb9.cell (i := 3) rfl; have x4 := hb9.cell (i := 4) rfl; have x5 := hb9.cell (i := 5) rfl; have x6 := hb9.cell (i := 6) rfl; have x7 := hb9.cell (i := 7) rfl; clear hb9; have hc9 := (hSw.cell (p := ⟨gL, oL + i, none⟩) hgL5 (fun h => h)).trans HCL5.out; go_simp; try with_reducible rfl)
            try simp only [Act.put, List.setIfInBounds_toArray, List.set_cons_zero, List.set_cons_succ]
            refine qstep (o := ⟨some 61, _, _, _, _, _⟩) (v := ?_) (by rfl) (fun wq hSw => ?_) ?_
            rotate_left
            · (go_simp; try with_reducible rfl)
            try simp only [Act.put, List.setIfInBounds_toArray, List.set_cons_zero, List.set_cons_succ]
            refine qstep (o := ⟨some 62, _, _, _, _, _⟩) (v := ?_) (by rfl) (fun wq hSw => ?_) ?_
            rotate_left
            · (go_simp; try with_reducible rfl)
            try simp only [Act.put, List.setIfInBounds_toArray, List.set_cons_zero, List.set_cons_succ]
            refine qstep (o := ⟨some 63, _, _, _, _, _⟩) (v := ?_) (by rfl) (fun wq hSw => ?_) ?_
            rotate_left
            · (go_simp; try with_reducible rfl)
            try simp only [Act.put, List.setIfInBounds_toArray, List.set_cons_zero, List.set_cons_succ]
            refine qstep (o := ⟨some 64, _, _, _, _, _⟩) (v := ?_) (by rfl) (fun wq hSw => ?_) ?_
            rotate_left
            · (go_simp; try with_reducible rfl)
            try simp only [Act.put, List.setIfInBounds_toArray, List.set_cons_zero, List.set_cons_succ]
            refine qcall (o := ⟨some 65, _, _, _, _, _⟩) (v := .bool true) (by rfl) (fun wq hSw => ?_) (fun wq hSw => Calls.mono (vsound_zero F h4 h6 g n l hl H st mm lo pg T lv HL0.out hlv ks off HLV.out HZ.out HHI.out i nid him HNI.out.symm _ (hSw.blk HV5.out (fun h => h))) ?_) ?_
            · (go_simp; try with_reducible rfl)
            · rintro e w9 ⟨rfl, hk⟩; exact ⟨rfl, hSw.trans hk (fun _ _ h => h)⟩
            try simp only [Act.put, List.setIfInBounds_toArray, List.set_cons_zero, List.set_cons_succ]
            refine qstep (o := ⟨some 66, _, _, _, _, _⟩) (v := .bool false) (by rfl) (fun wq hSw => ?_) ?_
            · (go_simp; try first | (with_reducible rfl) | (simp; omega) | (intros; omega) | simp [*])
            try simp only [Act.put, List.setIfInBounds_toArray, List.set_cons_zero, List.set_cons_succ]
            refine wpQuiet_nil ?_
            intro wz hHeld
            have hB56 := (hHeld.below (Nat.le_refl _) (fun _ h => h.elim)).mono hz5
            replace HBl := Lib.hid (HBl.out.trans hB56)
            replace HO := Lib.hid (own_kept HO.out hHeld (fun _ _ h => h))
            have HB6 := Lib.hid (hHeld.blk HB5.out (fun h => h))
            have HV6 := Lib.hid (hHeld.blk HV5.out (fun h => h))
            have hz6 : V4.heap.size ≤ wz.heap.size := Nat.le_trans hz5 hHeld.size
            clear hHeld hB56 HB5 HV5 HCL5 HK5w
            have hown := HO.out
            go_wp2_with (at_builtin; go_must (refine wpList_append_own _ rfl (.tmp 67) (.tmp 69) 22 rfl V4.heap.size 9 i0 _ 1 16 Tryz.underlying22 HI0.out HI1.out HI2.out HI3.out rfl (by decide) _ _ _ rfl (hown.alloc _) ⟨wz.heap.size, 0, none⟩ 1 1 [.string (lo lv i)] rfl rfl ?a1 ?b1 ?c1 ?d1 ?e1 ?_))
            try case a1 =>
              intro q' u hu
              match q', hu with
              | 0, hu => simp at hu; subst hu; simp [Addr.add]
              | q' + 1, hu => simp at hu
            case b1 => first | exact rfl | (intro u hu; simp at hu; subst hu; rfl)
            case c1 => unfold maxLen; omega
            case d1 => omega
            case e1 => first | omega | (simp; omega)
            intro v1 V7 hown1 hgr1 _
            have hal := (Below.refl wz.heap.size wz).alloc (Nat.le_refl _) (.cells #[.string (lo lv i)] 9)
            have hBe := Below.grown (hal.mono hz6) hgr1 (by rw [nblk_alloc]; omega) fun q hq => (hown.lt q hq).1
            have HBl7 := Lib.hid (HBl.out.trans hBe)
            have hO1 : V7.ownsRow V4.heap.size 9 1 v1 (i + 1) (strv (lows0 (lo lv) (i + 1))) := by
              rw [lows0_step]; exact hown1
            have hz7 := HBl7.out.size
            have hK47 := Below.kept HBl7.out (S := fun _ => False) (fun i hi h => by omega)
            have HB7 := Lib.hid (hK47.blk HBr.out (fun h => h))
            have HVr7 := Lib.hid (hK47.blk HVr.out (fun h => h))
            have HCL7 := Lib.hid ((hK47.cell (p := ⟨gL, oL + i, none⟩) hgL4 (fun h => h)).trans HCLb.out)
            have hgL7 : gL < V7.heap.size := by omega
            have HO7 := Lib.hid hO1
            obtain ⟨A7, c7, rfl⟩ := strs_slice hO1
            have HSL7 := Lib.hid (show slLen (.slice A7 (i + 1) c7) = i + 1 from rfl)
            obtain ⟨hi4, hhi4⟩ : ∃ x, (pg lv i).hi = x := ⟨_, rfl⟩
            have HHI4 := Lib.hid hhi4
            have HNX7 := Lib.hid (show i + 1 < m → hi4 = lo lv (i + 1) from fun h => by rw [← hhi4]; exact ((T.lev lv hlv).next i (by rw [HMM.out]; exact h)).2.2)
            have HPAGE7 := Lib.hid (show ∀ W', Kept (fun _ => False) V7 W' → Calls Tryz.prog 18 #[.agg #[.int .i64 1, .int .i64 2, .int .i64 100, .int .i64 100, .int .i64 200, .int .i64 (F : Int), .int .u64 1000, .slice (some ⟨g, 0, none⟩) n n], .int .u64 (nid : Int)] W' fun e w' => ∃ (A : Option Addr) (c n3 : Nat) (la4 : Bool) (rt3 : Nat), e = .returned (.agg #[.int .i64 (lv : Int), .slice A n3 c, .string hi4, .bool la4, .int .u64 (rt3 : Int)]) ∧ Kept (fun _ => False) W' w' from fun W' hW => by
              refine (tpage_any F h4 h6 g n l hl H st mm lo pg T lv i nid hlv him HNI.out.symm lv rfl W' (hW.blk HVr7.out (fun h => h))).mono ?_
              rintro e w' ⟨A, c, rfl, -, -, hk⟩
              rw [HHI4.out]
              exact ⟨A, c, _, _, _, rfl, hk⟩)
            clear hown1 hgr1 hal hBe hO1 hown hz6 hK47 hhi4
            go_upto_region 19 with fail
            refine wp_region_held_drew (S := (fun w' => Kept (fun _ => False) V7 w')) (by kernel_rfl) ?_ (fun hHeld => ?_)
            · exact (Kept.refl _ _).drew
            have HW := Lib.hid ((Kept.refl (fun _ => False) V7).drew)
            generalize V7.drew = G at *
            refine wpAnyH_take (i := 0) (oi := ⟨some 71, _, _, _, _, _⟩) (v := ?_) rfl (by kernel_rfl) (by kernel_rfl) (by kernel_rfl) (fun _ _ _ h => h) (Or.inl ⟨by rfl, ?_⟩) hHeld ?_
            rotate_left
            · (intro wq hSw; have hb9 := hSw.blk HB7.out (fun h => h); have x0 := hb9.cell (i := 0) rfl; have x1 := hb9.cell (i := 1) rfl; have x2 := hb9.cell (i := 2) rfl; have x3 := hb9.cell (i := 3) rfl; have x4 := hb9.cell (i := 4) rfl; have x5 := hb9.cell (i := 5) rfl; have x6 := hb9.cell (i := 6) rfl; have x7 := hb9.cell (i := 7) rfl; clear hb9; have hc9 := (hSw.cell (p := ⟨gL, oL + i, none⟩) hgL7 (fun h => h)).trans HCL7.out; go_simp; try with_reducible rfl)
            try simp only [Act.put, List.setIfInBounds_toArray, List.set_cons_zero, List.set_cons_succ]
            refine wpAnyH_take (i := 1) (oi := ⟨some 72, _, _, _, _, _⟩) (v := ?_) rfl (by kernel_rfl) (by kernel_rfl) (by kernel_rfl) (fun _ _ _ h => h) (Or.inl ⟨by rfl, ?_⟩) hHeld ?_
            rotate_left
            · (intro wq hSw; go_simp; try with_reducible rfl)
            try simp only [Act.put, List.setIfInBounds_toArray, List.set_cons_zero, List.set_cons_succ]
            refine wpAnyH_take (i := 2) (oi := ⟨some 73, _, _, _, _, _⟩) (v := ?_) rfl (by kernel_rfl) (by kernel_rfl) (by kernel_rfl) (fun _ _ _ h => h) (Or.inl ⟨by rfl, ?_⟩) hHeld ?_
            rotate_left
            · (intro wq hSw; go_simp; try with_reducible rfl)
            try simp only [Act.put, List.setIfInBounds_toArray, List.set_cons_zero, List.set_cons_succ]
            refine wpAnyH_take (i := 3) (oi := ⟨some 74, _, _, _, _, _⟩) (v := ?_) rfl (by kernel_rfl) (by kernel_rfl) (by kernel_rfl) (fun _ _ _ h => h) (Or.inl ⟨by rfl, ?_⟩) hHeld ?_
            rotate_left
            · (intro wq hSw; go_simp; try with_reducible rfl)
            try simp only [Act.put, List.setIfInBounds_toArray, List.set_cons_zero, List.set_cons_succ]
            refine wpAnyH_take (i := 4) (oi := ⟨some 75, _, _, _, _, _⟩) (v := ?_) rfl (by kernel_rfl) (by kernel_rfl) (by kernel_rfl) (fun _ _ _ h => h) (Or.inl ⟨by rfl, ?_⟩) hHeld ?_
            rotate_left
            · (intro wq hSw; have hb9 := hSw.blk HB7.out (fun h => h); have x0 := hb9.cell (i := 0) rfl; have x1 := hb9.cell (i := 1) rfl; have x2 := hb9.cell (i := 2) rfl; have x3 := hb9.cell (i := 3) rfl; have x4 := hb9.cell (i := 4) rfl; have x5 := hb9.cell (i := 5) rfl; have x6 := hb9.cell (i := 6) rfl; have x7 := hb9.cell (i := 7) rfl; clear hb9; have hc9 := (hSw.cell (p := ⟨gL, oL + i, none⟩) hgL7 (fun h => h)).trans HCL7.out; go_simp; try with_reducible rfl)
            try simp only [Act.put, List.setIfInBounds_toArray, List.set_cons_zero, List.set_cons_succ]
            refine wpAnyH_ready (rs := [5]) (by kernel_rfl) (by simp) ?_
            refine AllReadyH.cons (o := ⟨some 76, _, _, _, _, _⟩) rfl (fun KK hK => ?_) (AllReadyH.nil)
            go_simp
            go_at_call 18
            refine (HPAGE7.out _ HW.out).mono ?_; rintro e G ⟨A3, c3, n3, la4, rt3, rfl, hK3⟩
            replace HW := Lib.hid (HW.out.trans hK3 (fun _ _ h => h))
            have hpf := pfield2 (lv : Int) A3 n3 c3 hi4 la4 (rt3 : Int)
            clear hK3
            refine hK.out _ _ ?_ (fun hHeld2 => ?_)
            · exact HW.out
            clear hK KK hHeld
            have hHeld := hHeld2
            clear hHeld2
            try simp only [Act.put, List.setIfInBounds_toArray, List.set_cons_zero, List.set_cons_succ]
            refine wpAnyH_take (i := 6) (oi := ⟨some 77, _, _, _, _, _⟩) (v := .string hi4) rfl (by kernel_rfl) (by kernel_rfl) (by kernel_rfl) (fun _ _ _ h => h) (Or.inl ⟨by rfl, ?_⟩) hHeld ?_
            · (intro wq hSw; go_simp; try first | (with_reducible rfl) | (simp; omega) | (intros; omega) | simp [*])
            try simp only [Act.put, List.setIfInBounds_toArray, List.set_cons_zero, List.set_cons_succ]
            refine wpAnyH_take (i := 7) (oi := ⟨some 8, _, _, _, _, _⟩) (v := ?_) rfl (by kernel_rfl) (by kernel_rfl) (by kernel_rfl) (fun _ _ _ h => h) (Or.inl ⟨by rfl, ?_⟩) hHeld ?_
            rotate_left
            · (intro wq hSw; go_simp; try with_reducible rfl)
            try simp only [Act.put, List.setIfInBounds_toArray, List.set_cons_zero, List.set_cons_succ]
            refine wpAnyH_done (by kernel_rfl) ?_ _
            clear hHeld
            have hHW := HW.out
            have hBz7 := (hHW.below (Nat.le_refl _) (fun _ h => h.elim)).mono hz7
            replace HBl7 := Lib.hid (HBl7.out.trans hBz7)
            replace HO7 := Lib.hid (own_kept HO7.out hHW (fun _ _ h => h))
            clear hHW hBz7 hz7 HW
            go_wp2
            go_roundw
            case rel => exact ⟨i + 1, hi4, by omega, by go_num, rfl, HNX7.out, HSL7.out, HO7.out, HBl7.out⟩
            case measure => simp [intOf]; omega
          · have himI : ¬ (i : Int) < (m : Int) := by omega
            have hie : i = m := by omega
            have HIE := Lib.hid hie
            have HK6 := Lib.hid (HKV.out.trans HK5w.out (fun _ _ h => h))
            clear hK45 hlw hie
            go_wp2
            go_roundw
            case rel =>
              refine ⟨lv + 1, by omega, by go_num, .inr ⟨lv, m, gL, oL, cL, ?_⟩⟩
              have hO9 := HO.out
              rw [HIE.out] at hO9 ⊢
              rcases hO9.2 with ⟨_, hm9⟩ | ⟨g9, cap9, cur9, he9, hb9, hg9, _, _, _, ht9⟩
              · omega
              cases he9
              refine ⟨g9, 0, _, rfl, HMM.out, rfl, rfl, by omega, fun k hk => ?_, (Array.getElem?_eq_some_iff.1 hg9).1, fun k hk => ?_, HK6.out⟩
              · exact ((Below.kept HBl.out (S := fun _ => False) (fun i hi h => by omega)).cell (p := ⟨gL, oL + k, none⟩) hgL4 (fun h => h)).trans ((HKl.out.cell (p := ⟨gL, oL + k, none⟩) hgL (fun h => h)).trans (HCLA.out k hk))
              · have := World.ownsRow.cells hO9 (g := g9) rfl k (.string (lo lv k)) (lows0_at (lo lv) hk)
                rw [Addr.add_lit] at this
                exact this
            case measure => simp [intOf]; omega
      · clear HREL
        have HLE := Lib.hid hle
        subst hmB
        have HBC := Lib.hid hbc
        have HWC := Lib.hid hwc
        clear hle hbc hwc
        have HIL := Lib.hid (show mm lv - 1 < mm lv by omega)
        obtain ⟨m1, hm1⟩ : ∃ m1, mm lv - 1 = m1 := ⟨_, rfl⟩
        obtain ⟨nid0, hnid0⟩ : ∃ nid0, st lv + (mm lv - 1) = nid0 := ⟨_, rfl⟩
        obtain ⟨hi3, hhi3⟩ : ∃ x, (pg lv (mm lv - 1)).hi = x := ⟨_, rfl⟩
        have hla0 : (pg lv (mm lv - 1)).la = true := ((T.lev lv hlv).last (mm lv - 1) (by omega)).1
        obtain ⟨la3, hla3⟩ : ∃ x, (pg lv (mm lv - 1)).la = x := ⟨_, rfl⟩
        have hl3 : la3 = true := by rw [← hla3]; exact hla0
        have HHI3 := Lib.hid hhi3
        have HLA3 := Lib.hid hla3
        have HNI := Lib.hid hnid0
        have HPAGE := Lib.hid (show ∀ W', Kept (fun _ => False) V3 W' → Calls Tryz.prog 18 #[.agg #[.int .i64 1, .int .i64 2, .int .i64 100, .int .i64 100, .int .i64 200, .int .i64 (F : Int), .int .u64 1000, .slice (some ⟨g, 0, none⟩) n n], .int .u64 (nid0 : Int)] W' fun e w' => ∃ (A : Option Addr) (c n3 rt3 : Nat), e = .returned (.agg #[.int .i64 (lv : Int), .slice A n3 c, .string hi3, .bool la3, .int .u64 (rt3 : Int)]) ∧ Kept (fun _ => False) W' w' from fun W' hW => by
          refine (tpage_any F h4 h6 g n l hl H st mm lo pg T lv (mm lv - 1) nid0 hlv HIL.out HNI.out.symm lv rfl W' (hW.blk HVr.out (fun h => h))).mono ?_
          rintro e w' ⟨A, c, rfl, -, -, hk⟩
          rw [HHI3.out, HLA3.out]
          exact ⟨A, c, _, _, rfl, hk⟩)
        obtain ⟨m, hm⟩ : ∃ m, mm lv = m := ⟨_, rfl⟩
        rw [hm] at hcL hmp hmt
        rw [hm]
        have HMM := Lib.hid hm
        have HCLA := Lib.hid (show ∀ i, i < m → V3.cell? ⟨gL, oL + i, none⟩ = some (.int .u64 ((st lv + i : Nat) : Int)) from fun i hi => hcL i _ (ids_at hi))
        have hcl1 := HCLA.out m1 (by rw [← hm1, hm]; omega)
        have hnid1 : st lv + m1 = nid0 := by rw [← hm1]; exact hnid0
        rw [hnid1] at hcl1
        have HCL := Lib.hid hcl1
        have hgLr : gL < V3.heap.size := hgL
        have hm1I : (m1 : Int) = (m : Int) - 1 := by rw [← hm1, hm]; omega
        have hm1a : IntKind.i64.wrap ((m : Int) - 1) = (m1 : Int) := by rw [IntKind.wrap_i64]; omega
        have hm1b : (m1 : Int) < (m : Int) := by omega
        have hm0 : ((m : Int) == 0) = false := by simp; omega
        subst hl3
        have HM1 := Lib.hid hm1I
        clear hcL hcl1 hnid0 hnid1 hhi3 hla0 hla3 hm hm1 hm1I
        go_upto_region 9 with fail
        refine wp_region_held_drew (S := (fun w' => Kept (fun _ => False) V3 w')) (by kernel_rfl) ?_ (fun hHeld => ?_)
        · exact (Kept.refl _ _).drew
        have HW := Lib.hid ((Kept.refl (fun _ => False) V3).drew)
        generalize V3.drew = G at *
        refine wpAnyH_take (i := 0) (oi := ⟨some 35, _, _, _, _, _⟩) (v := ?_) rfl (by kernel_rfl) (by kernel_rfl) (by kernel_rfl) (fun _ _ _ h => h) (Or.inl ⟨by rfl, ?_⟩) hHeld ?_
        rotate_left
        · (intro wq hSw; go_simp; try with_reducible rfl)
        try simp only [Act.put, List.setIfInBounds_toArray, List.set_cons_zero, List.set_cons_succ]
        refine wpAnyH_take (i := 1) (oi := ⟨some 36, _, _, _, _, _⟩) (v := ?_) rfl (by kernel_rfl) (by kernel_rfl) (by kernel_rfl) (fun _ _ _ h => h) (Or.inl ⟨by rfl, ?_⟩) hHeld ?_
        rotate_left
        · (intro wq hSw; go_simp; try with_reducible rfl)
        try simp only [Act.put, List.setIfInBounds_toArray, List.set_cons_zero, List.set_cons_succ]
        refine wpAnyH_take (i := 2) (oi := ⟨some 37, _, _, _, _, _⟩) (v := .bool false) rfl (by kernel_rfl) (by kernel_rfl) (by kernel_rfl) (fun _ _ _ h => h) (Or.inl ⟨by rfl, ?_⟩) hHeld ?_
        · (intro wq hSw; go_simp; try first | (with_reducible rfl) | (simp; omega) | (intros; omega) | simp [*])
        try simp only [Act.put, List.setIfInBounds_toArray, List.set_cons_zero, List.set_cons_succ]
        refine wpAnyH_take (i := 3) (oi := ⟨some 38, _, _, _, _, _⟩) (v := .bool false) rfl (by kernel_rfl) (by kernel_rfl) (by kernel_rfl) (fun _ _ _ h => h) (Or.inl ⟨by rfl, ?_⟩) hHeld ?_
        · (intro wq hSw; go_simp; try first | (with_reducible rfl) | (simp; omega) | (intros; omega) | simp [*])
        try simp only [Act.put, List.setIfInBounds_toArray, List.set_cons_zero, List.set_cons_succ]
        refine wpAnyH_take (i := 4) (oi := ⟨some 39, _, _, _, _, _⟩) (v := ?_) rfl (by kernel_rfl) (by kernel_rfl) (by kernel_rfl) (fun _ _ _ h => h) (Or.inl ⟨by rfl, ?_⟩) hHeld ?_
        rotate_left
        · (intro wq hSw; have hb9 := hSw.blk HBr.out (fun h => h); have x0 := hb9.cell (i := 0) rfl; have x1 := hb9.cell (i := 1) rfl; have x2 := hb9.cell (i := 2) rfl; have x3 := hb9.cell (i := 3) rfl; have x4 := hb9.cell (i := 4) rfl; have x5 := hb9.cell (i := 5) rfl; have x6 := hb9.cell (i := 6) rfl; have x7 := hb9.cell (i := 7) rfl; clear hb9; have hc9 := (hSw.cell (p := ⟨gL, oL + m1, none⟩) hgLr (fun h => h)).trans HCL.out; go_simp; try with_reducible rfl)
        try simp only [Act.put, List.setIfInBounds_toArray, List.set_cons_zero, List.set_cons_succ]
        refine wpAnyH_take (i := 5) (oi := ⟨some 40, _, _, _, _, _⟩) (v := ?_) rfl (by kernel_rfl) (by kernel_rfl) (by kernel_rfl) (fun _ _ _ h => h) (Or.inl ⟨by rfl, ?_⟩) hHeld ?_
        rotate_left
        · (intro wq hSw; go_simp; try with_reducible rfl)
        try simp only [Act.put, List.setIfInBounds_toArray, List.set_cons_zero, List.set_cons_succ]
        refine wpAnyH_take (i := 6) (oi := ⟨some 41, _, _, _, _, _⟩) (v := ?_) rfl (by kernel_rfl) (by kernel_rfl) (by kernel_rfl) (fun _ _ _ h => h) (Or.inl ⟨by rfl, ?_⟩) hHeld ?_
        rotate_left
        · (intro wq hSw; go_simp; try with_reducible rfl)
        try simp only [Act.put, List.setIfInBounds_toArray, List.set_cons_zero, List.set_cons_succ]
        refine wpAnyH_take (i := 7) (oi := ⟨some 42, _, _, _, _, _⟩) (v := ?_) rfl (by kernel_rfl) (by kernel_rfl) (by kernel_rfl) (fun _ _ _ h => h) (Or.inl ⟨by rfl, ?_⟩) hHeld ?_
        rotate_left
        · (intro wq hSw; go_simp; try with_reducible rfl)
        try simp only [Act.put, List.setIfInBounds_toArray, List.set_cons_zero, List.set_cons_succ]
        refine wpAnyH_take (i := 8) (oi := ⟨some 43, _, _, _, _, _⟩) (v := .int .i64 (m1 : Int)) rfl (by kernel_rfl) (by kernel_rfl) (by kernel_rfl) (fun _ _ _ h => h) (Or.inl ⟨by rfl, ?_⟩) hHeld ?_
        · (intro wq hSw; go_simp; try first | (with_reducible rfl) | (simp; omega) | (intros; omega) | simp [*])
        try simp only [Act.put, List.setIfInBounds_toArray, List.set_cons_zero, List.set_cons_succ]
        refine wpAnyH_take (i := 9) (oi := ⟨some 44, _, _, _, _, _⟩) (v := ?_) rfl (by kernel_rfl) (by kernel_rfl) (by kernel_rfl) (fun _ _ _ h => h) (Or.inl ⟨by rfl, ?_⟩) hHeld ?_
        rotate_left
        · (intro wq hSw; go_simp; try with_reducible rfl)
        try simp only [Act.put, List.setIfInBounds_toArray, List.set_cons_zero, List.set_cons_succ]
        refine wpAnyH_take (i := 10) (oi := ⟨some 45, _, _, _, _, _⟩) (v := ?_) rfl (by kernel_rfl) (by kernel_rfl) (by kernel_rfl) (fun _ _ _ h => h) (Or.inl ⟨by rfl, ?_⟩) hHeld ?_
        rotate_left
        · (intro wq hSw; have hb9 := hSw.blk HBr.out (fun h => h); have x0 := hb9.cell (i := 0) rfl; have x1 := hb9.cell (i := 1) rfl; have x2 := hb9.cell (i := 2) rfl; have x3 := hb9.cell (i := 3) rfl; have x4 := hb9.cell (i := 4) rfl; have x5 := hb9.cell (i := 5) rfl; have x6 := hb9.cell (i := 6) rfl; have x7 := hb9.cell (i := 7) rfl; clear hb9; have hc9 := (hSw.cell (p := ⟨gL, oL + m1, none⟩) hgLr (fun h => h)).trans HCL.out; go_simp; try with_reducible rfl)
        try simp only [Act.put, List.setIfInBounds_toArray, List.set_cons_zero, List.set_cons_succ]
        refine wpAnyH_ready (rs := [11]) (by kernel_rfl) (by simp) ?_
        refine AllReadyH.cons (o := ⟨some 46, _, _, _, _, _⟩) rfl (fun KK hK => ?_) (AllReadyH.nil)
        go_simp
        go_at_call 18
        refine (HPAGE.out _ HW.out).mono ?_; rintro e G ⟨A3, c3, n3, rt3, rfl, hK3⟩
        replace HW := Lib.hid (HW.out.trans hK3 (fun _ _ h => h))
        have hpf := pfield3 (lv : Int) A3 n3 c3 hi3 true (rt3 : Int)
        clear hK3
        refine hK.out _ _ ?_ (fun hHeld2 => ?_)
        · exact HW.out
        clear hK KK hHeld
        have hHeld := hHeld2
        clear hHeld2
        try simp only [Act.put, List.setIfInBounds_toArray, List.set_cons_zero, List.set_cons_succ]
        refine wpAnyH_take (i := 12) (oi := ⟨some 47, _, _, _, _, _⟩) (v := .bool true) rfl (by kernel_rfl) (by kernel_rfl) (by kernel_rfl) (fun _ _ _ h => h) (Or.inl ⟨by rfl, ?_⟩) hHeld ?_
        · (intro wq hSw; go_simp; try first | (with_reducible rfl) | (simp; omega) | (intros; omega) | simp [*])
        try simp only [Act.put, List.setIfInBounds_toArray, List.set_cons_zero, List.set_cons_succ]
        refine wpAnyH_take (i := 13) (oi := ⟨some 48, _, _, _, _, _⟩) (v := .bool false) rfl (by kernel_rfl) (by kernel_rfl) (by kernel_rfl) (fun _ _ _ h => h) (Or.inl ⟨by rfl, ?_⟩) hHeld ?_
        · (intro wq hSw; go_simp; try first | (with_reducible rfl) | (simp; omega) | (intros; omega) | simp [*])
        try simp only [Act.put, List.setIfInBounds_toArray, List.set_cons_zero, List.set_cons_succ]
        refine wpAnyH_take (i := 14) (oi := ⟨some 49, _, _, _, _, _⟩) (v := .bool false) rfl (by kernel_rfl) (by kernel_rfl) (by kernel_rfl) (fun _ _ _ h => h) (Or.inl ⟨by rfl, ?_⟩) hHeld ?_
        · (intro wq hSw; go_simp; try first | (with_reducible rfl) | (simp; omega) | (intros; omega) | simp [*])
        try simp only [Act.put, List.setIfInBounds_toArray, List.set_cons_zero, List.set_cons_succ]
        refine wpAnyH_done (by kernel_rfl) ?_ _
        clear hHeld
        replace HBr := Lib.hid (HW.out.blk HBr.out (fun h => h))
        replace HVr := Lib.hid (HW.out.blk HVr.out (fun h => h))
        have HKa := Lib.hid (HK2.out.trans HW.out (fun _ _ h => h))
        have HKl := Lib.hid HW.out
        clear HW HPAGE HCL hm1a hm1b hm0 HK2
        rename World => V4
        go_wp2_with fail
        go_loopw [7, 8, 9] (fun ov lv8 iv wr => ∃ (i : Nat) (lw : ByteArray), i ≤ m ∧ iv = .int .i64 (i : Int) ∧ lv8 = .string lw ∧ (i < m → lw = lo lv i) ∧ slLen ov = i ∧ wr.ownsRow V4.heap.size 9 1 ov i (strv (lows0 (lo lv) i)) ∧ Below V4.heap.size V4 wr) (fun _ _ iv _ => m - (intOf iv).toNat)
        case atStart => exact ⟨0, ⟨#[]⟩, Nat.zero_le _, rfl, rfl, fun _ => (T.lev lv hlv).low0.symm, rfl, World.ownsRow_nil _ _ _ _, Below.refl _ _⟩
        case round =>
          rename World => V5
          obtain ⟨i, lw, hi1, rfl, rfl, hlw, hsl, hO, hBl⟩ := hrel
          have HO := Lib.hid hO
          have HBl := Lib.hid hBl
          have hz5 := hBl.size
          obtain ⟨A0, c0, rfl⟩ := strs_slice hO
          have hK45 := Below.kept hBl (S := fun _ => False) (fun i hi h => by omega)
          have HB5 := Lib.hid (hK45.blk HBr.out (fun h => h))
          have HV5 := Lib.hid (hK45.blk HVr.out (fun h => h))
          have HK5w := Lib.hid (HKa.out.trans hK45 (fun _ _ h => h))
          have hgL4 : gL < V4.heap.size := Nat.lt_of_lt_of_le hgL HKl.out.size
          clear hO hBl hsl
          by_cases him1 : i < m
          · have him : i < mm lv := by rw [HMM.out]; exact him1
            have himI : (i : Int) < (m : Int) := by omega
            obtain ⟨nid, hnid⟩ : ∃ nid, st lv + i = nid := ⟨_, rfl⟩
            have hlwe := hlw him1
            have hcl := HCLA.out i him1
            rw [hnid] at hcl
            have HCLb := Lib.hid ((HKl.out.cell (p := ⟨gL, oL + i, none⟩) hgL (fun h => h)).trans hcl)
            have HCL5 := Lib.hid ((hK45.cell (p := ⟨gL, oL + i, none⟩) hgL4 (fun h => h)).trans HCLb.out)
            have hgL5 : gL < V5.heap.size := by omega
            have HNI := Lib.hid hnid
            subst hlwe
            obtain ⟨lw, hlwq⟩ : ∃ lw, lo lv i = lw := ⟨_, rfl⟩
            have HLWQ := Lib.hid hlwq
            clear hK45 hcl hnid hlw hlwq
            go_upto_region 16 with fail
            refine qregion (fun w' => Kept (fun _ => False) V5 w') (by kernel_rfl) (by kernel_rfl) (Kept.refl _ _).drew ?_
            refine qstep (o := ⟨some 56, _, _, _, _, _⟩) (v := ?_) (by rfl) (fun wq hSw => ?_) ?_
            rotate_left
            · (have hb9 := hSw.blk HB5.out (fun h => h); have x0 := hb9.cell (i := 0) rfl; have x1 := hb9.cell (i := 1) rfl; have x2 := hb9.cell (i := 2) rfl; have x3 := hb9.cell (i := 3) rfl; have x4 := hb9.cell (i := 4) rfl; have x5 := hb9.cell (i := 5) rfl; have x6 := hb9.cell (i := 6) rfl; have x7 := hb9.cell (i := 7) rfl; clear hb9; have hc9 := (hSw.cell (p := ⟨gL, oL + i, none⟩) hgL5 (fun h => h)).trans HCL5.out; go_simp; try with_reducible rfl)
            try simp only [Act.put, List.setIfInBounds_toArray, List.set_cons_zero, List.set_cons_succ]
            refine qstep (o := ⟨some 57, _, _, _, _, _⟩) (v := ?_) (by rfl) (fun wq hSw => ?_) ?_
            rotate_left
            · (go_simp; try with_reducible rfl)
            try simp only [Act.put, List.setIfInBounds_toArray, List.set_cons_zero, List.set_cons_succ]
            refine qstep (o := ⟨some 58, _, _, _, _, _⟩) (v := ?_) (by rfl) (fun wq hSw => ?_) ?_
            rotate_left
            · (go_simp; try with_reducible rfl)
            try simp only [Act.put, List.setIfInBounds_toArray, List.set_cons_zero, List.set_cons_succ]
            refine qstep (o := ⟨some 59, _, _, _, _, _⟩) (v := ?_) (by rfl) (fun wq hSw => ?_) ?_
            rotate_left
            · (go_simp; try with_reducible rfl)
            try simp only [Act.put, List.setIfInBounds_toArray, List.set_cons_zero, List.set_cons_succ]
            refine qstep (o := ⟨some 60, _, _, _, _, _⟩) (v := ?_) (by rfl) (fun wq hSw => ?_) ?_
            rotate_left
            · (have hb9 := hSw.blk HB5.out (fun h => h); have x0 := hb9.cell (i := 0) rfl; have x1 := hb9.cell (i := 1) rfl; have x2 := hb9.cell (i := 2) rfl; have x3 := hb9.cell (i := 3) rfl; have x4 := hb9.cell (i := 4) rfl; have x5 := hb9.cell (i := 5) rfl; have x6 := hb9.cell (i := 6) rfl; have x7 := hb9.cell (i := 7) rfl; clear hb9; have hc9 := (hSw.cell (p := ⟨gL, oL + i, none⟩) hgL5 (fun h => h)).trans HCL5.out; go_simp; try with_reducible rfl)
            try simp only [Act.put, List.setIfInBounds_toArray, List.set_cons_zero, List.set_cons_succ]
            refine qstep (o := ⟨some 61, _, _, _, _, _⟩) (v := ?_) (by rfl) (fun wq hSw => ?_) ?_
            rotate_left
            · (go_simp; try with_reducible rfl)
            try simp only [Act.put, List.setIfInBounds_toArray, List.set_cons_zero, List.set_cons_succ]
            refine qstep (o := ⟨some 62, _, _, _, _, _⟩) (v := ?_) (by rfl) (fun wq hSw => ?_) ?_
            rotate_left
            · (go_simp; try with_reducible rfl)
            try simp only [Act.put, List.setIfInBounds_toArray, List.set_cons_zero, List.set_cons_succ]
            refine qstep (o := ⟨some 63, _, _, _, _, _⟩) (v := ?_) (by rfl) (fun wq hSw => ?_) ?_
            rotate_left
            · (go_simp; try with_reducible rfl)
            try simp only [Act.put, List.setIfInBounds_toArray, List.set_cons_zero, List.set_cons_succ]
            refine qstep (o := ⟨some 64, _, _, _, _, _⟩) (v := ?_) (by rfl) (fun wq hSw => ?_) ?_
            rotate_left
            · (go_simp; try with_reducible rfl)
            try simp only [Act.put, List.setIfInBounds_toArray, List.set_cons_zero, List.set_cons_succ]
            refine qcall (o := ⟨some 65, _, _, _, _, _⟩) (v := .bool true) (by rfl) (fun wq hSw => ?_) (fun wq hSw => Calls.mono (vsound_up F h4 h6 g n l hl H st mm lo pg T ks off HLV.out HZ.out HHI.out L1 lv i nid HLE.out hlv him HNI.out.symm (mm L1) rfl gB oB cB gW oW cW _ (hSw.blk HV5.out (fun h => h)) (Nat.lt_of_lt_of_le hgB (Nat.le_trans HK5w.out.size hSw.size)) (fun k hk => (hSw.cell (p := ⟨gB, oB + k, none⟩) (Nat.lt_of_lt_of_le hgB HK5w.out.size) (fun h => h)).trans ((HK5w.out.cell (p := ⟨gB, oB + k, none⟩) hgB (fun h => h)).trans (HBC.out k hk))) (Nat.lt_of_lt_of_le hgW (Nat.le_trans HK5w.out.size hSw.size)) (fun k hk => (hSw.cell (p := ⟨gW, oW + k, none⟩) (Nat.lt_of_lt_of_le hgW HK5w.out.size) (fun h => h)).trans ((HK5w.out.cell (p := ⟨gW, oW + k, none⟩) hgW (fun h => h)).trans (HWC.out k hk)))) ?_) ?_
            · (go_simp; try with_reducible rfl)
            · rintro e w9 ⟨rfl, hk⟩; exact ⟨rfl, hSw.trans hk (fun _ _ h => h)⟩
            try simp only [Act.put, List.setIfInBounds_toArray, List.set_cons_zero, List.set_cons_succ]
            refine qstep (o := ⟨some 66, _, _, _, _, _⟩) (v := .bool false) (by rfl) (fun wq hSw => ?_) ?_
            · (go_simp; try first | (with_reducible rfl) | (simp; omega) | (intros; omega) | simp [*])
            try simp only [Act.put, List.setIfInBounds_toArray, List.set_cons_zero, List.set_cons_succ]
            refine wpQuiet_nil ?_
            intro wz hHeld
            have hB56 := (hHeld.below (Nat.le_refl _) (fun _ h => h.elim)).mono hz5
            replace HBl := Lib.hid (HBl.out.trans hB56)
            replace HO := Lib.hid (own_kept HO.out hHeld (fun _ _ h => h))
            have HB6 := Lib.hid (hHeld.blk HB5.out (fun h => h))
            have HV6 := Lib.hid (hHeld.blk HV5.out (fun h => h))
            have hz6 : V4.heap.size ≤ wz.heap.size := Nat.le_trans hz5 hHeld.size
            clear hHeld hB56 HB5 HV5 HCL5 HK5w
            have hown := HO.out
            go_wp2_with (at_builtin; go_must (refine wpList_append_own _ rfl (.tmp 67) (.tmp 69) 22 rfl V4.heap.size 9 i0 _ 1 16 Tryz.underlying22 HI0.out HI1.out HI2.out HI3.out rfl (by decide) _ _ _ rfl (hown.alloc _) ⟨wz.heap.size, 0, none⟩ 1 1 [.string (lo lv i)] rfl rfl ?a1 ?b1 ?c1 ?d1 ?e1 ?_))
            try case a1 =>
              intro q' u hu
              match q', hu with
              | 0, hu => simp at hu; subst hu; simp [Addr.add]
              | q' + 1, hu => simp at hu
            case b1 => first | exact rfl | (intro u hu; simp at hu; subst hu; rfl)
            case c1 => unfold maxLen; omega
            case d1 => omega
            case e1 => first | omega | (simp; omega)
            intro v1 V7 hown1 hgr1 _
            have hal := (Below.refl wz.heap.size wz).alloc (Nat.le_refl _) (.cells #[.string (lo lv i)] 9)
            have hBe := Below.grown (hal.mono hz6) hgr1 (by rw [nblk_alloc]; omega) fun q hq => (hown.lt q hq).1
            have HBl7 := Lib.hid (HBl.out.trans hBe)
            have hO1 : V7.ownsRow V4.heap.size 9 1 v1 (i + 1) (strv (lows0 (lo lv) (i + 1))) := by
              rw [lows0_step]; exact hown1
            have hz7 := HBl7.out.size
            have hK47 := Below.kept HBl7.out (S := fun _ => False) (fun i hi h => by omega)
            have HB7 := Lib.hid (hK47.blk HBr.out (fun h => h))
            have HVr7 := Lib.hid (hK47.blk HVr.out (fun h => h))
            have HCL7 := Lib.hid ((hK47.cell (p := ⟨gL, oL + i, none⟩) hgL4 (fun h => h)).trans HCLb.out)
            have hgL7 : gL < V7.heap.size := by omega
            have HO7 := Lib.hid hO1
            obtain ⟨A7, c7, rfl⟩ := strs_slice hO1
            have HSL7 := Lib.hid (show slLen (.slice A7 (i + 1) c7) = i + 1 from rfl)
            obtain ⟨hi4, hhi4⟩ : ∃ x, (pg lv i).hi = x := ⟨_, rfl⟩
            have HHI4 := Lib.hid hhi4
            have HNX7 := Lib.hid (show i + 1 < m → hi4 = lo lv (i + 1) from fun h => by rw [← hhi4]; exact ((T.lev lv hlv).next i (by rw [HMM.out]; exact h)).2.2)
            have HPAGE7 := Lib.hid (show ∀ W', Kept (fun _ => False) V7 W' → Calls Tryz.prog 18 #[.agg #[.int .i64 1, .int .i64 2, .int .i64 100, .int .i64 100, .int .i64 200, .int .i64 (F : Int), .int .u64 1000, .slice (some ⟨g, 0, none⟩) n n], .int .u64 (nid : Int)] W' fun e w' => ∃ (A : Option Addr) (c n3 : Nat) (la4 : Bool) (rt3 : Nat), e = .returned (.agg #[.int .i64 (lv : Int), .slice A n3 c, .string hi4, .bool la4, .int .u64 (rt3 : Int)]) ∧ Kept (fun _ => False) W' w' from fun W' hW => by
              refine (tpage_any F h4 h6 g n l hl H st mm lo pg T lv i nid hlv him HNI.out.symm lv rfl W' (hW.blk HVr7.out (fun h => h))).mono ?_
              rintro e w' ⟨A, c, rfl, -, -, hk⟩
              rw [HHI4.out]
              exact ⟨A, c, _, _, _, rfl, hk⟩)
            clear hown1 hgr1 hal hBe hO1 hown hz6 hK47 hhi4
            go_upto_region 19 with fail
            refine wp_region_held_drew (S := (fun w' => Kept (fun _ => False) V7 w')) (by kernel_rfl) ?_ (fun hHeld => ?_)
            · exact (Kept.refl _ _).drew
            have HW := Lib.hid ((Kept.refl (fun _ => False) V7).drew)
            generalize V7.drew = G at *
            refine wpAnyH_take (i := 0) (oi := ⟨some 71, _, _, _, _, _⟩) (v := ?_) rfl (by kernel_rfl) (by kernel_rfl) (by kernel_rfl) (fun _ _ _ h => h) (Or.inl ⟨by rfl, ?_⟩) hHeld ?_
            rotate_left
            · (intro wq hSw; have hb9 := hSw.blk HB7.out (fun h => h); have x0 := hb9.cell (i := 0) rfl; have x1 := hb9.cell (i := 1) rfl; have x2 := hb9.cell (i := 2) rfl; have x3 := hb9.cell (i := 3) rfl; have x4 := hb9.cell (i := 4) rfl; have x5 := hb9.cell (i := 5) rfl; have x6 := hb9.cell (i := 6) rfl; have x7 := hb9.cell (i := 7) rfl; clear hb9; have hc9 := (hSw.cell (p := ⟨gL, oL + i, none⟩) hgL7 (fun h => h)).trans HCL7.out; go_simp; try with_reducible rfl)
            try simp only [Act.put, List.setIfInBounds_toArray, List.set_cons_zero, List.set_cons_succ]
            refine wpAnyH_take (i := 1) (oi := ⟨some 72, _, _, _, _, _⟩) (v := ?_) rfl (by kernel_rfl) (by kernel_rfl) (by kernel_rfl) (fun _ _ _ h => h) (Or.inl ⟨by rfl, ?_⟩) hHeld ?_
            rotate_left
            · (intro wq hSw; go_simp; try with_reducible rfl)
            try simp only [Act.put, List.setIfInBounds_toArray, List.set_cons_zero, List.set_cons_succ]
            refine wpAnyH_take (i := 2) (oi := ⟨some 73, _, _, _, _, _⟩) (v := ?_) rfl (by kernel_rfl) (by kernel_rfl) (by kernel_rfl) (fun _ _ _ h => h) (Or.inl ⟨by rfl, ?_⟩) hHeld ?_
            rotate_left
            · (intro wq hSw; go_simp; try with_reducible rfl)
            try simp only [Act.put, List.setIfInBounds_toArray, List.set_cons_zero, List.set_cons_succ]
            refine wpAnyH_take (i := 3) (oi := ⟨some 74, _, _, _, _, _⟩) (v := ?_) rfl (by kernel_rfl) (by kernel_rfl) (by kernel_rfl) (fun _ _ _ h => h) (Or.inl ⟨by rfl, ?_⟩) hHeld ?_
            rotate_left
            · (intro wq hSw; go_simp; try with_reducible rfl)
            try simp only [Act.put, List.setIfInBounds_toArray, List.set_cons_zero, List.set_cons_succ]
            refine wpAnyH_take (i := 4) (oi := ⟨some 75, _, _, _, _, _⟩) (v := ?_) rfl (by kernel_rfl) (by kernel_rfl) (by kernel_rfl) (fun _ _ _ h => h) (Or.inl ⟨by rfl, ?_⟩) hHeld ?_
            rotate_left
            · (intro wq hSw; have hb9 := hSw.blk HB7.out (fun h => h); have x0 := hb9.cell (i := 0) rfl; have x1 := hb9.cell (i := 1) rfl; have x2 := hb9.cell (i := 2) rfl; have x3 := hb9.cell (i := 3) rfl; have x4 := hb9.cell (i := 4) rfl; have x5 := hb9.cell (i := 5) rfl; have x6 := hb9.cell (i := 6) rfl; have x7 := hb9.cell (i := 7) rfl; clear hb9; have hc9 := (hSw.cell (p := ⟨gL, oL + i, none⟩) hgL7 (fun h => h)).trans HCL7.out; go_simp; try with_reducible rfl)
            try simp only [Act.put, List.setIfInBounds_toArray, List.set_cons_zero, List.set_cons_succ]
            refine wpAnyH_ready (rs := [5]) (by kernel_rfl) (by simp) ?_
            refine AllReadyH.cons (o := ⟨some 76, _, _, _, _, _⟩) rfl (fun KK hK => ?_) (AllReadyH.nil)
            go_simp
            go_at_call 18
            refine (HPAGE7.out _ HW.out).mono ?_; rintro e G ⟨A3, c3, n3, la4, rt3, rfl, hK3⟩
            replace HW := Lib.hid (HW.out.trans hK3 (fun _ _ h => h))
            have hpf := pfield2 (lv : Int) A3 n3 c3 hi4 la4 (rt3 : Int)
            clear hK3
            refine hK.out _ _ ?_ (fun hHeld2 => ?_)
            · exact HW.out
            clear hK KK hHeld
            have hHeld := hHeld2
            clear hHeld2
            try simp only [Act.put, List.setIfInBounds_toArray, List.set_cons_zero, List.set_cons_succ]
            refine wpAnyH_take (i := 6) (oi := ⟨some 77, _, _, _, _, _⟩) (v := .string hi4) rfl (by kernel_rfl) (by kernel_rfl) (by kernel_rfl) (fun _ _ _ h => h) (Or.inl ⟨by rfl, ?_⟩) hHeld ?_
            · (intro wq hSw; go_simp; try first | (with_reducible rfl) | (simp; omega) | (intros; omega) | simp [*])
            try simp only [Act.put, List.setIfInBounds_toArray, List.set_cons_zero, List.set_cons_succ]
            refine wpAnyH_take (i := 7) (oi := ⟨some 8, _, _, _, _, _⟩) (v := ?_) rfl (by kernel_rfl) (by kernel_rfl) (by kernel_rfl) (fun _ _ _ h => h) (Or.inl ⟨by rfl, ?_⟩) hHeld ?_
            rotate_left
            · (intro wq hSw; go_simp; try with_reducible rfl)
            try simp only [Act.put, List.setIfInBounds_toArray, List.set_cons_zero, List.set_cons_succ]
            refine wpAnyH_done (by kernel_rfl) ?_ _
            clear hHeld
            have hHW := HW.out
            have hBz7 := (hHW.below (Nat.le_refl _) (fun _ h => h.elim)).mono hz7
            replace HBl7 := Lib.hid (HBl7.out.trans hBz7)
            replace HO7 := Lib.hid (own_kept HO7.out hHW (fun _ _ h => h))
            clear hHW hBz7 hz7 HW
            go_wp2
            go_roundw
            case rel => exact ⟨i + 1, hi4, by omega, by go_num, rfl, HNX7.out, HSL7.out, HO7.out, HBl7.out⟩
            case measure => simp [intOf]; omega
          · have himI : ¬ (i : Int) < (m : Int) := by omega
            have hie : i = m := by omega
            have HIE := Lib.hid hie
            have HK6 := Lib.hid (HKV.out.trans HK5w.out (fun _ _ h => h))
            clear hK45 hlw hie
            go_wp2
            go_roundw
            case rel =>
              refine ⟨lv + 1, by omega, by go_num, .inr ⟨lv, m, gL, oL, cL, ?_⟩⟩
              have hO9 := HO.out
              rw [HIE.out] at hO9 ⊢
              rcases hO9.2 with ⟨_, hm9⟩ | ⟨g9, cap9, cur9, he9, hb9, hg9, _, _, _, ht9⟩
              · omega
              cases he9
              refine ⟨g9, 0, _, rfl, HMM.out, rfl, rfl, by omega, fun k hk => ?_, (Array.getElem?_eq_some_iff.1 hg9).1, fun k hk => ?_, HK6.out⟩
              · exact ((Below.kept HBl.out (S := fun _ => False) (fun i hi h => by omega)).cell (p := ⟨gL, oL + k, none⟩) hgL4 (fun h => h)).trans ((HKl.out.cell (p := ⟨gL, oL + k, none⟩) hgL (fun h => h)).trans (HCLA.out k hk))
              · have := World.ownsRow.cells hO9 (g := g9) rfl k (.string (lo lv k)) (lows0_at (lo lv) hk)
                rw [Addr.add_lit] at this
                exact this
            case measure => simp [intOf]; omega
    · have hlvI : ¬ (lv : Int) < (H : Int) := by omega
      go_wp2_with fail
      refine HHG.out.mono ?_; rintro e w2 ⟨rfl, hK2⟩
      have HK9 := Lib.hid (HK.out.trans (HKV.out.trans hK2 (fun _ _ h => h)) (fun _ _ h => h))
      clear hK2
      go_wp2
      go_ret
      refine ⟨rfl, ?_⟩
      have := HK9.out
      exact this

end Go.Proofs.YtndadgenkmgmaaaGreat
