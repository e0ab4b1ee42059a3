/-
  What Split of the reference of pages answers for a page of the lowest level. Condition: sizes within their limits.
-/
import Derived.Test.YthpaolhpkmgelaaLkRef
import Derived.Test.YthpaolhpkmgelaaLkKeys
import Derived.Test.YthpaolhpkmgelaaLkAux
namespace Go.Proofs.Ythpaolhpkmgelaa
open Go.RowKit Go.Deep Plain
set_option linter.unusedVariables false

set_option maxRecDepth 100000 in
set_option maxHeartbeats 2000000 in
theorem refSplit_low (A : Option Addr) (c : Nat) (hi : ByteArray) (la : Bool) (rt right : Nat) (xs : List Sl) (n k : Nat) (sp : ByteArray) (w : World) (hn : xs.length = n) (h2 : 2 ≤ n) (h40 : n ≤ 1000) (hk : k = n - n / 2) (hR : Rs w A c xs) (hsz : ∀ x ∈ xs, x.1.size ≤ 1000) (hsp : ∀ x0 x1, xs[k - 1]? = some x0 → xs[k]? = some x1 → sepB x0.1 x1.1 = sp) :
    Calls Try.prog 17 #[.agg #[.int .i64 0, .slice A n c, .string hi, .bool la, .int .u64 (rt : Int)], .int .u64 (right : Int)] w fun e w' => ∃ g o, A = some ⟨g, o, none⟩ ∧ e = .returned (.tuple #[.agg #[.int .i64 0, .slice (some ⟨g, o, none⟩) k k, .string sp, .bool false, .int .u64 (right : Int)], .agg #[.int .i64 0, .slice (some ⟨g, o + k * 2, none⟩) (n - k) (c - k), .string hi, .bool la, .int .u64 (rt : Int)], .string sp, .bool true]) ∧ Kept (fun _ => False) w w' := by
  have HR := Lib.hid hR
  obtain ⟨g, o, rfl, hg, hcl⟩ := hR.at (by omega)
  obtain ⟨k1, hk1⟩ : ∃ k1, k = k1 + 1 := ⟨k - 1, by omega⟩
  obtain ⟨u0, hx0⟩ : ∃ x, xs[k1]? = some x := ⟨_, List.getElem?_eq_getElem (by omega)⟩
  obtain ⟨u1, hx1⟩ : ∃ x, xs[k]? = some x := ⟨_, List.getElem?_eq_getElem (by omega)⟩
  have HC0 := Lib.hid (hcl k1 u0 hx0).1
  have HC1 := Lib.hid (hcl k u1 hx1).1
  have HM0 := Lib.hid (show u0.1.size ≤ 1000 ∧ u1.1.size ≤ 4611686018427387904 from ⟨hsz _ (List.mem_of_getElem? hx0), Nat.le_trans (hsz _ (List.mem_of_getElem? hx1)) (by decide)⟩)
  have HSP := Lib.hid (hsp u0 u1 (by rw [show k - 1 = k1 by omega]; exact hx0) hx1)
  have hkk : k < n ∧ 1 ≤ k ∧ n ≤ c ∧ c ≤ 9223372036854775807 := by have h1 := hR.le; have h2 := hR.max; unfold maxLen at h2; omega
  obtain ⟨m, hm⟩ : ∃ m, n / 2 = m := ⟨_, rfl⟩
  have hm1 : (n : Int).tdiv 2 = (m : Int) := by rw [← hm]; rfl
  have hm2 : (n : Int) / 2 = (m : Int) := by omega
  have hm3 : IntKind.i64.wrap ((n : Int) - (m : Int)) = (k : Int) := by rw [IntKind.wrap_i64]; omega
  have hm4 : IntKind.i64.wrap (m : Int) = (m : Int) := by rw [IntKind.wrap_i64]; omega
  have hk2 : IntKind.i64.wrap ((k : Int) - 1) = (k1 : Int) := by rw [IntKind.wrap_i64]; omega
  have hn2 : ¬ (n : Int) < 2 := by omega
  have hkn : (k : Int) < (n : Int) ∧ (k1 : Int) < (n : Int) := by omega
  have HKM := Lib.hid (show k = n - m ∧ k = k1 + 1 from by omega)
  clear hcl hx0 hx1 hR hsz hsp hk1 hm hk
  go_enter Try.func17, Try.ntmps17
  go_upto_region 1 with fail
  have h1 := (Kept.refl (fun _ => False) w).alloc (.cells #[.int .i64 0, .slice (some ⟨g, o, none⟩) n c, .string hi, .bool la, .int .u64 (rt : Int)] 31)
  have B2 := Blk.new w [.int .i64 0, .slice (some ⟨g, o, none⟩) n c, .string hi, .bool la, .int .u64 (rt : Int)] 31
  have z1 : (w.alloc (.cells #[.int .i64 0, .slice (some ⟨g, o, none⟩) n c, .string hi, .bool la, .int .u64 (rt : Int)] 31)).heap.size = w.heap.size + 1 := nblk_alloc _ _
  generalize w.alloc (.cells #[.int .i64 0, .slice (some ⟨g, o, none⟩) n c, .string hi, .bool la, .int .u64 (rt : Int)] 31) = V1 at *
  have h2 := h1.alloc (.cells #[.int .i64 0, .slice none 0 0, .string ⟨#[]⟩, .bool false, .int .u64 0] 31)
  have B4 := Blk.new V1 [.int .i64 0, .slice none 0 0, .string ⟨#[]⟩, .bool false, .int .u64 0] 31
  replace B2 := B2.alloc (.cells #[.int .i64 0, .slice none 0 0, .string ⟨#[]⟩, .bool false, .int .u64 0] 31)
  have z2 : (V1.alloc (.cells #[.int .i64 0, .slice none 0 0, .string ⟨#[]⟩, .bool false, .int .u64 0] 31)).heap.size = V1.heap.size + 1 := nblk_alloc _ _
  generalize V1.alloc (.cells #[.int .i64 0, .slice none 0 0, .string ⟨#[]⟩, .bool false, .int .u64 0] 31) = V2 at *
  have h3 := h2.alloc (.cells #[.int .i64 0, .slice none 0 0, .string ⟨#[]⟩, .bool false, .int .u64 0] 31)
  have B5 := Blk.new V2 [.int .i64 0, .slice none 0 0, .string ⟨#[]⟩, .bool false, .int .u64 0] 31
  replace B2 := B2.alloc (.cells #[.int .i64 0, .slice none 0 0, .string ⟨#[]⟩, .bool false, .int .u64 0] 31)
  replace B4 := B4.alloc (.cells #[.int .i64 0, .slice none 0 0, .string ⟨#[]⟩, .bool false, .int .u64 0] 31)
  generalize V2.alloc (.cells #[.int .i64 0, .slice none 0 0, .string ⟨#[]⟩, .bool false, .int .u64 0] 31) = V3 at *
  obtain ⟨r2, hr2⟩ : ∃ r, w.heap.size = r := ⟨_, rfl⟩
  rw [z2, z1, hr2] at B5
  rw [z1, hr2] at B4
  rw [hr2] at B2 ⊢
  clear z1 z2
  generalize hr4 : r2 + 1 = r4 at *
  generalize hr5 : r4 + 1 = r5 at *
  have HRR := Lib.hid (show w.heap.size = r2 ∧ r4 = r2 + 1 ∧ r5 = r4 + 1 from ⟨hr2, by omega, by omega⟩)
  have HK := Lib.hid h3
  have HB2 := Lib.hid B2
  have HB4 := Lib.hid B4
  have HB5 := Lib.hid B5
  have y0 := (h3.cell (p := ⟨g, o + k1 * 2, none⟩) hg (fun h => h)).trans HC0.out
  have y1 := (h3.cell (p := ⟨g, o + k * 2, none⟩) hg (fun h => h)).trans HC1.out
  clear h1 h2 h3 B2 B4 B5 hr2 hr4 hr5
  have hb9 := HB2.out
  have x0 := hb9.cell (i := 0) rfl
  have x1 := hb9.cell (i := 1) rfl
  have x2 := hb9.cell (i := 2) rfl
  have x3 := hb9.cell (i := 3) rfl
  have x4 := hb9.cell (i := 4) rfl
  clear hb9
  go_wp2_with fail
  refine (refSep_any u0.1 u1.1 _ HM0.out.2).mono ?_; rintro e w5 ⟨rfl, rfl⟩
  rw [HSP.out]
  rename World => V3
  clear y0 y1
  clear x0 x1 x2 x3 x4
  go_upto_region 8 with fail
  refine wp_region_held_drew (S := (fun w' => Kept (fun _ => False) V3 w')) (by kernel_rfl) ?_ (fun hHeld => ?_)
  · exact (Kept.refl _ _).drew
  have HW := Lib.hid ((Kept.refl (fun _ => False) V3).drew)
  generalize V3.drew = G at *
  refine wpAnyH_take (i := 0) (oi := ⟨some 42, _, _, _, _, _⟩) (v := ?_) rfl (by kernel_rfl) (by kernel_rfl) (by kernel_rfl) (fun _ _ _ h => h) (Or.inl ⟨by rfl, ?_⟩) hHeld ?_
  rotate_left
  · (intro wq hSw; go_simp; try with_reducible rfl)
  try simp only [Act.put, List.setIfInBounds_toArray, List.set_cons_zero, List.set_cons_succ]
  refine wpAnyH_take (i := 1) (oi := ⟨some 43, _, _, _, _, _⟩) (v := ?_) rfl (by kernel_rfl) (by kernel_rfl) (by kernel_rfl) (fun _ _ _ h => h) (Or.inl ⟨by rfl, ?_⟩) hHeld ?_
  rotate_left
  · (intro wq hSw; have hb9 := hSw.blk HB2.out (fun h => h); have x0 := hb9.cell (i := 0) rfl; have x1 := hb9.cell (i := 1) rfl; have x2 := hb9.cell (i := 2) rfl; have x3 := hb9.cell (i := 3) rfl; have x4 := hb9.cell (i := 4) rfl; clear hb9; go_simp; try with_reducible rfl)
  try simp only [Act.put, List.setIfInBounds_toArray, List.set_cons_zero, List.set_cons_succ]
  refine wpAnyH_take (i := 2) (oi := ⟨some 44, _, _, _, _, _⟩) (v := ?_) rfl (by kernel_rfl) (by kernel_rfl) (by kernel_rfl) (fun _ _ _ h => h) (Or.inl ⟨by rfl, ?_⟩) hHeld ?_
  rotate_left
  · (intro wq hSw; go_simp; try with_reducible rfl)
  try simp only [Act.put, List.setIfInBounds_toArray, List.set_cons_zero, List.set_cons_succ]
  refine wpAnyH_take (i := 3) (oi := ⟨some 45, _, _, _, _, _⟩) (v := ?_) rfl (by kernel_rfl) (by kernel_rfl) (by kernel_rfl) (fun _ _ _ h => h) (Or.inl ⟨by rfl, ?_⟩) hHeld ?_
  rotate_left
  · (intro wq hSw; have hb9 := hSw.blk HB2.out (fun h => h); have x0 := hb9.cell (i := 0) rfl; have x1 := hb9.cell (i := 1) rfl; have x2 := hb9.cell (i := 2) rfl; have x3 := hb9.cell (i := 3) rfl; have x4 := hb9.cell (i := 4) rfl; clear hb9; go_simp; try with_reducible rfl)
  try simp only [Act.put, List.setIfInBounds_toArray, List.set_cons_zero, List.set_cons_succ]
  refine wpAnyH_take (i := 4) (oi := ⟨some 46, _, _, _, _, _⟩) (v := ?_) rfl (by kernel_rfl) (by kernel_rfl) (by kernel_rfl) (fun _ _ _ h => h) (Or.inl ⟨by rfl, ?_⟩) hHeld ?_
  rotate_left
  · (intro wq hSw; go_simp; try with_reducible rfl)
  try simp only [Act.put, List.setIfInBounds_toArray, List.set_cons_zero, List.set_cons_succ]
  refine wpAnyH_take (i := 5) (oi := ⟨some 47, _, _, _, _, _⟩) (v := ?_) rfl (by kernel_rfl) (by kernel_rfl) (by kernel_rfl) (fun _ _ _ h => h) (Or.inl ⟨by rfl, ?_⟩) hHeld ?_
  rotate_left
  · (intro wq hSw; go_simp; try with_reducible rfl)
  try simp only [Act.put, List.setIfInBounds_toArray, List.set_cons_zero, List.set_cons_succ]
  refine wpAnyH_take (i := 6) (oi := ⟨some 48, _, _, _, _, _⟩) (v := .slice (some ⟨g, o, none⟩) k k) rfl (by kernel_rfl) (by kernel_rfl) (by kernel_rfl) (fun _ _ _ h => h) (Or.inl ⟨by rfl, ?_⟩) hHeld ?_
  · (intro wq hSw; go_simp; try first | (with_reducible rfl) | (simp; omega) | (intros; omega) | simp [*])
  try simp only [Act.put, List.setIfInBounds_toArray, List.set_cons_zero, List.set_cons_succ]
  refine wpAnyH_take (i := 7) (oi := ⟨some 49, _, _, _, _, _⟩) (v := ?_) rfl (by kernel_rfl) (by kernel_rfl) (by kernel_rfl) (fun _ _ _ h => h) (Or.inl ⟨by rfl, ?_⟩) hHeld ?_
  rotate_left
  · (intro wq hSw; go_simp; try with_reducible rfl)
  try simp only [Act.put, List.setIfInBounds_toArray, List.set_cons_zero, List.set_cons_succ]
  refine wpAnyH_take (i := 8) (oi := ⟨some 50, _, _, _, _, _⟩) (v := ?_) rfl (by kernel_rfl) (by kernel_rfl) (by kernel_rfl) (fun _ _ _ h => h) (Or.inl ⟨by rfl, ?_⟩) hHeld ?_
  rotate_left
  · (intro wq hSw; go_simp; try with_reducible rfl)
  try simp only [Act.put, List.setIfInBounds_toArray, List.set_cons_zero, List.set_cons_succ]
  refine wpAnyH_take (i := 9) (oi := ⟨some 51, _, _, _, _, _⟩) (v := ?_) rfl (by kernel_rfl) (by kernel_rfl) (by kernel_rfl) (fun _ _ _ h => h) (Or.inl ⟨by rfl, ?_⟩) hHeld ?_
  rotate_left
  · (intro wq hSw; go_simp; try with_reducible rfl)
  try simp only [Act.put, List.setIfInBounds_toArray, List.set_cons_zero, List.set_cons_succ]
  refine wpAnyH_ready (rs := [10]) (by kernel_rfl) (by simp) ?_
  refine AllReadyH.cons (o := ⟨some 11, _, _, _, _, _⟩) rfl (fun KK hK => ?_) AllReadyH.nil
  go_simp
  have hr1 : V3.heap.size ≤ G.heap.size := HW.out.size
  replace HW := Lib.hid (HW.out.alloc (.cells #[.int .i64 0, .slice none 0 0, .string ⟨#[]⟩, .bool false, .int .u64 0] 31))
  have HSL := Lib.hid (Blk.new G [.int .i64 0, .slice none 0 0, .string ⟨#[]⟩, .bool false, .int .u64 0] 31)
  generalize G.heap.size = r11 at *
  have HR1 := Lib.hid hr1
  clear hr1
  generalize G.alloc (.cells #[.int .i64 0, .slice none 0 0, .string ⟨#[]⟩, .bool false, .int .u64 0] 31) = G at *
  refine hK.out _ _ ?_ (fun hHeld2 => ?_)
  · exact HW.out
  clear hK KK hHeld
  have hHeld := hHeld2
  clear hHeld2
  try simp only [Act.put, List.setIfInBounds_toArray, List.set_cons_zero, List.set_cons_succ]
  refine wpAnyH_ready (rs := [11]) (by kernel_rfl) (by simp) ?_
  refine AllReadyH.cons (o := ⟨none, _, _, _, _, _⟩) rfl (fun KK hK => ?_) AllReadyH.nil
  have hs9 := HSL.out
  have s0 := hs9.cell (i := 0) rfl
  have s1 := hs9.cell (i := 1) rfl
  have s2 := hs9.cell (i := 2) rfl
  have s3 := hs9.cell (i := 3) rfl
  have s4 := hs9.cell (i := 4) rfl
  have z0 := hs9.frozen 0
  have z1 := hs9.frozen 1
  have z2 := hs9.frozen 2
  have z3 := hs9.frozen 3
  have z4 := hs9.frozen 4
  clear hs9
  go_simp
  replace HW := Lib.hid ((((((HW.out).setNew HR1.out 0 (.int .i64 0)).setNew HR1.out 1 (.slice (some ⟨g, o, none⟩) k k)).setNew HR1.out 2 (.string sp)).setNew HR1.out 3 (.bool false)).setNew HR1.out 4 (.int .u64 (right : Int)))
  replace HSL := Lib.hid ((((((HSL.out).set 0 (.int .i64 0)).set 1 (.slice (some ⟨g, o, none⟩) k k)).set 2 (.string sp)).set 3 (.bool false)).set 4 (.int .u64 (right : Int)))
  clear s0 s1 s2 s3 s4 z0 z1 z2 z3 z4
  generalize (((((G).setCell ⟨r11, 0, none⟩ (.int .i64 0)).setCell ⟨r11, 1, none⟩ (.slice (some ⟨g, o, none⟩) k k)).setCell ⟨r11, 2, none⟩ (.string sp)).setCell ⟨r11, 3, none⟩ (.bool false)).setCell ⟨r11, 4, none⟩ (.int .u64 (right : Int)) = G at *
  refine hK.out _ _ ?_ (fun hHeld2 => ?_)
  · exact HW.out
  clear hK KK hHeld
  have hHeld := hHeld2
  clear hHeld2
  try simp only [Act.put, List.setIfInBounds_toArray, List.set_cons_zero, List.set_cons_succ]
  refine wpAnyH_done (by kernel_rfl) ?_ _
  clear hHeld
  have hr5l := HB5.out.lt
  have HSL := Lib.hid (show Blk G r11 31 [.int .i64 0, .slice (some ⟨g, o, none⟩) k k, .string sp, .bool false, .int .u64 (right : Int)] from HSL.out)
  replace HB2 := Lib.hid (HW.out.blk HB2.out (fun h => h))
  replace HB4 := Lib.hid (HW.out.blk HB4.out (fun h => h))
  replace HB5 := Lib.hid (HW.out.blk HB5.out (fun h => h))
  replace HK := Lib.hid (HK.out.trans HW.out (fun _ _ h => h))
  have hrw := HR1.out
  try clear hHeld
  clear HW HR1
  rename World => V4
  have HRV := Lib.hid (show r5 < r11 from by omega)
  clear hr5l hrw
  have hb9 := HB2.out
  have x0 := hb9.cell (i := 0) rfl
  have x1 := hb9.cell (i := 1) rfl
  have x2 := hb9.cell (i := 2) rfl
  have x3 := hb9.cell (i := 3) rfl
  have x4 := hb9.cell (i := 4) rfl
  clear hb9
  go_upto_region 10 with fail
  have hk12 := (Kept.refl (fun _ => False) V4).alloc (.cells #[.int .i64 0, .slice (some ⟨g, o, none⟩) n c, .string hi, .bool la, .int .u64 (rt : Int)] 31)
  have HB12 := Lib.hid (Blk.new V4 [.int .i64 0, .slice (some ⟨g, o, none⟩) n c, .string hi, .bool la, .int .u64 (rt : Int)] 31)
  replace HB2 := Lib.hid (hk12.blk HB2.out (fun h => h))
  replace HB4 := Lib.hid (hk12.blk HB4.out (fun h => h))
  replace HB5 := Lib.hid (hk12.blk HB5.out (fun h => h))
  have hl11 := HSL.out.lt
  replace HSL := Lib.hid (hk12.blk HSL.out (fun h => h))
  replace HK := Lib.hid (HK.out.trans hk12 (fun _ _ h => h))
  clear hk12 x0 x1 x2 x3 x4
  generalize V4.alloc (.cells #[.int .i64 0, .slice (some ⟨g, o, none⟩) n c, .string hi, .bool la, .int .u64 (rt : Int)] 31) = V5 at *
  generalize V4.heap.size = r12 at *
  have HRW := Lib.hid hl11
  clear hl11
  have hb9 := HB2.out
  have x0 := hb9.cell (i := 0) rfl
  have x1 := hb9.cell (i := 1) rfl
  have x2 := hb9.cell (i := 2) rfl
  have x3 := hb9.cell (i := 3) rfl
  have x4 := hb9.cell (i := 4) rfl
  clear hb9
  have hb9 := HB12.out
  have y1 := hb9.cell (i := 1) rfl
  have w1 := hb9.frozen 1
  clear hb9
  go_upto_region 11 with fail
  have hks := (Kept.refl (fun i => i = r12) V5).setCell (a := ⟨r12, 1, none⟩) (fun _ => rfl) (.slice (some ⟨g, o + k * 2, none⟩) (n - k) (c - k))
  have hb12 := HB12.out.set 1 (.slice (some ⟨g, o + k * 2, none⟩) (n - k) (c - k))
  have HB12 := Lib.hid (show Blk (V5.setCell ⟨r12, 1, none⟩ (.slice (some ⟨g, o + k * 2, none⟩) (n - k) (c - k))) r12 31 [.int .i64 0, .slice (some ⟨g, o + k * 2, none⟩) (n - k) (c - k), .string hi, .bool la, .int .u64 (rt : Int)] from hb12)
  replace HB4 := Lib.hid (hks.blk HB4.out (fun h => by have := HRV.out; have := HRR.out; have := HRW.out; omega))
  replace HB5 := Lib.hid (hks.blk HB5.out (fun h => by have := HRV.out; have := HRR.out; have := HRW.out; omega))
  replace HSL := Lib.hid (hks.blk HSL.out (fun h => by have := HRW.out; omega))
  replace HK := Lib.hid (HK.out.trans hks (fun i hi h => by have h2 : i = r12 := h; have := HRV.out; have := HRR.out; have := HRW.out; omega))
  clear hks hb12 x0 x1 x2 x3 x4 y1 w1 HB2
  generalize V5.setCell ⟨r12, 1, none⟩ (.slice (some ⟨g, o + k * 2, none⟩) (n - k) (c - k)) = V6 at *
  refine wp_region_held_drew (S := (fun w' => Kept (fun i => i = r4 ∨ i = r5) V6 w')) (by kernel_rfl) ?_ (fun hHeld => ?_)
  · exact ((Kept.refl (fun _ => False) _).drew).mono (fun _ h => h.elim)
  have hdr := (Kept.refl (fun _ => False) V6).drew
  have HW := Lib.hid (hdr.mono (T := fun i => i = r4 ∨ i = r5) (fun _ h => h.elim))
  replace HB4 := Lib.hid (hdr.blk HB4.out (fun h => h))
  replace HB5 := Lib.hid (hdr.blk HB5.out (fun h => h))
  clear hdr
  generalize V6.drew = G at *
  refine wpAnyH_take (i := 0) (oi := ⟨some 58, _, _, _, _, _⟩) (v := ?_) rfl (by kernel_rfl) (by kernel_rfl) (by kernel_rfl) (fun _ _ _ h => h) (Or.inl ⟨by rfl, ?_⟩) hHeld ?_
  rotate_left
  · (intro wq hSw; have hb9 := hSw.blk HSL.out (fun h => by have := HRV.out; have := HRR.out; omega); have x0 := hb9.cell (i := 0) rfl; have x1 := hb9.cell (i := 1) rfl; have x2 := hb9.cell (i := 2) rfl; have x3 := hb9.cell (i := 3) rfl; have x4 := hb9.cell (i := 4) rfl; clear hb9; have hb9 := hSw.blk HB12.out (fun h => by have := HRV.out; have := HRR.out; have := HRW.out; omega); have y0 := hb9.cell (i := 0) rfl; have y1 := hb9.cell (i := 1) rfl; have y2 := hb9.cell (i := 2) rfl; have y3 := hb9.cell (i := 3) rfl; have y4 := hb9.cell (i := 4) rfl; clear hb9; go_simp; try with_reducible rfl)
  try simp only [Act.put, List.setIfInBounds_toArray, List.set_cons_zero, List.set_cons_succ]
  refine wpAnyH_take (i := 1) (oi := ⟨some 59, _, _, _, _, _⟩) (v := ?_) rfl (by kernel_rfl) (by kernel_rfl) (by kernel_rfl) (fun _ _ _ h => h) (Or.inl ⟨by rfl, ?_⟩) hHeld ?_
  rotate_left
  · (intro wq hSw; have hb9 := hSw.blk HSL.out (fun h => by have := HRV.out; have := HRR.out; omega); have x0 := hb9.cell (i := 0) rfl; have x1 := hb9.cell (i := 1) rfl; have x2 := hb9.cell (i := 2) rfl; have x3 := hb9.cell (i := 3) rfl; have x4 := hb9.cell (i := 4) rfl; clear hb9; have hb9 := hSw.blk HB12.out (fun h => by have := HRV.out; have := HRR.out; have := HRW.out; omega); have y0 := hb9.cell (i := 0) rfl; have y1 := hb9.cell (i := 1) rfl; have y2 := hb9.cell (i := 2) rfl; have y3 := hb9.cell (i := 3) rfl; have y4 := hb9.cell (i := 4) rfl; clear hb9; go_simp; try with_reducible rfl)
  try simp only [Act.put, List.setIfInBounds_toArray, List.set_cons_zero, List.set_cons_succ]
  refine wpAnyH_take (i := 2) (oi := ⟨some 60, _, _, _, _, _⟩) (v := ?_) rfl (by kernel_rfl) (by kernel_rfl) (by kernel_rfl) (fun _ _ _ h => h) (Or.inl ⟨by rfl, ?_⟩) hHeld ?_
  rotate_left
  · (intro wq hSw; go_simp; try with_reducible rfl)
  try simp only [Act.put, List.setIfInBounds_toArray, List.set_cons_zero, List.set_cons_succ]
  refine wpAnyH_ready (rs := [3]) (by kernel_rfl) (by simp) ?_
  refine AllReadyH.cons (o := ⟨none, _, _, _, _, _⟩) rfl (fun KK hK => ?_) AllReadyH.nil
  have hs9 := HB4.out
  have s0 := hs9.cell (i := 0) rfl
  have s1 := hs9.cell (i := 1) rfl
  have s2 := hs9.cell (i := 2) rfl
  have s3 := hs9.cell (i := 3) rfl
  have s4 := hs9.cell (i := 4) rfl
  have z0 := hs9.frozen 0
  have z1 := hs9.frozen 1
  have z2 := hs9.frozen 2
  have z3 := hs9.frozen 3
  have z4 := hs9.frozen 4
  clear hs9
  go_simp
  replace HW := Lib.hid ((((((HW.out).setCell (a := ⟨r4, 0, none⟩) (fun _ => .inl rfl) (.int .i64 0)).setCell (a := ⟨r4, 1, none⟩) (fun _ => .inl rfl) (.slice (some ⟨g, o, none⟩) k k)).setCell (a := ⟨r4, 2, none⟩) (fun _ => .inl rfl) (.string sp)).setCell (a := ⟨r4, 3, none⟩) (fun _ => .inl rfl) (.bool false)).setCell (a := ⟨r4, 4, none⟩) (fun _ => .inl rfl) (.int .u64 (right : Int)))
  replace HB4 := Lib.hid ((((((HB4.out).set 0 (.int .i64 0)).set 1 (.slice (some ⟨g, o, none⟩) k k)).set 2 (.string sp)).set 3 (.bool false)).set 4 (.int .u64 (right : Int)))
  replace HB5 := Lib.hid ((((((HB5.out).other (a := ⟨r4, 0, none⟩) (show r5 ≠ r4 by have := HRR.out; omega) (.int .i64 0)).other (a := ⟨r4, 1, none⟩) (show r5 ≠ r4 by have := HRR.out; omega) (.slice (some ⟨g, o, none⟩) k k)).other (a := ⟨r4, 2, none⟩) (show r5 ≠ r4 by have := HRR.out; omega) (.string sp)).other (a := ⟨r4, 3, none⟩) (show r5 ≠ r4 by have := HRR.out; omega) (.bool false)).other (a := ⟨r4, 4, none⟩) (show r5 ≠ r4 by have := HRR.out; omega) (.int .u64 (right : Int)))
  clear s0 s1 s2 s3 s4 z0 z1 z2 z3 z4
  generalize (((((G).setCell ⟨r4, 0, none⟩ (.int .i64 0)).setCell ⟨r4, 1, none⟩ (.slice (some ⟨g, o, none⟩) k k)).setCell ⟨r4, 2, none⟩ (.string sp)).setCell ⟨r4, 3, none⟩ (.bool false)).setCell ⟨r4, 4, none⟩ (.int .u64 (right : Int)) = G at *
  refine hK.out _ _ ?_ (fun hHeld2 => ?_)
  · exact HW.out
  clear hK KK hHeld
  have hHeld := hHeld2
  clear hHeld2
  try simp only [Act.put, List.setIfInBounds_toArray, List.set_cons_zero, List.set_cons_succ]
  refine wpAnyH_ready (rs := [4]) (by kernel_rfl) (by simp) ?_
  refine AllReadyH.cons (o := ⟨none, _, _, _, _, _⟩) rfl (fun KK hK => ?_) AllReadyH.nil
  have hs9 := HB5.out
  have s0 := hs9.cell (i := 0) rfl
  have s1 := hs9.cell (i := 1) rfl
  have s2 := hs9.cell (i := 2) rfl
  have s3 := hs9.cell (i := 3) rfl
  have s4 := hs9.cell (i := 4) rfl
  have z0 := hs9.frozen 0
  have z1 := hs9.frozen 1
  have z2 := hs9.frozen 2
  have z3 := hs9.frozen 3
  have z4 := hs9.frozen 4
  clear hs9
  go_simp
  replace HW := Lib.hid ((((((HW.out).setCell (a := ⟨r5, 0, none⟩) (fun _ => .inr rfl) (.int .i64 0)).setCell (a := ⟨r5, 1, none⟩) (fun _ => .inr rfl) (.slice (some ⟨g, o + k * 2, none⟩) (n - k) (c - k))).setCell (a := ⟨r5, 2, none⟩) (fun _ => .inr rfl) (.string hi)).setCell (a := ⟨r5, 3, none⟩) (fun _ => .inr rfl) (.bool la)).setCell (a := ⟨r5, 4, none⟩) (fun _ => .inr rfl) (.int .u64 (rt : Int)))
  replace HB5 := Lib.hid ((((((HB5.out).set 0 (.int .i64 0)).set 1 (.slice (some ⟨g, o + k * 2, none⟩) (n - k) (c - k))).set 2 (.string hi)).set 3 (.bool la)).set 4 (.int .u64 (rt : Int)))
  replace HB4 := Lib.hid ((((((HB4.out).other (a := ⟨r5, 0, none⟩) (show r4 ≠ r5 by have := HRR.out; omega) (.int .i64 0)).other (a := ⟨r5, 1, none⟩) (show r4 ≠ r5 by have := HRR.out; omega) (.slice (some ⟨g, o + k * 2, none⟩) (n - k) (c - k))).other (a := ⟨r5, 2, none⟩) (show r4 ≠ r5 by have := HRR.out; omega) (.string hi)).other (a := ⟨r5, 3, none⟩) (show r4 ≠ r5 by have := HRR.out; omega) (.bool la)).other (a := ⟨r5, 4, none⟩) (show r4 ≠ r5 by have := HRR.out; omega) (.int .u64 (rt : Int)))
  clear s0 s1 s2 s3 s4 z0 z1 z2 z3 z4
  generalize (((((G).setCell ⟨r5, 0, none⟩ (.int .i64 0)).setCell ⟨r5, 1, none⟩ (.slice (some ⟨g, o + k * 2, none⟩) (n - k) (c - k))).setCell ⟨r5, 2, none⟩ (.string hi)).setCell ⟨r5, 3, none⟩ (.bool la)).setCell ⟨r5, 4, none⟩ (.int .u64 (rt : Int)) = G at *
  refine hK.out _ _ ?_ (fun hHeld2 => ?_)
  · exact HW.out
  clear hK KK hHeld
  have hHeld := hHeld2
  clear hHeld2
  try simp only [Act.put, List.setIfInBounds_toArray, List.set_cons_zero, List.set_cons_succ]
  refine wpAnyH_take (i := 5) (oi := ⟨some 6, _, _, _, _, _⟩) (v := ?_) rfl (by kernel_rfl) (by kernel_rfl) (by kernel_rfl) (fun _ _ _ h => h) (Or.inl ⟨by rfl, ?_⟩) hHeld ?_
  rotate_left
  · (intro wq hSw; go_simp; try with_reducible rfl)
  try simp only [Act.put, List.setIfInBounds_toArray, List.set_cons_zero, List.set_cons_succ]
  refine wpAnyH_take (i := 6) (oi := ⟨some 7, _, _, _, _, _⟩) (v := ?_) rfl (by kernel_rfl) (by kernel_rfl) (by kernel_rfl) (fun _ _ _ h => h) (Or.inl ⟨by rfl, ?_⟩) hHeld ?_
  rotate_left
  · (intro wq hSw; go_simp; try with_reducible rfl)
  try simp only [Act.put, List.setIfInBounds_toArray, List.set_cons_zero, List.set_cons_succ]
  refine wpAnyH_done (by kernel_rfl) ?_ _
  clear hHeld
  have HKz := Lib.hid (HK.out.trans HW.out (fun i hi h => by have := HRR.out; omega))
  have hB4 : Blk _ r4 31 [.int .i64 0, .slice (some ⟨g, o, none⟩) k k, .string sp, .bool false, .int .u64 (right : Int)] := HB4.out
  have hB5 : Blk _ r5 31 [.int .i64 0, .slice (some ⟨g, o + k * 2, none⟩) (n - k) (c - k), .string hi, .bool la, .int .u64 (rt : Int)] := HB5.out
  have a0 := hB4.cell (i := 0) rfl
  have a1 := hB4.cell (i := 1) rfl
  have a2 := hB4.cell (i := 2) rfl
  have a3 := hB4.cell (i := 3) rfl
  have a4 := hB4.cell (i := 4) rfl
  have b0 := hB5.cell (i := 0) rfl
  have b1 := hB5.cell (i := 1) rfl
  have b2 := hB5.cell (i := 2) rfl
  have b3 := hB5.cell (i := 3) rfl
  have b4 := hB5.cell (i := 4) rfl
  clear hB4 hB5
  go_wp2
  refine bodyPost_ret (v := .tuple #[.agg #[.int .i64 0, .slice (some ⟨g, o, none⟩) k k, .string sp, .bool false, .int .u64 (right : Int)], .agg #[.int .i64 0, .slice (some ⟨g, o + k * 2, none⟩) (n - k) (c - k), .string hi, .bool la, .int .u64 (rt : Int)], .string sp, .bool true]) ?_ rfl ⟨g, o, rfl, rfl, HKz.out⟩
  simp [results, Try.results17, go_sem, *]

end Go.Proofs.Ythpaolhpkmgelaa
