/-
  Package insert: the rest of what an Insert answers. Condition: none.
-/
import Derived.Test.YthpaolhpkmgelaaInRun
import Derived.Test.YthpaolhpkmgelaaInIns
namespace Go.Proofs.Ythpaolhpkmgelaa
open Go.RowKit Go.Deep Plain
set_option linter.unusedVariables false

section
open Go.RowKit Go.Deep Plain
set_option linter.unusedVariables false

set_option maxRecDepth 100000 in
set_option maxHeartbeats 2000000 in
theorem is_leftF (F : Nat) (N fb fd : Int) (i id wd : Nat) (P X : Pg) (m : Nat) (sp : ByteArray) (lim : Nat) (Z : Nat → Prop) (w : World) (h : IAt Z w F N fb fd i id wd P X m sp lim .ful) (hlen : P.xs.length ≤ 1000) :
    Calls Try.prog 13 #[.pointer (some ⟨i, 0, none⟩)] w fun e w' => ∃ A4 c4, e = .returned (.agg #[.int .u64 (id : Int), .int .u64 (wd : Int), .int .i64 (P.lv : Int), .slice A4 P.xs.length c4, .string P.hi, .bool P.la, .int .u64 (P.rt : Int)]) ∧ Rs w' A4 c4 P.xs ∧ (∀ a, A4 = some a → w.heap.size ≤ a.block) ∧ Kept (fun _ => False) w w' := by
  cases h with
  | ful h hi hR hA =>
    rename_i tk fr wp A c A2 c2 s0
    obtain ⟨s, hs⟩ : ∃ s, w.heap.size = s := ⟨_, rfl⟩
    have hi0 := h
    go_enter Try.func13, Try.ntmps13
    go_upto_region 1 with fail
    have hk0 := (Kept.refl (fun _ => False) w).alloc (.cells #[.int .u64 0, .int .u64 0, .int .i64 0, .slice none 0 0, .string ⟨#[]⟩, .bool false, .int .u64 0] 33)
    have HS1 := Lib.hid (Blk.new w [.int .u64 0, .int .u64 0, .int .i64 0, .slice none 0 0, .string ⟨#[]⟩, .bool false, .int .u64 0] 33)
    have HSS := Lib.hid (show s = w.heap.size from hs.symm)
    replace hi0 := hk0.blk hi0 (fun h => h)
    have hR1 := Lib.hid (hR.keptF hk0 (fun _ _ h => h))
    clear hR hA
    rw [hs] at HS1
    have HSZ := Lib.hid (show s < (w.alloc (.cells #[.int .u64 0, .int .u64 0, .int .i64 0, .slice none 0 0, .string ⟨#[]⟩, .bool false, .int .u64 0] 33)).heap.size from HS1.out.lt)
    generalize w.alloc (.cells #[.int .u64 0, .int .u64 0, .int .i64 0, .slice none 0 0, .string ⟨#[]⟩, .bool false, .int .u64 0] 33) = w1 at *
    have HK := Lib.hid hk0
    have x22 := hi0.cell (i := 22) rfl; have x10 := hi0.cell (i := 10) rfl; have x11 := hi0.cell (i := 11) rfl; have x12 := hi0.cell (i := 12) rfl; have x13 := hi0.cell (i := 13) rfl; have x14 := hi0.cell (i := 14) rfl; have x15 := hi0.cell (i := 15) rfl; have x16 := hi0.cell (i := 16) rfl
    clear hk0 hi0 h hs
    go_wp2_with fail
    refine (icopied_any id wd P A c _ hlen hR1.out).mono ?_; rintro e w2 ⟨A4, c4, rfl, hR4, hA4, hK4⟩
    have HR4 := Lib.hid hR4
    have HA4 := Lib.hid (show ∀ a, A4 = some a → s < a.block from fun a ha => by have h1 := hA4 a ha; have h2 := HSZ.out; omega)
    replace HS1 := Lib.hid (hK4.blk HS1.out (fun h => h))
    replace HK := Lib.hid (HK.out.trans hK4 (fun _ _ h => h))
    clear hR4 hA4 hK4 x22 x10 x11 x12 x13 x14 x15 x16 hR1
    have hs1 := HS1.out
    have y0 := hs1.cell (i := 0) rfl; have y1 := hs1.cell (i := 1) rfl; have y2 := hs1.cell (i := 2) rfl; have y3 := hs1.cell (i := 3) rfl; have y4 := hs1.cell (i := 4) rfl; have y5 := hs1.cell (i := 5) rfl; have y6 := hs1.cell (i := 6) rfl; have z0 := hs1.frozen 0; have z1 := hs1.frozen 1; have z2 := hs1.frozen 2; have z3 := hs1.frozen 3; have z4 := hs1.frozen 4; have z5 := hs1.frozen 5; have z6 := hs1.frozen 6
    clear hs1
    go_wp2
    have hks := (((((((Kept.refl (fun k => k = s) w2).setCell (a := ⟨s, 0, none⟩) (fun _ => rfl) (.int .u64 (id : Int))).setCell (a := ⟨s, 1, none⟩) (fun _ => rfl) (.int .u64 (wd : Int))).setCell (a := ⟨s, 2, none⟩) (fun _ => rfl) (.int .i64 (P.lv : Int))).setCell (a := ⟨s, 3, none⟩) (fun _ => rfl) (.slice A4 P.xs.length c4)).setCell (a := ⟨s, 4, none⟩) (fun _ => rfl) (.string P.hi)).setCell (a := ⟨s, 5, none⟩) (fun _ => rfl) (.bool P.la)).setCell (a := ⟨s, 6, none⟩) (fun _ => rfl) (.int .u64 (P.rt : Int))
    have hb0 := (((((((HS1.out).set 0 (.int .u64 (id : Int))).set 1 (.int .u64 (wd : Int))).set 2 (.int .i64 (P.lv : Int))).set 3 (.slice A4 P.xs.length c4)).set 4 (.string P.hi)).set 5 (.bool P.la)).set 6 (.int .u64 (P.rt : Int))
    clear y0 z0 y1 z1 y2 z2 y3 z3 y4 z4 y5 z5 y6 z6 HS1
    generalize (((((((w2).setCell ⟨s, 0, none⟩ (.int .u64 (id : Int))).setCell ⟨s, 1, none⟩ (.int .u64 (wd : Int))).setCell ⟨s, 2, none⟩ (.int .i64 (P.lv : Int))).setCell ⟨s, 3, none⟩ (.slice A4 P.xs.length c4)).setCell ⟨s, 4, none⟩ (.string P.hi)).setCell ⟨s, 5, none⟩ (.bool P.la)).setCell ⟨s, 6, none⟩ (.int .u64 (P.rt : Int)) = w3 at *
    have hb : Blk w3 s 33 [.int .u64 (id : Int), .int .u64 (wd : Int), .int .i64 (P.lv : Int), .slice A4 P.xs.length c4, .string P.hi, .bool P.la, .int .u64 (P.rt : Int)] := hb0
    clear hb0
    have HF := Lib.hid (show Rs w3 A4 c4 P.xs ∧ (∀ a, A4 = some a → w.heap.size ≤ a.block) ∧ Kept (fun _ => False) w w3 from ⟨HR4.out.keptF hks (fun a ha h => by have h1 := HA4.out a ha; have h2 := HSS.out; omega), fun a ha => by have h1 := HA4.out a ha; have h2 := HSS.out; omega, HK.out.trans hks (fun i hi h => by have h2 := HSS.out; omega)⟩)
    clear hks HR4 HK HA4
    have q0 := hb.cell (i := 0) rfl; have q1 := hb.cell (i := 1) rfl; have q2 := hb.cell (i := 2) rfl; have q3 := hb.cell (i := 3) rfl; have q4 := hb.cell (i := 4) rfl; have q5 := hb.cell (i := 5) rfl; have q6 := hb.cell (i := 6) rfl
    clear hb
    refine bodyPost_ret (v := .agg #[.int .u64 (id : Int), .int .u64 (wd : Int), .int .i64 (P.lv : Int), .slice A4 P.xs.length c4, .string P.hi, .bool P.la, .int .u64 (P.rt : Int)]) (by simp [results, Try.results13, go_sem, q0, q1, q2, q3, q4, q5, q6]) rfl ⟨A4, c4, rfl, HF.out⟩

set_option maxRecDepth 100000 in
set_option maxHeartbeats 2000000 in
theorem is_rightF (F : Nat) (N fb fd : Int) (i id wd : Nat) (P X : Pg) (m : Nat) (sp : ByteArray) (lim : Nat) (Z : Nat → Prop) (w : World) (h : IAt Z w F N fb fd i id wd P X m sp lim .ful) :
    Calls Try.prog 15 #[.pointer (some ⟨i, 0, none⟩)] w fun e w' => e = .returned (.agg #[.int .u64 0, .int .u64 0, .int .i64 0, .slice none 0 0, .string ⟨#[]⟩, .bool false, .int .u64 0]) ∧ Kept (fun _ => False) w w' := by
  cases h with
  | ful h hi hR hA =>
    rename_i tk fr wp A c A2 c2 s0
    obtain ⟨s, hs⟩ : ∃ s, w.heap.size = s := ⟨_, rfl⟩
    have hi0 := h
    go_enter Try.func15, Try.ntmps15
    go_upto_region 1 with fail
    have hk0 := (Kept.refl (fun _ => False) w).alloc (.cells #[.int .u64 0, .int .u64 0, .int .i64 0, .slice none 0 0, .string ⟨#[]⟩, .bool false, .int .u64 0] 33)
    have HS1 := Lib.hid (Blk.new w [.int .u64 0, .int .u64 0, .int .i64 0, .slice none 0 0, .string ⟨#[]⟩, .bool false, .int .u64 0] 33)
    have HSS := Lib.hid (show s = w.heap.size from hs.symm)
    replace hi0 := hk0.blk hi0 (fun h => h)
    rw [hs] at HS1
    have HSZ := Lib.hid (show s < (w.alloc (.cells #[.int .u64 0, .int .u64 0, .int .i64 0, .slice none 0 0, .string ⟨#[]⟩, .bool false, .int .u64 0] 33)).heap.size from HS1.out.lt)
    generalize w.alloc (.cells #[.int .u64 0, .int .u64 0, .int .i64 0, .slice none 0 0, .string ⟨#[]⟩, .bool false, .int .u64 0] 33) = w1 at *
    have HK := Lib.hid hk0
    have x22 := hi0.cell (i := 22) rfl; have x24 := hi0.cell (i := 24) rfl
    clear hk0 hi0 h hs
    have hs1 := HS1.out
    have y0 := hs1.cell (i := 0) rfl; have y1 := hs1.cell (i := 1) rfl; have y2 := hs1.cell (i := 2) rfl; have y3 := hs1.cell (i := 3) rfl; have y4 := hs1.cell (i := 4) rfl; have y5 := hs1.cell (i := 5) rfl; have y6 := hs1.cell (i := 6) rfl; have z0 := hs1.frozen 0; have z1 := hs1.frozen 1; have z2 := hs1.frozen 2; have z3 := hs1.frozen 3; have z4 := hs1.frozen 4; have z5 := hs1.frozen 5; have z6 := hs1.frozen 6
    clear hs1
    go_wp2
    have hks := (((((((Kept.refl (fun k => k = s) w1).setCell (a := ⟨s, 0, none⟩) (fun _ => rfl) (.int .u64 0)).setCell (a := ⟨s, 1, none⟩) (fun _ => rfl) (.int .u64 0)).setCell (a := ⟨s, 2, none⟩) (fun _ => rfl) (.int .i64 0)).setCell (a := ⟨s, 3, none⟩) (fun _ => rfl) (.slice none 0 0)).setCell (a := ⟨s, 4, none⟩) (fun _ => rfl) (.string ⟨#[]⟩)).setCell (a := ⟨s, 5, none⟩) (fun _ => rfl) (.bool false)).setCell (a := ⟨s, 6, none⟩) (fun _ => rfl) (.int .u64 0)
    have hb0 := (((((((HS1.out).set 0 (.int .u64 0)).set 1 (.int .u64 0)).set 2 (.int .i64 0)).set 3 (.slice none 0 0)).set 4 (.string ⟨#[]⟩)).set 5 (.bool false)).set 6 (.int .u64 0)
    clear y0 z0 y1 z1 y2 z2 y3 z3 y4 z4 y5 z5 y6 z6 HS1
    generalize (((((((w1).setCell ⟨s, 0, none⟩ (.int .u64 0)).setCell ⟨s, 1, none⟩ (.int .u64 0)).setCell ⟨s, 2, none⟩ (.int .i64 0)).setCell ⟨s, 3, none⟩ (.slice none 0 0)).setCell ⟨s, 4, none⟩ (.string ⟨#[]⟩)).setCell ⟨s, 5, none⟩ (.bool false)).setCell ⟨s, 6, none⟩ (.int .u64 0) = w3 at *
    have hb : Blk w3 s 33 [.int .u64 0, .int .u64 0, .int .i64 0, .slice none 0 0, .string ⟨#[]⟩, .bool false, .int .u64 0] := hb0
    clear hb0
    have HF := Lib.hid (show Kept (fun _ => False) w w3 from HK.out.trans hks (fun i hi h => by have h2 := HSS.out; omega))
    clear hks HK
    have q0 := hb.cell (i := 0) rfl; have q1 := hb.cell (i := 1) rfl; have q2 := hb.cell (i := 2) rfl; have q3 := hb.cell (i := 3) rfl; have q4 := hb.cell (i := 4) rfl; have q5 := hb.cell (i := 5) rfl; have q6 := hb.cell (i := 6) rfl
    clear hb
    refine bodyPost_ret (v := .agg #[.int .u64 0, .int .u64 0, .int .i64 0, .slice none 0 0, .string ⟨#[]⟩, .bool false, .int .u64 0]) (by simp [results, Try.results15, go_sem, q0, q1, q2, q3, q4, q5, q6]) rfl ⟨rfl, HF.out⟩

set_option maxRecDepth 100000 in
set_option maxHeartbeats 2000000 in
theorem is_right0 (F : Nat) (N fb fd : Int) (i id wd : Nat) (P X : Pg) (m : Nat) (sp : ByteArray) (lim : Nat) (Z : Nat → Prop) (w : World) (h : IAt Z w F N fb fd i id wd P X m sp lim (.don none)) :
    Calls Try.prog 15 #[.pointer (some ⟨i, 0, none⟩)] w fun e w' => e = .returned (.agg #[.int .u64 0, .int .u64 0, .int .i64 0, .slice none 0 0, .string ⟨#[]⟩, .bool false, .int .u64 0]) ∧ Kept (fun _ => False) w w' := by
  cases h with
  | don0 h hw hi hz =>
    rename_i q2 tk Zw A c A2 c2
    obtain ⟨s, hs⟩ : ∃ s, w.heap.size = s := ⟨_, rfl⟩
    have hi0 := h
    go_enter Try.func15, Try.ntmps15
    go_upto_region 1 with fail
    have hk0 := (Kept.refl (fun _ => False) w).alloc (.cells #[.int .u64 0, .int .u64 0, .int .i64 0, .slice none 0 0, .string ⟨#[]⟩, .bool false, .int .u64 0] 33)
    have HS1 := Lib.hid (Blk.new w [.int .u64 0, .int .u64 0, .int .i64 0, .slice none 0 0, .string ⟨#[]⟩, .bool false, .int .u64 0] 33)
    have HSS := Lib.hid (show s = w.heap.size from hs.symm)
    replace hi0 := hk0.blk hi0 (fun h => h)
    rw [hs] at HS1
    have HSZ := Lib.hid (show s < (w.alloc (.cells #[.int .u64 0, .int .u64 0, .int .i64 0, .slice none 0 0, .string ⟨#[]⟩, .bool false, .int .u64 0] 33)).heap.size from HS1.out.lt)
    generalize w.alloc (.cells #[.int .u64 0, .int .u64 0, .int .i64 0, .slice none 0 0, .string ⟨#[]⟩, .bool false, .int .u64 0] 33) = w1 at *
    have HK := Lib.hid hk0
    have x22 := hi0.cell (i := 22) rfl; have x24 := hi0.cell (i := 24) rfl
    clear hk0 hi0 h hs
    have hs1 := HS1.out
    have y0 := hs1.cell (i := 0) rfl; have y1 := hs1.cell (i := 1) rfl; have y2 := hs1.cell (i := 2) rfl; have y3 := hs1.cell (i := 3) rfl; have y4 := hs1.cell (i := 4) rfl; have y5 := hs1.cell (i := 5) rfl; have y6 := hs1.cell (i := 6) rfl; have z0 := hs1.frozen 0; have z1 := hs1.frozen 1; have z2 := hs1.frozen 2; have z3 := hs1.frozen 3; have z4 := hs1.frozen 4; have z5 := hs1.frozen 5; have z6 := hs1.frozen 6
    clear hs1
    go_wp2
    have hks := (((((((Kept.refl (fun k => k = s) w1).setCell (a := ⟨s, 0, none⟩) (fun _ => rfl) (.int .u64 0)).setCell (a := ⟨s, 1, none⟩) (fun _ => rfl) (.int .u64 0)).setCell (a := ⟨s, 2, none⟩) (fun _ => rfl) (.int .i64 0)).setCell (a := ⟨s, 3, none⟩) (fun _ => rfl) (.slice none 0 0)).setCell (a := ⟨s, 4, none⟩) (fun _ => rfl) (.string ⟨#[]⟩)).setCell (a := ⟨s, 5, none⟩) (fun _ => rfl) (.bool false)).setCell (a := ⟨s, 6, none⟩) (fun _ => rfl) (.int .u64 0)
    have hb0 := (((((((HS1.out).set 0 (.int .u64 0)).set 1 (.int .u64 0)).set 2 (.int .i64 0)).set 3 (.slice none 0 0)).set 4 (.string ⟨#[]⟩)).set 5 (.bool false)).set 6 (.int .u64 0)
    clear y0 z0 y1 z1 y2 z2 y3 z3 y4 z4 y5 z5 y6 z6 HS1
    generalize (((((((w1).setCell ⟨s, 0, none⟩ (.int .u64 0)).setCell ⟨s, 1, none⟩ (.int .u64 0)).setCell ⟨s, 2, none⟩ (.int .i64 0)).setCell ⟨s, 3, none⟩ (.slice none 0 0)).setCell ⟨s, 4, none⟩ (.string ⟨#[]⟩)).setCell ⟨s, 5, none⟩ (.bool false)).setCell ⟨s, 6, none⟩ (.int .u64 0) = w3 at *
    have hb : Blk w3 s 33 [.int .u64 0, .int .u64 0, .int .i64 0, .slice none 0 0, .string ⟨#[]⟩, .bool false, .int .u64 0] := hb0
    clear hb0
    have HF := Lib.hid (show Kept (fun _ => False) w w3 from HK.out.trans hks (fun i hi h => by have h2 := HSS.out; omega))
    clear hks HK
    have q0 := hb.cell (i := 0) rfl; have q1 := hb.cell (i := 1) rfl; have q2 := hb.cell (i := 2) rfl; have q3 := hb.cell (i := 3) rfl; have q4 := hb.cell (i := 4) rfl; have q5 := hb.cell (i := 5) rfl; have q6 := hb.cell (i := 6) rfl
    clear hb
    refine bodyPost_ret (v := .agg #[.int .u64 0, .int .u64 0, .int .i64 0, .slice none 0 0, .string ⟨#[]⟩, .bool false, .int .u64 0]) (by simp [results, Try.results15, go_sem, q0, q1, q2, q3, q4, q5, q6]) rfl ⟨rfl, HF.out⟩

set_option maxRecDepth 100000 in
set_option maxHeartbeats 1000000 in
theorem is_errF (F : Nat) (N fb fd : Int) (i id wd : Nat) (P X : Pg) (m : Nat) (sp : ByteArray) (lim : Nat) (Z : Nat → Prop) (num : Nat) (w : World) (h : IAt Z w F N fb fd i id wd P X m sp lim .ful) :
    Calls Try.prog 12 #[.pointer (some ⟨i, 0, none⟩)] w fun e w' => e = .returned (.int .i64 2) ∧ Kept (fun _ => False) w w' := by
  cases h with
  | ful h hi hR hA =>
    rename_i tk fr wp A c A2 c2 s0
    have x22 := h.cell (i := 22) rfl
    clear h
    go_enter Try.func12, Try.ntmps12
    go_wp2
    go_ret
    exact ⟨rfl, Kept.refl _ _⟩

set_option maxRecDepth 100000 in
set_option maxHeartbeats 1000000 in
theorem is_sep0 (F : Nat) (N fb fd : Int) (i id wd : Nat) (P X : Pg) (m : Nat) (sp : ByteArray) (lim : Nat) (Z : Nat → Prop) (num : Nat) (w : World) (h : IAt Z w F N fb fd i id wd P X m sp lim (.don none)) :
    Calls Try.prog 21 #[.pointer (some ⟨i, 0, none⟩)] w fun e w' => e = .returned (.string ⟨#[]⟩) ∧ Kept (fun _ => False) w w' := by
  cases h with
  | don0 h hw hi hz =>
    rename_i q2 tk Zw A c A2 c2
    have x22 := h.cell (i := 22) rfl
    have x26 := h.cell (i := 26) rfl
    clear h
    go_enter Try.func21, Try.ntmps21
    go_wp2
    go_ret
    exact ⟨rfl, Kept.refl _ _⟩

set_option maxRecDepth 100000 in
set_option maxHeartbeats 1000000 in
theorem is_sep1 (F : Nat) (N fb fd : Int) (i id wd : Nat) (P X : Pg) (m : Nat) (sp : ByteArray) (lim : Nat) (Z : Nat → Prop) (num : Nat) (w : World) (h : IAt Z w F N fb fd i id wd P X m sp lim (.don (some num))) :
    Calls Try.prog 21 #[.pointer (some ⟨i, 0, none⟩)] w fun e w' => e = .returned (.string sp) ∧ Kept (fun _ => False) w w' := by
  cases h with
  | don1 h hf hw hi hzf hz hd =>
    rename_i q2 r tk Zf Zw A c A3 c3
    have x22 := h.cell (i := 22) rfl
    have x26 := h.cell (i := 26) rfl
    clear h
    go_enter Try.func21, Try.ntmps21
    go_wp2
    go_ret
    exact ⟨rfl, Kept.refl _ _⟩


/-- NewInsert for a node that is held. -/
theorem new_startG (F : Nat) (fb fd : Int) (id wd lim Nv : Nat) (P : Pg) (A : Option Addr) (c : Nat) (key : ByteArray) (ref m : Nat) (sp : ByteArray) (l0 : List Cel) (w : World) (O : Iok F (lim : Int) fb fd id wd P (npg P key ref) m sp lim Nv l0 ⟨#[]⟩ 0) (hR : Rs w A c P.xs) (ha : Asc P.xs) (hk : has key P.xs = false) :
    Calls Try.prog 7 #[.agg #[.int .i64 1, .int .i64 2, .int .i64 (lim : Int), .int .i64 100, .int .i64 200, .int .i64 (F : Int), .int .u64 1000, .int .i64 10, .int .i64 fb, .int .i64 fd], .agg #[.int .u64 (id : Int), .int .u64 (wd : Int), .int .i64 (P.lv : Int), .slice A P.xs.length c, .string P.hi, .bool P.la, .int .u64 (P.rt : Int)], .string key, .int .u64 (ref : Int)] w fun e w' => ∃ (i : Nat) (Z : Nat → Prop) (s : Is) (d : Nat), e = .returned (.pointer (some ⟨i, 0, none⟩)) ∧ IAt Z w' F (lim : Int) fb fd i id wd P (npg P key ref) m sp lim s ∧ Ipl F (lim : Int) id wd P (npg P key ref) m sp lim Nv l0 ⟨#[]⟩ 0 s l0 d ∧ s.two = decide (F < (npg P key ref).xs.length) ∧ 0 < d ∧ (∀ j, Z j → w.heap.size ≤ j ∧ j < w'.heap.size) ∧ Kept (fun _ => False) w w' := by
  have hw0 := wrsN_len (F := F) (N := (lim : Int)) (id := id) (wd := wd) P (npg P key ref)
  by_cases hf : F < (npg P key ref).xs.length
  · refine (newInsert_take (lim : Int) F fb fd O.lim O.reach id wd P A c key ref lim w (by have := O.pl; omega) O.plv O.word rfl hR ha hk hf).mono ?_
    rintro e w' ⟨i, q, A1, c1, A2, c2, rfl, hI, hQ, hR1, hR2, hGE, hK⟩
    obtain ⟨d, hd, hIp⟩ : ∃ d, 0 < d ∧ Ipl F (lim : Int) id wd P (npg P key ref) m sp lim Nv l0 ⟨#[]⟩ 0 (.tak false 0 ⟨#[]⟩ 0) l0 d := by
      by_cases hv : Nv < lim
      · exact ⟨_, by omega, .tak0 hv⟩
      · exact ⟨1, by omega, .none (by omega)⟩
    refine ⟨i, fun j => w.heap.size ≤ j ∧ j < w'.heap.size, _, d, rfl, IAt.tak hI hQ ⟨by omega, hI.lt⟩ ⟨by omega, hQ.lt⟩ (by omega) hR1 hR2 (fun a ha hp => ?_) (fun a ha => ?_), hIp, by simp [Is.two, hf], hd, fun j hj => hj, hK⟩
    · obtain ⟨g9, o9, e9, h9, -⟩ := hR1.at hp
      have h1 := hGE.2.2.1 a ha hp
      rw [e9] at ha; cases ha
      exact ⟨⟨h1.1, h9⟩, h1.2.1, h1.2.2⟩
    · obtain ⟨g9, o9, e9, h9, -⟩ := hR2.at (by rw [npg_length]; omega)
      have h1 := hGE.2.2.2 a ha
      rw [e9] at ha; cases ha
      exact ⟨⟨h1.1, h9⟩, h1.2.1, h1.2.2⟩
  · refine (newInsert_write (lim : Int) F fb fd O.lim O.reach id wd P A c key ref lim w (by have := O.pl; omega) O.plv O.word rfl hR ha hk (by omega)).mono ?_
    rintro e w' ⟨i, q, Zw, A1, c1, A2, c2, rfl, hI, hS, hGE, hK⟩
    have hI0 := Ipl.wri0 (F := F) (N := (lim : Int)) (id := id) (wd := wd) (P := P) (X := (npg P key ref)) (m := m) (sp := sp) (lim := lim) (Nv := Nv) (l0 := l0) (K := ⟨#[]⟩) (M := 0) (j := 0) (by omega)
    rw [List.take_zero, app_nil] at hI0
    exact ⟨i, fun j => j = i ∨ Zw j, _, _, rfl, IAt.wri0 hI hS (.inl rfl) (fun k hk => ⟨.inr hk, (hGE.2 k hk).2⟩), hI0, by simp [Is.two, hf], by omega, fun j hj => by
      rcases hj with hj | hj
      · rw [hj]; exact ⟨hGE.1, hI.lt⟩
      · exact ⟨(hGE.2 j hj).1, hS.lt j hj⟩, hK⟩
end
end Go.Proofs.Ythpaolhpkmgelaa
