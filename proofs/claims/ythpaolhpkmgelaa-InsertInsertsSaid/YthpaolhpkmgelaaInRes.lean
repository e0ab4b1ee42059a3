/-
  Package insert: what a finished Insert answers. Condition: none.
-/
import Derived.Test.YthpaolhpkmgelaaInSte
import Derived.Test.YthpaolhpkmgelaaInHel
namespace Go.Proofs.Ythpaolhpkmgelaa
open Go.RowKit Go.Deep Plain
set_option linter.unusedVariables false

section
open Go.RowKit Go.Deep Plain
set_option linter.unusedVariables false

set_option maxRecDepth 100000 in
set_option maxHeartbeats 2000000 in
theorem is_left0 (F : Nat) (N fb fd : Int) (i id wd : Nat) (P X : Pg) (m : Nat) (sp : ByteArray) (lim : Nat) (Z : Nat → Prop) (num : Nat) (w : World) (h : IAt Z w F N fb fd i id wd P X m sp lim (.don none)) (hlen : X.xs.length ≤ 1099511627776) :
    Calls Try.prog 13 #[.pointer (some ⟨i, 0, none⟩)] w fun e w' => ∃ A4 c4, e = .returned (.agg #[.int .u64 (id : Int), .int .u64 (endW (beginW wd) : Int), .int .i64 (X.lv : Int), .slice A4 X.xs.length c4, .string X.hi, .bool X.la, .int .u64 (X.rt : Int)]) ∧ Rs w' A4 c4 X.xs ∧ (∀ a, A4 = some a → w.heap.size ≤ a.block) ∧ Kept (fun _ => False) w w' := by
  cases h with
  | don0 h hw hi hz =>
    rename_i q2 tk Zw A c A2 c2
    obtain ⟨s, hs⟩ : ∃ s, w.heap.size = s := ⟨_, rfl⟩
    have hi0 := h
    go_enter Try.func13, Try.ntmps13
    go_upto_region 1 with fail
    have hk0 := (Kept.refl (fun _ => False) w).alloc (.cells #[.int .u64 0, .int .u64 0, .int .i64 0, .slice none 0 0, .string ⟨#[]⟩, .bool false, .int .u64 0] 33)
    have HS1 := Lib.hid (Blk.new w [.int .u64 0, .int .u64 0, .int .i64 0, .slice none 0 0, .string ⟨#[]⟩, .bool false, .int .u64 0] 33)
    have HSS := Lib.hid (show s = w.heap.size from hs.symm)
    replace hi0 := hk0.blk hi0 (fun h => h)
    have hw1 := hw.kept hk0 (fun _ _ h => h)
    rw [hs] at HS1
    have HSZ := Lib.hid (show s < (w.alloc (.cells #[.int .u64 0, .int .u64 0, .int .i64 0, .slice none 0 0, .string ⟨#[]⟩, .bool false, .int .u64 0] 33)).heap.size from HS1.out.lt)
    generalize w.alloc (.cells #[.int .u64 0, .int .u64 0, .int .i64 0, .slice none 0 0, .string ⟨#[]⟩, .bool false, .int .u64 0] 33) = w1 at *
    have HK := Lib.hid hk0
    have x22 := hi0.cell (i := 22) rfl; have x25 := hi0.cell (i := 25) rfl
    clear hk0 hi0 h hs
    go_wp2_with fail
    refine (wheld_any Zw q2 (wrsN F N id wd P X) _ id (endW (beginW wd)) X w1 hw1 rfl hlen).mono ?_; rintro e w2 ⟨A4, c4, rfl, hR4, hA4, hK4⟩
    have HR4 := Lib.hid hR4
    have HA4 := Lib.hid (show ∀ a, A4 = some a → s < a.block from fun a ha => by have h1 := hA4 a ha; have h2 := HSZ.out; omega)
    replace HS1 := Lib.hid (hK4.blk HS1.out (fun h => h))
    replace HK := Lib.hid (HK.out.trans hK4 (fun _ _ h => h))
    clear hR4 hA4 hK4 x22 x25 hw1
    have hs1 := HS1.out
    have y0 := hs1.cell (i := 0) rfl; have y1 := hs1.cell (i := 1) rfl; have y2 := hs1.cell (i := 2) rfl; have y3 := hs1.cell (i := 3) rfl; have y4 := hs1.cell (i := 4) rfl; have y5 := hs1.cell (i := 5) rfl; have y6 := hs1.cell (i := 6) rfl; have z0 := hs1.frozen 0; have z1 := hs1.frozen 1; have z2 := hs1.frozen 2; have z3 := hs1.frozen 3; have z4 := hs1.frozen 4; have z5 := hs1.frozen 5; have z6 := hs1.frozen 6
    clear hs1
    go_wp2
    have hks := (((((((Kept.refl (fun k => k = s) w2).setCell (a := ⟨s, 0, none⟩) (fun _ => rfl) (.int .u64 (id : Int))).setCell (a := ⟨s, 1, none⟩) (fun _ => rfl) (.int .u64 (endW (beginW wd) : Int))).setCell (a := ⟨s, 2, none⟩) (fun _ => rfl) (.int .i64 (X.lv : Int))).setCell (a := ⟨s, 3, none⟩) (fun _ => rfl) (.slice A4 X.xs.length c4)).setCell (a := ⟨s, 4, none⟩) (fun _ => rfl) (.string X.hi)).setCell (a := ⟨s, 5, none⟩) (fun _ => rfl) (.bool X.la)).setCell (a := ⟨s, 6, none⟩) (fun _ => rfl) (.int .u64 (X.rt : Int))
    have hb0 := (((((((HS1.out).set 0 (.int .u64 (id : Int))).set 1 (.int .u64 (endW (beginW wd) : Int))).set 2 (.int .i64 (X.lv : Int))).set 3 (.slice A4 X.xs.length c4)).set 4 (.string X.hi)).set 5 (.bool X.la)).set 6 (.int .u64 (X.rt : Int))
    clear y0 z0 y1 z1 y2 z2 y3 z3 y4 z4 y5 z5 y6 z6 HS1
    generalize (((((((w2).setCell ⟨s, 0, none⟩ (.int .u64 (id : Int))).setCell ⟨s, 1, none⟩ (.int .u64 (endW (beginW wd) : Int))).setCell ⟨s, 2, none⟩ (.int .i64 (X.lv : Int))).setCell ⟨s, 3, none⟩ (.slice A4 X.xs.length c4)).setCell ⟨s, 4, none⟩ (.string X.hi)).setCell ⟨s, 5, none⟩ (.bool X.la)).setCell ⟨s, 6, none⟩ (.int .u64 (X.rt : Int)) = w3 at *
    have hb : Blk w3 s 33 [.int .u64 (id : Int), .int .u64 (endW (beginW wd) : Int), .int .i64 (X.lv : Int), .slice A4 X.xs.length c4, .string X.hi, .bool X.la, .int .u64 (X.rt : Int)] := hb0
    clear hb0
    have HF := Lib.hid (show Rs w3 A4 c4 X.xs ∧ (∀ a, A4 = some a → w.heap.size ≤ a.block) ∧ Kept (fun _ => False) w w3 from ⟨HR4.out.keptF hks (fun a ha h => by have h1 := HA4.out a ha; have h2 := HSS.out; omega), fun a ha => by have h1 := HA4.out a ha; have h2 := HSS.out; omega, HK.out.trans hks (fun i hi h => by have h2 := HSS.out; omega)⟩)
    clear hks HR4 HK HA4
    have q0 := hb.cell (i := 0) rfl; have q1 := hb.cell (i := 1) rfl; have q2 := hb.cell (i := 2) rfl; have q3 := hb.cell (i := 3) rfl; have q4 := hb.cell (i := 4) rfl; have q5 := hb.cell (i := 5) rfl; have q6 := hb.cell (i := 6) rfl
    clear hb
    refine bodyPost_ret (v := .agg #[.int .u64 (id : Int), .int .u64 (endW (beginW wd) : Int), .int .i64 (X.lv : Int), .slice A4 X.xs.length c4, .string X.hi, .bool X.la, .int .u64 (X.rt : Int)]) (by simp [results, Try.results13, go_sem, q0, q1, q2, q3, q4, q5, q6]) rfl ⟨A4, c4, rfl, HF.out⟩

set_option maxRecDepth 100000 in
set_option maxHeartbeats 2000000 in
theorem is_left1 (F : Nat) (N fb fd : Int) (i id wd : Nat) (P X : Pg) (m : Nat) (sp : ByteArray) (lim : Nat) (Z : Nat → Prop) (num : Nat) (w : World) (h : IAt Z w F N fb fd i id wd P X m sp lim (.don (some num))) (hlen : (lpg X m sp num).xs.length ≤ 1099511627776) :
    Calls Try.prog 13 #[.pointer (some ⟨i, 0, none⟩)] w fun e w' => ∃ A4 c4, e = .returned (.agg #[.int .u64 (id : Int), .int .u64 (endW (beginW wd) : Int), .int .i64 ((lpg X m sp num).lv : Int), .slice A4 (lpg X m sp num).xs.length c4, .string (lpg X m sp num).hi, .bool (lpg X m sp num).la, .int .u64 ((lpg X m sp num).rt : Int)]) ∧ Rs w' A4 c4 (lpg X m sp num).xs ∧ (∀ a, A4 = some a → w.heap.size ≤ a.block) ∧ Kept (fun _ => False) w w' := by
  cases h with
  | don1 h hf hw hi hzf hz hd =>
    rename_i q2 r tk Zf Zw A c A3 c3
    obtain ⟨s, hs⟩ : ∃ s, w.heap.size = s := ⟨_, rfl⟩
    have hi0 := h
    go_enter Try.func13, Try.ntmps13
    go_upto_region 1 with fail
    have hk0 := (Kept.refl (fun _ => False) w).alloc (.cells #[.int .u64 0, .int .u64 0, .int .i64 0, .slice none 0 0, .string ⟨#[]⟩, .bool false, .int .u64 0] 33)
    have HS1 := Lib.hid (Blk.new w [.int .u64 0, .int .u64 0, .int .i64 0, .slice none 0 0, .string ⟨#[]⟩, .bool false, .int .u64 0] 33)
    have HSS := Lib.hid (show s = w.heap.size from hs.symm)
    replace hi0 := hk0.blk hi0 (fun h => h)
    have hw1 := hw.kept hk0 (fun _ _ h => h)
    rw [hs] at HS1
    have HSZ := Lib.hid (show s < (w.alloc (.cells #[.int .u64 0, .int .u64 0, .int .i64 0, .slice none 0 0, .string ⟨#[]⟩, .bool false, .int .u64 0] 33)).heap.size from HS1.out.lt)
    generalize w.alloc (.cells #[.int .u64 0, .int .u64 0, .int .i64 0, .slice none 0 0, .string ⟨#[]⟩, .bool false, .int .u64 0] 33) = w1 at *
    have HK := Lib.hid hk0
    have x22 := hi0.cell (i := 22) rfl; have x25 := hi0.cell (i := 25) rfl
    clear hk0 hi0 h hs
    go_wp2_with fail
    refine (wheld_any Zw q2 (wrsN F N id wd P (lpg X m sp num)) _ id (endW (beginW wd)) (lpg X m sp num) w1 hw1 rfl hlen).mono ?_; rintro e w2 ⟨A4, c4, rfl, hR4, hA4, hK4⟩
    have HR4 := Lib.hid hR4
    have HA4 := Lib.hid (show ∀ a, A4 = some a → s < a.block from fun a ha => by have h1 := hA4 a ha; have h2 := HSZ.out; omega)
    replace HS1 := Lib.hid (hK4.blk HS1.out (fun h => h))
    replace HK := Lib.hid (HK.out.trans hK4 (fun _ _ h => h))
    clear hR4 hA4 hK4 x22 x25 hw1
    have hs1 := HS1.out
    have y0 := hs1.cell (i := 0) rfl; have y1 := hs1.cell (i := 1) rfl; have y2 := hs1.cell (i := 2) rfl; have y3 := hs1.cell (i := 3) rfl; have y4 := hs1.cell (i := 4) rfl; have y5 := hs1.cell (i := 5) rfl; have y6 := hs1.cell (i := 6) rfl; have z0 := hs1.frozen 0; have z1 := hs1.frozen 1; have z2 := hs1.frozen 2; have z3 := hs1.frozen 3; have z4 := hs1.frozen 4; have z5 := hs1.frozen 5; have z6 := hs1.frozen 6
    clear hs1
    go_wp2
    have hks := (((((((Kept.refl (fun k => k = s) w2).setCell (a := ⟨s, 0, none⟩) (fun _ => rfl) (.int .u64 (id : Int))).setCell (a := ⟨s, 1, none⟩) (fun _ => rfl) (.int .u64 (endW (beginW wd) : Int))).setCell (a := ⟨s, 2, none⟩) (fun _ => rfl) (.int .i64 ((lpg X m sp num).lv : Int))).setCell (a := ⟨s, 3, none⟩) (fun _ => rfl) (.slice A4 (lpg X m sp num).xs.length c4)).setCell (a := ⟨s, 4, none⟩) (fun _ => rfl) (.string (lpg X m sp num).hi)).setCell (a := ⟨s, 5, none⟩) (fun _ => rfl) (.bool (lpg X m sp num).la)).setCell (a := ⟨s, 6, none⟩) (fun _ => rfl) (.int .u64 ((lpg X m sp num).rt : Int))
    have hb0 := (((((((HS1.out).set 0 (.int .u64 (id : Int))).set 1 (.int .u64 (endW (beginW wd) : Int))).set 2 (.int .i64 ((lpg X m sp num).lv : Int))).set 3 (.slice A4 (lpg X m sp num).xs.length c4)).set 4 (.string (lpg X m sp num).hi)).set 5 (.bool (lpg X m sp num).la)).set 6 (.int .u64 ((lpg X m sp num).rt : Int))
    clear y0 z0 y1 z1 y2 z2 y3 z3 y4 z4 y5 z5 y6 z6 HS1
    generalize (((((((w2).setCell ⟨s, 0, none⟩ (.int .u64 (id : Int))).setCell ⟨s, 1, none⟩ (.int .u64 (endW (beginW wd) : Int))).setCell ⟨s, 2, none⟩ (.int .i64 ((lpg X m sp num).lv : Int))).setCell ⟨s, 3, none⟩ (.slice A4 (lpg X m sp num).xs.length c4)).setCell ⟨s, 4, none⟩ (.string (lpg X m sp num).hi)).setCell ⟨s, 5, none⟩ (.bool (lpg X m sp num).la)).setCell ⟨s, 6, none⟩ (.int .u64 ((lpg X m sp num).rt : Int)) = w3 at *
    have hb : Blk w3 s 33 [.int .u64 (id : Int), .int .u64 (endW (beginW wd) : Int), .int .i64 ((lpg X m sp num).lv : Int), .slice A4 (lpg X m sp num).xs.length c4, .string (lpg X m sp num).hi, .bool (lpg X m sp num).la, .int .u64 ((lpg X m sp num).rt : Int)] := hb0
    clear hb0
    have HF := Lib.hid (show Rs w3 A4 c4 (lpg X m sp num).xs ∧ (∀ a, A4 = some a → w.heap.size ≤ a.block) ∧ Kept (fun _ => False) w w3 from ⟨HR4.out.keptF hks (fun a ha h => by have h1 := HA4.out a ha; have h2 := HSS.out; omega), fun a ha => by have h1 := HA4.out a ha; have h2 := HSS.out; omega, HK.out.trans hks (fun i hi h => by have h2 := HSS.out; omega)⟩)
    clear hks HR4 HK HA4
    have q0 := hb.cell (i := 0) rfl; have q1 := hb.cell (i := 1) rfl; have q2 := hb.cell (i := 2) rfl; have q3 := hb.cell (i := 3) rfl; have q4 := hb.cell (i := 4) rfl; have q5 := hb.cell (i := 5) rfl; have q6 := hb.cell (i := 6) rfl
    clear hb
    refine bodyPost_ret (v := .agg #[.int .u64 (id : Int), .int .u64 (endW (beginW wd) : Int), .int .i64 ((lpg X m sp num).lv : Int), .slice A4 (lpg X m sp num).xs.length c4, .string (lpg X m sp num).hi, .bool (lpg X m sp num).la, .int .u64 ((lpg X m sp num).rt : Int)]) (by simp [results, Try.results13, go_sem, q0, q1, q2, q3, q4, q5, q6]) rfl ⟨A4, c4, rfl, HF.out⟩

set_option maxRecDepth 100000 in
set_option maxHeartbeats 2000000 in
theorem is_right1 (F : Nat) (N fb fd : Int) (i id wd : Nat) (P X : Pg) (m : Nat) (sp : ByteArray) (lim : Nat) (Z : Nat → Prop) (num : Nat) (w : World) (h : IAt Z w F N fb fd i id wd P X m sp lim (.don (some num))) (hlen : (rpg X m).xs.length ≤ 1099511627776) :
    Calls Try.prog 15 #[.pointer (some ⟨i, 0, none⟩)] w fun e w' => ∃ A4 c4, e = .returned (.agg #[.int .u64 (num : Int), .int .u64 1, .int .i64 ((rpg X m).lv : Int), .slice A4 (rpg X m).xs.length c4, .string (rpg X m).hi, .bool (rpg X m).la, .int .u64 ((rpg X m).rt : Int)]) ∧ Rs w' A4 c4 (rpg X m).xs ∧ (∀ a, A4 = some a → w.heap.size ≤ a.block) ∧ Kept (fun _ => False) w w' := by
  cases h with
  | don1 h hf hw hi hzf hz hd =>
    rename_i q2 r tk Zf Zw A c A3 c3
    obtain ⟨s, hs⟩ : ∃ s, w.heap.size = s := ⟨_, rfl⟩
    have hi0 := h
    go_enter Try.func15, Try.ntmps15
    go_upto_region 1 with fail
    have hk0 := (Kept.refl (fun _ => False) w).alloc (.cells #[.int .u64 0, .int .u64 0, .int .i64 0, .slice none 0 0, .string ⟨#[]⟩, .bool false, .int .u64 0] 33)
    have HS1 := Lib.hid (Blk.new w [.int .u64 0, .int .u64 0, .int .i64 0, .slice none 0 0, .string ⟨#[]⟩, .bool false, .int .u64 0] 33)
    have HSS := Lib.hid (show s = w.heap.size from hs.symm)
    replace hi0 := hk0.blk hi0 (fun h => h)
    have hw1 := hf.kept hk0 (fun _ _ h => h)
    rw [hs] at HS1
    have HSZ := Lib.hid (show s < (w.alloc (.cells #[.int .u64 0, .int .u64 0, .int .i64 0, .slice none 0 0, .string ⟨#[]⟩, .bool false, .int .u64 0] 33)).heap.size from HS1.out.lt)
    generalize w.alloc (.cells #[.int .u64 0, .int .u64 0, .int .i64 0, .slice none 0 0, .string ⟨#[]⟩, .bool false, .int .u64 0] 33) = w1 at *
    have HK := Lib.hid hk0
    have x22 := hi0.cell (i := 22) rfl; have x24 := hi0.cell (i := 24) rfl
    clear hk0 hi0 h hs
    go_wp2_with fail
    refine (fheld_any Zf r (frsN F N X m num) _ num 1 (rpg X m) w1 hw1 rfl hlen).mono ?_; rintro e w2 ⟨A4, c4, rfl, hR4, hA4, hK4⟩
    have HR4 := Lib.hid hR4
    have HA4 := Lib.hid (show ∀ a, A4 = some a → s < a.block from fun a ha => by have h1 := hA4 a ha; have h2 := HSZ.out; omega)
    replace HS1 := Lib.hid (hK4.blk HS1.out (fun h => h))
    replace HK := Lib.hid (HK.out.trans hK4 (fun _ _ h => h))
    clear hR4 hA4 hK4 x22 x24 hw1
    have hs1 := HS1.out
    have y0 := hs1.cell (i := 0) rfl; have y1 := hs1.cell (i := 1) rfl; have y2 := hs1.cell (i := 2) rfl; have y3 := hs1.cell (i := 3) rfl; have y4 := hs1.cell (i := 4) rfl; have y5 := hs1.cell (i := 5) rfl; have y6 := hs1.cell (i := 6) rfl; have z0 := hs1.frozen 0; have z1 := hs1.frozen 1; have z2 := hs1.frozen 2; have z3 := hs1.frozen 3; have z4 := hs1.frozen 4; have z5 := hs1.frozen 5; have z6 := hs1.frozen 6
    clear hs1
    go_wp2
    have hks := (((((((Kept.refl (fun k => k = s) w2).setCell (a := ⟨s, 0, none⟩) (fun _ => rfl) (.int .u64 (num : Int))).setCell (a := ⟨s, 1, none⟩) (fun _ => rfl) (.int .u64 1)).setCell (a := ⟨s, 2, none⟩) (fun _ => rfl) (.int .i64 ((rpg X m).lv : Int))).setCell (a := ⟨s, 3, none⟩) (fun _ => rfl) (.slice A4 (rpg X m).xs.length c4)).setCell (a := ⟨s, 4, none⟩) (fun _ => rfl) (.string (rpg X m).hi)).setCell (a := ⟨s, 5, none⟩) (fun _ => rfl) (.bool (rpg X m).la)).setCell (a := ⟨s, 6, none⟩) (fun _ => rfl) (.int .u64 ((rpg X m).rt : Int))
    have hb0 := (((((((HS1.out).set 0 (.int .u64 (num : Int))).set 1 (.int .u64 1)).set 2 (.int .i64 ((rpg X m).lv : Int))).set 3 (.slice A4 (rpg X m).xs.length c4)).set 4 (.string (rpg X m).hi)).set 5 (.bool (rpg X m).la)).set 6 (.int .u64 ((rpg X m).rt : Int))
    clear y0 z0 y1 z1 y2 z2 y3 z3 y4 z4 y5 z5 y6 z6 HS1
    generalize (((((((w2).setCell ⟨s, 0, none⟩ (.int .u64 (num : Int))).setCell ⟨s, 1, none⟩ (.int .u64 1)).setCell ⟨s, 2, none⟩ (.int .i64 ((rpg X m).lv : Int))).setCell ⟨s, 3, none⟩ (.slice A4 (rpg X m).xs.length c4)).setCell ⟨s, 4, none⟩ (.string (rpg X m).hi)).setCell ⟨s, 5, none⟩ (.bool (rpg X m).la)).setCell ⟨s, 6, none⟩ (.int .u64 ((rpg X m).rt : Int)) = w3 at *
    have hb : Blk w3 s 33 [.int .u64 (num : Int), .int .u64 1, .int .i64 ((rpg X m).lv : Int), .slice A4 (rpg X m).xs.length c4, .string (rpg X m).hi, .bool (rpg X m).la, .int .u64 ((rpg X m).rt : Int)] := hb0
    clear hb0
    have HF := Lib.hid (show Rs w3 A4 c4 (rpg X m).xs ∧ (∀ a, A4 = some a → w.heap.size ≤ a.block) ∧ Kept (fun _ => False) w w3 from ⟨HR4.out.keptF hks (fun a ha h => by have h1 := HA4.out a ha; have h2 := HSS.out; omega), fun a ha => by have h1 := HA4.out a ha; have h2 := HSS.out; omega, HK.out.trans hks (fun i hi h => by have h2 := HSS.out; omega)⟩)
    clear hks HR4 HK HA4
    have q0 := hb.cell (i := 0) rfl; have q1 := hb.cell (i := 1) rfl; have q2 := hb.cell (i := 2) rfl; have q3 := hb.cell (i := 3) rfl; have q4 := hb.cell (i := 4) rfl; have q5 := hb.cell (i := 5) rfl; have q6 := hb.cell (i := 6) rfl
    clear hb
    refine bodyPost_ret (v := .agg #[.int .u64 (num : Int), .int .u64 1, .int .i64 ((rpg X m).lv : Int), .slice A4 (rpg X m).xs.length c4, .string (rpg X m).hi, .bool (rpg X m).la, .int .u64 ((rpg X m).rt : Int)]) (by simp [results, Try.results15, go_sem, q0, q1, q2, q3, q4, q5, q6]) rfl ⟨A4, c4, rfl, HF.out⟩

end
end Go.Proofs.Ythpaolhpkmgelaa
