/-
 Package insert: copied. Condition: none.
-/
import Derived.Test.YtjnodgebpklaoaaGreatInPag
import Derived.Test.YtjnodgebpklaoaaGreatLkNew
import Derived.Test.YtjnodgebpklaoaaGreatMgPlant
namespace Go.Proofs.YtjnodgebpklaoaaGreat
set_option maxHeartbeats 8000000
set_option maxRecDepth 100000
open Go.RowKit Go.Deep Plain
set_option linter.unusedVariables false

section
open Go.RowKit Go.Deep Plain
set_option linter.unusedVariables false

def insv (N : Int) (F : Nat) (fb fd : Int) (id wd : Nat) (P : Pg) (A : Option Addr) (c : Nat) (X : Pg) (A2 : Option Addr) (c2 : Nat) (ph : Int) (tk fr wr : Value) (sp : ByteArray) : List Value :=
 [.int .i64 1, .int .i64 2, .int .i64 N, .int .i64 100, .int .i64 200, .int .i64 (F : Int), .int .u64 1000, .int .i64 10, .int .i64 fb, .int .i64 fd, .int .u64 (id : Int), .int .u64 (wd : Int), .int .i64 (P.lv : Int), .slice A P.xs.length c, .string P.hi, .bool P.la, .int .u64 (P.rt : Int), .int .i64 (X.lv : Int), .slice A2 X.xs.length c2, .string X.hi, .bool X.la, .int .u64 (X.rt : Int), .int .i64 ph, tk, fr, wr, .string sp]
theorem icopied_any (id wd : Nat) (P : Pg) (A : Option Addr) (c : Nat) (w : World) (h40 : P.xs.length ≤ 1000) (hR : Rs w A c P.xs) :
  Calls Tryz.prog 57 #[.agg #[.int .u64 (id : Int), .int .u64 (wd : Int), .int .i64 (P.lv : Int), .slice A P.xs.length c, .string P.hi, .bool P.la, .int .u64 (P.rt : Int)]] w fun e w' => ∃ A' c', e = .returned (.agg #[.int .u64 (id : Int), .int .u64 (wd : Int), .int .i64 (P.lv : Int), .slice A' P.xs.length c', .string P.hi, .bool P.la, .int .u64 (P.rt : Int)]) ∧ Rs w' A' c' P.xs ∧ (∀ a, A' = some a → w.heap.size ≤ a.block) ∧ Kept (fun _ => False) w w' := by
 obtain ⟨P0, S0, B0, Z0⟩ := box_two w [.int .u64 (id : Int), .int .u64 (wd : Int), .int .i64 (P.lv : Int), .slice A P.xs.length c, .string P.hi, .bool P.la, .int .u64 (P.rt : Int)] [.int .u64 0, .int .u64 0, .int .i64 0, .slice none 0 0, .string ⟨#[]⟩, .bool false, .int .u64 0] 40 40
 have R0 := hR.below B0 (Nat.le_refl _)
 go_enter Tryz.func57, Tryz.ntmps57
 go_wp2_with (at_builtin; go_must (refine wpList_app rfl (.const (.slice none 0 0)) (.tmp 5) rfl (w.heap.size + 2) _ 0 [] rfl (World.ownsRow_nil _ _ _ _) A P.xs.length c P.xs rfl rfl R0 (by omega) (Nat.le_of_eq Z0.symm) ?_))
 intro v1 w1 hown hB
 have P1 := P0.below hB (by omega)
 have S1 := S0.below hB (by omega)
 have HB := Hd (Below.kept (B0.trans (hB.mono (by omega))) (S := fun _ => False) (fun i hi h => by omega))
 obtain ⟨A4, c4, rfl, hl4, hR4, hA4⟩ := Rs.own hown
 have HR4 := Hd hR4
 have HA4 := Hd hA4
 have HS1 := Hd S1
 have HP1 := Hd P1
 have x3 := P1.k 3 rfl
 have f3 := P1.frozen 3
 clear hown hB P0 S0 B0 Z0 P1 S1 R0 hR hl4 hR4 hA4
 go_upto_region 2 with fail
 have hks := (Kept.refl (fun k => k = w.heap.size) w1).setCell (a := ⟨w.heap.size, 3, none⟩) (fun _ => rfl) (.slice A4 P.xs.length c4)
 replace HR4 := Hd (HR4.out.keptF hks (fun a ha h => by have := HA4.out a ha; omega))
 replace HS1 := Hd (hks.blk HS1.out (by omega))
 replace HP1 := Hd (show Blk (w1.setCell ⟨w.heap.size, 3, none⟩ (.slice A4 P.xs.length c4)) w.heap.size 40 [.int .u64 (id : Int), .int .u64 (wd : Int), .int .i64 (P.lv : Int), .slice A4 P.xs.length c4, .string P.hi, .bool P.la, .int .u64 (P.rt : Int)] from HP1.out.set 3 _)
 replace HB := Hd (HB.out.trans hks (fun i hi h => by omega))
 clear hks x3 f3
 generalize w1.setCell ⟨w.heap.size, 3, none⟩ (.slice A4 P.xs.length c4) = w2 at *
 have hp1 := HP1.out
 have hs1 := HS1.out
 obtain ⟨x0, x1, x2, x3, x4, x5, x6⟩ := hp1.c7
 obtain ⟨y0, y1, y2, y3, y4, y5, y6⟩ := hs1.c7; have z0 := hs1.frozen 0; have z1 := hs1.frozen 1; have z2 := hs1.frozen 2; have z3 := hs1.frozen 3; have z4 := hs1.frozen 4; have z5 := hs1.frozen 5; have z6 := hs1.frozen 6
 clear hp1 hs1
 go_wp2
 have hks := (((((((Kept.refl (fun k => k = w.heap.size + 1) w2).setCell (a := ⟨w.heap.size + 1, 0, none⟩) (fun _ => rfl) (.int .u64 (id : Int))).setCell (a := ⟨w.heap.size + 1, 1, none⟩) (fun _ => rfl) (.int .u64 (wd : Int))).setCell (a := ⟨w.heap.size + 1, 2, none⟩) (fun _ => rfl) (.int .i64 (P.lv : Int))).setCell (a := ⟨w.heap.size + 1, 3, none⟩) (fun _ => rfl) (.slice A4 P.xs.length c4)).setCell (a := ⟨w.heap.size + 1, 4, none⟩) (fun _ => rfl) (.string P.hi)).setCell (a := ⟨w.heap.size + 1, 5, none⟩) (fun _ => rfl) (.bool P.la)).setCell (a := ⟨w.heap.size + 1, 6, none⟩) (fun _ => rfl) (.int .u64 (P.rt : Int))
 have hb0 := (((((((HS1.out).set 0 (.int .u64 (id : Int))).set 1 (.int .u64 (wd : Int))).set 2 (.int .i64 (P.lv : Int))).set 3 (.slice A4 P.xs.length c4)).set 4 (.string P.hi)).set 5 (.bool P.la)).set 6 (.int .u64 (P.rt : Int))
 clear x0 y0 z0 x1 y1 z1 x2 y2 z2 x3 y3 z3 x4 y4 z4 x5 y5 z5 x6 y6 z6 HS1 HP1
 generalize (((((((w2).setCell ⟨w.heap.size + 1, 0, none⟩ (.int .u64 (id : Int))).setCell ⟨w.heap.size + 1, 1, none⟩ (.int .u64 (wd : Int))).setCell ⟨w.heap.size + 1, 2, none⟩ (.int .i64 (P.lv : Int))).setCell ⟨w.heap.size + 1, 3, none⟩ (.slice A4 P.xs.length c4)).setCell ⟨w.heap.size + 1, 4, none⟩ (.string P.hi)).setCell ⟨w.heap.size + 1, 5, none⟩ (.bool P.la)).setCell ⟨w.heap.size + 1, 6, none⟩ (.int .u64 (P.rt : Int)) = w3 at *
 have hb : Blk w3 (w.heap.size + 1) 40 [.int .u64 (id : Int), .int .u64 (wd : Int), .int .i64 (P.lv : Int), .slice A4 P.xs.length c4, .string P.hi, .bool P.la, .int .u64 (P.rt : Int)] := hb0
 clear hb0
 have HF := Hd (show Rs w3 A4 c4 P.xs ∧ (∀ a, A4 = some a → w.heap.size ≤ a.block) ∧ Kept (fun _ => False) w w3 from ⟨HR4.out.keptF hks (fun a ha h => by have := HA4.out a ha; omega), fun a ha => by have := HA4.out a ha; omega, HB.out.trans hks (fun i hi h => by omega)⟩)
 clear hks HR4 HB HA4
 obtain ⟨q0, q1, q2, q3, q4, q5, q6⟩ := hb.c7
 clear hb
 refine bodyPost_ret (v := .agg #[.int .u64 (id : Int), .int .u64 (wd : Int), .int .i64 (P.lv : Int), .slice A4 P.xs.length c4, .string P.hi, .bool P.la, .int .u64 (P.rt : Int)]) (by simp [results, Tryz.results57, go_sem, q0, q1, q2, q3, q4, q5, q6]) rfl ⟨A4, c4, rfl, HF.out⟩

end
end Go.Proofs.YtjnodgebpklaoaaGreat
