/-
  The kit's Put and the view's Page where the configuration has 10 nodes. Condition: a fanout of four to six.
-/
import Derived.Test.YthpaolhpkmgelaaLkPlant
import Derived.Test.YthpaolhpkmgelaaLkPage
import Derived.Test.YthpaolhpkmgelaaLkAux
namespace Go.Proofs.Ythpaolhpkmgelaa
section
open Go.RowKit Go.Deep Plain
set_option linter.unusedVariables false

/-- The address of a node's latch, and of its other cells, in the kit's small configurations. -/
def nlaT (F nid : Nat) : Int := nodeAt 10 (F : Int) 10 (nid : Int) 0
def nadT (F nid : Nat) : Nat → Int := adr 10 (F : Int) 10 (nid : Int)
theorem limFT {F : Nat} (h4 : 4 ≤ F) (h6 : F ≤ 6) : Lim 1 2 10 100 200 (F : Int) := by constructor <;> omega
theorem nla_eqT {F nid : Nat} (h1 : 1 ≤ nid) (h2 : nid ≤ 10) : nlaT F nid = 10 + (((nid : Int) - 1) * (F : Int) + ((nid : Int) - 1) * 4) := by
  unfold nlaT nodeAt; rw [if_pos (by omega)]; omega
theorem nad_eqT {F nid : Nat} (h1 : 1 ≤ nid) (h2 : nid ≤ 10) {r : Nat} (hr : r < F + 3) : nadT F nid r = nlaT F nid + 1 + (r : Int) := by
  rw [nla_eqT h1 h2]
  unfold nadT adr
  have hn : ∀ p : Int, nodeAt 10 (F : Int) 10 (nid : Int) p = 10 + (((nid : Int) - 1) * (F : Int) + ((nid : Int) - 1) * 4) + p := fun p => by unfold nodeAt; rw [if_pos (by omega)]
  rcases (by omega : r = 0 ∨ r = 1 ∨ r = 2 ∨ 3 ≤ r) with rfl | rfl | rfl | h
  · rw [if_pos rfl, hn]; omega
  · rw [if_neg (by omega), if_pos rfl, hn]; omega
  · rw [if_neg (by omega), if_neg (by omega), if_pos rfl, hn]; omega
  · rw [if_neg (by omega), if_neg (by omega), if_neg (by omega)]
    unfold slotAt
    rw [if_pos (by omega), hn]; omega
theorem node_bdT {F nid : Nat} (h6 : F ≤ 6) (h1 : 1 ≤ nid) (h2 : nid ≤ 10) : 0 ≤ ((nid : Int) - 1) * (F : Int) ∧ ((nid : Int) - 1) * (F : Int) ≤ 9 * (F : Int) :=
  ⟨Int.mul_nonneg (by omega) (by omega), Int.mul_le_mul_of_nonneg_right (by omega) (by omega)⟩

theorem ads_ofT {F nid n : Nat} (h4 : 4 ≤ F) (h6 : F ≤ 6) (h1 : 1 ≤ nid) (h2 : nid ≤ 10) (hn : 10 + 10 * (F : Int) + 40 ≤ (n : Int)) : Ads F (nlaT F nid) (nadT F nid) n := by
  have hb := node_bdT h6 h1 h2
  have hl := nla_eqT (F := F) h1 h2
  refine ⟨by omega, fun r hr => ?_, fun r hr => ?_, fun r t hr ht e => ?_⟩
  · rw [nad_eqT h1 h2 hr]; omega
  · rw [nad_eqT h1 h2 hr]; omega
  · rw [nad_eqT h1 h2 hr, nad_eqT h1 h2 ht] at e; omega
end

section
open Go.RowKit Go.Deep Plain
set_option linter.unusedVariables false

theorem ref_toT (F nid part : Nat) (h4 : 4 ≤ F) (h6 : F ≤ 6) (hp : part < F + 4) (v : Int) (hv : nodeAt 10 (F : Int) 10 (nid : Int) (part : Int) = v) (w : World) :
    Calls Try.prog 24 #[.agg #[.int .i64 1, .int .i64 2, .int .i64 10, .int .i64 100, .int .i64 200, .int .i64 (F : Int), .int .u64 1000], .int .u64 (nid : Int), .int .i64 (part : Int)] w fun e w' => e = .returned (.int .i64 v) ∧ Kept (fun _ => False) w w' := by
  have := refNode_any 1 2 10 100 200 (F : Int) 1000 (nid : Int) (part : Int) (limFT h4 h6) (by omega) (by omega) (by omega) w
  rwa [show nodeAt 10 (F : Int) (firstNode 1 2) (nid : Int) (part : Int) = v from hv] at this
/-- The cells of a node as the kit writes them. -/
theorem putPstT {F nid : Nat} {l : List Cel} {P : Pg} (h1 : 1 ≤ nid) (h2 : nid ≤ 10) (r : Nat) (hr : r < F + 3) : nodeAt 10 (F : Int) 10 (nid : Int) ((r + 1 : Nat) : Int) = nadT F nid r := by
  rw [nad_eqT h1 h2 hr, nla_eqT h1 h2]; unfold nodeAt; rw [if_pos (by omega)]; omega

set_option maxRecDepth 100000 in
set_option maxHeartbeats 4000000 in
theorem kput_trueT (F nid : Nat) (h4 : 4 ≤ F) (h6 : F ≤ 6) (hn1 : 1 ≤ nid) (hn2 : nid ≤ 10) (P : Pg) (hla : P.la = true) (hw : Wf P) (hlen : P.xs.length ≤ F) (hlv : P.lv < 9223372036854775808) (A : Option Addr) (c b g : Nat) (l : List Cel) (k : Nat) (w : World) (hm : Mem w b g l k) (hR : Rs w A c P.xs) (hA : ∀ a, A = some a → ¬ Own b g a.block) :
    Calls Try.prog 29 #[.agg #[.int .i64 1, .int .i64 2, .int .i64 10, .int .i64 100, .int .i64 200, .int .i64 (F : Int), .int .u64 1000], .pointer (some ⟨b, 0, none⟩), .int .u64 (nid : Int), .agg #[.int .i64 (P.lv : Int), .slice A P.xs.length c, .string P.hi, .bool P.la, .int .u64 (P.rt : Int)]] w fun e w' => e = .returned (.tuple #[]) ∧ Mem w' b g (app l (pst (nadT F nid) P)) k ∧ Kept (Own b g) w w' := by
  obtain ⟨a0, ha0⟩ : ∃ x, nadT F nid 0 = x := ⟨_, rfl⟩
  obtain ⟨a1, ha1⟩ : ∃ x, nadT F nid 1 = x := ⟨_, rfl⟩
  obtain ⟨a2, ha2⟩ : ∃ x, nadT F nid 2 = x := ⟨_, rfl⟩
  obtain ⟨n, hn⟩ : ∃ n, P.xs.length = n := ⟨_, rfl⟩
  rw [hn] at hlen
  have HA0 := Lib.hid (show nodeAt 10 (F : Int) 10 (nid : Int) ((1 : Nat) : Int) = a0 by rw [← ha0]; exact putPstT (l := []) (P := P) hn1 hn2 0 (by omega))
  have HA1 := Lib.hid (show nodeAt 10 (F : Int) 10 (nid : Int) ((2 : Nat) : Int) = a1 by rw [← ha1]; exact putPstT (l := []) (P := P) hn1 hn2 1 (by omega))
  have HA2 := Lib.hid (show nodeAt 10 (F : Int) 10 (nid : Int) ((3 : Nat) : Int) = a2 by rw [← ha2]; exact putPstT (l := []) (P := P) hn1 hn2 2 (by omega))
  have hthree : app l ((pst (nadT F nid) P).take 3) = putAt (putAt (putAt l a0 ((n : Int), ⟨#[]⟩, (P.lv : Int))) a1 (0, P.hi, 1)) a2 ((P.rt : Int), ⟨#[]⟩, 0) := by
    rw [pst_three, ha0, ha1, ha2]
    have p0 : pc P 0 = ((n : Int), ⟨#[]⟩, (P.lv : Int)) := by rw [← hn]; rfl
    have p1 : pc P 1 = (0, P.hi, 1) := by show hiCel P.hi P.la = _; unfold hiCel; rw [hla]; rw [hw hla]; rfl
    have p2 : pc P 2 = ((P.rt : Int), ⟨#[]⟩, 0) := rfl
    rw [p0, p1, p2]; rfl
  have H3 := Lib.hid hthree
  have HN := Lib.hid hn
  have wn := wrap_u (n : Int) (by omega)
  have wl := wrap_u (P.lv : Int) (by omega)
  obtain ⟨P0, S0, B0, Z0⟩ := box_two w [.int .i64 1, .int .i64 2, .int .i64 10, .int .i64 100, .int .i64 200, .int .i64 (F : Int), .int .u64 1000] [.int .i64 (P.lv : Int), .slice A P.xs.length c, .string P.hi, .bool P.la, .int .u64 (P.rt : Int)] 25 31
  have HC := Lib.hid P0
  have HP := Lib.hid S0
  have HM := Lib.hid ((hm.alloc (.cells #[.int .i64 1, .int .i64 2, .int .i64 10, .int .i64 100, .int .i64 200, .int .i64 (F : Int), .int .u64 1000] 25)).alloc (.cells #[.int .i64 (P.lv : Int), .slice A P.xs.length c, .string P.hi, .bool P.la, .int .u64 (P.rt : Int)] 31))
  have HR := Lib.hid (hR.below B0 (Nat.le_refl _))
  have HK := Lib.hid (B0.kept0.mono (T := Own b g) (fun _ h => h.elim))
  have hbw := hm.obj.lt
  have hgw := hm.row.lt
  have HO := Lib.hid (show ¬ Own b g w.heap.size ∧ ¬ Own b g (w.heap.size + 1) by unfold Own; omega)
  have hAfar : ∀ a, A = some a → ¬ Own b g a.block := hA
  have HA := Lib.hid hAfar
  clear ha0 ha1 ha2 hn hthree P0 S0 B0 Z0 hm hR hA hAfar hbw hgw
  rw [HN.out, hla] at HC HP HM HK HR
  rw [HN.out, hla]
  go_enter Try.func29, Try.ntmps29
  go_wp2_with fail
  generalize (w.alloc (.cells #[.int .i64 1, .int .i64 2, .int .i64 10, .int .i64 100, .int .i64 200, .int .i64 (F : Int), .int .u64 1000] 25)).alloc (.cells #[.int .i64 (P.lv : Int), .slice A n c, .string P.hi, .bool true, .int .u64 (P.rt : Int)] 31) = W at *
  generalize hb1 : w.heap.size + 1 = b1 at *
  generalize hb0 : w.heap.size = b0 at HC HO ⊢
  have HBB := Lib.hid (And.intro hb0 hb1)
  clear hb0 hb1
  refine qtail 12 (fun w' => Kept (fun _ => False) W w' ∧ Blk w' b0 25 [.int .i64 1, .int .i64 2, .int .i64 10, .int .i64 100, .int .i64 200, .int .i64 (F : Int), .int .u64 1000] ∧ Blk w' b1 31 [.int .i64 (P.lv : Int), .slice A n c, .string P.hi, .bool true, .int .u64 (P.rt : Int)]) (by kernel_rfl) (by kernel_rfl) ⟨(Kept.refl _ _).drew, HC.out.of rfl, HP.out.of rfl⟩ ?_
  simp only [List.take_succ_cons, List.take_zero, List.drop_succ_cons, List.drop_zero]
  refine qstep (o := ⟨some 10, _, _, _, _, _⟩) (v := ?_) (by rfl) (fun wq hSw => ?_) ?_
  rotate_left
  · (go_simp; try with_reducible rfl)
  try simp only [Act.put, List.setIfInBounds_toArray, List.set_cons_zero, List.set_cons_succ]
  refine qstep (o := ⟨some 11, _, _, _, _, _⟩) (v := ?_) (by rfl) (fun wq hSw => ?_) ?_
  rotate_left
  · (have hb9 := hSw.2.1; have hc9 := hSw.2.2; have x0 := hb9.cell (i := 0) rfl; have x1 := hb9.cell (i := 1) rfl; have x2 := hb9.cell (i := 2) rfl; have x3 := hb9.cell (i := 3) rfl; have x4 := hb9.cell (i := 4) rfl; have x5 := hb9.cell (i := 5) rfl; have x6 := hb9.cell (i := 6) rfl; have y0 := hc9.cell (i := 0) rfl; have y1 := hc9.cell (i := 1) rfl; have y2 := hc9.cell (i := 2) rfl; have y3 := hc9.cell (i := 3) rfl; have y4 := hc9.cell (i := 4) rfl; clear hb9 hc9; go_simp; try with_reducible rfl)
  try simp only [Act.put, List.setIfInBounds_toArray, List.set_cons_zero, List.set_cons_succ]
  refine qstep (o := ⟨some 12, _, _, _, _, _⟩) (v := ?_) (by rfl) (fun wq hSw => ?_) ?_
  rotate_left
  · (go_simp; try with_reducible rfl)
  try simp only [Act.put, List.setIfInBounds_toArray, List.set_cons_zero, List.set_cons_succ]
  refine qcall (o := ⟨some 13, _, _, _, _, _⟩) (v := .int .i64 a0) (by rfl) (fun wq hSw => ?_) (fun wq hSw => Calls.mono (ref_toT F nid 1 h4 h6 (by omega) a0 HA0.out _) ?_) ?_
  · (go_simp; try with_reducible rfl)
  · rintro e w9 ⟨rfl, hk⟩; exact ⟨rfl, hSw.1.trans hk (fun _ _ h => h), hk.blk hSw.2.1 (fun h => h), hk.blk hSw.2.2 (fun h => h)⟩
  try simp only [Act.put, List.setIfInBounds_toArray, List.set_cons_zero, List.set_cons_succ]
  refine qstep (o := ⟨some 14, _, _, _, _, _⟩) (v := ?_) (by rfl) (fun wq hSw => ?_) ?_
  rotate_left
  · (go_simp; try with_reducible rfl)
  try simp only [Act.put, List.setIfInBounds_toArray, List.set_cons_zero, List.set_cons_succ]
  refine qstep (o := ⟨some 15, _, _, _, _, _⟩) (v := ?_) (by rfl) (fun wq hSw => ?_) ?_
  rotate_left
  · (have hb9 := hSw.2.1; have hc9 := hSw.2.2; have x0 := hb9.cell (i := 0) rfl; have x1 := hb9.cell (i := 1) rfl; have x2 := hb9.cell (i := 2) rfl; have x3 := hb9.cell (i := 3) rfl; have x4 := hb9.cell (i := 4) rfl; have x5 := hb9.cell (i := 5) rfl; have x6 := hb9.cell (i := 6) rfl; have y0 := hc9.cell (i := 0) rfl; have y1 := hc9.cell (i := 1) rfl; have y2 := hc9.cell (i := 2) rfl; have y3 := hc9.cell (i := 3) rfl; have y4 := hc9.cell (i := 4) rfl; clear hb9 hc9; go_simp; try with_reducible rfl)
  try simp only [Act.put, List.setIfInBounds_toArray, List.set_cons_zero, List.set_cons_succ]
  refine qstep (o := ⟨some 16, _, _, _, _, _⟩) (v := ?_) (by rfl) (fun wq hSw => ?_) ?_
  rotate_left
  · (go_simp; try with_reducible rfl)
  try simp only [Act.put, List.setIfInBounds_toArray, List.set_cons_zero, List.set_cons_succ]
  refine qstep (o := ⟨some 17, _, _, _, _, _⟩) (v := .int .u64 (n : Int)) (by rfl) (fun wq hSw => ?_) ?_
  · (go_simp; try first | (with_reducible rfl) | (simp; omega) | (intros; omega) | simp [*])
  try simp only [Act.put, List.setIfInBounds_toArray, List.set_cons_zero, List.set_cons_succ]
  refine qstep (o := ⟨some 18, _, _, _, _, _⟩) (v := ?_) (by rfl) (fun wq hSw => ?_) ?_
  rotate_left
  · (go_simp; try with_reducible rfl)
  try simp only [Act.put, List.setIfInBounds_toArray, List.set_cons_zero, List.set_cons_succ]
  refine qstep (o := ⟨some 19, _, _, _, _, _⟩) (v := ?_) (by rfl) (fun wq hSw => ?_) ?_
  rotate_left
  · (have hb9 := hSw.2.1; have hc9 := hSw.2.2; have x0 := hb9.cell (i := 0) rfl; have x1 := hb9.cell (i := 1) rfl; have x2 := hb9.cell (i := 2) rfl; have x3 := hb9.cell (i := 3) rfl; have x4 := hb9.cell (i := 4) rfl; have x5 := hb9.cell (i := 5) rfl; have x6 := hb9.cell (i := 6) rfl; have y0 := hc9.cell (i := 0) rfl; have y1 := hc9.cell (i := 1) rfl; have y2 := hc9.cell (i := 2) rfl; have y3 := hc9.cell (i := 3) rfl; have y4 := hc9.cell (i := 4) rfl; clear hb9 hc9; go_simp; try with_reducible rfl)
  try simp only [Act.put, List.setIfInBounds_toArray, List.set_cons_zero, List.set_cons_succ]
  refine qstep (o := ⟨some 20, _, _, _, _, _⟩) (v := .int .u64 (P.lv : Int)) (by rfl) (fun wq hSw => ?_) ?_
  · (go_simp; try first | (with_reducible rfl) | (simp; omega) | (intros; omega) | simp [*])
  try simp only [Act.put, List.setIfInBounds_toArray, List.set_cons_zero, List.set_cons_succ]
  refine qstep (o := ⟨some 21, _, _, _, _, _⟩) (v := ?_) (by rfl) (fun wq hSw => ?_) ?_
  rotate_left
  · (go_simp; try with_reducible rfl)
  try simp only [Act.put, List.setIfInBounds_toArray, List.set_cons_zero, List.set_cons_succ]
  refine wpQuiet_nil ?_
  intro wz hHeld
  obtain ⟨hK5, hC5, hP5⟩ := hHeld
  have HM5 := Lib.hid (HM.out.kept hK5 (fun h => h) (fun h => h))
  have HK5 := Lib.hid (HK.out.trans hK5 (fun _ _ h => h.elim))
  have HR5 := Lib.hid (HR.out.keptF hK5 (fun _ _ h => h))
  replace HC := Lib.hid hC5
  replace HP := Lib.hid hP5
  clear hK5 hC5 hP5 HM HK HR
  go_wp2_with fail
  refine (poke_any b g _ k a0 (n : Int) (P.lv : Int) ⟨#[]⟩ _ HM5.out).mono ?_; rintro e w1 ⟨rfl, hM6, hK6⟩
  have HM := Lib.hid hM6
  have HK := Lib.hid (HK5.out.trans hK6 (fun _ _ h => h))
  have HR := Lib.hid (HR5.out.keptF hK6 HA.out)
  replace HC := Lib.hid (hK6.blk HC.out HO.out.1)
  replace HP := Lib.hid (hK6.blk HP.out HO.out.2)
  clear hM6 hK6 HM5 HK5 HR5
  have HM1L := Lib.hid (show b < w1.heap.size ∧ g < w1.heap.size from ⟨HM.out.obj.lt, HM.out.row.lt⟩)
  have y0 := HP.out.cell (i := 0) rfl
  have y1 := HP.out.cell (i := 1) rfl
  have y2 := HP.out.cell (i := 2) rfl
  have y3 := HP.out.cell (i := 3) rfl
  have y4 := HP.out.cell (i := 4) rfl
  have hb1l : b1 < w1.heap.size := HP.out.lt
  go_upto_region 5 with fail
  clear y0 y1 y2 y3 y4 hb1l
  have HX := Lib.hid (Blk.new w1 [.int .u64 0, .string P.hi, .int .u64 1] 50)
  have hal := (Kept.refl (fun _ => False) w1).alloc (.cells #[.int .u64 0, .string P.hi, .int .u64 1] 50)
  replace HM := Lib.hid (HM.out.kept hal (fun h => h) (fun h => h))
  replace HK := Lib.hid (HK.out.trans hal (fun _ _ h => h.elim))
  replace HR := Lib.hid (HR.out.keptF hal (fun _ _ h => h))
  replace HC := Lib.hid (hal.blk HC.out (fun h => h))
  replace HP := Lib.hid (hal.blk HP.out (fun h => h))
  have HX1 := Lib.hid (show ¬ Own b g w1.heap.size by have := HM1L.out; unfold Own; omega)
  clear hal
  generalize w1.alloc (.cells #[.int .u64 0, .string P.hi, .int .u64 1] 50) = W1 at *
  generalize w1.heap.size = bx at *
  refine qtail 5 (fun w' => Kept (fun _ => False) W1 w' ∧ Blk w' b0 25 [.int .i64 1, .int .i64 2, .int .i64 10, .int .i64 100, .int .i64 200, .int .i64 (F : Int), .int .u64 1000] ∧ Blk w' b1 31 [.int .i64 (P.lv : Int), .slice A n c, .string P.hi, .bool true, .int .u64 (P.rt : Int)] ∧ Blk w' bx 50 [.int .u64 0, .string P.hi, .int .u64 1]) (by kernel_rfl) (by kernel_rfl) ⟨(Kept.refl _ _).drew, HC.out.of rfl, HP.out.of rfl, HX.out.of rfl⟩ ?_
  simp only [List.take_succ_cons, List.take_zero, List.drop_succ_cons, List.drop_zero]
  refine qstep (o := ⟨some 29, _, _, _, _, _⟩) (v := ?_) (by rfl) (fun wq hSw => ?_) ?_
  rotate_left
  · (go_simp; try with_reducible rfl)
  try simp only [Act.put, List.setIfInBounds_toArray, List.set_cons_zero, List.set_cons_succ]
  refine qstep (o := ⟨some 30, _, _, _, _, _⟩) (v := ?_) (by rfl) (fun wq hSw => ?_) ?_
  rotate_left
  · (have hb9 := hSw.2.1; have hc9 := hSw.2.2.1; have x0 := hb9.cell (i := 0) rfl; have x1 := hb9.cell (i := 1) rfl; have x2 := hb9.cell (i := 2) rfl; have x3 := hb9.cell (i := 3) rfl; have x4 := hb9.cell (i := 4) rfl; have x5 := hb9.cell (i := 5) rfl; have x6 := hb9.cell (i := 6) rfl; have y0 := hc9.cell (i := 0) rfl; have y1 := hc9.cell (i := 1) rfl; have y2 := hc9.cell (i := 2) rfl; have y3 := hc9.cell (i := 3) rfl; have y4 := hc9.cell (i := 4) rfl; have hd9 := hSw.2.2.2; have v0 := hd9.cell (i := 0) rfl; have v1 := hd9.cell (i := 1) rfl; have v2 := hd9.cell (i := 2) rfl; clear hd9; clear hb9 hc9; go_simp; try with_reducible rfl)
  try simp only [Act.put, List.setIfInBounds_toArray, List.set_cons_zero, List.set_cons_succ]
  refine qstep (o := ⟨some 31, _, _, _, _, _⟩) (v := ?_) (by rfl) (fun wq hSw => ?_) ?_
  rotate_left
  · (go_simp; try with_reducible rfl)
  try simp only [Act.put, List.setIfInBounds_toArray, List.set_cons_zero, List.set_cons_succ]
  refine qcall (o := ⟨some 32, _, _, _, _, _⟩) (v := .int .i64 a1) (by rfl) (fun wq hSw => ?_) (fun wq hSw => Calls.mono (ref_toT F nid 2 h4 h6 (by omega) a1 HA1.out _) ?_) ?_
  · (go_simp; try with_reducible rfl)
  · rintro e w9 ⟨rfl, hk⟩; exact ⟨rfl, hSw.1.trans hk (fun _ _ h => h), hk.blk hSw.2.1 (fun h => h), hk.blk hSw.2.2.1 (fun h => h), hk.blk hSw.2.2.2 (fun h => h)⟩
  try simp only [Act.put, List.setIfInBounds_toArray, List.set_cons_zero, List.set_cons_succ]
  refine qstep (o := ⟨some 33, _, _, _, _, _⟩) (v := ?_) (by rfl) (fun wq hSw => ?_) ?_
  rotate_left
  · (have hb9 := hSw.2.1; have hc9 := hSw.2.2.1; have x0 := hb9.cell (i := 0) rfl; have x1 := hb9.cell (i := 1) rfl; have x2 := hb9.cell (i := 2) rfl; have x3 := hb9.cell (i := 3) rfl; have x4 := hb9.cell (i := 4) rfl; have x5 := hb9.cell (i := 5) rfl; have x6 := hb9.cell (i := 6) rfl; have y0 := hc9.cell (i := 0) rfl; have y1 := hc9.cell (i := 1) rfl; have y2 := hc9.cell (i := 2) rfl; have y3 := hc9.cell (i := 3) rfl; have y4 := hc9.cell (i := 4) rfl; have hd9 := hSw.2.2.2; have v0 := hd9.cell (i := 0) rfl; have v1 := hd9.cell (i := 1) rfl; have v2 := hd9.cell (i := 2) rfl; clear hd9; clear hb9 hc9; go_simp; try with_reducible rfl)
  try simp only [Act.put, List.setIfInBounds_toArray, List.set_cons_zero, List.set_cons_succ]
  refine wpQuiet_nil ?_
  intro wz hHeld
  obtain ⟨hK5, hC5, hP5, -⟩ := hHeld
  have HM5 := Lib.hid (HM.out.kept hK5 (fun h => h) (fun h => h))
  have HK5 := Lib.hid (HK.out.trans hK5 (fun _ _ h => h.elim))
  have HR5 := Lib.hid (HR.out.keptF hK5 (fun _ _ h => h))
  clear HX HX1 HM1L
  replace HC := Lib.hid hC5
  replace HP := Lib.hid hP5
  clear hK5 hC5 hP5 HM HK HR
  go_wp2_with fail
  refine (poke_any b g _ k a1 0 1 P.hi _ HM5.out).mono ?_; rintro e w2 ⟨rfl, hM6, hK6⟩
  have HM := Lib.hid hM6
  have HK := Lib.hid (HK5.out.trans hK6 (fun _ _ h => h))
  have HR := Lib.hid (HR5.out.keptF hK6 HA.out)
  replace HC := Lib.hid (hK6.blk HC.out HO.out.1)
  replace HP := Lib.hid (hK6.blk HP.out HO.out.2)
  clear hM6 hK6 HM5 HK5 HR5
  go_upto_region 6 with fail
  refine qtail 7 (fun w' => Kept (fun _ => False) w2 w' ∧ Blk w' b0 25 [.int .i64 1, .int .i64 2, .int .i64 10, .int .i64 100, .int .i64 200, .int .i64 (F : Int), .int .u64 1000] ∧ Blk w' b1 31 [.int .i64 (P.lv : Int), .slice A n c, .string P.hi, .bool true, .int .u64 (P.rt : Int)]) (by kernel_rfl) (by kernel_rfl) ⟨(Kept.refl _ _).drew, HC.out.of rfl, HP.out.of rfl⟩ ?_
  simp only [List.take_succ_cons, List.take_zero, List.drop_succ_cons, List.drop_zero]
  refine qstep (o := ⟨some 35, _, _, _, _, _⟩) (v := ?_) (by rfl) (fun wq hSw => ?_) ?_
  rotate_left
  · (go_simp; try with_reducible rfl)
  try simp only [Act.put, List.setIfInBounds_toArray, List.set_cons_zero, List.set_cons_succ]
  refine qstep (o := ⟨some 36, _, _, _, _, _⟩) (v := ?_) (by rfl) (fun wq hSw => ?_) ?_
  rotate_left
  · (have hb9 := hSw.2.1; have hc9 := hSw.2.2; have x0 := hb9.cell (i := 0) rfl; have x1 := hb9.cell (i := 1) rfl; have x2 := hb9.cell (i := 2) rfl; have x3 := hb9.cell (i := 3) rfl; have x4 := hb9.cell (i := 4) rfl; have x5 := hb9.cell (i := 5) rfl; have x6 := hb9.cell (i := 6) rfl; have y0 := hc9.cell (i := 0) rfl; have y1 := hc9.cell (i := 1) rfl; have y2 := hc9.cell (i := 2) rfl; have y3 := hc9.cell (i := 3) rfl; have y4 := hc9.cell (i := 4) rfl; clear hb9 hc9; go_simp; try with_reducible rfl)
  try simp only [Act.put, List.setIfInBounds_toArray, List.set_cons_zero, List.set_cons_succ]
  refine qstep (o := ⟨some 37, _, _, _, _, _⟩) (v := ?_) (by rfl) (fun wq hSw => ?_) ?_
  rotate_left
  · (go_simp; try with_reducible rfl)
  try simp only [Act.put, List.setIfInBounds_toArray, List.set_cons_zero, List.set_cons_succ]
  refine qcall (o := ⟨some 38, _, _, _, _, _⟩) (v := .int .i64 a2) (by rfl) (fun wq hSw => ?_) (fun wq hSw => Calls.mono (ref_toT F nid 3 h4 h6 (by omega) a2 HA2.out _) ?_) ?_
  · (go_simp; try with_reducible rfl)
  · rintro e w9 ⟨rfl, hk⟩; exact ⟨rfl, hSw.1.trans hk (fun _ _ h => h), hk.blk hSw.2.1 (fun h => h), hk.blk hSw.2.2 (fun h => h)⟩
  try simp only [Act.put, List.setIfInBounds_toArray, List.set_cons_zero, List.set_cons_succ]
  refine qstep (o := ⟨some 39, _, _, _, _, _⟩) (v := ?_) (by rfl) (fun wq hSw => ?_) ?_
  rotate_left
  · (go_simp; try with_reducible rfl)
  try simp only [Act.put, List.setIfInBounds_toArray, List.set_cons_zero, List.set_cons_succ]
  refine qstep (o := ⟨some 40, _, _, _, _, _⟩) (v := ?_) (by rfl) (fun wq hSw => ?_) ?_
  rotate_left
  · (have hb9 := hSw.2.1; have hc9 := hSw.2.2; have x0 := hb9.cell (i := 0) rfl; have x1 := hb9.cell (i := 1) rfl; have x2 := hb9.cell (i := 2) rfl; have x3 := hb9.cell (i := 3) rfl; have x4 := hb9.cell (i := 4) rfl; have x5 := hb9.cell (i := 5) rfl; have x6 := hb9.cell (i := 6) rfl; have y0 := hc9.cell (i := 0) rfl; have y1 := hc9.cell (i := 1) rfl; have y2 := hc9.cell (i := 2) rfl; have y3 := hc9.cell (i := 3) rfl; have y4 := hc9.cell (i := 4) rfl; clear hb9 hc9; go_simp; try with_reducible rfl)
  try simp only [Act.put, List.setIfInBounds_toArray, List.set_cons_zero, List.set_cons_succ]
  refine qstep (o := ⟨some 41, _, _, _, _, _⟩) (v := ?_) (by rfl) (fun wq hSw => ?_) ?_
  rotate_left
  · (go_simp; try with_reducible rfl)
  try simp only [Act.put, List.setIfInBounds_toArray, List.set_cons_zero, List.set_cons_succ]
  refine wpQuiet_nil ?_
  intro wz hHeld
  obtain ⟨hK5, hC5, hP5⟩ := hHeld
  have HM5 := Lib.hid (HM.out.kept hK5 (fun h => h) (fun h => h))
  have HK5 := Lib.hid (HK.out.trans hK5 (fun _ _ h => h.elim))
  have HR5 := Lib.hid (HR.out.keptF hK5 (fun _ _ h => h))
  replace HC := Lib.hid hC5
  replace HP := Lib.hid hP5
  clear hK5 hC5 hP5 HM HK HR
  go_wp2_with fail
  refine (poke_any b g _ k a2 (P.rt : Int) 0 ⟨#[]⟩ _ HM5.out).mono ?_; rintro e w3 ⟨rfl, hM6, hK6⟩
  have HM := Lib.hid hM6
  have HK := Lib.hid (HK5.out.trans hK6 (fun _ _ h => h))
  have HR := Lib.hid (HR5.out.keptF hK6 HA.out)
  replace HC := Lib.hid (hK6.blk HC.out HO.out.1)
  replace HP := Lib.hid (hK6.blk HP.out HO.out.2)
  clear hM6 hK6 HM5 HK5 HR5
  rw [← H3.out] at HM
  clear H3 HA0 HA1 HA2
  go_wp2_with fail
  go_loopw [9] (fun i wr => ∃ j : Nat, j ≤ n ∧ i = .int .i64 j ∧ Mem wr b g (app l ((pst (nadT F nid) P).take (j + 3))) k ∧ Kept (Own b g) w wr ∧ Rs wr A c P.xs ∧ Blk wr b0 25 [.int .i64 1, .int .i64 2, .int .i64 10, .int .i64 100, .int .i64 200, .int .i64 (F : Int), .int .u64 1000] ∧ Blk wr b1 31 [.int .i64 (P.lv : Int), .slice A n c, .string P.hi, .bool true, .int .u64 (P.rt : Int)]) (fun i _ => n - (intOf i).toNat)
  case atStart => exact ⟨0, by omega, rfl, HM.out, HK.out, HR.out, HC.out, HP.out⟩
  case round =>
    obtain ⟨j, hj, rfl, hM, hK, hR, hC, hP⟩ := hrel
    rename World => wr
    clear HM HK HR HC HP
    have HM := Lib.hid hM
    have HK := Lib.hid hK
    have HR := Lib.hid hR
    have HC := Lib.hid hC
    have HP := Lib.hid hP
    have y1 := HP.out.cell (i := 1) rfl
    clear hM hK hR hC hP
    by_cases hlt : j < n
    · obtain ⟨x, hx⟩ : ∃ x, P.xs[j]? = some x := ⟨_, List.getElem?_eq_getElem (by have := HN.out; omega)⟩
      obtain ⟨gx, off, hAx, hgx, hcell⟩ := HR.out.at (by have := HN.out; omega)
      obtain ⟨cx0, cx1⟩ := hcell j x hx
      have hjn : (j : Int) < (n : Int) := by omega
      have wj := wrap_i (4 + (j : Int)) (by omega)
      obtain ⟨aj, haj⟩ : ∃ y, nadT F nid (j + 3) = y := ⟨_, rfl⟩
      have HAJ := Lib.hid (show nodeAt 10 (F : Int) 10 (nid : Int) ((4 + j : Nat) : Int) = aj by rw [← haj, show 4 + j = (j + 3) + 1 by omega]; exact putPstT (l := []) (P := P) hn1 hn2 (j + 3) (by omega))
      have hnext : app l ((pst (nadT F nid) P).take (j + 1 + 3)) = putAt (app l ((pst (nadT F nid) P).take (j + 3))) aj ((x.2 : Int), x.1, 0) := by
        rw [show j + 1 + 3 = (j + 3) + 1 by omega, pst_step _ _ _ (by have := HN.out; omega), app_snoc, haj, pc_slot hx]; rfl
      have HNX := Lib.hid hnext
      have hxb : ¬ Own b g gx := HA.out _ hAx
      have HXB := Lib.hid hxb
      have HAE := Lib.hid hAx
      have HP2 := HP
      rw [hAx] at HP2
      clear hcell hx haj hnext hxb hAx
      go_upto_region 10 with fail
      clear y1
      refine qtail 19 (fun w' => Kept (fun _ => False) wr w' ∧ Blk w' b0 25 [.int .i64 1, .int .i64 2, .int .i64 10, .int .i64 100, .int .i64 200, .int .i64 (F : Int), .int .u64 1000] ∧ Blk w' b1 31 [.int .i64 (P.lv : Int), .slice (some ⟨gx, off, none⟩) n c, .string P.hi, .bool true, .int .u64 (P.rt : Int)] ∧ w'.cell? ⟨gx, off + j * 2, none⟩ = some (.string x.1) ∧ w'.cell? ⟨gx, off + j * 2 + 1, none⟩ = some (.int .u64 (x.2 : Int))) (by kernel_rfl) (by kernel_rfl) ⟨(Kept.refl _ _).drew, HC.out.of rfl, HP2.out.of rfl, cx0, cx1⟩ ?_
      simp only [List.take_succ_cons, List.take_zero, List.drop_succ_cons, List.drop_zero]
      refine qstep (o := ⟨some 50, _, _, _, _, _⟩) (v := ?_) (by rfl) (fun wq hSw => ?_) ?_
      rotate_left
      · (go_simp; try with_reducible rfl)
      try simp only [Act.put, List.setIfInBounds_toArray, List.set_cons_zero, List.set_cons_succ]
      refine qstep (o := ⟨some 51, _, _, _, _, _⟩) (v := ?_) (by rfl) (fun wq hSw => ?_) ?_
      rotate_left
      · (have hb9 := hSw.2.1; have hc9 := hSw.2.2.1; have q0 := hSw.2.2.2.1; have q1 := hSw.2.2.2.2; have x0 := hb9.cell (i := 0) rfl; have x1 := hb9.cell (i := 1) rfl; have x2 := hb9.cell (i := 2) rfl; have x3 := hb9.cell (i := 3) rfl; have x4 := hb9.cell (i := 4) rfl; have x5 := hb9.cell (i := 5) rfl; have x6 := hb9.cell (i := 6) rfl; have y1 := hc9.cell (i := 1) rfl; clear hb9 hc9; go_simp; try with_reducible rfl)
      try simp only [Act.put, List.setIfInBounds_toArray, List.set_cons_zero, List.set_cons_succ]
      refine qstep (o := ⟨some 52, _, _, _, _, _⟩) (v := ?_) (by rfl) (fun wq hSw => ?_) ?_
      rotate_left
      · (go_simp; try with_reducible rfl)
      try simp only [Act.put, List.setIfInBounds_toArray, List.set_cons_zero, List.set_cons_succ]
      refine qstep (o := ⟨some 53, _, _, _, _, _⟩) (v := ?_) (by rfl) (fun wq hSw => ?_) ?_
      rotate_left
      · (go_simp; try with_reducible rfl)
      try simp only [Act.put, List.setIfInBounds_toArray, List.set_cons_zero, List.set_cons_succ]
      refine qstep (o := ⟨some 54, _, _, _, _, _⟩) (v := .int .i64 ((4 + j : Nat) : Int)) (by rfl) (fun wq hSw => ?_) ?_
      · (go_simp; try first | (with_reducible rfl) | (simp; omega) | (intros; omega) | simp [*])
      try simp only [Act.put, List.setIfInBounds_toArray, List.set_cons_zero, List.set_cons_succ]
      refine qcall (o := ⟨some 55, _, _, _, _, _⟩) (v := .int .i64 aj) (by rfl) (fun wq hSw => ?_) (fun wq hSw => Calls.mono (ref_toT F nid (4 + j) h4 h6 (by omega) aj HAJ.out _) ?_) ?_
      · (go_simp; try with_reducible rfl)
      · rintro e w9 ⟨rfl, hk⟩; exact ⟨rfl, hSw.1.trans hk (fun _ _ h => h), hk.blk hSw.2.1 (fun h => h), hk.blk hSw.2.2.1 (fun h => h), (hk.cell (p := ⟨gx, off + j * 2, none⟩) (Nat.lt_of_lt_of_le hgx hSw.1.size) (fun h => h)).trans hSw.2.2.2.1, (hk.cell (p := ⟨gx, off + j * 2 + 1, none⟩) (Nat.lt_of_lt_of_le hgx hSw.1.size) (fun h => h)).trans hSw.2.2.2.2⟩
      try simp only [Act.put, List.setIfInBounds_toArray, List.set_cons_zero, List.set_cons_succ]
      refine qstep (o := ⟨some 56, _, _, _, _, _⟩) (v := ?_) (by rfl) (fun wq hSw => ?_) ?_
      rotate_left
      · (go_simp; try with_reducible rfl)
      try simp only [Act.put, List.setIfInBounds_toArray, List.set_cons_zero, List.set_cons_succ]
      refine qstep (o := ⟨some 57, _, _, _, _, _⟩) (v := .slice (some ⟨gx, off, none⟩) n c) (by rfl) (fun wq hSw => ?_) ?_
      · (have hb9 := hSw.2.1; have hc9 := hSw.2.2.1; have q0 := hSw.2.2.2.1; have q1 := hSw.2.2.2.2; have x0 := hb9.cell (i := 0) rfl; have x1 := hb9.cell (i := 1) rfl; have x2 := hb9.cell (i := 2) rfl; have x3 := hb9.cell (i := 3) rfl; have x4 := hb9.cell (i := 4) rfl; have x5 := hb9.cell (i := 5) rfl; have x6 := hb9.cell (i := 6) rfl; have y1 := hc9.cell (i := 1) rfl; clear hb9 hc9; go_simp; try first | (with_reducible rfl) | (simp; omega) | (intros; omega) | simp [*])
      try simp only [Act.put, List.setIfInBounds_toArray, List.set_cons_zero, List.set_cons_succ]
      refine qstep (o := ⟨some 58, _, _, _, _, _⟩) (v := ?_) (by rfl) (fun wq hSw => ?_) ?_
      rotate_left
      · (go_simp; try with_reducible rfl)
      try simp only [Act.put, List.setIfInBounds_toArray, List.set_cons_zero, List.set_cons_succ]
      refine qstep (o := ⟨some 59, _, _, _, _, _⟩) (v := .pointer (some ⟨gx, off + j * 2, none⟩)) (by rfl) (fun wq hSw => ?_) ?_
      · (go_simp; try first | (with_reducible rfl) | (simp; omega) | (intros; omega) | simp [*])
      try simp only [Act.put, List.setIfInBounds_toArray, List.set_cons_zero, List.set_cons_succ]
      refine qstep (o := ⟨some 60, _, _, _, _, _⟩) (v := ?_) (by rfl) (fun wq hSw => ?_) ?_
      rotate_left
      · (go_simp; try with_reducible rfl)
      try simp only [Act.put, List.setIfInBounds_toArray, List.set_cons_zero, List.set_cons_succ]
      refine qstep (o := ⟨some 61, _, _, _, _, _⟩) (v := .string x.1) (by rfl) (fun wq hSw => ?_) ?_
      · (have hb9 := hSw.2.1; have hc9 := hSw.2.2.1; have q0 := hSw.2.2.2.1; have q1 := hSw.2.2.2.2; have x0 := hb9.cell (i := 0) rfl; have x1 := hb9.cell (i := 1) rfl; have x2 := hb9.cell (i := 2) rfl; have x3 := hb9.cell (i := 3) rfl; have x4 := hb9.cell (i := 4) rfl; have x5 := hb9.cell (i := 5) rfl; have x6 := hb9.cell (i := 6) rfl; have y1 := hc9.cell (i := 1) rfl; clear hb9 hc9; go_simp; try first | (with_reducible rfl) | (simp; omega) | (intros; omega) | simp [*])
      try simp only [Act.put, List.setIfInBounds_toArray, List.set_cons_zero, List.set_cons_succ]
      refine qstep (o := ⟨some 62, _, _, _, _, _⟩) (v := ?_) (by rfl) (fun wq hSw => ?_) ?_
      rotate_left
      · (go_simp; try with_reducible rfl)
      try simp only [Act.put, List.setIfInBounds_toArray, List.set_cons_zero, List.set_cons_succ]
      refine qstep (o := ⟨some 63, _, _, _, _, _⟩) (v := .slice (some ⟨gx, off, none⟩) n c) (by rfl) (fun wq hSw => ?_) ?_
      · (have hb9 := hSw.2.1; have hc9 := hSw.2.2.1; have q0 := hSw.2.2.2.1; have q1 := hSw.2.2.2.2; have x0 := hb9.cell (i := 0) rfl; have x1 := hb9.cell (i := 1) rfl; have x2 := hb9.cell (i := 2) rfl; have x3 := hb9.cell (i := 3) rfl; have x4 := hb9.cell (i := 4) rfl; have x5 := hb9.cell (i := 5) rfl; have x6 := hb9.cell (i := 6) rfl; have y1 := hc9.cell (i := 1) rfl; clear hb9 hc9; go_simp; try first | (with_reducible rfl) | (simp; omega) | (intros; omega) | simp [*])
      try simp only [Act.put, List.setIfInBounds_toArray, List.set_cons_zero, List.set_cons_succ]
      refine qstep (o := ⟨some 64, _, _, _, _, _⟩) (v := ?_) (by rfl) (fun wq hSw => ?_) ?_
      rotate_left
      · (go_simp; try with_reducible rfl)
      try simp only [Act.put, List.setIfInBounds_toArray, List.set_cons_zero, List.set_cons_succ]
      refine qstep (o := ⟨some 65, _, _, _, _, _⟩) (v := .pointer (some ⟨gx, off + j * 2, none⟩)) (by rfl) (fun wq hSw => ?_) ?_
      · (go_simp; try first | (with_reducible rfl) | (simp; omega) | (intros; omega) | simp [*])
      try simp only [Act.put, List.setIfInBounds_toArray, List.set_cons_zero, List.set_cons_succ]
      refine qstep (o := ⟨some 66, _, _, _, _, _⟩) (v := ?_) (by rfl) (fun wq hSw => ?_) ?_
      rotate_left
      · (go_simp; try with_reducible rfl)
      try simp only [Act.put, List.setIfInBounds_toArray, List.set_cons_zero, List.set_cons_succ]
      refine qstep (o := ⟨some 67, _, _, _, _, _⟩) (v := .int .u64 (x.2 : Int)) (by rfl) (fun wq hSw => ?_) ?_
      · (have hb9 := hSw.2.1; have hc9 := hSw.2.2.1; have q0 := hSw.2.2.2.1; have q1 := hSw.2.2.2.2; have x0 := hb9.cell (i := 0) rfl; have x1 := hb9.cell (i := 1) rfl; have x2 := hb9.cell (i := 2) rfl; have x3 := hb9.cell (i := 3) rfl; have x4 := hb9.cell (i := 4) rfl; have x5 := hb9.cell (i := 5) rfl; have x6 := hb9.cell (i := 6) rfl; have y1 := hc9.cell (i := 1) rfl; clear hb9 hc9; go_simp; try first | (with_reducible rfl) | (simp; omega) | (intros; omega) | simp [*])
      try simp only [Act.put, List.setIfInBounds_toArray, List.set_cons_zero, List.set_cons_succ]
      refine qstep (o := ⟨some 68, _, _, _, _, _⟩) (v := ?_) (by rfl) (fun wq hSw => ?_) ?_
      rotate_left
      · (go_simp; try with_reducible rfl)
      try simp only [Act.put, List.setIfInBounds_toArray, List.set_cons_zero, List.set_cons_succ]
      refine wpQuiet_nil ?_
      intro wz hHeld
      obtain ⟨hK5, hC5, -, -, -⟩ := hHeld
      have HM5 := Lib.hid (HM.out.kept hK5 (fun h => h) (fun h => h))
      have HK5 := Lib.hid (HK.out.trans hK5 (fun _ _ h => h.elim))
      have HR5 := Lib.hid (HR.out.keptF hK5 (fun _ _ h => h))
      have HP5 := Lib.hid (hK5.blk HP.out (fun h => h))
      have HC5 := Lib.hid hC5
      clear hK5 hC5 HM HK HR HC HP HP2 cx0 cx1
      go_wp2_with fail
      refine (poke_any b g _ k aj (x.2 : Int) 0 x.1 _ HM5.out).mono ?_; rintro e w6 ⟨rfl, hM6, hK6⟩
      have HM := Lib.hid hM6
      have HK := Lib.hid (HK5.out.trans hK6 (fun _ _ h => h))
      have HR := Lib.hid (HR5.out.keptF hK6 HA.out)
      have HC := Lib.hid (hK6.blk HC5.out HO.out.1)
      have HP := Lib.hid (hK6.blk HP5.out HO.out.2)
      rw [← HNX.out] at HM
      clear hM6 hK6 HM5 HK5 HR5 HC5 HP5
      go_wp2
      go_roundw
      case rel => exact ⟨j + 1, by omega, by go_num, HM.out, HK.out, HR.out, HC.out, HP.out⟩
      case measure => simp [intOf]; omega
    · obtain rfl : j = n := by omega
      go_wp2
      go_end0
      have hM := HM.out
      rw [← HN.out, pst_all] at hM
      exact ⟨rfl, hM, HK.out⟩

set_option maxRecDepth 100000 in
set_option maxHeartbeats 4000000 in
theorem kput_falseT (F nid : Nat) (h4 : 4 ≤ F) (h6 : F ≤ 6) (hn1 : 1 ≤ nid) (hn2 : nid ≤ 10) (P : Pg) (hla : P.la = false) (hw : Wf P) (hlen : P.xs.length ≤ F) (hlv : P.lv < 9223372036854775808) (A : Option Addr) (c b g : Nat) (l : List Cel) (k : Nat) (w : World) (hm : Mem w b g l k) (hR : Rs w A c P.xs) (hA : ∀ a, A = some a → ¬ Own b g a.block) :
    Calls Try.prog 29 #[.agg #[.int .i64 1, .int .i64 2, .int .i64 10, .int .i64 100, .int .i64 200, .int .i64 (F : Int), .int .u64 1000], .pointer (some ⟨b, 0, none⟩), .int .u64 (nid : Int), .agg #[.int .i64 (P.lv : Int), .slice A P.xs.length c, .string P.hi, .bool P.la, .int .u64 (P.rt : Int)]] w fun e w' => e = .returned (.tuple #[]) ∧ Mem w' b g (app l (pst (nadT F nid) P)) k ∧ Kept (Own b g) w w' := by
  obtain ⟨a0, ha0⟩ : ∃ x, nadT F nid 0 = x := ⟨_, rfl⟩
  obtain ⟨a1, ha1⟩ : ∃ x, nadT F nid 1 = x := ⟨_, rfl⟩
  obtain ⟨a2, ha2⟩ : ∃ x, nadT F nid 2 = x := ⟨_, rfl⟩
  obtain ⟨n, hn⟩ : ∃ n, P.xs.length = n := ⟨_, rfl⟩
  rw [hn] at hlen
  have HA0 := Lib.hid (show nodeAt 10 (F : Int) 10 (nid : Int) ((1 : Nat) : Int) = a0 by rw [← ha0]; exact putPstT (l := []) (P := P) hn1 hn2 0 (by omega))
  have HA1 := Lib.hid (show nodeAt 10 (F : Int) 10 (nid : Int) ((2 : Nat) : Int) = a1 by rw [← ha1]; exact putPstT (l := []) (P := P) hn1 hn2 1 (by omega))
  have HA2 := Lib.hid (show nodeAt 10 (F : Int) 10 (nid : Int) ((3 : Nat) : Int) = a2 by rw [← ha2]; exact putPstT (l := []) (P := P) hn1 hn2 2 (by omega))
  have hthree : app l ((pst (nadT F nid) P).take 3) = putAt (putAt (putAt l a0 ((n : Int), ⟨#[]⟩, (P.lv : Int))) a1 (0, P.hi, 0)) a2 ((P.rt : Int), ⟨#[]⟩, 0) := by
    rw [pst_three, ha0, ha1, ha2]
    have p0 : pc P 0 = ((n : Int), ⟨#[]⟩, (P.lv : Int)) := by rw [← hn]; rfl
    have p1 : pc P 1 = (0, P.hi, 0) := by show hiCel P.hi P.la = _; unfold hiCel; rw [hla]; rfl
    have p2 : pc P 2 = ((P.rt : Int), ⟨#[]⟩, 0) := rfl
    rw [p0, p1, p2]; rfl
  have H3 := Lib.hid hthree
  have HN := Lib.hid hn
  have wn := wrap_u (n : Int) (by omega)
  have wl := wrap_u (P.lv : Int) (by omega)
  obtain ⟨P0, S0, B0, Z0⟩ := box_two w [.int .i64 1, .int .i64 2, .int .i64 10, .int .i64 100, .int .i64 200, .int .i64 (F : Int), .int .u64 1000] [.int .i64 (P.lv : Int), .slice A P.xs.length c, .string P.hi, .bool P.la, .int .u64 (P.rt : Int)] 25 31
  have HC := Lib.hid P0
  have HP := Lib.hid S0
  have HM := Lib.hid ((hm.alloc (.cells #[.int .i64 1, .int .i64 2, .int .i64 10, .int .i64 100, .int .i64 200, .int .i64 (F : Int), .int .u64 1000] 25)).alloc (.cells #[.int .i64 (P.lv : Int), .slice A P.xs.length c, .string P.hi, .bool P.la, .int .u64 (P.rt : Int)] 31))
  have HR := Lib.hid (hR.below B0 (Nat.le_refl _))
  have HK := Lib.hid (B0.kept0.mono (T := Own b g) (fun _ h => h.elim))
  have hbw := hm.obj.lt
  have hgw := hm.row.lt
  have HO := Lib.hid (show ¬ Own b g w.heap.size ∧ ¬ Own b g (w.heap.size + 1) by unfold Own; omega)
  have hAfar : ∀ a, A = some a → ¬ Own b g a.block := hA
  have HA := Lib.hid hAfar
  clear ha0 ha1 ha2 hn hthree P0 S0 B0 Z0 hm hR hA hAfar hbw hgw
  rw [HN.out, hla] at HC HP HM HK HR
  rw [HN.out, hla]
  go_enter Try.func29, Try.ntmps29
  go_wp2_with fail
  generalize (w.alloc (.cells #[.int .i64 1, .int .i64 2, .int .i64 10, .int .i64 100, .int .i64 200, .int .i64 (F : Int), .int .u64 1000] 25)).alloc (.cells #[.int .i64 (P.lv : Int), .slice A n c, .string P.hi, .bool false, .int .u64 (P.rt : Int)] 31) = W at *
  generalize hb1 : w.heap.size + 1 = b1 at *
  generalize hb0 : w.heap.size = b0 at HC HO ⊢
  have HBB := Lib.hid (And.intro hb0 hb1)
  clear hb0 hb1
  refine qtail 12 (fun w' => Kept (fun _ => False) W w' ∧ Blk w' b0 25 [.int .i64 1, .int .i64 2, .int .i64 10, .int .i64 100, .int .i64 200, .int .i64 (F : Int), .int .u64 1000] ∧ Blk w' b1 31 [.int .i64 (P.lv : Int), .slice A n c, .string P.hi, .bool false, .int .u64 (P.rt : Int)]) (by kernel_rfl) (by kernel_rfl) ⟨(Kept.refl _ _).drew, HC.out.of rfl, HP.out.of rfl⟩ ?_
  simp only [List.take_succ_cons, List.take_zero, List.drop_succ_cons, List.drop_zero]
  refine qstep (o := ⟨some 10, _, _, _, _, _⟩) (v := ?_) (by rfl) (fun wq hSw => ?_) ?_
  rotate_left
  · (go_simp; try with_reducible rfl)
  try simp only [Act.put, List.setIfInBounds_toArray, List.set_cons_zero, List.set_cons_succ]
  refine qstep (o := ⟨some 11, _, _, _, _, _⟩) (v := ?_) (by rfl) (fun wq hSw => ?_) ?_
  rotate_left
  · (have hb9 := hSw.2.1; have hc9 := hSw.2.2; have x0 := hb9.cell (i := 0) rfl; have x1 := hb9.cell (i := 1) rfl; have x2 := hb9.cell (i := 2) rfl; have x3 := hb9.cell (i := 3) rfl; have x4 := hb9.cell (i := 4) rfl; have x5 := hb9.cell (i := 5) rfl; have x6 := hb9.cell (i := 6) rfl; have y0 := hc9.cell (i := 0) rfl; have y1 := hc9.cell (i := 1) rfl; have y2 := hc9.cell (i := 2) rfl; have y3 := hc9.cell (i := 3) rfl; have y4 := hc9.cell (i := 4) rfl; clear hb9 hc9; go_simp; try with_reducible rfl)
  try simp only [Act.put, List.setIfInBounds_toArray, List.set_cons_zero, List.set_cons_succ]
  refine qstep (o := ⟨some 12, _, _, _, _, _⟩) (v := ?_) (by rfl) (fun wq hSw => ?_) ?_
  rotate_left
  · (go_simp; try with_reducible rfl)
  try simp only [Act.put, List.setIfInBounds_toArray, List.set_cons_zero, List.set_cons_succ]
  refine qcall (o := ⟨some 13, _, _, _, _, _⟩) (v := .int .i64 a0) (by rfl) (fun wq hSw => ?_) (fun wq hSw => Calls.mono (ref_toT F nid 1 h4 h6 (by omega) a0 HA0.out _) ?_) ?_
  · (go_simp; try with_reducible rfl)
  · rintro e w9 ⟨rfl, hk⟩; exact ⟨rfl, hSw.1.trans hk (fun _ _ h => h), hk.blk hSw.2.1 (fun h => h), hk.blk hSw.2.2 (fun h => h)⟩
  try simp only [Act.put, List.setIfInBounds_toArray, List.set_cons_zero, List.set_cons_succ]
  refine qstep (o := ⟨some 14, _, _, _, _, _⟩) (v := ?_) (by rfl) (fun wq hSw => ?_) ?_
  rotate_left
  · (go_simp; try with_reducible rfl)
  try simp only [Act.put, List.setIfInBounds_toArray, List.set_cons_zero, List.set_cons_succ]
  refine qstep (o := ⟨some 15, _, _, _, _, _⟩) (v := ?_) (by rfl) (fun wq hSw => ?_) ?_
  rotate_left
  · (have hb9 := hSw.2.1; have hc9 := hSw.2.2; have x0 := hb9.cell (i := 0) rfl; have x1 := hb9.cell (i := 1) rfl; have x2 := hb9.cell (i := 2) rfl; have x3 := hb9.cell (i := 3) rfl; have x4 := hb9.cell (i := 4) rfl; have x5 := hb9.cell (i := 5) rfl; have x6 := hb9.cell (i := 6) rfl; have y0 := hc9.cell (i := 0) rfl; have y1 := hc9.cell (i := 1) rfl; have y2 := hc9.cell (i := 2) rfl; have y3 := hc9.cell (i := 3) rfl; have y4 := hc9.cell (i := 4) rfl; clear hb9 hc9; go_simp; try with_reducible rfl)
  try simp only [Act.put, List.setIfInBounds_toArray, List.set_cons_zero, List.set_cons_succ]
  refine qstep (o := ⟨some 16, _, _, _, _, _⟩) (v := ?_) (by rfl) (fun wq hSw => ?_) ?_
  rotate_left
  · (go_simp; try with_reducible rfl)
  try simp only [Act.put, List.setIfInBounds_toArray, List.set_cons_zero, List.set_cons_succ]
  refine qstep (o := ⟨some 17, _, _, _, _, _⟩) (v := .int .u64 (n : Int)) (by rfl) (fun wq hSw => ?_) ?_
  · (go_simp; try first | (with_reducible rfl) | (simp; omega) | (intros; omega) | simp [*])
  try simp only [Act.put, List.setIfInBounds_toArray, List.set_cons_zero, List.set_cons_succ]
  refine qstep (o := ⟨some 18, _, _, _, _, _⟩) (v := ?_) (by rfl) (fun wq hSw => ?_) ?_
  rotate_left
  · (go_simp; try with_reducible rfl)
  try simp only [Act.put, List.setIfInBounds_toArray, List.set_cons_zero, List.set_cons_succ]
  refine qstep (o := ⟨some 19, _, _, _, _, _⟩) (v := ?_) (by rfl) (fun wq hSw => ?_) ?_
  rotate_left
  · (have hb9 := hSw.2.1; have hc9 := hSw.2.2; have x0 := hb9.cell (i := 0) rfl; have x1 := hb9.cell (i := 1) rfl; have x2 := hb9.cell (i := 2) rfl; have x3 := hb9.cell (i := 3) rfl; have x4 := hb9.cell (i := 4) rfl; have x5 := hb9.cell (i := 5) rfl; have x6 := hb9.cell (i := 6) rfl; have y0 := hc9.cell (i := 0) rfl; have y1 := hc9.cell (i := 1) rfl; have y2 := hc9.cell (i := 2) rfl; have y3 := hc9.cell (i := 3) rfl; have y4 := hc9.cell (i := 4) rfl; clear hb9 hc9; go_simp; try with_reducible rfl)
  try simp only [Act.put, List.setIfInBounds_toArray, List.set_cons_zero, List.set_cons_succ]
  refine qstep (o := ⟨some 20, _, _, _, _, _⟩) (v := .int .u64 (P.lv : Int)) (by rfl) (fun wq hSw => ?_) ?_
  · (go_simp; try first | (with_reducible rfl) | (simp; omega) | (intros; omega) | simp [*])
  try simp only [Act.put, List.setIfInBounds_toArray, List.set_cons_zero, List.set_cons_succ]
  refine qstep (o := ⟨some 21, _, _, _, _, _⟩) (v := ?_) (by rfl) (fun wq hSw => ?_) ?_
  rotate_left
  · (go_simp; try with_reducible rfl)
  try simp only [Act.put, List.setIfInBounds_toArray, List.set_cons_zero, List.set_cons_succ]
  refine wpQuiet_nil ?_
  intro wz hHeld
  obtain ⟨hK5, hC5, hP5⟩ := hHeld
  have HM5 := Lib.hid (HM.out.kept hK5 (fun h => h) (fun h => h))
  have HK5 := Lib.hid (HK.out.trans hK5 (fun _ _ h => h.elim))
  have HR5 := Lib.hid (HR.out.keptF hK5 (fun _ _ h => h))
  replace HC := Lib.hid hC5
  replace HP := Lib.hid hP5
  clear hK5 hC5 hP5 HM HK HR
  go_wp2_with fail
  refine (poke_any b g _ k a0 (n : Int) (P.lv : Int) ⟨#[]⟩ _ HM5.out).mono ?_; rintro e w1 ⟨rfl, hM6, hK6⟩
  have HM := Lib.hid hM6
  have HK := Lib.hid (HK5.out.trans hK6 (fun _ _ h => h))
  have HR := Lib.hid (HR5.out.keptF hK6 HA.out)
  replace HC := Lib.hid (hK6.blk HC.out HO.out.1)
  replace HP := Lib.hid (hK6.blk HP.out HO.out.2)
  clear hM6 hK6 HM5 HK5 HR5
  have HM1L := Lib.hid (show b < w1.heap.size ∧ g < w1.heap.size from ⟨HM.out.obj.lt, HM.out.row.lt⟩)
  have y0 := HP.out.cell (i := 0) rfl
  have y1 := HP.out.cell (i := 1) rfl
  have y2 := HP.out.cell (i := 2) rfl
  have y3 := HP.out.cell (i := 3) rfl
  have y4 := HP.out.cell (i := 4) rfl
  have hb1l : b1 < w1.heap.size := HP.out.lt
  go_upto_region 5 with fail
  clear y0 y1 y2 y3 y4 hb1l
  have HX := Lib.hid (Blk.new w1 [.int .u64 0, .string P.hi, .int .u64 0] 50)
  have hal := (Kept.refl (fun _ => False) w1).alloc (.cells #[.int .u64 0, .string P.hi, .int .u64 0] 50)
  replace HM := Lib.hid (HM.out.kept hal (fun h => h) (fun h => h))
  replace HK := Lib.hid (HK.out.trans hal (fun _ _ h => h.elim))
  replace HR := Lib.hid (HR.out.keptF hal (fun _ _ h => h))
  replace HC := Lib.hid (hal.blk HC.out (fun h => h))
  replace HP := Lib.hid (hal.blk HP.out (fun h => h))
  have HX1 := Lib.hid (show ¬ Own b g w1.heap.size by have := HM1L.out; unfold Own; omega)
  clear hal
  generalize w1.alloc (.cells #[.int .u64 0, .string P.hi, .int .u64 0] 50) = W1 at *
  generalize w1.heap.size = bx at *
  refine qtail 5 (fun w' => Kept (fun _ => False) W1 w' ∧ Blk w' b0 25 [.int .i64 1, .int .i64 2, .int .i64 10, .int .i64 100, .int .i64 200, .int .i64 (F : Int), .int .u64 1000] ∧ Blk w' b1 31 [.int .i64 (P.lv : Int), .slice A n c, .string P.hi, .bool false, .int .u64 (P.rt : Int)] ∧ Blk w' bx 50 [.int .u64 0, .string P.hi, .int .u64 0]) (by kernel_rfl) (by kernel_rfl) ⟨(Kept.refl _ _).drew, HC.out.of rfl, HP.out.of rfl, HX.out.of rfl⟩ ?_
  simp only [List.take_succ_cons, List.take_zero, List.drop_succ_cons, List.drop_zero]
  refine qstep (o := ⟨some 29, _, _, _, _, _⟩) (v := ?_) (by rfl) (fun wq hSw => ?_) ?_
  rotate_left
  · (go_simp; try with_reducible rfl)
  try simp only [Act.put, List.setIfInBounds_toArray, List.set_cons_zero, List.set_cons_succ]
  refine qstep (o := ⟨some 30, _, _, _, _, _⟩) (v := ?_) (by rfl) (fun wq hSw => ?_) ?_
  rotate_left
  · (have hb9 := hSw.2.1; have hc9 := hSw.2.2.1; have x0 := hb9.cell (i := 0) rfl; have x1 := hb9.cell (i := 1) rfl; have x2 := hb9.cell (i := 2) rfl; have x3 := hb9.cell (i := 3) rfl; have x4 := hb9.cell (i := 4) rfl; have x5 := hb9.cell (i := 5) rfl; have x6 := hb9.cell (i := 6) rfl; have y0 := hc9.cell (i := 0) rfl; have y1 := hc9.cell (i := 1) rfl; have y2 := hc9.cell (i := 2) rfl; have y3 := hc9.cell (i := 3) rfl; have y4 := hc9.cell (i := 4) rfl; have hd9 := hSw.2.2.2; have v0 := hd9.cell (i := 0) rfl; have v1 := hd9.cell (i := 1) rfl; have v2 := hd9.cell (i := 2) rfl; clear hd9; clear hb9 hc9; go_simp; try with_reducible rfl)
  try simp only [Act.put, List.setIfInBounds_toArray, List.set_cons_zero, List.set_cons_succ]
  refine qstep (o := ⟨some 31, _, _, _, _, _⟩) (v := ?_) (by rfl) (fun wq hSw => ?_) ?_
  rotate_left
  · (go_simp; try with_reducible rfl)
  try simp only [Act.put, List.setIfInBounds_toArray, List.set_cons_zero, List.set_cons_succ]
  refine qcall (o := ⟨some 32, _, _, _, _, _⟩) (v := .int .i64 a1) (by rfl) (fun wq hSw => ?_) (fun wq hSw => Calls.mono (ref_toT F nid 2 h4 h6 (by omega) a1 HA1.out _) ?_) ?_
  · (go_simp; try with_reducible rfl)
  · rintro e w9 ⟨rfl, hk⟩; exact ⟨rfl, hSw.1.trans hk (fun _ _ h => h), hk.blk hSw.2.1 (fun h => h), hk.blk hSw.2.2.1 (fun h => h), hk.blk hSw.2.2.2 (fun h => h)⟩
  try simp only [Act.put, List.setIfInBounds_toArray, List.set_cons_zero, List.set_cons_succ]
  refine qstep (o := ⟨some 33, _, _, _, _, _⟩) (v := ?_) (by rfl) (fun wq hSw => ?_) ?_
  rotate_left
  · (have hb9 := hSw.2.1; have hc9 := hSw.2.2.1; have x0 := hb9.cell (i := 0) rfl; have x1 := hb9.cell (i := 1) rfl; have x2 := hb9.cell (i := 2) rfl; have x3 := hb9.cell (i := 3) rfl; have x4 := hb9.cell (i := 4) rfl; have x5 := hb9.cell (i := 5) rfl; have x6 := hb9.cell (i := 6) rfl; have y0 := hc9.cell (i := 0) rfl; have y1 := hc9.cell (i := 1) rfl; have y2 := hc9.cell (i := 2) rfl; have y3 := hc9.cell (i := 3) rfl; have y4 := hc9.cell (i := 4) rfl; have hd9 := hSw.2.2.2; have v0 := hd9.cell (i := 0) rfl; have v1 := hd9.cell (i := 1) rfl; have v2 := hd9.cell (i := 2) rfl; clear hd9; clear hb9 hc9; go_simp; try with_reducible rfl)
  try simp only [Act.put, List.setIfInBounds_toArray, List.set_cons_zero, List.set_cons_succ]
  refine wpQuiet_nil ?_
  intro wz hHeld
  obtain ⟨hK5, hC5, hP5, -⟩ := hHeld
  have HM5 := Lib.hid (HM.out.kept hK5 (fun h => h) (fun h => h))
  have HK5 := Lib.hid (HK.out.trans hK5 (fun _ _ h => h.elim))
  have HR5 := Lib.hid (HR.out.keptF hK5 (fun _ _ h => h))
  clear HX HX1 HM1L
  replace HC := Lib.hid hC5
  replace HP := Lib.hid hP5
  clear hK5 hC5 hP5 HM HK HR
  go_wp2_with fail
  refine (poke_any b g _ k a1 0 0 P.hi _ HM5.out).mono ?_; rintro e w2 ⟨rfl, hM6, hK6⟩
  have HM := Lib.hid hM6
  have HK := Lib.hid (HK5.out.trans hK6 (fun _ _ h => h))
  have HR := Lib.hid (HR5.out.keptF hK6 HA.out)
  replace HC := Lib.hid (hK6.blk HC.out HO.out.1)
  replace HP := Lib.hid (hK6.blk HP.out HO.out.2)
  clear hM6 hK6 HM5 HK5 HR5
  go_upto_region 6 with fail
  refine qtail 7 (fun w' => Kept (fun _ => False) w2 w' ∧ Blk w' b0 25 [.int .i64 1, .int .i64 2, .int .i64 10, .int .i64 100, .int .i64 200, .int .i64 (F : Int), .int .u64 1000] ∧ Blk w' b1 31 [.int .i64 (P.lv : Int), .slice A n c, .string P.hi, .bool false, .int .u64 (P.rt : Int)]) (by kernel_rfl) (by kernel_rfl) ⟨(Kept.refl _ _).drew, HC.out.of rfl, HP.out.of rfl⟩ ?_
  simp only [List.take_succ_cons, List.take_zero, List.drop_succ_cons, List.drop_zero]
  refine qstep (o := ⟨some 35, _, _, _, _, _⟩) (v := ?_) (by rfl) (fun wq hSw => ?_) ?_
  rotate_left
  · (go_simp; try with_reducible rfl)
  try simp only [Act.put, List.setIfInBounds_toArray, List.set_cons_zero, List.set_cons_succ]
  refine qstep (o := ⟨some 36, _, _, _, _, _⟩) (v := ?_) (by rfl) (fun wq hSw => ?_) ?_
  rotate_left
  · (have hb9 := hSw.2.1; have hc9 := hSw.2.2; have x0 := hb9.cell (i := 0) rfl; have x1 := hb9.cell (i := 1) rfl; have x2 := hb9.cell (i := 2) rfl; have x3 := hb9.cell (i := 3) rfl; have x4 := hb9.cell (i := 4) rfl; have x5 := hb9.cell (i := 5) rfl; have x6 := hb9.cell (i := 6) rfl; have y0 := hc9.cell (i := 0) rfl; have y1 := hc9.cell (i := 1) rfl; have y2 := hc9.cell (i := 2) rfl; have y3 := hc9.cell (i := 3) rfl; have y4 := hc9.cell (i := 4) rfl; clear hb9 hc9; go_simp; try with_reducible rfl)
  try simp only [Act.put, List.setIfInBounds_toArray, List.set_cons_zero, List.set_cons_succ]
  refine qstep (o := ⟨some 37, _, _, _, _, _⟩) (v := ?_) (by rfl) (fun wq hSw => ?_) ?_
  rotate_left
  · (go_simp; try with_reducible rfl)
  try simp only [Act.put, List.setIfInBounds_toArray, List.set_cons_zero, List.set_cons_succ]
  refine qcall (o := ⟨some 38, _, _, _, _, _⟩) (v := .int .i64 a2) (by rfl) (fun wq hSw => ?_) (fun wq hSw => Calls.mono (ref_toT F nid 3 h4 h6 (by omega) a2 HA2.out _) ?_) ?_
  · (go_simp; try with_reducible rfl)
  · rintro e w9 ⟨rfl, hk⟩; exact ⟨rfl, hSw.1.trans hk (fun _ _ h => h), hk.blk hSw.2.1 (fun h => h), hk.blk hSw.2.2 (fun h => h)⟩
  try simp only [Act.put, List.setIfInBounds_toArray, List.set_cons_zero, List.set_cons_succ]
  refine qstep (o := ⟨some 39, _, _, _, _, _⟩) (v := ?_) (by rfl) (fun wq hSw => ?_) ?_
  rotate_left
  · (go_simp; try with_reducible rfl)
  try simp only [Act.put, List.setIfInBounds_toArray, List.set_cons_zero, List.set_cons_succ]
  refine qstep (o := ⟨some 40, _, _, _, _, _⟩) (v := ?_) (by rfl) (fun wq hSw => ?_) ?_
  rotate_left
  · (have hb9 := hSw.2.1; have hc9 := hSw.2.2; have x0 := hb9.cell (i := 0) rfl; have x1 := hb9.cell (i := 1) rfl; have x2 := hb9.cell (i := 2) rfl; have x3 := hb9.cell (i := 3) rfl; have x4 := hb9.cell (i := 4) rfl; have x5 := hb9.cell (i := 5) rfl; have x6 := hb9.cell (i := 6) rfl; have y0 := hc9.cell (i := 0) rfl; have y1 := hc9.cell (i := 1) rfl; have y2 := hc9.cell (i := 2) rfl; have y3 := hc9.cell (i := 3) rfl; have y4 := hc9.cell (i := 4) rfl; clear hb9 hc9; go_simp; try with_reducible rfl)
  try simp only [Act.put, List.setIfInBounds_toArray, List.set_cons_zero, List.set_cons_succ]
  refine qstep (o := ⟨some 41, _, _, _, _, _⟩) (v := ?_) (by rfl) (fun wq hSw => ?_) ?_
  rotate_left
  · (go_simp; try with_reducible rfl)
  try simp only [Act.put, List.setIfInBounds_toArray, List.set_cons_zero, List.set_cons_succ]
  refine wpQuiet_nil ?_
  intro wz hHeld
  obtain ⟨hK5, hC5, hP5⟩ := hHeld
  have HM5 := Lib.hid (HM.out.kept hK5 (fun h => h) (fun h => h))
  have HK5 := Lib.hid (HK.out.trans hK5 (fun _ _ h => h.elim))
  have HR5 := Lib.hid (HR.out.keptF hK5 (fun _ _ h => h))
  replace HC := Lib.hid hC5
  replace HP := Lib.hid hP5
  clear hK5 hC5 hP5 HM HK HR
  go_wp2_with fail
  refine (poke_any b g _ k a2 (P.rt : Int) 0 ⟨#[]⟩ _ HM5.out).mono ?_; rintro e w3 ⟨rfl, hM6, hK6⟩
  have HM := Lib.hid hM6
  have HK := Lib.hid (HK5.out.trans hK6 (fun _ _ h => h))
  have HR := Lib.hid (HR5.out.keptF hK6 HA.out)
  replace HC := Lib.hid (hK6.blk HC.out HO.out.1)
  replace HP := Lib.hid (hK6.blk HP.out HO.out.2)
  clear hM6 hK6 HM5 HK5 HR5
  rw [← H3.out] at HM
  clear H3 HA0 HA1 HA2
  go_wp2_with fail
  go_loopw [9] (fun i wr => ∃ j : Nat, j ≤ n ∧ i = .int .i64 j ∧ Mem wr b g (app l ((pst (nadT F nid) P).take (j + 3))) k ∧ Kept (Own b g) w wr ∧ Rs wr A c P.xs ∧ Blk wr b0 25 [.int .i64 1, .int .i64 2, .int .i64 10, .int .i64 100, .int .i64 200, .int .i64 (F : Int), .int .u64 1000] ∧ Blk wr b1 31 [.int .i64 (P.lv : Int), .slice A n c, .string P.hi, .bool false, .int .u64 (P.rt : Int)]) (fun i _ => n - (intOf i).toNat)
  case atStart => exact ⟨0, by omega, rfl, HM.out, HK.out, HR.out, HC.out, HP.out⟩
  case round =>
    obtain ⟨j, hj, rfl, hM, hK, hR, hC, hP⟩ := hrel
    rename World => wr
    clear HM HK HR HC HP
    have HM := Lib.hid hM
    have HK := Lib.hid hK
    have HR := Lib.hid hR
    have HC := Lib.hid hC
    have HP := Lib.hid hP
    have y1 := HP.out.cell (i := 1) rfl
    clear hM hK hR hC hP
    by_cases hlt : j < n
    · obtain ⟨x, hx⟩ : ∃ x, P.xs[j]? = some x := ⟨_, List.getElem?_eq_getElem (by have := HN.out; omega)⟩
      obtain ⟨gx, off, hAx, hgx, hcell⟩ := HR.out.at (by have := HN.out; omega)
      obtain ⟨cx0, cx1⟩ := hcell j x hx
      have hjn : (j : Int) < (n : Int) := by omega
      have wj := wrap_i (4 + (j : Int)) (by omega)
      obtain ⟨aj, haj⟩ : ∃ y, nadT F nid (j + 3) = y := ⟨_, rfl⟩
      have HAJ := Lib.hid (show nodeAt 10 (F : Int) 10 (nid : Int) ((4 + j : Nat) : Int) = aj by rw [← haj, show 4 + j = (j + 3) + 1 by omega]; exact putPstT (l := []) (P := P) hn1 hn2 (j + 3) (by omega))
      have hnext : app l ((pst (nadT F nid) P).take (j + 1 + 3)) = putAt (app l ((pst (nadT F nid) P).take (j + 3))) aj ((x.2 : Int), x.1, 0) := by
        rw [show j + 1 + 3 = (j + 3) + 1 by omega, pst_step _ _ _ (by have := HN.out; omega), app_snoc, haj, pc_slot hx]; rfl
      have HNX := Lib.hid hnext
      have hxb : ¬ Own b g gx := HA.out _ hAx
      have HXB := Lib.hid hxb
      have HAE := Lib.hid hAx
      have HP2 := HP
      rw [hAx] at HP2
      clear hcell hx haj hnext hxb hAx
      go_upto_region 10 with fail
      clear y1
      refine qtail 19 (fun w' => Kept (fun _ => False) wr w' ∧ Blk w' b0 25 [.int .i64 1, .int .i64 2, .int .i64 10, .int .i64 100, .int .i64 200, .int .i64 (F : Int), .int .u64 1000] ∧ Blk w' b1 31 [.int .i64 (P.lv : Int), .slice (some ⟨gx, off, none⟩) n c, .string P.hi, .bool false, .int .u64 (P.rt : Int)] ∧ w'.cell? ⟨gx, off + j * 2, none⟩ = some (.string x.1) ∧ w'.cell? ⟨gx, off + j * 2 + 1, none⟩ = some (.int .u64 (x.2 : Int))) (by kernel_rfl) (by kernel_rfl) ⟨(Kept.refl _ _).drew, HC.out.of rfl, HP2.out.of rfl, cx0, cx1⟩ ?_
      simp only [List.take_succ_cons, List.take_zero, List.drop_succ_cons, List.drop_zero]
      refine qstep (o := ⟨some 50, _, _, _, _, _⟩) (v := ?_) (by rfl) (fun wq hSw => ?_) ?_
      rotate_left
      · (go_simp; try with_reducible rfl)
      try simp only [Act.put, List.setIfInBounds_toArray, List.set_cons_zero, List.set_cons_succ]
      refine qstep (o := ⟨some 51, _, _, _, _, _⟩) (v := ?_) (by rfl) (fun wq hSw => ?_) ?_
      rotate_left
      · (have hb9 := hSw.2.1; have hc9 := hSw.2.2.1; have q0 := hSw.2.2.2.1; have q1 := hSw.2.2.2.2; have x0 := hb9.cell (i := 0) rfl; have x1 := hb9.cell (i := 1) rfl; have x2 := hb9.cell (i := 2) rfl; have x3 := hb9.cell (i := 3) rfl; have x4 := hb9.cell (i := 4) rfl; have x5 := hb9.cell (i := 5) rfl; have x6 := hb9.cell (i := 6) rfl; have y1 := hc9.cell (i := 1) rfl; clear hb9 hc9; go_simp; try with_reducible rfl)
      try simp only [Act.put, List.setIfInBounds_toArray, List.set_cons_zero, List.set_cons_succ]
      refine qstep (o := ⟨some 52, _, _, _, _, _⟩) (v := ?_) (by rfl) (fun wq hSw => ?_) ?_
      rotate_left
      · (go_simp; try with_reducible rfl)
      try simp only [Act.put, List.setIfInBounds_toArray, List.set_cons_zero, List.set_cons_succ]
      refine qstep (o := ⟨some 53, _, _, _, _, _⟩) (v := ?_) (by rfl) (fun wq hSw => ?_) ?_
      rotate_left
      · (go_simp; try with_reducible rfl)
      try simp only [Act.put, List.setIfInBounds_toArray, List.set_cons_zero, List.set_cons_succ]
      refine qstep (o := ⟨some 54, _, _, _, _, _⟩) (v := .int .i64 ((4 + j : Nat) : Int)) (by rfl) (fun wq hSw => ?_) ?_
      · (go_simp; try first | (with_reducible rfl) | (simp; omega) | (intros; omega) | simp [*])
      try simp only [Act.put, List.setIfInBounds_toArray, List.set_cons_zero, List.set_cons_succ]
      refine qcall (o := ⟨some 55, _, _, _, _, _⟩) (v := .int .i64 aj) (by rfl) (fun wq hSw => ?_) (fun wq hSw => Calls.mono (ref_toT F nid (4 + j) h4 h6 (by omega) aj HAJ.out _) ?_) ?_
      · (go_simp; try with_reducible rfl)
      · rintro e w9 ⟨rfl, hk⟩; exact ⟨rfl, hSw.1.trans hk (fun _ _ h => h), hk.blk hSw.2.1 (fun h => h), hk.blk hSw.2.2.1 (fun h => h), (hk.cell (p := ⟨gx, off + j * 2, none⟩) (Nat.lt_of_lt_of_le hgx hSw.1.size) (fun h => h)).trans hSw.2.2.2.1, (hk.cell (p := ⟨gx, off + j * 2 + 1, none⟩) (Nat.lt_of_lt_of_le hgx hSw.1.size) (fun h => h)).trans hSw.2.2.2.2⟩
      try simp only [Act.put, List.setIfInBounds_toArray, List.set_cons_zero, List.set_cons_succ]
      refine qstep (o := ⟨some 56, _, _, _, _, _⟩) (v := ?_) (by rfl) (fun wq hSw => ?_) ?_
      rotate_left
      · (go_simp; try with_reducible rfl)
      try simp only [Act.put, List.setIfInBounds_toArray, List.set_cons_zero, List.set_cons_succ]
      refine qstep (o := ⟨some 57, _, _, _, _, _⟩) (v := .slice (some ⟨gx, off, none⟩) n c) (by rfl) (fun wq hSw => ?_) ?_
      · (have hb9 := hSw.2.1; have hc9 := hSw.2.2.1; have q0 := hSw.2.2.2.1; have q1 := hSw.2.2.2.2; have x0 := hb9.cell (i := 0) rfl; have x1 := hb9.cell (i := 1) rfl; have x2 := hb9.cell (i := 2) rfl; have x3 := hb9.cell (i := 3) rfl; have x4 := hb9.cell (i := 4) rfl; have x5 := hb9.cell (i := 5) rfl; have x6 := hb9.cell (i := 6) rfl; have y1 := hc9.cell (i := 1) rfl; clear hb9 hc9; go_simp; try first | (with_reducible rfl) | (simp; omega) | (intros; omega) | simp [*])
      try simp only [Act.put, List.setIfInBounds_toArray, List.set_cons_zero, List.set_cons_succ]
      refine qstep (o := ⟨some 58, _, _, _, _, _⟩) (v := ?_) (by rfl) (fun wq hSw => ?_) ?_
      rotate_left
      · (go_simp; try with_reducible rfl)
      try simp only [Act.put, List.setIfInBounds_toArray, List.set_cons_zero, List.set_cons_succ]
      refine qstep (o := ⟨some 59, _, _, _, _, _⟩) (v := .pointer (some ⟨gx, off + j * 2, none⟩)) (by rfl) (fun wq hSw => ?_) ?_
      · (go_simp; try first | (with_reducible rfl) | (simp; omega) | (intros; omega) | simp [*])
      try simp only [Act.put, List.setIfInBounds_toArray, List.set_cons_zero, List.set_cons_succ]
      refine qstep (o := ⟨some 60, _, _, _, _, _⟩) (v := ?_) (by rfl) (fun wq hSw => ?_) ?_
      rotate_left
      · (go_simp; try with_reducible rfl)
      try simp only [Act.put, List.setIfInBounds_toArray, List.set_cons_zero, List.set_cons_succ]
      refine qstep (o := ⟨some 61, _, _, _, _, _⟩) (v := .string x.1) (by rfl) (fun wq hSw => ?_) ?_
      · (have hb9 := hSw.2.1; have hc9 := hSw.2.2.1; have q0 := hSw.2.2.2.1; have q1 := hSw.2.2.2.2; have x0 := hb9.cell (i := 0) rfl; have x1 := hb9.cell (i := 1) rfl; have x2 := hb9.cell (i := 2) rfl; have x3 := hb9.cell (i := 3) rfl; have x4 := hb9.cell (i := 4) rfl; have x5 := hb9.cell (i := 5) rfl; have x6 := hb9.cell (i := 6) rfl; have y1 := hc9.cell (i := 1) rfl; clear hb9 hc9; go_simp; try first | (with_reducible rfl) | (simp; omega) | (intros; omega) | simp [*])
      try simp only [Act.put, List.setIfInBounds_toArray, List.set_cons_zero, List.set_cons_succ]
      refine qstep (o := ⟨some 62, _, _, _, _, _⟩) (v := ?_) (by rfl) (fun wq hSw => ?_) ?_
      rotate_left
      · (go_simp; try with_reducible rfl)
      try simp only [Act.put, List.setIfInBounds_toArray, List.set_cons_zero, List.set_cons_succ]
      refine qstep (o := ⟨some 63, _, _, _, _, _⟩) (v := .slice (some ⟨gx, off, none⟩) n c) (by rfl) (fun wq hSw => ?_) ?_
      · (have hb9 := hSw.2.1; have hc9 := hSw.2.2.1; have q0 := hSw.2.2.2.1; have q1 := hSw.2.2.2.2; have x0 := hb9.cell (i := 0) rfl; have x1 := hb9.cell (i := 1) rfl; have x2 := hb9.cell (i := 2) rfl; have x3 := hb9.cell (i := 3) rfl; have x4 := hb9.cell (i := 4) rfl; have x5 := hb9.cell (i := 5) rfl; have x6 := hb9.cell (i := 6) rfl; have y1 := hc9.cell (i := 1) rfl; clear hb9 hc9; go_simp; try first | (with_reducible rfl) | (simp; omega) | (intros; omega) | simp [*])
      try simp only [Act.put, List.setIfInBounds_toArray, List.set_cons_zero, List.set_cons_succ]
      refine qstep (o := ⟨some 64, _, _, _, _, _⟩) (v := ?_) (by rfl) (fun wq hSw => ?_) ?_
      rotate_left
      · (go_simp; try with_reducible rfl)
      try simp only [Act.put, List.setIfInBounds_toArray, List.set_cons_zero, List.set_cons_succ]
      refine qstep (o := ⟨some 65, _, _, _, _, _⟩) (v := .pointer (some ⟨gx, off + j * 2, none⟩)) (by rfl) (fun wq hSw => ?_) ?_
      · (go_simp; try first | (with_reducible rfl) | (simp; omega) | (intros; omega) | simp [*])
      try simp only [Act.put, List.setIfInBounds_toArray, List.set_cons_zero, List.set_cons_succ]
      refine qstep (o := ⟨some 66, _, _, _, _, _⟩) (v := ?_) (by rfl) (fun wq hSw => ?_) ?_
      rotate_left
      · (go_simp; try with_reducible rfl)
      try simp only [Act.put, List.setIfInBounds_toArray, List.set_cons_zero, List.set_cons_succ]
      refine qstep (o := ⟨some 67, _, _, _, _, _⟩) (v := .int .u64 (x.2 : Int)) (by rfl) (fun wq hSw => ?_) ?_
      · (have hb9 := hSw.2.1; have hc9 := hSw.2.2.1; have q0 := hSw.2.2.2.1; have q1 := hSw.2.2.2.2; have x0 := hb9.cell (i := 0) rfl; have x1 := hb9.cell (i := 1) rfl; have x2 := hb9.cell (i := 2) rfl; have x3 := hb9.cell (i := 3) rfl; have x4 := hb9.cell (i := 4) rfl; have x5 := hb9.cell (i := 5) rfl; have x6 := hb9.cell (i := 6) rfl; have y1 := hc9.cell (i := 1) rfl; clear hb9 hc9; go_simp; try first | (with_reducible rfl) | (simp; omega) | (intros; omega) | simp [*])
      try simp only [Act.put, List.setIfInBounds_toArray, List.set_cons_zero, List.set_cons_succ]
      refine qstep (o := ⟨some 68, _, _, _, _, _⟩) (v := ?_) (by rfl) (fun wq hSw => ?_) ?_
      rotate_left
      · (go_simp; try with_reducible rfl)
      try simp only [Act.put, List.setIfInBounds_toArray, List.set_cons_zero, List.set_cons_succ]
      refine wpQuiet_nil ?_
      intro wz hHeld
      obtain ⟨hK5, hC5, -, -, -⟩ := hHeld
      have HM5 := Lib.hid (HM.out.kept hK5 (fun h => h) (fun h => h))
      have HK5 := Lib.hid (HK.out.trans hK5 (fun _ _ h => h.elim))
      have HR5 := Lib.hid (HR.out.keptF hK5 (fun _ _ h => h))
      have HP5 := Lib.hid (hK5.blk HP.out (fun h => h))
      have HC5 := Lib.hid hC5
      clear hK5 hC5 HM HK HR HC HP HP2 cx0 cx1
      go_wp2_with fail
      refine (poke_any b g _ k aj (x.2 : Int) 0 x.1 _ HM5.out).mono ?_; rintro e w6 ⟨rfl, hM6, hK6⟩
      have HM := Lib.hid hM6
      have HK := Lib.hid (HK5.out.trans hK6 (fun _ _ h => h))
      have HR := Lib.hid (HR5.out.keptF hK6 HA.out)
      have HC := Lib.hid (hK6.blk HC5.out HO.out.1)
      have HP := Lib.hid (hK6.blk HP5.out HO.out.2)
      rw [← HNX.out] at HM
      clear hM6 hK6 HM5 HK5 HR5 HC5 HP5
      go_wp2
      go_roundw
      case rel => exact ⟨j + 1, by omega, by go_num, HM.out, HK.out, HR.out, HC.out, HP.out⟩
      case measure => simp [intOf]; omega
    · obtain rfl : j = n := by omega
      go_wp2
      go_end0
      have hM := HM.out
      rw [← HN.out, pst_all] at hM
      exact ⟨rfl, hM, HK.out⟩

theorem kput_anyT (F nid : Nat) (h4 : 4 ≤ F) (h6 : F ≤ 6) (hn1 : 1 ≤ nid) (hn2 : nid ≤ 10) (P : Pg) (hw : Wf P) (hlen : P.xs.length ≤ F) (hlv : P.lv < 9223372036854775808) (A : Option Addr) (c b g : Nat) (l : List Cel) (k : Nat) (w : World) (hm : Mem w b g l k) (hR : Rs w A c P.xs) (hA : ∀ a, A = some a → ¬ Own b g a.block) :
    Calls Try.prog 29 #[.agg #[.int .i64 1, .int .i64 2, .int .i64 10, .int .i64 100, .int .i64 200, .int .i64 (F : Int), .int .u64 1000], .pointer (some ⟨b, 0, none⟩), .int .u64 (nid : Int), .agg #[.int .i64 (P.lv : Int), .slice A P.xs.length c, .string P.hi, .bool P.la, .int .u64 (P.rt : Int)]] w fun e w' => e = .returned (.tuple #[]) ∧ Mem w' b g (app l (pst (nadT F nid) P)) k ∧ Kept (Own b g) w w' := by
  cases hla : P.la
  · have := kput_falseT F nid h4 h6 hn1 hn2 P hla hw hlen hlv A c b g l k w hm hR hA; rwa [hla] at this
  · have := kput_trueT F nid h4 h6 hn1 hn2 P hla hw hlen hlv A c b g l k w hm hR hA; rwa [hla] at this
end

section
open Go.RowKit Go.Deep Plain
set_option linter.unusedVariables false

theorem kput_toT (F nid : Nat) (h4 : 4 ≤ F) (h6 : F ≤ 6) (hn1 : 1 ≤ nid) (hn2 : nid ≤ 10) (lv : Nat) (A : Option Addr) (c : Nat) (hi : ByteArray) (la : Bool) (rt : Nat) (xs : List Sl) (n : Nat) (hn : xs.length = n) (hw : la = true → hi = ⟨#[]⟩) (hlen : n ≤ F) (hlv : lv < 9223372036854775808) (b g : Nat) (l : List Cel) (k : Nat) (w : World) (hm : Mem w b g l k) (hR : Rs w A c xs) (hA : ∀ a, A = some a → ¬ Own b g a.block) :
    Calls Try.prog 29 #[.agg #[.int .i64 1, .int .i64 2, .int .i64 10, .int .i64 100, .int .i64 200, .int .i64 (F : Int), .int .u64 1000], .pointer (some ⟨b, 0, none⟩), .int .u64 (nid : Int), .agg #[.int .i64 (lv : Int), .slice A n c, .string hi, .bool la, .int .u64 (rt : Int)]] w fun e w' => e = .returned (.tuple #[]) ∧ Mem w' b g (app l (pst (nadT F nid) (⟨lv, hi, la, rt, xs⟩ : Pg))) k ∧ Kept (Own b g) w w' := by
  subst hn; exact kput_anyT F nid h4 h6 hn1 hn2 ⟨lv, hi, la, rt, xs⟩ hw hlen hlv A c b g l k w hm hR hA
end

section
open Go.RowKit Go.Deep Plain
set_option linter.unusedVariables false

set_option maxHeartbeats 1000000 in
theorem vat_inT (F : Nat) (h4 : 4 ≤ F) (h6 : F ≤ 6) (g n : Nat) (l : List Cel) (hl : l.length = n) (i : Nat) (N M : Int) (K : ByteArray) (w : World) (hv : Blk w g 50 (flat3 l)) (hi : i < n) (hc : l[i]? = some (N, K, M)) :
    Calls Try.prog 64 #[.agg #[.int .i64 1, .int .i64 2, .int .i64 10, .int .i64 100, .int .i64 200, .int .i64 (F : Int), .int .u64 1000, .slice (some ⟨g, 0, none⟩) n n], .int .i64 i] w fun e w' => e = .returned (.agg #[.int .u64 N, .string K, .int .u64 M]) ∧ Kept (fun _ => False) w w' := by
  obtain ⟨f1, f2, f3⟩ := flat3_at l i _ hc
  have d1 := hv.cell f1
  have d2 := hv.cell f2
  have d3 := hv.cell f3
  have hg := hv.lt
  have p1 : ¬ ((i : Int) < 0) := by omega
  have p2 : (i : Int) < (n : Int) := by omega
  have p3 : decide ((i : Int) < 0) = false := decide_eq_false p1
  have p4 : decide ((i : Int) < (n : Int)) = true := decide_eq_true p2
  have HL := Lib.hid hl
  clear f1 f2 f3 hc hl
  go_enter Try.func64, Try.ntmps64
  go_wp2
  refine bodyPost_ret (v := .agg #[.int .u64 N, .string K, .int .u64 M]) (by simp [results, Try.results64, go_sem]) rfl ⟨rfl, ?_⟩
  have hK := ((Kept.refl (fun _ => False) w).alloc (.cells #[.int .i64 1, .int .i64 2, .int .i64 10, .int .i64 100, .int .i64 200, .int .i64 (F : Int), .int .u64 1000, .slice (some ⟨g, 0, none⟩) n n] 45)).alloc (.cells #[.int .u64 0, .string ⟨#[]⟩, .int .u64 0] 50)
  first
    | exact hK
    | exact ((hK.setNew (b := w.heap.size + 1) (by omega) 0 _).setNew (b := w.heap.size + 1) (by omega) 1 _).setNew (b := w.heap.size + 1) (by omega) 2 _
    | exact ((Kept.refl _ _).alloc _).alloc _

set_option maxHeartbeats 1000000 in
theorem vat_outT (F : Nat) (h4 : 4 ≤ F) (h6 : F ≤ 6) (g n : Nat) (l : List Cel) (hl : l.length = n) (i : Int) (w : World) (hv : Blk w g 50 (flat3 l)) (hi : i < 0 ∨ (n : Int) ≤ i) :
    Calls Try.prog 64 #[.agg #[.int .i64 1, .int .i64 2, .int .i64 10, .int .i64 100, .int .i64 200, .int .i64 (F : Int), .int .u64 1000, .slice (some ⟨g, 0, none⟩) n n], .int .i64 i] w fun e w' => e = .returned (.agg #[.int .u64 0, .string ⟨#[]⟩, .int .u64 0]) ∧ Kept (fun _ => False) w w' := by
  have hg := hv.lt
  have HL := Lib.hid hl
  clear hl
  rcases (by omega : i < 0 ∨ (¬ i < 0 ∧ (n : Int) ≤ i)) with hi | hi
  · have p3 : decide (i < 0) = true := decide_eq_true (by omega)
    go_enter Try.func64, Try.ntmps64
    go_wp2
    refine bodyPost_ret (v := .agg #[.int .u64 0, .string ⟨#[]⟩, .int .u64 0]) (by simp [results, Try.results64, go_sem]) rfl ⟨rfl, ?_⟩
    exact ((Kept.refl _ _).alloc _).alloc _
  · have p3 : decide (i < 0) = false := decide_eq_false (by omega)
    have p2 : ¬ i < (n : Int) := by omega
    have p1 : ¬ i < 0 := by omega
    have p4 : decide (i < (n : Int)) = false := decide_eq_false (by omega)
    go_enter Try.func64, Try.ntmps64
    go_wp2
    refine bodyPost_ret (v := .agg #[.int .u64 0, .string ⟨#[]⟩, .int .u64 0]) (by simp [results, Try.results64, go_sem]) rfl ⟨rfl, ?_⟩
    exact ((Kept.refl _ _).alloc _).alloc _

theorem vat_anyT (F : Nat) (h4 : 4 ≤ F) (h6 : F ≤ 6) (g n : Nat) (l : List Cel) (hl : l.length = n) (i : Int) (N M : Int) (K : ByteArray) (w : World) (hv : Blk w g 50 (flat3 l)) (hc : cellAt l i = (N, K, M)) :
    Calls Try.prog 64 #[.agg #[.int .i64 1, .int .i64 2, .int .i64 10, .int .i64 100, .int .i64 200, .int .i64 (F : Int), .int .u64 1000, .slice (some ⟨g, 0, none⟩) n n], .int .i64 i] w fun e w' => e = .returned (.agg #[.int .u64 N, .string K, .int .u64 M]) ∧ Kept (fun _ => False) w w' := by
  by_cases hi : 0 ≤ i ∧ i < n
  · obtain ⟨j, rfl⟩ : ∃ j : Nat, i = j := ⟨i.toNat, by omega⟩
    rw [cellAt_in l j (by omega)] at hc
    exact vat_inT F h4 h6 g n l hl j N M K w hv (by omega) (by rw [List.getElem?_eq_getElem (by omega), hc])
  · rw [cellAt_out l i (by omega)] at hc
    obtain ⟨rfl, rfl, rfl⟩ : (0 : Int) = N ∧ (⟨#[]⟩ : ByteArray) = K ∧ (0 : Int) = M := by unfold cel0 at hc; simpa using hc
    exact vat_outT F h4 h6 g n l hl i w hv (by omega)
set_option maxHeartbeats 2000000 in
theorem vpart_anyT (F : Nat) (h4 : 4 ≤ F) (h6 : F ≤ 6) (g n : Nat) (l : List Cel) (hl : l.length = n) (nid part : Nat) (hp : part < F + 4) (a : Int) (ha : nodeAt 10 (F : Int) 10 (nid : Int) (part : Int) = a) (N M : Int) (K : ByteArray) (w : World) (hv : Blk w g 50 (flat3 l)) (hc : cellAt l a = (N, K, M)) :
    Calls Try.prog 47 #[.agg #[.int .i64 1, .int .i64 2, .int .i64 10, .int .i64 100, .int .i64 200, .int .i64 (F : Int), .int .u64 1000, .slice (some ⟨g, 0, none⟩) n n], .int .u64 (nid : Int), .int .i64 (part : Int)] w fun e w' => e = .returned (.agg #[.int .u64 N, .string K, .int .u64 M]) ∧ Kept (fun _ => False) w w' := by
  have HV0 := Lib.hid hv
  have HC := Lib.hid hc
  have hrl : nodeAt 10 (F : Int) 10 (nid : Int) (part : Int) = a := ha
  clear hv hc
  go_enter Try.func47, Try.ntmps47
  go_wp2_with fail
  have hal := ((Kept.refl (fun _ => False) w).alloc (.cells #[.int .i64 1, .int .i64 2, .int .i64 10, .int .i64 100, .int .i64 200, .int .i64 (F : Int), .int .u64 1000, .slice (some ⟨g, 0, none⟩) n n] 45)).alloc (.cells #[.int .u64 0, .string ⟨#[]⟩, .int .u64 0] 50)
  have HB := Lib.hid ((Blk.new w [.int .i64 1, .int .i64 2, .int .i64 10, .int .i64 100, .int .i64 200, .int .i64 (F : Int), .int .u64 1000, .slice (some ⟨g, 0, none⟩) n n] 45).alloc (.cells #[.int .u64 0, .string ⟨#[]⟩, .int .u64 0] 50))
  have hNN := Blk.new (w.alloc (.cells #[.int .i64 1, .int .i64 2, .int .i64 10, .int .i64 100, .int .i64 200, .int .i64 (F : Int), .int .u64 1000, .slice (some ⟨g, 0, none⟩) n n] 45)) [.int .u64 0, .string ⟨#[]⟩, .int .u64 0] 50
  have hsz1 : (w.alloc (.cells #[.int .i64 1, .int .i64 2, .int .i64 10, .int .i64 100, .int .i64 200, .int .i64 (F : Int), .int .u64 1000, .slice (some ⟨g, 0, none⟩) n n] 45)).heap.size = w.heap.size + 1 := nblk_alloc _ _
  rw [hsz1] at hNN
  have HN := Lib.hid hNN
  have HV := Lib.hid (hal.blk HV0.out (fun h => h))
  have HK := Lib.hid hal
  clear hal hNN hsz1
  generalize (w.alloc (.cells #[.int .i64 1, .int .i64 2, .int .i64 10, .int .i64 100, .int .i64 200, .int .i64 (F : Int), .int .u64 1000, .slice (some ⟨g, 0, none⟩) n n] 45)).alloc (.cells #[.int .u64 0, .string ⟨#[]⟩, .int .u64 0] 50) = W at *
  have HW := Lib.hid (Kept.refl (fun _ => False) W)
  generalize hr1 : w.heap.size + 1 = r1 at *
  generalize hr0 : w.heap.size = r0 at *
  have HR := Lib.hid (show r1 = r0 + 1 by omega)
  have HR0 := Lib.hid hr0.symm
  clear hr0 hr1
  refine qtail 7 (fun w' => Kept (fun _ => False) W w') (by kernel_rfl) (by kernel_rfl) HW.out.drew ?_
  simp only [List.take_succ_cons, List.take_zero, List.drop_succ_cons, List.drop_zero]
  refine qstep (o := ⟨some 7, _, _, _, _, _⟩) (v := ?_) (by rfl) (fun wq hSw => ?_) ?_
  rotate_left
  · (have hb9 := hSw.blk HB.out (fun h => h); have x0 := hb9.cell (i := 0) rfl; have x1 := hb9.cell (i := 1) rfl; have x2 := hb9.cell (i := 2) rfl; have x3 := hb9.cell (i := 3) rfl; have x4 := hb9.cell (i := 4) rfl; have x5 := hb9.cell (i := 5) rfl; have x6 := hb9.cell (i := 6) rfl; have x7 := hb9.cell (i := 7) rfl; clear hb9; go_simp; try with_reducible rfl)
  try simp only [Act.put, List.setIfInBounds_toArray, List.set_cons_zero, List.set_cons_succ]
  refine qstep (o := ⟨some 8, _, _, _, _, _⟩) (v := ?_) (by rfl) (fun wq hSw => ?_) ?_
  rotate_left
  · (go_simp; try with_reducible rfl)
  try simp only [Act.put, List.setIfInBounds_toArray, List.set_cons_zero, List.set_cons_succ]
  refine qstep (o := ⟨some 9, _, _, _, _, _⟩) (v := ?_) (by rfl) (fun wq hSw => ?_) ?_
  rotate_left
  · (have hb9 := hSw.blk HB.out (fun h => h); have x0 := hb9.cell (i := 0) rfl; have x1 := hb9.cell (i := 1) rfl; have x2 := hb9.cell (i := 2) rfl; have x3 := hb9.cell (i := 3) rfl; have x4 := hb9.cell (i := 4) rfl; have x5 := hb9.cell (i := 5) rfl; have x6 := hb9.cell (i := 6) rfl; have x7 := hb9.cell (i := 7) rfl; clear hb9; go_simp; try with_reducible rfl)
  try simp only [Act.put, List.setIfInBounds_toArray, List.set_cons_zero, List.set_cons_succ]
  refine qstep (o := ⟨some 10, _, _, _, _, _⟩) (v := ?_) (by rfl) (fun wq hSw => ?_) ?_
  rotate_left
  · (go_simp; try with_reducible rfl)
  try simp only [Act.put, List.setIfInBounds_toArray, List.set_cons_zero, List.set_cons_succ]
  refine qstep (o := ⟨some 11, _, _, _, _, _⟩) (v := ?_) (by rfl) (fun wq hSw => ?_) ?_
  rotate_left
  · (go_simp; try with_reducible rfl)
  try simp only [Act.put, List.setIfInBounds_toArray, List.set_cons_zero, List.set_cons_succ]
  refine qcall (o := ⟨some 12, _, _, _, _, _⟩) (v := .int .i64 a) (by rfl) (fun wq hSw => ?_) (fun wq hSw => Calls.mono (ref_toT F nid part h4 h6 hp a hrl _) ?_) ?_
  · (go_simp; try with_reducible rfl)
  · rintro e w9 ⟨rfl, hk⟩; exact ⟨rfl, hSw.trans hk (fun _ _ h => h)⟩
  try simp only [Act.put, List.setIfInBounds_toArray, List.set_cons_zero, List.set_cons_succ]
  refine qcall (o := ⟨some 13, _, _, _, _, _⟩) (v := .agg #[.int .u64 N, .string K, .int .u64 M]) (by rfl) (fun wq hSw => ?_) (fun wq hSw => Calls.mono (vat_anyT F h4 h6 g n l hl a N M K _ (hSw.blk HV.out (fun h => h)) HC.out) ?_) ?_
  · (go_simp; try with_reducible rfl)
  · rintro e w9 ⟨rfl, hk⟩; exact ⟨rfl, hSw.trans hk (fun _ _ h => h)⟩
  try simp only [Act.put, List.setIfInBounds_toArray, List.set_cons_zero, List.set_cons_succ]
  refine wpQuiet_nil ?_
  intro wz hHeld
  have hn9 := hHeld.blk HN.out (fun h => h)
  have x0 := hn9.cell (i := 0) rfl
  have x1 := hn9.cell (i := 1) rfl
  have x2 := hn9.cell (i := 2) rfl
  have z0 := hn9.frozen 0
  have z1 := hn9.frozen 1
  have z2 := hn9.frozen 2
  have HK5 := Lib.hid ((((HK.out.trans hHeld (fun _ _ h => h)).setNew (b := r1) (by rw [HR.out, HR0.out]; omega) 0 (.int .u64 N)).setNew (b := r1) (by rw [HR.out, HR0.out]; omega) 1 (.string K)).setNew (b := r1) (by rw [HR.out, HR0.out]; omega) 2 (.int .u64 M))
  have HN2 := Lib.hid (((hn9.set 0 (.int .u64 N)).set 1 (.string K)).set 2 (.int .u64 M))
  clear hn9 hHeld
  go_wp2
  have q0 := HN2.out.cell (i := 0) rfl
  have q1 := HN2.out.cell (i := 1) rfl
  have q2 := HN2.out.cell (i := 2) rfl
  refine bodyPost_ret (v := .agg #[.int .u64 N, .string K, .int .u64 M]) ?_ rfl ⟨rfl, HK5.out⟩
  simp [results, Try.results47, go_sem, q0, q1, q2]

end

section
open Go.RowKit Go.Deep Plain
set_option linter.unusedVariables false

theorem vpart_toT (F : Nat) (h4 : 4 ≤ F) (h6 : F ≤ 6) (g n : Nat) (l : List Cel) (hl : l.length = n) (nid part : Nat) (pI : Int) (hpI : pI = (part : Int)) (hp : part < F + 4) (a : Int) (ha : nodeAt 10 (F : Int) 10 (nid : Int) (part : Int) = a) (N M : Int) (K : ByteArray) (w : World) (hv : Blk w g 50 (flat3 l)) (hc : cellAt l a = (N, K, M)) :
    Calls Try.prog 47 #[.agg #[.int .i64 1, .int .i64 2, .int .i64 10, .int .i64 100, .int .i64 200, .int .i64 (F : Int), .int .u64 1000, .slice (some ⟨g, 0, none⟩) n n], .int .u64 (nid : Int), .int .i64 pI] w fun e w' => e = .returned (.agg #[.int .u64 N, .string K, .int .u64 M]) ∧ Kept (fun _ => False) w w' := by
  subst hpI; exact vpart_anyT F h4 h6 g n l hl nid part hp a ha N M K w hv hc
set_option maxRecDepth 100000 in
set_option maxHeartbeats 8000000 in
theorem vpage_anyT (F : Nat) (h4 : 4 ≤ F) (h6 : F ≤ 6) (g n : Nat) (l : List Cel) (hl : l.length = n) (nid : Nat) (h1 : 1 ≤ nid) (h2 : nid ≤ 10) (P : Pg) (hP : Holds (nadT F nid) l P) (hw : Wf P) (hF : P.xs.length ≤ F) (hlv : P.lv < 9223372036854775808) (w : World) (hv : Blk w g 50 (flat3 l)) :
    Calls Try.prog 19 #[.agg #[.int .i64 1, .int .i64 2, .int .i64 10, .int .i64 100, .int .i64 200, .int .i64 (F : Int), .int .u64 1000, .slice (some ⟨g, 0, none⟩) n n], .int .u64 (nid : Int)] w fun e w' => ∃ (A : Option Addr) (c : Nat), e = .returned (.agg #[.int .i64 (P.lv : Int), .slice A P.xs.length c, .string P.hi, .bool P.la, .int .u64 (P.rt : Int)]) ∧ Rs w' A c P.xs ∧ (∀ a, A = some a → w.heap.size ≤ a.block) ∧ Kept (fun _ => False) w w' := by
  obtain ⟨m1, hm1, hm2⟩ := hi_cell hw
  have HC1 := Lib.hid (show cellAt l (nadT F nid 0) = ((P.xs.length : Int), (⟨#[]⟩ : ByteArray), (P.lv : Int)) from hP 0 (by omega))
  have HC2 := Lib.hid (show cellAt l (nadT F nid 1) = (0, P.hi, (m1 : Int)) from (hP 1 (by omega)).trans hm1)
  have HC3 := Lib.hid (show cellAt l (nadT F nid 2) = ((P.rt : Int), (⟨#[]⟩ : ByteArray), 0) from hP 2 (by omega))
  have HCS := Lib.hid (show ∀ (j : Nat) (x : Sl), P.xs[j]? = some x → cellAt l (nadT F nid (j + 3)) = ((x.2 : Int), x.1, 0) from fun j x hx => (hP (j + 3) (by have := (List.getElem?_eq_some_iff.1 hx).1; omega)).trans (pc_slot hx))
  obtain ⟨a0, ha0⟩ : ∃ a, nodeAt 10 (F : Int) 10 (nid : Int) ((0 : Nat) : Int) = a := ⟨_, rfl⟩
  have hpos : ¬ a0 < 0 := by
    have := nla_eqT (F := F) h1 h2
    have hb := node_bdT (F := F) h6 h1 h2
    unfold nlaT at this
    rw [← ha0]
    show ¬ nodeAt 10 (F : Int) 10 (nid : Int) 0 < 0
    omega
  have hwr : IntKind.i64.wrap (P.lv : Int) = (P.lv : Int) := by rw [IntKind.wrap_i64]; omega
  have hfa1 := fun w => field1 0 (m1 : Int) P.hi w
  have hfa2 := fun w => field2 0 (m1 : Int) P.hi w
  have hfa3 := fun w => field0 (P.rt : Int) 0 ⟨#[]⟩ w
  have HNN := Lib.hid (rfl : P.xs.length = P.xs.length)
  obtain ⟨n0, hn0⟩ : ∃ n0, P.xs.length = n0 := ⟨_, rfl⟩
  rw [hn0] at hF HC1
  have HN0 := Lib.hid hn0
  have HL := Lib.hid hl
  have HM2 := Lib.hid hm2
  have HV0 := Lib.hid hv
  clear hP hm1 hn0 hl hv HNN
  go_enter Try.func19, Try.ntmps19
  go_wp2_with fail
  have hal := ((Kept.refl (fun _ => False) w).alloc (.cells #[.int .i64 1, .int .i64 2, .int .i64 10, .int .i64 100, .int .i64 200, .int .i64 (F : Int), .int .u64 1000, .slice (some ⟨g, 0, none⟩) n n] 45)).alloc (.cells #[.int .i64 0, .slice none 0 0, .string ⟨#[]⟩, .bool false, .int .u64 0] 31)
  have HB := Lib.hid ((Blk.new w [.int .i64 1, .int .i64 2, .int .i64 10, .int .i64 100, .int .i64 200, .int .i64 (F : Int), .int .u64 1000, .slice (some ⟨g, 0, none⟩) n n] 45).alloc (.cells #[.int .i64 0, .slice none 0 0, .string ⟨#[]⟩, .bool false, .int .u64 0] 31))
  have hNN := Blk.new (w.alloc (.cells #[.int .i64 1, .int .i64 2, .int .i64 10, .int .i64 100, .int .i64 200, .int .i64 (F : Int), .int .u64 1000, .slice (some ⟨g, 0, none⟩) n n] 45)) [.int .i64 0, .slice none 0 0, .string ⟨#[]⟩, .bool false, .int .u64 0] 31
  have hsz1 : (w.alloc (.cells #[.int .i64 1, .int .i64 2, .int .i64 10, .int .i64 100, .int .i64 200, .int .i64 (F : Int), .int .u64 1000, .slice (some ⟨g, 0, none⟩) n n] 45)).heap.size = w.heap.size + 1 := nblk_alloc _ _
  rw [hsz1] at hNN
  have HN := Lib.hid hNN
  have HV := Lib.hid (hal.blk HV0.out (fun h => h))
  have HK := Lib.hid hal
  have hsw := hal.size
  clear hal hNN hsz1 hsw
  generalize (w.alloc (.cells #[.int .i64 1, .int .i64 2, .int .i64 10, .int .i64 100, .int .i64 200, .int .i64 (F : Int), .int .u64 1000, .slice (some ⟨g, 0, none⟩) n n] 45)).alloc (.cells #[.int .i64 0, .slice none 0 0, .string ⟨#[]⟩, .bool false, .int .u64 0] 31) = W at *
  generalize hr1 : w.heap.size + 1 = r1 at *
  generalize hr0 : w.heap.size = r0 at *
  have HR := Lib.hid (show r0 < r1 by omega)
  have HR0 := Lib.hid hr0
  clear hr0 hr1 HV0
  refine (ref_toT F nid 0 h4 h6 (by omega) a0 ha0 _).mono ?_; rintro e w1 ⟨rfl, hK1⟩
  replace HB := Lib.hid (hK1.blk HB.out (fun h => h))
  replace HN := Lib.hid (hK1.blk HN.out (fun h => h))
  replace HV := Lib.hid (hK1.blk HV.out (fun h => h))
  replace HK := Lib.hid (HK.out.trans hK1 (fun _ _ h => h))
  clear hK1
  have hb9 := HB.out
  have x0 := hb9.cell (i := 0) rfl
  have x1 := hb9.cell (i := 1) rfl
  have x2 := hb9.cell (i := 2) rfl
  have x3 := hb9.cell (i := 3) rfl
  have x4 := hb9.cell (i := 4) rfl
  have x5 := hb9.cell (i := 5) rfl
  have x6 := hb9.cell (i := 6) rfl
  have x7 := hb9.cell (i := 7) rfl
  clear hb9
  go_wp2_with fail
  refine (vpart_toT F h4 h6 g n l HL.out nid 1 1 rfl (by omega) (nadT F nid 0) (putPstT (P := P) (l := l) h1 h2 0 (by omega)) _ _ _ _ HV.out HC1.out).mono ?_; rintro e w2 ⟨rfl, hK2⟩
  replace HB := Lib.hid (hK2.blk HB.out (fun h => h))
  replace HN := Lib.hid (hK2.blk HN.out (fun h => h))
  replace HV := Lib.hid (hK2.blk HV.out (fun h => h))
  replace HK := Lib.hid (HK.out.trans hK2 (fun _ _ h => h))
  clear hK2 x0 x1 x2 x3 x4 x5 x6 x7
  go_wp2_with fail
  have hal := (Kept.refl (fun _ => False) w2).alloc (.cells #[.int .u64 (n0 : Int), .string ⟨#[]⟩, .int .u64 (P.lv : Int)] 50)
  have H5 := Lib.hid (Blk.new w2 [.int .u64 (n0 : Int), .string ⟨#[]⟩, .int .u64 (P.lv : Int)] 50)
  replace HB := Lib.hid (hal.blk HB.out (fun h => h))
  replace HN := Lib.hid (hal.blk HN.out (fun h => h))
  replace HV := Lib.hid (hal.blk HV.out (fun h => h))
  replace HK := Lib.hid (HK.out.trans hal (fun _ _ h => h))
  clear hal
  generalize w2.heap.size = r5 at *
  generalize w2.alloc (.cells #[.int .u64 (n0 : Int), .string ⟨#[]⟩, .int .u64 (P.lv : Int)] 50) = W5 at *
  refine wp_region_held_drew (S := (fun w' => Kept (fun _ => False) W5 w')) (by kernel_rfl) ?_ (fun hHeld => ?_)
  · exact (Kept.refl _ _).drew
  have HLT := Lib.hid (show r0 < W5.heap.size ∧ r1 < W5.heap.size ∧ g < W5.heap.size ∧ r5 < W5.heap.size from ⟨HB.out.lt, HN.out.lt, HV.out.lt, H5.out.lt⟩)
  have HG5 := Lib.hid (show g < W5.heap.size from HV.out.lt)
  have HVG := Lib.hid (HV.out.of (w' := W5.drew) rfl)
  have HW := Lib.hid ((Kept.refl (fun _ => False) W5).drew)
  generalize W5.drew = G at *
  refine wpAnyH_take (i := 0) (oi := ⟨some 18, _, _, _, _, _⟩) (v := ?_) rfl (by kernel_rfl) (by kernel_rfl) (by kernel_rfl) (fun _ _ _ h => h) (Or.inl ⟨by rfl, ?_⟩) hHeld ?_
  rotate_left
  · (intro wq hSw; go_simp; try with_reducible rfl)
  try simp only [Act.put, List.setIfInBounds_toArray, List.set_cons_zero, List.set_cons_succ]
  refine wpAnyH_take (i := 1) (oi := ⟨some 19, _, _, _, _, _⟩) (v := ?_) rfl (by kernel_rfl) (by kernel_rfl) (by kernel_rfl) (fun _ _ _ h => h) (Or.inl ⟨by rfl, ?_⟩) hHeld ?_
  rotate_left
  · (intro wq hSw; have hb9 := HB.out.of (hSw.block _ HB.out.lt (fun h => h)); have x0 := hb9.cell (i := 0) rfl; have x1 := hb9.cell (i := 1) rfl; have x2 := hb9.cell (i := 2) rfl; have x3 := hb9.cell (i := 3) rfl; have x4 := hb9.cell (i := 4) rfl; have x5 := hb9.cell (i := 5) rfl; have x6 := hb9.cell (i := 6) rfl; have x7 := hb9.cell (i := 7) rfl; have hc9 := H5.out.of (hSw.block _ H5.out.lt (fun h => h)); have y0 := hc9.cell (i := 0) rfl; have y1 := hc9.cell (i := 1) rfl; have y2 := hc9.cell (i := 2) rfl; clear hb9 hc9; go_simp; try with_reducible rfl)
  try simp only [Act.put, List.setIfInBounds_toArray, List.set_cons_zero, List.set_cons_succ]
  refine wpAnyH_take (i := 2) (oi := ⟨some 20, _, _, _, _, _⟩) (v := .int .i64 (P.lv : Int)) rfl (by kernel_rfl) (by kernel_rfl) (by kernel_rfl) (fun _ _ _ h => h) (Or.inl ⟨by rfl, ?_⟩) hHeld ?_
  · (intro wq hSw; go_simp; try first | (with_reducible rfl) | (simp; omega) | (intros; omega) | simp [*])
  try simp only [Act.put, List.setIfInBounds_toArray, List.set_cons_zero, List.set_cons_succ]
  refine wpAnyH_take (i := 3) (oi := ⟨some 21, _, _, _, _, _⟩) (v := ?_) rfl (by kernel_rfl) (by kernel_rfl) (by kernel_rfl) (fun _ _ _ h => h) (Or.inl ⟨by rfl, ?_⟩) hHeld ?_
  rotate_left
  · (intro wq hSw; have hb9 := HB.out.of (hSw.block _ HB.out.lt (fun h => h)); have x0 := hb9.cell (i := 0) rfl; have x1 := hb9.cell (i := 1) rfl; have x2 := hb9.cell (i := 2) rfl; have x3 := hb9.cell (i := 3) rfl; have x4 := hb9.cell (i := 4) rfl; have x5 := hb9.cell (i := 5) rfl; have x6 := hb9.cell (i := 6) rfl; have x7 := hb9.cell (i := 7) rfl; have hc9 := H5.out.of (hSw.block _ H5.out.lt (fun h => h)); have y0 := hc9.cell (i := 0) rfl; have y1 := hc9.cell (i := 1) rfl; have y2 := hc9.cell (i := 2) rfl; clear hb9 hc9; go_simp; try with_reducible rfl)
  try simp only [Act.put, List.setIfInBounds_toArray, List.set_cons_zero, List.set_cons_succ]
  refine wpAnyH_take (i := 4) (oi := ⟨some 22, _, _, _, _, _⟩) (v := ?_) rfl (by kernel_rfl) (by kernel_rfl) (by kernel_rfl) (fun _ _ _ h => h) (Or.inl ⟨by rfl, ?_⟩) hHeld ?_
  rotate_left
  · (intro wq hSw; go_simp; try with_reducible rfl)
  try simp only [Act.put, List.setIfInBounds_toArray, List.set_cons_zero, List.set_cons_succ]
  refine wpAnyH_take (i := 7) (oi := ⟨some 25, _, _, _, _, _⟩) (v := ?_) rfl (by kernel_rfl) (by kernel_rfl) (by kernel_rfl) (fun _ _ _ h => h) (Or.inl ⟨by rfl, ?_⟩) hHeld ?_
  rotate_left
  · (intro wq hSw; have hb9 := HB.out.of (hSw.block _ HB.out.lt (fun h => h)); have x0 := hb9.cell (i := 0) rfl; have x1 := hb9.cell (i := 1) rfl; have x2 := hb9.cell (i := 2) rfl; have x3 := hb9.cell (i := 3) rfl; have x4 := hb9.cell (i := 4) rfl; have x5 := hb9.cell (i := 5) rfl; have x6 := hb9.cell (i := 6) rfl; have x7 := hb9.cell (i := 7) rfl; have hc9 := H5.out.of (hSw.block _ H5.out.lt (fun h => h)); have y0 := hc9.cell (i := 0) rfl; have y1 := hc9.cell (i := 1) rfl; have y2 := hc9.cell (i := 2) rfl; clear hb9 hc9; go_simp; try with_reducible rfl)
  try simp only [Act.put, List.setIfInBounds_toArray, List.set_cons_zero, List.set_cons_succ]
  refine wpAnyH_take (i := 8) (oi := ⟨some 26, _, _, _, _, _⟩) (v := ?_) rfl (by kernel_rfl) (by kernel_rfl) (by kernel_rfl) (fun _ _ _ h => h) (Or.inl ⟨by rfl, ?_⟩) hHeld ?_
  rotate_left
  · (intro wq hSw; go_simp; try with_reducible rfl)
  try simp only [Act.put, List.setIfInBounds_toArray, List.set_cons_zero, List.set_cons_succ]
  refine wpAnyH_take (i := 12) (oi := ⟨some 30, _, _, _, _, _⟩) (v := ?_) rfl (by kernel_rfl) (by kernel_rfl) (by kernel_rfl) (fun _ _ _ h => h) (Or.inl ⟨by rfl, ?_⟩) hHeld ?_
  rotate_left
  · (intro wq hSw; have hb9 := HB.out.of (hSw.block _ HB.out.lt (fun h => h)); have x0 := hb9.cell (i := 0) rfl; have x1 := hb9.cell (i := 1) rfl; have x2 := hb9.cell (i := 2) rfl; have x3 := hb9.cell (i := 3) rfl; have x4 := hb9.cell (i := 4) rfl; have x5 := hb9.cell (i := 5) rfl; have x6 := hb9.cell (i := 6) rfl; have x7 := hb9.cell (i := 7) rfl; have hc9 := H5.out.of (hSw.block _ H5.out.lt (fun h => h)); have y0 := hc9.cell (i := 0) rfl; have y1 := hc9.cell (i := 1) rfl; have y2 := hc9.cell (i := 2) rfl; clear hb9 hc9; go_simp; try with_reducible rfl)
  try simp only [Act.put, List.setIfInBounds_toArray, List.set_cons_zero, List.set_cons_succ]
  refine wpAnyH_take (i := 13) (oi := ⟨some 31, _, _, _, _, _⟩) (v := ?_) rfl (by kernel_rfl) (by kernel_rfl) (by kernel_rfl) (fun _ _ _ h => h) (Or.inl ⟨by rfl, ?_⟩) hHeld ?_
  rotate_left
  · (intro wq hSw; go_simp; try with_reducible rfl)
  try simp only [Act.put, List.setIfInBounds_toArray, List.set_cons_zero, List.set_cons_succ]
  refine wpAnyH_ready (rs := [5, 17]) (by kernel_rfl) (by simp) ?_
  refine AllReadyH.cons (o := ⟨some 23, _, _, _, _, _⟩) rfl (fun KK hK => ?_) (AllReadyH.cons (o := ⟨some 6, _, _, _, _, _⟩) rfl (fun KK hK => ?_) (AllReadyH.nil))
  · go_simp
    go_at_call 47
    refine (vpart_toT F h4 h6 g n l HL.out nid 2 2 rfl (by omega) (nadT F nid 1) (putPstT (P := P) (l := l) h1 h2 1 (by omega)) _ _ _ _ HVG.out HC2.out).mono ?_; rintro e G ⟨rfl, hB⟩
    replace HW := Lib.hid (HW.out.trans hB (fun _ _ h => h))
    replace HVG := Lib.hid (hB.blk HVG.out (fun h => h))
    try replace H6 := Lib.hid (hB.blk H6.out (fun h => h))
    clear hB
    refine hK.out _ _ ?_ (fun hHeld2 => ?_)
    · exact HW.out
    clear hK KK hHeld
    have hHeld := hHeld2
    clear hHeld2
    try simp only [Act.put, List.setIfInBounds_toArray, List.set_cons_zero, List.set_cons_succ]
    refine wpAnyH_take (i := 6) (oi := ⟨some 24, _, _, _, _, _⟩) (v := .string P.hi) rfl (by kernel_rfl) (by kernel_rfl) (by kernel_rfl) (fun _ _ _ h => h) (Or.inl ⟨by rfl, ?_⟩) hHeld ?_
    · (intro wq hSw; go_simp; try first | (with_reducible rfl) | (simp; omega) | (intros; omega) | simp [*])
    try simp only [Act.put, List.setIfInBounds_toArray, List.set_cons_zero, List.set_cons_succ]
    refine wpAnyH_ready (rs := [9, 17]) (by kernel_rfl) (by simp) ?_
    refine AllReadyH.cons (o := ⟨some 27, _, _, _, _, _⟩) rfl (fun KK hK => ?_) (AllReadyH.cons (o := ⟨some 6, _, _, _, _, _⟩) rfl (fun KK hK => ?_) (AllReadyH.nil))
    · go_simp
      go_at_call 47
      refine (vpart_toT F h4 h6 g n l HL.out nid 2 2 rfl (by omega) (nadT F nid 1) (putPstT (P := P) (l := l) h1 h2 1 (by omega)) _ _ _ _ HVG.out HC2.out).mono ?_; rintro e G ⟨rfl, hB⟩
      replace HW := Lib.hid (HW.out.trans hB (fun _ _ h => h))
      replace HVG := Lib.hid (hB.blk HVG.out (fun h => h))
      try replace H6 := Lib.hid (hB.blk H6.out (fun h => h))
      clear hB
      refine hK.out _ _ ?_ (fun hHeld2 => ?_)
      · exact HW.out
      clear hK KK hHeld
      have hHeld := hHeld2
      clear hHeld2
      try simp only [Act.put, List.setIfInBounds_toArray, List.set_cons_zero, List.set_cons_succ]
      refine wpAnyH_take (i := 10) (oi := ⟨some 28, _, _, _, _, _⟩) (v := .int .u64 (m1 : Int)) rfl (by kernel_rfl) (by kernel_rfl) (by kernel_rfl) (fun _ _ _ h => h) (Or.inl ⟨by rfl, ?_⟩) hHeld ?_
      · (intro wq hSw; go_simp; try first | (with_reducible rfl) | (simp; omega) | (intros; omega) | simp [*])
      try simp only [Act.put, List.setIfInBounds_toArray, List.set_cons_zero, List.set_cons_succ]
      refine wpAnyH_take (i := 11) (oi := ⟨some 29, _, _, _, _, _⟩) (v := .bool P.la) rfl (by kernel_rfl) (by kernel_rfl) (by kernel_rfl) (fun _ _ _ h => h) (Or.inl ⟨by rfl, ?_⟩) hHeld ?_
      · (intro wq hSw; go_simp; try first | (with_reducible rfl) | (simp; omega) | (intros; omega) | simp [*])
      try simp only [Act.put, List.setIfInBounds_toArray, List.set_cons_zero, List.set_cons_succ]
      refine wpAnyH_ready (rs := [14, 17]) (by kernel_rfl) (by simp) ?_
      refine AllReadyH.cons (o := ⟨some 32, _, _, _, _, _⟩) rfl (fun KK hK => ?_) (AllReadyH.cons (o := ⟨some 6, _, _, _, _, _⟩) rfl (fun KK hK => ?_) (AllReadyH.nil))
      · go_simp
        go_at_call 47
        refine (vpart_toT F h4 h6 g n l HL.out nid 3 3 rfl (by omega) (nadT F nid 2) (putPstT (P := P) (l := l) h1 h2 2 (by omega)) _ _ _ _ HVG.out HC3.out).mono ?_; rintro e G ⟨rfl, hB⟩
        replace HW := Lib.hid (HW.out.trans hB (fun _ _ h => h))
        replace HVG := Lib.hid (hB.blk HVG.out (fun h => h))
        try replace H6 := Lib.hid (hB.blk H6.out (fun h => h))
        clear hB
        refine hK.out _ _ ?_ (fun hHeld2 => ?_)
        · exact HW.out
        clear hK KK hHeld
        have hHeld := hHeld2
        clear hHeld2
        try simp only [Act.put, List.setIfInBounds_toArray, List.set_cons_zero, List.set_cons_succ]
        refine wpAnyH_take (i := 15) (oi := ⟨some 33, _, _, _, _, _⟩) (v := .int .u64 (P.rt : Int)) rfl (by kernel_rfl) (by kernel_rfl) (by kernel_rfl) (fun _ _ _ h => h) (Or.inl ⟨by rfl, ?_⟩) hHeld ?_
        · (intro wq hSw; go_simp; try first | (with_reducible rfl) | (simp; omega) | (intros; omega) | simp [*])
        try simp only [Act.put, List.setIfInBounds_toArray, List.set_cons_zero, List.set_cons_succ]
        refine wpAnyH_take (i := 16) (oi := ⟨some 34, _, _, _, _, _⟩) (v := ?_) rfl (by kernel_rfl) (by kernel_rfl) (by kernel_rfl) (fun _ _ _ h => h) (Or.inl ⟨by rfl, ?_⟩) hHeld ?_
        rotate_left
        · (intro wq hSw; go_simp; try with_reducible rfl)
        try simp only [Act.put, List.setIfInBounds_toArray, List.set_cons_zero, List.set_cons_succ]
        refine wpAnyH_ready (rs := [17]) (by kernel_rfl) (by simp) ?_
        refine AllReadyH.cons (o := ⟨some 6, _, _, _, _, _⟩) rfl (fun KK hK => ?_) (AllReadyH.nil)
        go_simp
        have hr6 : W5.heap.size ≤ G.heap.size := HW.out.size
        replace HW := Lib.hid (HW.out.alloc (.cells #[.int .i64 0, .slice none 0 0, .string ⟨#[]⟩, .bool false, .int .u64 0] 31))
        replace HVG := Lib.hid (HVG.out.alloc (.cells #[.int .i64 0, .slice none 0 0, .string ⟨#[]⟩, .bool false, .int .u64 0] 31))
        have H6 := Lib.hid (Blk.new G [.int .i64 0, .slice none 0 0, .string ⟨#[]⟩, .bool false, .int .u64 0] 31)
        generalize G.heap.size = r6 at *
        have HR6 := Lib.hid hr6
        clear hr6
        generalize G.alloc (.cells #[.int .i64 0, .slice none 0 0, .string ⟨#[]⟩, .bool false, .int .u64 0] 31) = G at *
        refine hK.out _ _ ?_ (fun hHeld2 => ?_)
        · exact HW.out
        clear hK KK hHeld
        have hHeld := hHeld2
        clear hHeld2
        try simp only [Act.put, List.setIfInBounds_toArray, List.set_cons_zero, List.set_cons_succ]
        refine wpAnyH_ready (rs := [18]) (by kernel_rfl) (by simp) ?_
        refine AllReadyH.cons (o := ⟨none, _, _, _, _, _⟩) rfl (fun KK hK => ?_) (AllReadyH.nil)
        have hs9 := H6.out
        have s0 := hs9.cell (i := 0) rfl
        have s1 := hs9.cell (i := 1) rfl
        have s2 := hs9.cell (i := 2) rfl
        have s3 := hs9.cell (i := 3) rfl
        have s4 := hs9.cell (i := 4) rfl
        have z0 := hs9.frozen 0
        have z1 := hs9.frozen 1
        have z2 := hs9.frozen 2
        have z3 := hs9.frozen 3
        have z4 := hs9.frozen 4
        clear hs9
        go_simp
        replace HW := Lib.hid ((((((HW.out).setNew HR6.out 0 (.int .i64 (P.lv : Int))).setNew HR6.out 1 (.slice none 0 0)).setNew HR6.out 2 (.string P.hi)).setNew HR6.out 3 (.bool P.la)).setNew HR6.out 4 (.int .u64 (P.rt : Int)))
        replace HVG := Lib.hid ((((((HVG.out).other (a := ⟨r6, 0, none⟩) (by have := HG5.out; have := HR6.out; show g ≠ r6; omega) (.int .i64 (P.lv : Int))).other (a := ⟨r6, 1, none⟩) (by have := HG5.out; have := HR6.out; show g ≠ r6; omega) (.slice none 0 0)).other (a := ⟨r6, 2, none⟩) (by have := HG5.out; have := HR6.out; show g ≠ r6; omega) (.string P.hi)).other (a := ⟨r6, 3, none⟩) (by have := HG5.out; have := HR6.out; show g ≠ r6; omega) (.bool P.la)).other (a := ⟨r6, 4, none⟩) (by have := HG5.out; have := HR6.out; show g ≠ r6; omega) (.int .u64 (P.rt : Int)))
        replace H6 := Lib.hid ((((((H6.out).set 0 (.int .i64 (P.lv : Int))).set 1 (.slice none 0 0)).set 2 (.string P.hi)).set 3 (.bool P.la)).set 4 (.int .u64 (P.rt : Int)))
        clear s0 s1 s2 s3 s4 z0 z1 z2 z3 z4
        generalize (((((G).setCell ⟨r6, 0, none⟩ (.int .i64 (P.lv : Int))).setCell ⟨r6, 1, none⟩ (.slice none 0 0)).setCell ⟨r6, 2, none⟩ (.string P.hi)).setCell ⟨r6, 3, none⟩ (.bool P.la)).setCell ⟨r6, 4, none⟩ (.int .u64 (P.rt : Int)) = G at *
        refine hK.out _ _ ?_ (fun hHeld2 => ?_)
        · exact HW.out
        clear hK KK hHeld
        have hHeld := hHeld2
        clear hHeld2
        try simp only [Act.put, List.setIfInBounds_toArray, List.set_cons_zero, List.set_cons_succ]
        refine wpAnyH_done (by kernel_rfl) ?_ _
        clear hHeld
        go_wp2_with fail
        replace HB := Lib.hid (HW.out.blk HB.out (fun h => h))
        replace HN := Lib.hid (HW.out.blk HN.out (fun h => h))
        replace H5 := Lib.hid (HW.out.blk H5.out (fun h => h))
        replace HK := Lib.hid (HK.out.trans HW.out (fun _ _ h => h))
        have hlt5 := H5.out.lt
        have hlt6 := H6.out.lt
        have hltn := HN.out.lt
        have hltb := HB.out.lt
        have hltg := HVG.out.lt
        have HNE := Lib.hid (show r6 ≠ r0 ∧ r6 ≠ r1 ∧ r6 ≠ g ∧ r6 ≠ r5 by have h1 := HR6.out; have h2 := HLT.out; omega)
        have HGW := Lib.hid (show w.heap.size ≤ G.heap.size from HK.out.size)
        clear HW
        go_loopw [7] (fun i wr => ∃ (j : Nat) (A : Option Addr) (c : Nat), j ≤ n0 ∧ i = .int .i64 j ∧ Blk wr r6 31 [.int .i64 (P.lv : Int), .slice A j c, .string P.hi, .bool P.la, .int .u64 (P.rt : Int)] ∧ wr.ownsRow G.heap.size 70 2 (.slice A j c) j (flat (P.xs.take j)) ∧ Kept (fun i => i = r6) G wr) (fun i _ => n0 - (intOf i).toNat)
        case atStart => exact ⟨0, none, 0, Nat.zero_le _, rfl, H6.out, World.ownsRow_nil _ _ _ _, Kept.refl _ _⟩
        case round =>
          obtain ⟨j, A, c, hj, rfl, hX6, hO, hKr⟩ := hrel
          have HX6 := Lib.hid hX6
          have HO := Lib.hid hO
          have HKr := Lib.hid hKr
          have HBr := Lib.hid (hKr.blk HB.out (fun e => HNE.out.1 e.symm))
          have H5r := Lib.hid (hKr.blk H5.out (fun e => HNE.out.2.2.2 e.symm))
          have HVr := Lib.hid (hKr.blk HVG.out (fun e => HNE.out.2.2.1 e.symm))
          have HNr := Lib.hid (hKr.blk HN.out (fun e => HNE.out.2.1 e.symm))
          have hsr := hKr.size
          clear hX6 hO hKr
          have hb9 := HBr.out
          have x0 := hb9.cell (i := 0) rfl
          have x1 := hb9.cell (i := 1) rfl
          have x2 := hb9.cell (i := 2) rfl
          have x3 := hb9.cell (i := 3) rfl
          have x4 := hb9.cell (i := 4) rfl
          have x5 := hb9.cell (i := 5) rfl
          have x6 := hb9.cell (i := 6) rfl
          have x7 := hb9.cell (i := 7) rfl
          have hc9 := H5r.out
          have y0 := hc9.cell (i := 0) rfl
          have y1 := hc9.cell (i := 1) rfl
          have y2 := hc9.cell (i := 2) rfl
          clear hb9 hc9
          by_cases hlt : j < n0
          · obtain ⟨k, r, hx⟩ : ∃ k r, P.xs[j]? = some (k, r) := ⟨_, _, List.getElem?_eq_getElem (by have := HN0.out; omega)⟩
            have HX := Lib.hid hx
            have HCJ := Lib.hid (HCS.out j _ hx)
            have hjF : (j : Int) < (F : Int) := by omega
            have hjn : (j : Int) < (n0 : Int) := by omega
            have d1 : decide ((j : Int) < (n0 : Int)) = true := decide_eq_true hjn
            have d2 : decide ((j : Int) < (F : Int)) = true := decide_eq_true hjF
            have hwj : IntKind.u64.wrap (j : Int) = (j : Int) := by rw [IntKind.wrap_u64]; omega
            clear hx
            go_wp2_with fail
            refine (vpart_toT F h4 h6 g n l HL.out nid (4 + j) (4 + (j : Int)) (by omega) (by omega) (nadT F nid (j + 3)) (by have := putPstT (P := P) (l := l) (F := F) h1 h2 (j + 3) (by omega); rw [← this]; congr 1; omega) _ _ _ _ HVr.out HCJ.out).mono ?_; rintro e w6 ⟨rfl, hK6⟩
            replace HX6 := Lib.hid (hK6.blk HX6.out (fun h => h))
            have hx69 := HX6.out
            have x61 := hx69.cell (i := 1) rfl
            have hl69 := hx69.lt
            have hB6 := hK6.below (B := wr.heap.size) (by omega) (fun _ h => h.elim)
            replace HO := Lib.hid (own_below HO.out hB6 (Nat.le_refl _))
            replace HKr := Lib.hid (HKr.out.trans hK6 (fun _ _ h => h.elim))
            have hs6 : G.heap.size ≤ w6.heap.size := Nat.le_trans hsr hK6.size
            clear hx69 hK6 hB6 hsr x0 x1 x2 x3 x4 x5 x6 x7 y0 y1 y2
            go_wp2_with (at_builtin; go_must (refine wpList_app rfl (.tmp 55) (.tmp 61) rfl G.heap.size _ j (P.xs.take j) rfl ((HO.out.alloc _).alloc _) (some ⟨w6.heap.size + 1, 0, none⟩) 1 1 [(k, r)] rfl rfl (Rs.one_at _ k r _ (nblk_alloc _ _)) (by omega) (by rw [nblk_alloc, nblk_alloc]; omega) ?_))
            intro v7 w7 hO7 hB7
            obtain ⟨A7, c7, rfl, -, -, -⟩ := Rs.own hO7
            have hal6 := ((Below.refl G.heap.size w6).alloc hs6 (.cells #[.int .u64 (r : Int), .string k, .int .u64 0] 50)).alloc (by rw [nblk_alloc]; omega) (.cells #[.string k, .int .u64 (r : Int)] 70)
            have hB67 := hal6.trans hB7
            have hK67 := Below.kept hB67 (S := fun i => G.heap.size ≤ i) (fun i _ h => h)
            have hX7 := hK67.blk HX6.out (by omega)
            have HK7 := Lib.hid (HKr.out.trans hK67 (fun i hi h => by omega))
            have HX7 := Lib.hid (hX7.set 1 (.slice A7 (j + 1) c7))
            have z71 := hX7.frozen 1
            have x71 := hX7.cell (i := 1) rfl
            have HO7 := Lib.hid (show (w7.setCell ⟨r6, 1, none⟩ (.slice A7 (j + 1) c7)).ownsRow G.heap.size 70 2 (.slice A7 (j + 1) c7) (j + 1) (flat (P.xs.take (j + 1))) from by
              rw [List.take_add_one, HX.out]; exact ownsRow_setCell_below hO7 hlt6 _)
            have HKz := Lib.hid (HK7.out.setCell (a := ⟨r6, 1, none⟩) (fun _ => rfl) (.slice A7 (j + 1) c7))
            clear hO7 hB7 hal6 hB67 hK67 hX7 HX6 HO HKr HK7 x61
            go_wp2
            go_roundw
            case rel => exact ⟨j + 1, A7, c7, by omega, by go_num, HX7.out, HO7.out, HKz.out⟩
            case measure => simp [intOf]; omega
          · obtain rfl : j = n0 := by omega
            have d1 : decide ((j : Int) < (j : Int)) = false := decide_eq_false (by omega)
            have hwj : IntKind.u64.wrap (j : Int) = (j : Int) := by rw [IntKind.wrap_u64]; omega
            have hx69 := HX6.out
            have u0 := hx69.cell (i := 0) rfl
            have u1 := hx69.cell (i := 1) rfl
            have u2 := hx69.cell (i := 2) rfl
            have u3 := hx69.cell (i := 3) rfl
            have u4 := hx69.cell (i := 4) rfl
            have hn9 := HNr.out
            have v0 := hn9.cell (i := 0) rfl
            have v1 := hn9.cell (i := 1) rfl
            have v2 := hn9.cell (i := 2) rfl
            have v3 := hn9.cell (i := 3) rfl
            have v4 := hn9.cell (i := 4) rfl
            have z0 := hn9.frozen 0
            have z1 := hn9.frozen 1
            have z2 := hn9.frozen 2
            have z3 := hn9.frozen 3
            have z4 := hn9.frozen 4
            have hOa := HO.out
            rw [List.take_of_length_le (by rw [HN0.out]; exact Nat.le_refl _)] at hOa
            have hO5 := own_res hOa hltn (.int .i64 (P.lv : Int)) (.slice A j c) (.string P.hi) (.bool P.la) (.int .u64 (P.rt : Int))
            have hNz := ((((hn9.set 0 (.int .i64 (P.lv : Int))).set 1 (.slice A j c)).set 2 (.string P.hi)).set 3 (.bool P.la)).set 4 (.int .u64 (P.rt : Int))
            have hKz := ((((((HK.out.trans (HKr.out.mono (T := fun i => i = r6 ∨ i = r1) (fun i e => .inl e)) (fun i hi e => by have := HR6.out; have := HLT.out; have := HR0.out; have := HR.out; omega)).setNew (b := r1) (by have := HR0.out; have := HR.out; omega) 0 (.int .i64 (P.lv : Int))).setNew (b := r1) (by have := HR0.out; have := HR.out; omega) 1 (.slice A j c)).setNew (b := r1) (by have := HR0.out; have := HR.out; omega) 2 (.string P.hi)).setNew (b := r1) (by have := HR0.out; have := HR.out; omega) 3 (.bool P.la)).setNew (b := r1) (by have := HR0.out; have := HR.out; omega) 4 (.int .u64 (P.rt : Int)))
            have HO5 := Lib.hid hO5
            have HNz := Lib.hid hNz
            have HKz := Lib.hid hKz
            clear hx69 hn9 hOa hO5 hNz hKz HX6 HO HKr
            go_wp2
            have q0 := HNz.out.cell (i := 0) rfl
            have q1 := HNz.out.cell (i := 1) rfl
            have q2 := HNz.out.cell (i := 2) rfl
            have q3 := HNz.out.cell (i := 3) rfl
            have q4 := HNz.out.cell (i := 4) rfl
            refine bodyPost_ret (v := .agg #[.int .i64 (P.lv : Int), .slice A j c, .string P.hi, .bool P.la, .int .u64 (P.rt : Int)]) ?_ rfl ?_
            · simp [results, Try.results19, go_sem, q0, q1, q2, q3, q4]
            obtain ⟨A9, c9, he9, -, hR9, hA9⟩ := Rs.own HO5.out
            cases he9
            exact ⟨A, c, by rw [HN0.out], hR9, fun a ha => by have := hA9 a ha; have := HGW.out; omega, HKz.out⟩
      · go_simp
        have hr6 : W5.heap.size ≤ G.heap.size := HW.out.size
        replace HW := Lib.hid (HW.out.alloc (.cells #[.int .i64 0, .slice none 0 0, .string ⟨#[]⟩, .bool false, .int .u64 0] 31))
        replace HVG := Lib.hid (HVG.out.alloc (.cells #[.int .i64 0, .slice none 0 0, .string ⟨#[]⟩, .bool false, .int .u64 0] 31))
        have H6 := Lib.hid (Blk.new G [.int .i64 0, .slice none 0 0, .string ⟨#[]⟩, .bool false, .int .u64 0] 31)
        generalize G.heap.size = r6 at *
        have HR6 := Lib.hid hr6
        clear hr6
        generalize G.alloc (.cells #[.int .i64 0, .slice none 0 0, .string ⟨#[]⟩, .bool false, .int .u64 0] 31) = G at *
        refine hK.out _ _ ?_ (fun hHeld2 => ?_)
        · exact HW.out
        clear hK KK hHeld
        have hHeld := hHeld2
        clear hHeld2
        try simp only [Act.put, List.setIfInBounds_toArray, List.set_cons_zero, List.set_cons_succ]
        refine wpAnyH_ready (rs := [14]) (by kernel_rfl) (by simp) ?_
        refine AllReadyH.cons (o := ⟨some 32, _, _, _, _, _⟩) rfl (fun KK hK => ?_) (AllReadyH.nil)
        go_simp
        go_at_call 47
        refine (vpart_toT F h4 h6 g n l HL.out nid 3 3 rfl (by omega) (nadT F nid 2) (putPstT (P := P) (l := l) h1 h2 2 (by omega)) _ _ _ _ HVG.out HC3.out).mono ?_; rintro e G ⟨rfl, hB⟩
        replace HW := Lib.hid (HW.out.trans hB (fun _ _ h => h))
        replace HVG := Lib.hid (hB.blk HVG.out (fun h => h))
        try replace H6 := Lib.hid (hB.blk H6.out (fun h => h))
        clear hB
        refine hK.out _ _ ?_ (fun hHeld2 => ?_)
        · exact HW.out
        clear hK KK hHeld
        have hHeld := hHeld2
        clear hHeld2
        try simp only [Act.put, List.setIfInBounds_toArray, List.set_cons_zero, List.set_cons_succ]
        refine wpAnyH_take (i := 15) (oi := ⟨some 33, _, _, _, _, _⟩) (v := .int .u64 (P.rt : Int)) rfl (by kernel_rfl) (by kernel_rfl) (by kernel_rfl) (fun _ _ _ h => h) (Or.inl ⟨by rfl, ?_⟩) hHeld ?_
        · (intro wq hSw; go_simp; try first | (with_reducible rfl) | (simp; omega) | (intros; omega) | simp [*])
        try simp only [Act.put, List.setIfInBounds_toArray, List.set_cons_zero, List.set_cons_succ]
        refine wpAnyH_take (i := 16) (oi := ⟨some 34, _, _, _, _, _⟩) (v := ?_) rfl (by kernel_rfl) (by kernel_rfl) (by kernel_rfl) (fun _ _ _ h => h) (Or.inl ⟨by rfl, ?_⟩) hHeld ?_
        rotate_left
        · (intro wq hSw; go_simp; try with_reducible rfl)
        try simp only [Act.put, List.setIfInBounds_toArray, List.set_cons_zero, List.set_cons_succ]
        refine wpAnyH_ready (rs := [18]) (by kernel_rfl) (by simp) ?_
        refine AllReadyH.cons (o := ⟨none, _, _, _, _, _⟩) rfl (fun KK hK => ?_) (AllReadyH.nil)
        have hs9 := H6.out
        have s0 := hs9.cell (i := 0) rfl
        have s1 := hs9.cell (i := 1) rfl
        have s2 := hs9.cell (i := 2) rfl
        have s3 := hs9.cell (i := 3) rfl
        have s4 := hs9.cell (i := 4) rfl
        have z0 := hs9.frozen 0
        have z1 := hs9.frozen 1
        have z2 := hs9.frozen 2
        have z3 := hs9.frozen 3
        have z4 := hs9.frozen 4
        clear hs9
        go_simp
        replace HW := Lib.hid ((((((HW.out).setNew HR6.out 0 (.int .i64 (P.lv : Int))).setNew HR6.out 1 (.slice none 0 0)).setNew HR6.out 2 (.string P.hi)).setNew HR6.out 3 (.bool P.la)).setNew HR6.out 4 (.int .u64 (P.rt : Int)))
        replace HVG := Lib.hid ((((((HVG.out).other (a := ⟨r6, 0, none⟩) (by have := HG5.out; have := HR6.out; show g ≠ r6; omega) (.int .i64 (P.lv : Int))).other (a := ⟨r6, 1, none⟩) (by have := HG5.out; have := HR6.out; show g ≠ r6; omega) (.slice none 0 0)).other (a := ⟨r6, 2, none⟩) (by have := HG5.out; have := HR6.out; show g ≠ r6; omega) (.string P.hi)).other (a := ⟨r6, 3, none⟩) (by have := HG5.out; have := HR6.out; show g ≠ r6; omega) (.bool P.la)).other (a := ⟨r6, 4, none⟩) (by have := HG5.out; have := HR6.out; show g ≠ r6; omega) (.int .u64 (P.rt : Int)))
        replace H6 := Lib.hid ((((((H6.out).set 0 (.int .i64 (P.lv : Int))).set 1 (.slice none 0 0)).set 2 (.string P.hi)).set 3 (.bool P.la)).set 4 (.int .u64 (P.rt : Int)))
        clear s0 s1 s2 s3 s4 z0 z1 z2 z3 z4
        generalize (((((G).setCell ⟨r6, 0, none⟩ (.int .i64 (P.lv : Int))).setCell ⟨r6, 1, none⟩ (.slice none 0 0)).setCell ⟨r6, 2, none⟩ (.string P.hi)).setCell ⟨r6, 3, none⟩ (.bool P.la)).setCell ⟨r6, 4, none⟩ (.int .u64 (P.rt : Int)) = G at *
        refine hK.out _ _ ?_ (fun hHeld2 => ?_)
        · exact HW.out
        clear hK KK hHeld
        have hHeld := hHeld2
        clear hHeld2
        try simp only [Act.put, List.setIfInBounds_toArray, List.set_cons_zero, List.set_cons_succ]
        refine wpAnyH_done (by kernel_rfl) ?_ _
        clear hHeld
        go_wp2_with fail
        replace HB := Lib.hid (HW.out.blk HB.out (fun h => h))
        replace HN := Lib.hid (HW.out.blk HN.out (fun h => h))
        replace H5 := Lib.hid (HW.out.blk H5.out (fun h => h))
        replace HK := Lib.hid (HK.out.trans HW.out (fun _ _ h => h))
        have hlt5 := H5.out.lt
        have hlt6 := H6.out.lt
        have hltn := HN.out.lt
        have hltb := HB.out.lt
        have hltg := HVG.out.lt
        have HNE := Lib.hid (show r6 ≠ r0 ∧ r6 ≠ r1 ∧ r6 ≠ g ∧ r6 ≠ r5 by have h1 := HR6.out; have h2 := HLT.out; omega)
        have HGW := Lib.hid (show w.heap.size ≤ G.heap.size from HK.out.size)
        clear HW
        go_loopw [7] (fun i wr => ∃ (j : Nat) (A : Option Addr) (c : Nat), j ≤ n0 ∧ i = .int .i64 j ∧ Blk wr r6 31 [.int .i64 (P.lv : Int), .slice A j c, .string P.hi, .bool P.la, .int .u64 (P.rt : Int)] ∧ wr.ownsRow G.heap.size 70 2 (.slice A j c) j (flat (P.xs.take j)) ∧ Kept (fun i => i = r6) G wr) (fun i _ => n0 - (intOf i).toNat)
        case atStart => exact ⟨0, none, 0, Nat.zero_le _, rfl, H6.out, World.ownsRow_nil _ _ _ _, Kept.refl _ _⟩
        case round =>
          obtain ⟨j, A, c, hj, rfl, hX6, hO, hKr⟩ := hrel
          have HX6 := Lib.hid hX6
          have HO := Lib.hid hO
          have HKr := Lib.hid hKr
          have HBr := Lib.hid (hKr.blk HB.out (fun e => HNE.out.1 e.symm))
          have H5r := Lib.hid (hKr.blk H5.out (fun e => HNE.out.2.2.2 e.symm))
          have HVr := Lib.hid (hKr.blk HVG.out (fun e => HNE.out.2.2.1 e.symm))
          have HNr := Lib.hid (hKr.blk HN.out (fun e => HNE.out.2.1 e.symm))
          have hsr := hKr.size
          clear hX6 hO hKr
          have hb9 := HBr.out
          have x0 := hb9.cell (i := 0) rfl
          have x1 := hb9.cell (i := 1) rfl
          have x2 := hb9.cell (i := 2) rfl
          have x3 := hb9.cell (i := 3) rfl
          have x4 := hb9.cell (i := 4) rfl
          have x5 := hb9.cell (i := 5) rfl
          have x6 := hb9.cell (i := 6) rfl
          have x7 := hb9.cell (i := 7) rfl
          have hc9 := H5r.out
          have y0 := hc9.cell (i := 0) rfl
          have y1 := hc9.cell (i := 1) rfl
          have y2 := hc9.cell (i := 2) rfl
          clear hb9 hc9
          by_cases hlt : j < n0
          · obtain ⟨k, r, hx⟩ : ∃ k r, P.xs[j]? = some (k, r) := ⟨_, _, List.getElem?_eq_getElem (by have := HN0.out; omega)⟩
            have HX := Lib.hid hx
            have HCJ := Lib.hid (HCS.out j _ hx)
            have hjF : (j : Int) < (F : Int) := by omega
            have hjn : (j : Int) < (n0 : Int) := by omega
            have d1 : decide ((j : Int) < (n0 : Int)) = true := decide_eq_true hjn
            have d2 : decide ((j : Int) < (F : Int)) = true := decide_eq_true hjF
            have hwj : IntKind.u64.wrap (j : Int) = (j : Int) := by rw [IntKind.wrap_u64]; omega
            clear hx
            go_wp2_with fail
            refine (vpart_toT F h4 h6 g n l HL.out nid (4 + j) (4 + (j : Int)) (by omega) (by omega) (nadT F nid (j + 3)) (by have := putPstT (P := P) (l := l) (F := F) h1 h2 (j + 3) (by omega); rw [← this]; congr 1; omega) _ _ _ _ HVr.out HCJ.out).mono ?_; rintro e w6 ⟨rfl, hK6⟩
            replace HX6 := Lib.hid (hK6.blk HX6.out (fun h => h))
            have hx69 := HX6.out
            have x61 := hx69.cell (i := 1) rfl
            have hl69 := hx69.lt
            have hB6 := hK6.below (B := wr.heap.size) (by omega) (fun _ h => h.elim)
            replace HO := Lib.hid (own_below HO.out hB6 (Nat.le_refl _))
            replace HKr := Lib.hid (HKr.out.trans hK6 (fun _ _ h => h.elim))
            have hs6 : G.heap.size ≤ w6.heap.size := Nat.le_trans hsr hK6.size
            clear hx69 hK6 hB6 hsr x0 x1 x2 x3 x4 x5 x6 x7 y0 y1 y2
            go_wp2_with (at_builtin; go_must (refine wpList_app rfl (.tmp 55) (.tmp 61) rfl G.heap.size _ j (P.xs.take j) rfl ((HO.out.alloc _).alloc _) (some ⟨w6.heap.size + 1, 0, none⟩) 1 1 [(k, r)] rfl rfl (Rs.one_at _ k r _ (nblk_alloc _ _)) (by omega) (by rw [nblk_alloc, nblk_alloc]; omega) ?_))
            intro v7 w7 hO7 hB7
            obtain ⟨A7, c7, rfl, -, -, -⟩ := Rs.own hO7
            have hal6 := ((Below.refl G.heap.size w6).alloc hs6 (.cells #[.int .u64 (r : Int), .string k, .int .u64 0] 50)).alloc (by rw [nblk_alloc]; omega) (.cells #[.string k, .int .u64 (r : Int)] 70)
            have hB67 := hal6.trans hB7
            have hK67 := Below.kept hB67 (S := fun i => G.heap.size ≤ i) (fun i _ h => h)
            have hX7 := hK67.blk HX6.out (by omega)
            have HK7 := Lib.hid (HKr.out.trans hK67 (fun i hi h => by omega))
            have HX7 := Lib.hid (hX7.set 1 (.slice A7 (j + 1) c7))
            have z71 := hX7.frozen 1
            have x71 := hX7.cell (i := 1) rfl
            have HO7 := Lib.hid (show (w7.setCell ⟨r6, 1, none⟩ (.slice A7 (j + 1) c7)).ownsRow G.heap.size 70 2 (.slice A7 (j + 1) c7) (j + 1) (flat (P.xs.take (j + 1))) from by
              rw [List.take_add_one, HX.out]; exact ownsRow_setCell_below hO7 hlt6 _)
            have HKz := Lib.hid (HK7.out.setCell (a := ⟨r6, 1, none⟩) (fun _ => rfl) (.slice A7 (j + 1) c7))
            clear hO7 hB7 hal6 hB67 hK67 hX7 HX6 HO HKr HK7 x61
            go_wp2
            go_roundw
            case rel => exact ⟨j + 1, A7, c7, by omega, by go_num, HX7.out, HO7.out, HKz.out⟩
            case measure => simp [intOf]; omega
          · obtain rfl : j = n0 := by omega
            have d1 : decide ((j : Int) < (j : Int)) = false := decide_eq_false (by omega)
            have hwj : IntKind.u64.wrap (j : Int) = (j : Int) := by rw [IntKind.wrap_u64]; omega
            have hx69 := HX6.out
            have u0 := hx69.cell (i := 0) rfl
            have u1 := hx69.cell (i := 1) rfl
            have u2 := hx69.cell (i := 2) rfl
            have u3 := hx69.cell (i := 3) rfl
            have u4 := hx69.cell (i := 4) rfl
            have hn9 := HNr.out
            have v0 := hn9.cell (i := 0) rfl
            have v1 := hn9.cell (i := 1) rfl
            have v2 := hn9.cell (i := 2) rfl
            have v3 := hn9.cell (i := 3) rfl
            have v4 := hn9.cell (i := 4) rfl
            have z0 := hn9.frozen 0
            have z1 := hn9.frozen 1
            have z2 := hn9.frozen 2
            have z3 := hn9.frozen 3
            have z4 := hn9.frozen 4
            have hOa := HO.out
            rw [List.take_of_length_le (by rw [HN0.out]; exact Nat.le_refl _)] at hOa
            have hO5 := own_res hOa hltn (.int .i64 (P.lv : Int)) (.slice A j c) (.string P.hi) (.bool P.la) (.int .u64 (P.rt : Int))
            have hNz := ((((hn9.set 0 (.int .i64 (P.lv : Int))).set 1 (.slice A j c)).set 2 (.string P.hi)).set 3 (.bool P.la)).set 4 (.int .u64 (P.rt : Int))
            have hKz := ((((((HK.out.trans (HKr.out.mono (T := fun i => i = r6 ∨ i = r1) (fun i e => .inl e)) (fun i hi e => by have := HR6.out; have := HLT.out; have := HR0.out; have := HR.out; omega)).setNew (b := r1) (by have := HR0.out; have := HR.out; omega) 0 (.int .i64 (P.lv : Int))).setNew (b := r1) (by have := HR0.out; have := HR.out; omega) 1 (.slice A j c)).setNew (b := r1) (by have := HR0.out; have := HR.out; omega) 2 (.string P.hi)).setNew (b := r1) (by have := HR0.out; have := HR.out; omega) 3 (.bool P.la)).setNew (b := r1) (by have := HR0.out; have := HR.out; omega) 4 (.int .u64 (P.rt : Int)))
            have HO5 := Lib.hid hO5
            have HNz := Lib.hid hNz
            have HKz := Lib.hid hKz
            clear hx69 hn9 hOa hO5 hNz hKz HX6 HO HKr
            go_wp2
            have q0 := HNz.out.cell (i := 0) rfl
            have q1 := HNz.out.cell (i := 1) rfl
            have q2 := HNz.out.cell (i := 2) rfl
            have q3 := HNz.out.cell (i := 3) rfl
            have q4 := HNz.out.cell (i := 4) rfl
            refine bodyPost_ret (v := .agg #[.int .i64 (P.lv : Int), .slice A j c, .string P.hi, .bool P.la, .int .u64 (P.rt : Int)]) ?_ rfl ?_
            · simp [results, Try.results19, go_sem, q0, q1, q2, q3, q4]
            obtain ⟨A9, c9, he9, -, hR9, hA9⟩ := Rs.own HO5.out
            cases he9
            exact ⟨A, c, by rw [HN0.out], hR9, fun a ha => by have := hA9 a ha; have := HGW.out; omega, HKz.out⟩
    · go_simp
      have hr6 : W5.heap.size ≤ G.heap.size := HW.out.size
      replace HW := Lib.hid (HW.out.alloc (.cells #[.int .i64 0, .slice none 0 0, .string ⟨#[]⟩, .bool false, .int .u64 0] 31))
      replace HVG := Lib.hid (HVG.out.alloc (.cells #[.int .i64 0, .slice none 0 0, .string ⟨#[]⟩, .bool false, .int .u64 0] 31))
      have H6 := Lib.hid (Blk.new G [.int .i64 0, .slice none 0 0, .string ⟨#[]⟩, .bool false, .int .u64 0] 31)
      generalize G.heap.size = r6 at *
      have HR6 := Lib.hid hr6
      clear hr6
      generalize G.alloc (.cells #[.int .i64 0, .slice none 0 0, .string ⟨#[]⟩, .bool false, .int .u64 0] 31) = G at *
      refine hK.out _ _ ?_ (fun hHeld2 => ?_)
      · exact HW.out
      clear hK KK hHeld
      have hHeld := hHeld2
      clear hHeld2
      try simp only [Act.put, List.setIfInBounds_toArray, List.set_cons_zero, List.set_cons_succ]
      refine wpAnyH_ready (rs := [9]) (by kernel_rfl) (by simp) ?_
      refine AllReadyH.cons (o := ⟨some 27, _, _, _, _, _⟩) rfl (fun KK hK => ?_) (AllReadyH.nil)
      go_simp
      go_at_call 47
      refine (vpart_toT F h4 h6 g n l HL.out nid 2 2 rfl (by omega) (nadT F nid 1) (putPstT (P := P) (l := l) h1 h2 1 (by omega)) _ _ _ _ HVG.out HC2.out).mono ?_; rintro e G ⟨rfl, hB⟩
      replace HW := Lib.hid (HW.out.trans hB (fun _ _ h => h))
      replace HVG := Lib.hid (hB.blk HVG.out (fun h => h))
      try replace H6 := Lib.hid (hB.blk H6.out (fun h => h))
      clear hB
      refine hK.out _ _ ?_ (fun hHeld2 => ?_)
      · exact HW.out
      clear hK KK hHeld
      have hHeld := hHeld2
      clear hHeld2
      try simp only [Act.put, List.setIfInBounds_toArray, List.set_cons_zero, List.set_cons_succ]
      refine wpAnyH_take (i := 10) (oi := ⟨some 28, _, _, _, _, _⟩) (v := .int .u64 (m1 : Int)) rfl (by kernel_rfl) (by kernel_rfl) (by kernel_rfl) (fun _ _ _ h => h) (Or.inl ⟨by rfl, ?_⟩) hHeld ?_
      · (intro wq hSw; go_simp; try first | (with_reducible rfl) | (simp; omega) | (intros; omega) | simp [*])
      try simp only [Act.put, List.setIfInBounds_toArray, List.set_cons_zero, List.set_cons_succ]
      refine wpAnyH_take (i := 11) (oi := ⟨some 29, _, _, _, _, _⟩) (v := .bool P.la) rfl (by kernel_rfl) (by kernel_rfl) (by kernel_rfl) (fun _ _ _ h => h) (Or.inl ⟨by rfl, ?_⟩) hHeld ?_
      · (intro wq hSw; go_simp; try first | (with_reducible rfl) | (simp; omega) | (intros; omega) | simp [*])
      try simp only [Act.put, List.setIfInBounds_toArray, List.set_cons_zero, List.set_cons_succ]
      refine wpAnyH_ready (rs := [14]) (by kernel_rfl) (by simp) ?_
      refine AllReadyH.cons (o := ⟨some 32, _, _, _, _, _⟩) rfl (fun KK hK => ?_) (AllReadyH.nil)
      go_simp
      go_at_call 47
      refine (vpart_toT F h4 h6 g n l HL.out nid 3 3 rfl (by omega) (nadT F nid 2) (putPstT (P := P) (l := l) h1 h2 2 (by omega)) _ _ _ _ HVG.out HC3.out).mono ?_; rintro e G ⟨rfl, hB⟩
      replace HW := Lib.hid (HW.out.trans hB (fun _ _ h => h))
      replace HVG := Lib.hid (hB.blk HVG.out (fun h => h))
      try replace H6 := Lib.hid (hB.blk H6.out (fun h => h))
      clear hB
      refine hK.out _ _ ?_ (fun hHeld2 => ?_)
      · exact HW.out
      clear hK KK hHeld
      have hHeld := hHeld2
      clear hHeld2
      try simp only [Act.put, List.setIfInBounds_toArray, List.set_cons_zero, List.set_cons_succ]
      refine wpAnyH_take (i := 15) (oi := ⟨some 33, _, _, _, _, _⟩) (v := .int .u64 (P.rt : Int)) rfl (by kernel_rfl) (by kernel_rfl) (by kernel_rfl) (fun _ _ _ h => h) (Or.inl ⟨by rfl, ?_⟩) hHeld ?_
      · (intro wq hSw; go_simp; try first | (with_reducible rfl) | (simp; omega) | (intros; omega) | simp [*])
      try simp only [Act.put, List.setIfInBounds_toArray, List.set_cons_zero, List.set_cons_succ]
      refine wpAnyH_take (i := 16) (oi := ⟨some 34, _, _, _, _, _⟩) (v := ?_) rfl (by kernel_rfl) (by kernel_rfl) (by kernel_rfl) (fun _ _ _ h => h) (Or.inl ⟨by rfl, ?_⟩) hHeld ?_
      rotate_left
      · (intro wq hSw; go_simp; try with_reducible rfl)
      try simp only [Act.put, List.setIfInBounds_toArray, List.set_cons_zero, List.set_cons_succ]
      refine wpAnyH_ready (rs := [18]) (by kernel_rfl) (by simp) ?_
      refine AllReadyH.cons (o := ⟨none, _, _, _, _, _⟩) rfl (fun KK hK => ?_) (AllReadyH.nil)
      have hs9 := H6.out
      have s0 := hs9.cell (i := 0) rfl
      have s1 := hs9.cell (i := 1) rfl
      have s2 := hs9.cell (i := 2) rfl
      have s3 := hs9.cell (i := 3) rfl
      have s4 := hs9.cell (i := 4) rfl
      have z0 := hs9.frozen 0
      have z1 := hs9.frozen 1
      have z2 := hs9.frozen 2
      have z3 := hs9.frozen 3
      have z4 := hs9.frozen 4
      clear hs9
      go_simp
      replace HW := Lib.hid ((((((HW.out).setNew HR6.out 0 (.int .i64 (P.lv : Int))).setNew HR6.out 1 (.slice none 0 0)).setNew HR6.out 2 (.string P.hi)).setNew HR6.out 3 (.bool P.la)).setNew HR6.out 4 (.int .u64 (P.rt : Int)))
      replace HVG := Lib.hid ((((((HVG.out).other (a := ⟨r6, 0, none⟩) (by have := HG5.out; have := HR6.out; show g ≠ r6; omega) (.int .i64 (P.lv : Int))).other (a := ⟨r6, 1, none⟩) (by have := HG5.out; have := HR6.out; show g ≠ r6; omega) (.slice none 0 0)).other (a := ⟨r6, 2, none⟩) (by have := HG5.out; have := HR6.out; show g ≠ r6; omega) (.string P.hi)).other (a := ⟨r6, 3, none⟩) (by have := HG5.out; have := HR6.out; show g ≠ r6; omega) (.bool P.la)).other (a := ⟨r6, 4, none⟩) (by have := HG5.out; have := HR6.out; show g ≠ r6; omega) (.int .u64 (P.rt : Int)))
      replace H6 := Lib.hid ((((((H6.out).set 0 (.int .i64 (P.lv : Int))).set 1 (.slice none 0 0)).set 2 (.string P.hi)).set 3 (.bool P.la)).set 4 (.int .u64 (P.rt : Int)))
      clear s0 s1 s2 s3 s4 z0 z1 z2 z3 z4
      generalize (((((G).setCell ⟨r6, 0, none⟩ (.int .i64 (P.lv : Int))).setCell ⟨r6, 1, none⟩ (.slice none 0 0)).setCell ⟨r6, 2, none⟩ (.string P.hi)).setCell ⟨r6, 3, none⟩ (.bool P.la)).setCell ⟨r6, 4, none⟩ (.int .u64 (P.rt : Int)) = G at *
      refine hK.out _ _ ?_ (fun hHeld2 => ?_)
      · exact HW.out
      clear hK KK hHeld
      have hHeld := hHeld2
      clear hHeld2
      try simp only [Act.put, List.setIfInBounds_toArray, List.set_cons_zero, List.set_cons_succ]
      refine wpAnyH_done (by kernel_rfl) ?_ _
      clear hHeld
      go_wp2_with fail
      replace HB := Lib.hid (HW.out.blk HB.out (fun h => h))
      replace HN := Lib.hid (HW.out.blk HN.out (fun h => h))
      replace H5 := Lib.hid (HW.out.blk H5.out (fun h => h))
      replace HK := Lib.hid (HK.out.trans HW.out (fun _ _ h => h))
      have hlt5 := H5.out.lt
      have hlt6 := H6.out.lt
      have hltn := HN.out.lt
      have hltb := HB.out.lt
      have hltg := HVG.out.lt
      have HNE := Lib.hid (show r6 ≠ r0 ∧ r6 ≠ r1 ∧ r6 ≠ g ∧ r6 ≠ r5 by have h1 := HR6.out; have h2 := HLT.out; omega)
      have HGW := Lib.hid (show w.heap.size ≤ G.heap.size from HK.out.size)
      clear HW
      go_loopw [7] (fun i wr => ∃ (j : Nat) (A : Option Addr) (c : Nat), j ≤ n0 ∧ i = .int .i64 j ∧ Blk wr r6 31 [.int .i64 (P.lv : Int), .slice A j c, .string P.hi, .bool P.la, .int .u64 (P.rt : Int)] ∧ wr.ownsRow G.heap.size 70 2 (.slice A j c) j (flat (P.xs.take j)) ∧ Kept (fun i => i = r6) G wr) (fun i _ => n0 - (intOf i).toNat)
      case atStart => exact ⟨0, none, 0, Nat.zero_le _, rfl, H6.out, World.ownsRow_nil _ _ _ _, Kept.refl _ _⟩
      case round =>
        obtain ⟨j, A, c, hj, rfl, hX6, hO, hKr⟩ := hrel
        have HX6 := Lib.hid hX6
        have HO := Lib.hid hO
        have HKr := Lib.hid hKr
        have HBr := Lib.hid (hKr.blk HB.out (fun e => HNE.out.1 e.symm))
        have H5r := Lib.hid (hKr.blk H5.out (fun e => HNE.out.2.2.2 e.symm))
        have HVr := Lib.hid (hKr.blk HVG.out (fun e => HNE.out.2.2.1 e.symm))
        have HNr := Lib.hid (hKr.blk HN.out (fun e => HNE.out.2.1 e.symm))
        have hsr := hKr.size
        clear hX6 hO hKr
        have hb9 := HBr.out
        have x0 := hb9.cell (i := 0) rfl
        have x1 := hb9.cell (i := 1) rfl
        have x2 := hb9.cell (i := 2) rfl
        have x3 := hb9.cell (i := 3) rfl
        have x4 := hb9.cell (i := 4) rfl
        have x5 := hb9.cell (i := 5) rfl
        have x6 := hb9.cell (i := 6) rfl
        have x7 := hb9.cell (i := 7) rfl
        have hc9 := H5r.out
        have y0 := hc9.cell (i := 0) rfl
        have y1 := hc9.cell (i := 1) rfl
        have y2 := hc9.cell (i := 2) rfl
        clear hb9 hc9
        by_cases hlt : j < n0
        · obtain ⟨k, r, hx⟩ : ∃ k r, P.xs[j]? = some (k, r) := ⟨_, _, List.getElem?_eq_getElem (by have := HN0.out; omega)⟩
          have HX := Lib.hid hx
          have HCJ := Lib.hid (HCS.out j _ hx)
          have hjF : (j : Int) < (F : Int) := by omega
          have hjn : (j : Int) < (n0 : Int) := by omega
          have d1 : decide ((j : Int) < (n0 : Int)) = true := decide_eq_true hjn
          have d2 : decide ((j : Int) < (F : Int)) = true := decide_eq_true hjF
          have hwj : IntKind.u64.wrap (j : Int) = (j : Int) := by rw [IntKind.wrap_u64]; omega
          clear hx
          go_wp2_with fail
          refine (vpart_toT F h4 h6 g n l HL.out nid (4 + j) (4 + (j : Int)) (by omega) (by omega) (nadT F nid (j + 3)) (by have := putPstT (P := P) (l := l) (F := F) h1 h2 (j + 3) (by omega); rw [← this]; congr 1; omega) _ _ _ _ HVr.out HCJ.out).mono ?_; rintro e w6 ⟨rfl, hK6⟩
          replace HX6 := Lib.hid (hK6.blk HX6.out (fun h => h))
          have hx69 := HX6.out
          have x61 := hx69.cell (i := 1) rfl
          have hl69 := hx69.lt
          have hB6 := hK6.below (B := wr.heap.size) (by omega) (fun _ h => h.elim)
          replace HO := Lib.hid (own_below HO.out hB6 (Nat.le_refl _))
          replace HKr := Lib.hid (HKr.out.trans hK6 (fun _ _ h => h.elim))
          have hs6 : G.heap.size ≤ w6.heap.size := Nat.le_trans hsr hK6.size
          clear hx69 hK6 hB6 hsr x0 x1 x2 x3 x4 x5 x6 x7 y0 y1 y2
          go_wp2_with (at_builtin; go_must (refine wpList_app rfl (.tmp 55) (.tmp 61) rfl G.heap.size _ j (P.xs.take j) rfl ((HO.out.alloc _).alloc _) (some ⟨w6.heap.size + 1, 0, none⟩) 1 1 [(k, r)] rfl rfl (Rs.one_at _ k r _ (nblk_alloc _ _)) (by omega) (by rw [nblk_alloc, nblk_alloc]; omega) ?_))
          intro v7 w7 hO7 hB7
          obtain ⟨A7, c7, rfl, -, -, -⟩ := Rs.own hO7
          have hal6 := ((Below.refl G.heap.size w6).alloc hs6 (.cells #[.int .u64 (r : Int), .string k, .int .u64 0] 50)).alloc (by rw [nblk_alloc]; omega) (.cells #[.string k, .int .u64 (r : Int)] 70)
          have hB67 := hal6.trans hB7
          have hK67 := Below.kept hB67 (S := fun i => G.heap.size ≤ i) (fun i _ h => h)
          have hX7 := hK67.blk HX6.out (by omega)
          have HK7 := Lib.hid (HKr.out.trans hK67 (fun i hi h => by omega))
          have HX7 := Lib.hid (hX7.set 1 (.slice A7 (j + 1) c7))
          have z71 := hX7.frozen 1
          have x71 := hX7.cell (i := 1) rfl
          have HO7 := Lib.hid (show (w7.setCell ⟨r6, 1, none⟩ (.slice A7 (j + 1) c7)).ownsRow G.heap.size 70 2 (.slice A7 (j + 1) c7) (j + 1) (flat (P.xs.take (j + 1))) from by
            rw [List.take_add_one, HX.out]; exact ownsRow_setCell_below hO7 hlt6 _)
          have HKz := Lib.hid (HK7.out.setCell (a := ⟨r6, 1, none⟩) (fun _ => rfl) (.slice A7 (j + 1) c7))
          clear hO7 hB7 hal6 hB67 hK67 hX7 HX6 HO HKr HK7 x61
          go_wp2
          go_roundw
          case rel => exact ⟨j + 1, A7, c7, by omega, by go_num, HX7.out, HO7.out, HKz.out⟩
          case measure => simp [intOf]; omega
        · obtain rfl : j = n0 := by omega
          have d1 : decide ((j : Int) < (j : Int)) = false := decide_eq_false (by omega)
          have hwj : IntKind.u64.wrap (j : Int) = (j : Int) := by rw [IntKind.wrap_u64]; omega
          have hx69 := HX6.out
          have u0 := hx69.cell (i := 0) rfl
          have u1 := hx69.cell (i := 1) rfl
          have u2 := hx69.cell (i := 2) rfl
          have u3 := hx69.cell (i := 3) rfl
          have u4 := hx69.cell (i := 4) rfl
          have hn9 := HNr.out
          have v0 := hn9.cell (i := 0) rfl
          have v1 := hn9.cell (i := 1) rfl
          have v2 := hn9.cell (i := 2) rfl
          have v3 := hn9.cell (i := 3) rfl
          have v4 := hn9.cell (i := 4) rfl
          have z0 := hn9.frozen 0
          have z1 := hn9.frozen 1
          have z2 := hn9.frozen 2
          have z3 := hn9.frozen 3
          have z4 := hn9.frozen 4
          have hOa := HO.out
          rw [List.take_of_length_le (by rw [HN0.out]; exact Nat.le_refl _)] at hOa
          have hO5 := own_res hOa hltn (.int .i64 (P.lv : Int)) (.slice A j c) (.string P.hi) (.bool P.la) (.int .u64 (P.rt : Int))
          have hNz := ((((hn9.set 0 (.int .i64 (P.lv : Int))).set 1 (.slice A j c)).set 2 (.string P.hi)).set 3 (.bool P.la)).set 4 (.int .u64 (P.rt : Int))
          have hKz := ((((((HK.out.trans (HKr.out.mono (T := fun i => i = r6 ∨ i = r1) (fun i e => .inl e)) (fun i hi e => by have := HR6.out; have := HLT.out; have := HR0.out; have := HR.out; omega)).setNew (b := r1) (by have := HR0.out; have := HR.out; omega) 0 (.int .i64 (P.lv : Int))).setNew (b := r1) (by have := HR0.out; have := HR.out; omega) 1 (.slice A j c)).setNew (b := r1) (by have := HR0.out; have := HR.out; omega) 2 (.string P.hi)).setNew (b := r1) (by have := HR0.out; have := HR.out; omega) 3 (.bool P.la)).setNew (b := r1) (by have := HR0.out; have := HR.out; omega) 4 (.int .u64 (P.rt : Int)))
          have HO5 := Lib.hid hO5
          have HNz := Lib.hid hNz
          have HKz := Lib.hid hKz
          clear hx69 hn9 hOa hO5 hNz hKz HX6 HO HKr
          go_wp2
          have q0 := HNz.out.cell (i := 0) rfl
          have q1 := HNz.out.cell (i := 1) rfl
          have q2 := HNz.out.cell (i := 2) rfl
          have q3 := HNz.out.cell (i := 3) rfl
          have q4 := HNz.out.cell (i := 4) rfl
          refine bodyPost_ret (v := .agg #[.int .i64 (P.lv : Int), .slice A j c, .string P.hi, .bool P.la, .int .u64 (P.rt : Int)]) ?_ rfl ?_
          · simp [results, Try.results19, go_sem, q0, q1, q2, q3, q4]
          obtain ⟨A9, c9, he9, -, hR9, hA9⟩ := Rs.own HO5.out
          cases he9
          exact ⟨A, c, by rw [HN0.out], hR9, fun a ha => by have := hA9 a ha; have := HGW.out; omega, HKz.out⟩
  · go_simp
    have hr6 : W5.heap.size ≤ G.heap.size := HW.out.size
    replace HW := Lib.hid (HW.out.alloc (.cells #[.int .i64 0, .slice none 0 0, .string ⟨#[]⟩, .bool false, .int .u64 0] 31))
    replace HVG := Lib.hid (HVG.out.alloc (.cells #[.int .i64 0, .slice none 0 0, .string ⟨#[]⟩, .bool false, .int .u64 0] 31))
    have H6 := Lib.hid (Blk.new G [.int .i64 0, .slice none 0 0, .string ⟨#[]⟩, .bool false, .int .u64 0] 31)
    generalize G.heap.size = r6 at *
    have HR6 := Lib.hid hr6
    clear hr6
    generalize G.alloc (.cells #[.int .i64 0, .slice none 0 0, .string ⟨#[]⟩, .bool false, .int .u64 0] 31) = G at *
    refine hK.out _ _ ?_ (fun hHeld2 => ?_)
    · exact HW.out
    clear hK KK hHeld
    have hHeld := hHeld2
    clear hHeld2
    try simp only [Act.put, List.setIfInBounds_toArray, List.set_cons_zero, List.set_cons_succ]
    refine wpAnyH_ready (rs := [5]) (by kernel_rfl) (by simp) ?_
    refine AllReadyH.cons (o := ⟨some 23, _, _, _, _, _⟩) rfl (fun KK hK => ?_) (AllReadyH.nil)
    go_simp
    go_at_call 47
    refine (vpart_toT F h4 h6 g n l HL.out nid 2 2 rfl (by omega) (nadT F nid 1) (putPstT (P := P) (l := l) h1 h2 1 (by omega)) _ _ _ _ HVG.out HC2.out).mono ?_; rintro e G ⟨rfl, hB⟩
    replace HW := Lib.hid (HW.out.trans hB (fun _ _ h => h))
    replace HVG := Lib.hid (hB.blk HVG.out (fun h => h))
    try replace H6 := Lib.hid (hB.blk H6.out (fun h => h))
    clear hB
    refine hK.out _ _ ?_ (fun hHeld2 => ?_)
    · exact HW.out
    clear hK KK hHeld
    have hHeld := hHeld2
    clear hHeld2
    try simp only [Act.put, List.setIfInBounds_toArray, List.set_cons_zero, List.set_cons_succ]
    refine wpAnyH_take (i := 6) (oi := ⟨some 24, _, _, _, _, _⟩) (v := .string P.hi) rfl (by kernel_rfl) (by kernel_rfl) (by kernel_rfl) (fun _ _ _ h => h) (Or.inl ⟨by rfl, ?_⟩) hHeld ?_
    · (intro wq hSw; go_simp; try first | (with_reducible rfl) | (simp; omega) | (intros; omega) | simp [*])
    try simp only [Act.put, List.setIfInBounds_toArray, List.set_cons_zero, List.set_cons_succ]
    refine wpAnyH_ready (rs := [9]) (by kernel_rfl) (by simp) ?_
    refine AllReadyH.cons (o := ⟨some 27, _, _, _, _, _⟩) rfl (fun KK hK => ?_) (AllReadyH.nil)
    go_simp
    go_at_call 47
    refine (vpart_toT F h4 h6 g n l HL.out nid 2 2 rfl (by omega) (nadT F nid 1) (putPstT (P := P) (l := l) h1 h2 1 (by omega)) _ _ _ _ HVG.out HC2.out).mono ?_; rintro e G ⟨rfl, hB⟩
    replace HW := Lib.hid (HW.out.trans hB (fun _ _ h => h))
    replace HVG := Lib.hid (hB.blk HVG.out (fun h => h))
    try replace H6 := Lib.hid (hB.blk H6.out (fun h => h))
    clear hB
    refine hK.out _ _ ?_ (fun hHeld2 => ?_)
    · exact HW.out
    clear hK KK hHeld
    have hHeld := hHeld2
    clear hHeld2
    try simp only [Act.put, List.setIfInBounds_toArray, List.set_cons_zero, List.set_cons_succ]
    refine wpAnyH_take (i := 10) (oi := ⟨some 28, _, _, _, _, _⟩) (v := .int .u64 (m1 : Int)) rfl (by kernel_rfl) (by kernel_rfl) (by kernel_rfl) (fun _ _ _ h => h) (Or.inl ⟨by rfl, ?_⟩) hHeld ?_
    · (intro wq hSw; go_simp; try first | (with_reducible rfl) | (simp; omega) | (intros; omega) | simp [*])
    try simp only [Act.put, List.setIfInBounds_toArray, List.set_cons_zero, List.set_cons_succ]
    refine wpAnyH_take (i := 11) (oi := ⟨some 29, _, _, _, _, _⟩) (v := .bool P.la) rfl (by kernel_rfl) (by kernel_rfl) (by kernel_rfl) (fun _ _ _ h => h) (Or.inl ⟨by rfl, ?_⟩) hHeld ?_
    · (intro wq hSw; go_simp; try first | (with_reducible rfl) | (simp; omega) | (intros; omega) | simp [*])
    try simp only [Act.put, List.setIfInBounds_toArray, List.set_cons_zero, List.set_cons_succ]
    refine wpAnyH_ready (rs := [14]) (by kernel_rfl) (by simp) ?_
    refine AllReadyH.cons (o := ⟨some 32, _, _, _, _, _⟩) rfl (fun KK hK => ?_) (AllReadyH.nil)
    go_simp
    go_at_call 47
    refine (vpart_toT F h4 h6 g n l HL.out nid 3 3 rfl (by omega) (nadT F nid 2) (putPstT (P := P) (l := l) h1 h2 2 (by omega)) _ _ _ _ HVG.out HC3.out).mono ?_; rintro e G ⟨rfl, hB⟩
    replace HW := Lib.hid (HW.out.trans hB (fun _ _ h => h))
    replace HVG := Lib.hid (hB.blk HVG.out (fun h => h))
    try replace H6 := Lib.hid (hB.blk H6.out (fun h => h))
    clear hB
    refine hK.out _ _ ?_ (fun hHeld2 => ?_)
    · exact HW.out
    clear hK KK hHeld
    have hHeld := hHeld2
    clear hHeld2
    try simp only [Act.put, List.setIfInBounds_toArray, List.set_cons_zero, List.set_cons_succ]
    refine wpAnyH_take (i := 15) (oi := ⟨some 33, _, _, _, _, _⟩) (v := .int .u64 (P.rt : Int)) rfl (by kernel_rfl) (by kernel_rfl) (by kernel_rfl) (fun _ _ _ h => h) (Or.inl ⟨by rfl, ?_⟩) hHeld ?_
    · (intro wq hSw; go_simp; try first | (with_reducible rfl) | (simp; omega) | (intros; omega) | simp [*])
    try simp only [Act.put, List.setIfInBounds_toArray, List.set_cons_zero, List.set_cons_succ]
    refine wpAnyH_take (i := 16) (oi := ⟨some 34, _, _, _, _, _⟩) (v := ?_) rfl (by kernel_rfl) (by kernel_rfl) (by kernel_rfl) (fun _ _ _ h => h) (Or.inl ⟨by rfl, ?_⟩) hHeld ?_
    rotate_left
    · (intro wq hSw; go_simp; try with_reducible rfl)
    try simp only [Act.put, List.setIfInBounds_toArray, List.set_cons_zero, List.set_cons_succ]
    refine wpAnyH_ready (rs := [18]) (by kernel_rfl) (by simp) ?_
    refine AllReadyH.cons (o := ⟨none, _, _, _, _, _⟩) rfl (fun KK hK => ?_) (AllReadyH.nil)
    have hs9 := H6.out
    have s0 := hs9.cell (i := 0) rfl
    have s1 := hs9.cell (i := 1) rfl
    have s2 := hs9.cell (i := 2) rfl
    have s3 := hs9.cell (i := 3) rfl
    have s4 := hs9.cell (i := 4) rfl
    have z0 := hs9.frozen 0
    have z1 := hs9.frozen 1
    have z2 := hs9.frozen 2
    have z3 := hs9.frozen 3
    have z4 := hs9.frozen 4
    clear hs9
    go_simp
    replace HW := Lib.hid ((((((HW.out).setNew HR6.out 0 (.int .i64 (P.lv : Int))).setNew HR6.out 1 (.slice none 0 0)).setNew HR6.out 2 (.string P.hi)).setNew HR6.out 3 (.bool P.la)).setNew HR6.out 4 (.int .u64 (P.rt : Int)))
    replace HVG := Lib.hid ((((((HVG.out).other (a := ⟨r6, 0, none⟩) (by have := HG5.out; have := HR6.out; show g ≠ r6; omega) (.int .i64 (P.lv : Int))).other (a := ⟨r6, 1, none⟩) (by have := HG5.out; have := HR6.out; show g ≠ r6; omega) (.slice none 0 0)).other (a := ⟨r6, 2, none⟩) (by have := HG5.out; have := HR6.out; show g ≠ r6; omega) (.string P.hi)).other (a := ⟨r6, 3, none⟩) (by have := HG5.out; have := HR6.out; show g ≠ r6; omega) (.bool P.la)).other (a := ⟨r6, 4, none⟩) (by have := HG5.out; have := HR6.out; show g ≠ r6; omega) (.int .u64 (P.rt : Int)))
    replace H6 := Lib.hid ((((((H6.out).set 0 (.int .i64 (P.lv : Int))).set 1 (.slice none 0 0)).set 2 (.string P.hi)).set 3 (.bool P.la)).set 4 (.int .u64 (P.rt : Int)))
    clear s0 s1 s2 s3 s4 z0 z1 z2 z3 z4
    generalize (((((G).setCell ⟨r6, 0, none⟩ (.int .i64 (P.lv : Int))).setCell ⟨r6, 1, none⟩ (.slice none 0 0)).setCell ⟨r6, 2, none⟩ (.string P.hi)).setCell ⟨r6, 3, none⟩ (.bool P.la)).setCell ⟨r6, 4, none⟩ (.int .u64 (P.rt : Int)) = G at *
    refine hK.out _ _ ?_ (fun hHeld2 => ?_)
    · exact HW.out
    clear hK KK hHeld
    have hHeld := hHeld2
    clear hHeld2
    try simp only [Act.put, List.setIfInBounds_toArray, List.set_cons_zero, List.set_cons_succ]
    refine wpAnyH_done (by kernel_rfl) ?_ _
    clear hHeld
    go_wp2_with fail
    replace HB := Lib.hid (HW.out.blk HB.out (fun h => h))
    replace HN := Lib.hid (HW.out.blk HN.out (fun h => h))
    replace H5 := Lib.hid (HW.out.blk H5.out (fun h => h))
    replace HK := Lib.hid (HK.out.trans HW.out (fun _ _ h => h))
    have hlt5 := H5.out.lt
    have hlt6 := H6.out.lt
    have hltn := HN.out.lt
    have hltb := HB.out.lt
    have hltg := HVG.out.lt
    have HNE := Lib.hid (show r6 ≠ r0 ∧ r6 ≠ r1 ∧ r6 ≠ g ∧ r6 ≠ r5 by have h1 := HR6.out; have h2 := HLT.out; omega)
    have HGW := Lib.hid (show w.heap.size ≤ G.heap.size from HK.out.size)
    clear HW
    go_loopw [7] (fun i wr => ∃ (j : Nat) (A : Option Addr) (c : Nat), j ≤ n0 ∧ i = .int .i64 j ∧ Blk wr r6 31 [.int .i64 (P.lv : Int), .slice A j c, .string P.hi, .bool P.la, .int .u64 (P.rt : Int)] ∧ wr.ownsRow G.heap.size 70 2 (.slice A j c) j (flat (P.xs.take j)) ∧ Kept (fun i => i = r6) G wr) (fun i _ => n0 - (intOf i).toNat)
    case atStart => exact ⟨0, none, 0, Nat.zero_le _, rfl, H6.out, World.ownsRow_nil _ _ _ _, Kept.refl _ _⟩
    case round =>
      obtain ⟨j, A, c, hj, rfl, hX6, hO, hKr⟩ := hrel
      have HX6 := Lib.hid hX6
      have HO := Lib.hid hO
      have HKr := Lib.hid hKr
      have HBr := Lib.hid (hKr.blk HB.out (fun e => HNE.out.1 e.symm))
      have H5r := Lib.hid (hKr.blk H5.out (fun e => HNE.out.2.2.2 e.symm))
      have HVr := Lib.hid (hKr.blk HVG.out (fun e => HNE.out.2.2.1 e.symm))
      have HNr := Lib.hid (hKr.blk HN.out (fun e => HNE.out.2.1 e.symm))
      have hsr := hKr.size
      clear hX6 hO hKr
      have hb9 := HBr.out
      have x0 := hb9.cell (i := 0) rfl
      have x1 := hb9.cell (i := 1) rfl
      have x2 := hb9.cell (i := 2) rfl
      have x3 := hb9.cell (i := 3) rfl
      have x4 := hb9.cell (i := 4) rfl
      have x5 := hb9.cell (i := 5) rfl
      have x6 := hb9.cell (i := 6) rfl
      have x7 := hb9.cell (i := 7) rfl
      have hc9 := H5r.out
      have y0 := hc9.cell (i := 0) rfl
      have y1 := hc9.cell (i := 1) rfl
      have y2 := hc9.cell (i := 2) rfl
      clear hb9 hc9
      by_cases hlt : j < n0
      · obtain ⟨k, r, hx⟩ : ∃ k r, P.xs[j]? = some (k, r) := ⟨_, _, List.getElem?_eq_getElem (by have := HN0.out; omega)⟩
        have HX := Lib.hid hx
        have HCJ := Lib.hid (HCS.out j _ hx)
        have hjF : (j : Int) < (F : Int) := by omega
        have hjn : (j : Int) < (n0 : Int) := by omega
        have d1 : decide ((j : Int) < (n0 : Int)) = true := decide_eq_true hjn
        have d2 : decide ((j : Int) < (F : Int)) = true := decide_eq_true hjF
        have hwj : IntKind.u64.wrap (j : Int) = (j : Int) := by rw [IntKind.wrap_u64]; omega
        clear hx
        go_wp2_with fail
        refine (vpart_toT F h4 h6 g n l HL.out nid (4 + j) (4 + (j : Int)) (by omega) (by omega) (nadT F nid (j + 3)) (by have := putPstT (P := P) (l := l) (F := F) h1 h2 (j + 3) (by omega); rw [← this]; congr 1; omega) _ _ _ _ HVr.out HCJ.out).mono ?_; rintro e w6 ⟨rfl, hK6⟩
        replace HX6 := Lib.hid (hK6.blk HX6.out (fun h => h))
        have hx69 := HX6.out
        have x61 := hx69.cell (i := 1) rfl
        have hl69 := hx69.lt
        have hB6 := hK6.below (B := wr.heap.size) (by omega) (fun _ h => h.elim)
        replace HO := Lib.hid (own_below HO.out hB6 (Nat.le_refl _))
        replace HKr := Lib.hid (HKr.out.trans hK6 (fun _ _ h => h.elim))
        have hs6 : G.heap.size ≤ w6.heap.size := Nat.le_trans hsr hK6.size
        clear hx69 hK6 hB6 hsr x0 x1 x2 x3 x4 x5 x6 x7 y0 y1 y2
        go_wp2_with (at_builtin; go_must (refine wpList_app rfl (.tmp 55) (.tmp 61) rfl G.heap.size _ j (P.xs.take j) rfl ((HO.out.alloc _).alloc _) (some ⟨w6.heap.size + 1, 0, none⟩) 1 1 [(k, r)] rfl rfl (Rs.one_at _ k r _ (nblk_alloc _ _)) (by omega) (by rw [nblk_alloc, nblk_alloc]; omega) ?_))
        intro v7 w7 hO7 hB7
        obtain ⟨A7, c7, rfl, -, -, -⟩ := Rs.own hO7
        have hal6 := ((Below.refl G.heap.size w6).alloc hs6 (.cells #[.int .u64 (r : Int), .string k, .int .u64 0] 50)).alloc (by rw [nblk_alloc]; omega) (.cells #[.string k, .int .u64 (r : Int)] 70)
        have hB67 := hal6.trans hB7
        have hK67 := Below.kept hB67 (S := fun i => G.heap.size ≤ i) (fun i _ h => h)
        have hX7 := hK67.blk HX6.out (by omega)
        have HK7 := Lib.hid (HKr.out.trans hK67 (fun i hi h => by omega))
        have HX7 := Lib.hid (hX7.set 1 (.slice A7 (j + 1) c7))
        have z71 := hX7.frozen 1
        have x71 := hX7.cell (i := 1) rfl
        have HO7 := Lib.hid (show (w7.setCell ⟨r6, 1, none⟩ (.slice A7 (j + 1) c7)).ownsRow G.heap.size 70 2 (.slice A7 (j + 1) c7) (j + 1) (flat (P.xs.take (j + 1))) from by
          rw [List.take_add_one, HX.out]; exact ownsRow_setCell_below hO7 hlt6 _)
        have HKz := Lib.hid (HK7.out.setCell (a := ⟨r6, 1, none⟩) (fun _ => rfl) (.slice A7 (j + 1) c7))
        clear hO7 hB7 hal6 hB67 hK67 hX7 HX6 HO HKr HK7 x61
        go_wp2
        go_roundw
        case rel => exact ⟨j + 1, A7, c7, by omega, by go_num, HX7.out, HO7.out, HKz.out⟩
        case measure => simp [intOf]; omega
      · obtain rfl : j = n0 := by omega
        have d1 : decide ((j : Int) < (j : Int)) = false := decide_eq_false (by omega)
        have hwj : IntKind.u64.wrap (j : Int) = (j : Int) := by rw [IntKind.wrap_u64]; omega
        have hx69 := HX6.out
        have u0 := hx69.cell (i := 0) rfl
        have u1 := hx69.cell (i := 1) rfl
        have u2 := hx69.cell (i := 2) rfl
        have u3 := hx69.cell (i := 3) rfl
        have u4 := hx69.cell (i := 4) rfl
        have hn9 := HNr.out
        have v0 := hn9.cell (i := 0) rfl
        have v1 := hn9.cell (i := 1) rfl
        have v2 := hn9.cell (i := 2) rfl
        have v3 := hn9.cell (i := 3) rfl
        have v4 := hn9.cell (i := 4) rfl
        have z0 := hn9.frozen 0
        have z1 := hn9.frozen 1
        have z2 := hn9.frozen 2
        have z3 := hn9.frozen 3
        have z4 := hn9.frozen 4
        have hOa := HO.out
        rw [List.take_of_length_le (by rw [HN0.out]; exact Nat.le_refl _)] at hOa
        have hO5 := own_res hOa hltn (.int .i64 (P.lv : Int)) (.slice A j c) (.string P.hi) (.bool P.la) (.int .u64 (P.rt : Int))
        have hNz := ((((hn9.set 0 (.int .i64 (P.lv : Int))).set 1 (.slice A j c)).set 2 (.string P.hi)).set 3 (.bool P.la)).set 4 (.int .u64 (P.rt : Int))
        have hKz := ((((((HK.out.trans (HKr.out.mono (T := fun i => i = r6 ∨ i = r1) (fun i e => .inl e)) (fun i hi e => by have := HR6.out; have := HLT.out; have := HR0.out; have := HR.out; omega)).setNew (b := r1) (by have := HR0.out; have := HR.out; omega) 0 (.int .i64 (P.lv : Int))).setNew (b := r1) (by have := HR0.out; have := HR.out; omega) 1 (.slice A j c)).setNew (b := r1) (by have := HR0.out; have := HR.out; omega) 2 (.string P.hi)).setNew (b := r1) (by have := HR0.out; have := HR.out; omega) 3 (.bool P.la)).setNew (b := r1) (by have := HR0.out; have := HR.out; omega) 4 (.int .u64 (P.rt : Int)))
        have HO5 := Lib.hid hO5
        have HNz := Lib.hid hNz
        have HKz := Lib.hid hKz
        clear hx69 hn9 hOa hO5 hNz hKz HX6 HO HKr
        go_wp2
        have q0 := HNz.out.cell (i := 0) rfl
        have q1 := HNz.out.cell (i := 1) rfl
        have q2 := HNz.out.cell (i := 2) rfl
        have q3 := HNz.out.cell (i := 3) rfl
        have q4 := HNz.out.cell (i := 4) rfl
        refine bodyPost_ret (v := .agg #[.int .i64 (P.lv : Int), .slice A j c, .string P.hi, .bool P.la, .int .u64 (P.rt : Int)]) ?_ rfl ?_
        · simp [results, Try.results19, go_sem, q0, q1, q2, q3, q4]
        obtain ⟨A9, c9, he9, -, hR9, hA9⟩ := Rs.own HO5.out
        cases he9
        exact ⟨A, c, by rw [HN0.out], hR9, fun a ha => by have := hA9 a ha; have := HGW.out; omega, HKz.out⟩
end

end Go.Proofs.Ythpaolhpkmgelaa
