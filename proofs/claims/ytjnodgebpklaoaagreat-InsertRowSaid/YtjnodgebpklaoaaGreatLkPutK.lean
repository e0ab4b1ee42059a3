/-
 What the kit's Put writes. Condition: the kit's small configurations.
-/
import Derived.Test.YtjnodgebpklaoaaGreatLkRead
namespace Go.Proofs.YtjnodgebpklaoaaGreat
set_option maxHeartbeats 8000000
set_option maxRecDepth 100000
section
open Go.RowKit Go.Deep Plain
set_option linter.unusedVariables false

theorem pst_three (ad : Nat → Int) (P : Pg) : (pst ad P).take 3 = [(ad 0, pc P 0), (ad 1, pc P 1), (ad 2, pc P 2)] := by
 apply List.ext_getElem?
 intro i
 rw [List.getElem?_take]
 rcases (by omega : i = 0 ∨ i = 1 ∨ i = 2 ∨ 3 ≤ i) with rfl | rfl | rfl | h
 ·rw [if_pos (by omega), pst_at ad P 0 (by omega)]; rfl
 ·rw [if_pos (by omega), pst_at ad P 1 (by omega)]; rfl
 ·rw [if_pos (by omega), pst_at ad P 2 (by omega)]; rfl
 ·rw [if_neg (by omega), List.getElem?_eq_none (by simp; omega)]

theorem pst_step (ad : Nat → Int) (P : Pg) (j : Nat) (h : j < P.xs.length + 3) : (pst ad P).take (j + 1) = (pst ad P).take j ++ [(ad j, pc P j)] := by
 rw [List.take_add_one, pst_at ad P j h]; rfl

theorem pst_all (ad : Nat → Int) (P : Pg) : (pst ad P).take (P.xs.length + 3) = pst ad P := List.take_of_length_le (by rw [pst_length]; exact Nat.le_refl _)

theorem pc_slot {P : Pg} {j : Nat} {x : Sl} (h : P.xs[j]? = some x) : pc P (j + 3) = slCel x := by
 unfold pc; rw [if_neg (by omega), if_neg (by omega), if_neg (by omega), Nat.add_sub_cancel, h]


theorem ref_to (F nid part : Nat) (h4 : 4 ≤ F) (h6 : F ≤ 6) (hp : part < F + 4) (v : Int) (hv : nodeAt 100 (F : Int) 10 (nid : Int) (part : Int) = v) (w : World) :
  Calls Tryz.prog 16 #[.agg #[.int .i64 1, .int .i64 2, .int .i64 100, .int .i64 100, .int .i64 200, .int .i64 (F : Int), .int .u64 1000], .int .u64 (nid : Int), .int .i64 (part : Int)] w fun e w' => e = .returned (.int .i64 v) ∧ Kept (fun _ => False) w w' := by
 have := refNode_any 1 2 100 100 200 (F : Int) 1000 (nid : Int) (part : Int) (limF h4 h6) (by omega) (by omega) (by omega) w
 rwa [show nodeAt 100 (F : Int) (firstNode 1 2) (nid : Int) (part : Int) = v from hv] at this
theorem putPst {F nid : Nat} {l : List Cel} {P : Pg} (h1 : 1 ≤ nid) (h2 : nid ≤ 100) (r : Nat) (hr : r < F + 3) : nodeAt 100 (F : Int) 10 (nid : Int) ((r + 1 : Nat) : Int) = nad F nid r := by
 rw [nad_eq h1 h2 hr, nla_eq h1 h2]; unfold nodeAt; rw [if_pos (by omega)]; omega

theorem kput_true (F nid : Nat) (h4 : 4 ≤ F) (h6 : F ≤ 6) (hn1 : 1 ≤ nid) (hn2 : nid ≤ 100) (P : Pg) (hla : P.la = true) (hw : Wf P) (hlen : P.xs.length ≤ F) (hlv : P.lv < 9223372036854775808) (A : Option Addr) (c b g : Nat) (l : List Cel) (k : Nat) (w : World) (hm : Mem w b g l k) (hR : Rs w A c P.xs) (hA : ∀ a, A = some a → ¬ Own b g a.block) :
  Calls Tryz.prog 46 #[.agg #[.int .i64 1, .int .i64 2, .int .i64 100, .int .i64 100, .int .i64 200, .int .i64 (F : Int), .int .u64 1000], .pointer (some ⟨b, 0, none⟩), .int .u64 (nid : Int), .agg #[.int .i64 (P.lv : Int), .slice A P.xs.length c, .string P.hi, .bool P.la, .int .u64 (P.rt : Int)]] w fun e w' => e = .returned (.tuple #[]) ∧ Mem w' b g (app l (pst (nad F nid) P)) k ∧ Kept (Own b g) w w' := by
 obtain ⟨a0, ha0⟩ : ∃ x, nad F nid 0 = x := ⟨_, rfl⟩
 obtain ⟨a1, ha1⟩ : ∃ x, nad F nid 1 = x := ⟨_, rfl⟩
 obtain ⟨a2, ha2⟩ : ∃ x, nad F nid 2 = x := ⟨_, rfl⟩
 obtain ⟨n, hn⟩ : ∃ n, P.xs.length = n := ⟨_, rfl⟩
 rw [hn] at hlen
 have HA0 := Hd (show nodeAt 100 (F : Int) 10 (nid : Int) ((1 : Nat) : Int) = a0 by rw [← ha0]; exact putPst (l := []) (P := P) hn1 hn2 0 (by omega))
 have HA1 := Hd (show nodeAt 100 (F : Int) 10 (nid : Int) ((2 : Nat) : Int) = a1 by rw [← ha1]; exact putPst (l := []) (P := P) hn1 hn2 1 (by omega))
 have HA2 := Hd (show nodeAt 100 (F : Int) 10 (nid : Int) ((3 : Nat) : Int) = a2 by rw [← ha2]; exact putPst (l := []) (P := P) hn1 hn2 2 (by omega))
 have hthree : app l ((pst (nad F nid) P).take 3) = putAt (putAt (putAt l a0 ((n : Int), ⟨#[]⟩, (P.lv : Int))) a1 (0, P.hi, 1)) a2 ((P.rt : Int), ⟨#[]⟩, 0) := by
  rw [pst_three, ha0, ha1, ha2]
  have p0 : pc P 0 = ((n : Int), ⟨#[]⟩, (P.lv : Int)) := by rw [← hn]; rfl
  have p1 : pc P 1 = (0, P.hi, 1) := by show hiCel P.hi P.la = _; unfold hiCel; rw [hla]; rw [hw hla]; rfl
  have p2 : pc P 2 = ((P.rt : Int), ⟨#[]⟩, 0) := rfl
  rw [p0, p1, p2]; rfl
 have H3 := Hd hthree
 have HN := Hd hn
 have wn := wrap_u (n : Int) (by omega)
 have wl := wrap_u (P.lv : Int) (by omega)
 obtain ⟨P0, S0, B0, Z0⟩ := box_two w [.int .i64 1, .int .i64 2, .int .i64 100, .int .i64 100, .int .i64 200, .int .i64 (F : Int), .int .u64 1000] [.int .i64 (P.lv : Int), .slice A P.xs.length c, .string P.hi, .bool P.la, .int .u64 (P.rt : Int)] 25 38
 have HC := Hd P0
 have HP := Hd S0
 have HM := Hd ((hm.alloc (.cells #[.int .i64 1, .int .i64 2, .int .i64 100, .int .i64 100, .int .i64 200, .int .i64 (F : Int), .int .u64 1000] 25)).alloc (.cells #[.int .i64 (P.lv : Int), .slice A P.xs.length c, .string P.hi, .bool P.la, .int .u64 (P.rt : Int)] 38))
 have HR := Hd (hR.below B0 (Nat.le_refl _))
 have HK := Hd (B0.kept0.mono (T := Own b g) (fun _ h => h.elim))
 have hbw := hm.obj.lt
 have hgw := hm.row.lt
 have HO := Hd (show ¬ Own b g w.heap.size ∧ ¬ Own b g (w.heap.size + 1) by unfold Own; omega)
 have hAfar : ∀ a, A = some a → ¬ Own b g a.block := hA
 have HA := Hd hAfar
 clear ha0 ha1 ha2 hn hthree P0 S0 B0 Z0 hm hR hA hAfar hbw hgw
 rw [HN.out, hla] at HC HP HM HK HR
 rw [HN.out, hla]
 go_enter Tryz.func46, Tryz.ntmps46
 go_wp2_with fail
 generalize (w.alloc (.cells #[.int .i64 1, .int .i64 2, .int .i64 100, .int .i64 100, .int .i64 200, .int .i64 (F : Int), .int .u64 1000] 25)).alloc (.cells #[.int .i64 (P.lv : Int), .slice A n c, .string P.hi, .bool true, .int .u64 (P.rt : Int)] 38) = W at *
 generalize hb1 : w.heap.size + 1 = b1 at *
 generalize hb0 : w.heap.size = b0 at HC HO ⊢
 have HBB := Hd (And.intro hb0 hb1)
 clear hb0 hb1
 refine qtail 12 (fun w' => Kept (fun _ => False) W w' ∧ Blk w' b0 25 [.int .i64 1, .int .i64 2, .int .i64 100, .int .i64 100, .int .i64 200, .int .i64 (F : Int), .int .u64 1000] ∧ Blk w' b1 38 [.int .i64 (P.lv : Int), .slice A n c, .string P.hi, .bool true, .int .u64 (P.rt : Int)]) (by kernel_rfl) (by kernel_rfl) ⟨(Kept.refl _ _).drew, HC.out.of rfl, HP.out.of rfl⟩ ?_
 simp only [List.take_succ_cons, List.take_zero, List.drop_succ_cons, List.drop_zero]
 refine tkQ 10 ?_ (fun wq hSw => ?_) ?_
 rotate_left
 ·(go_simp; try with_reducible rfl)
 try simp only [aP,aA,aZ,aS]
 refine tkQ 11 ?_ (fun wq hSw => ?_) ?_
 rotate_left
 ·(have hb9 := hSw.2.1; have hc9 := hSw.2.2; obtain ⟨x0, x1, x2, x3, x4, x5, x6⟩ := hb9.c7; obtain ⟨y0, y1, y2, y3, y4⟩ := hc9.c5; clear hb9 hc9; go_simp; try with_reducible rfl)
 try simp only [aP,aA,aZ,aS]
 refine tkQ 12 ?_ (fun wq hSw => ?_) ?_
 rotate_left
 ·(go_simp; try with_reducible rfl)
 try simp only [aP,aA,aZ,aS]
 refine qcall (o := ⟨some 13, _, _, _, _, _⟩) (v := .int .i64 a0) (by rfl) (fun wq hSw => ?_) (fun wq hSw => Calls.mono (ref_to F nid 1 h4 h6 (by omega) a0 HA0.out _) ?_) ?_
 ·(go_simp; try with_reducible rfl)
 ·rintro e w9 ⟨rfl, hk⟩; exact ⟨rfl, hSw.1.trans hk (fun _ _ h => h), hk.blk hSw.2.1 (fun h => h), hk.blk hSw.2.2 (fun h => h)⟩
 try simp only [aP,aA,aZ,aS]
 refine tkQ 14 ?_ (fun wq hSw => ?_) ?_
 rotate_left
 ·(go_simp; try with_reducible rfl)
 try simp only [aP,aA,aZ,aS]
 refine tkQ 15 ?_ (fun wq hSw => ?_) ?_
 rotate_left
 ·(have hb9 := hSw.2.1; have hc9 := hSw.2.2; obtain ⟨x0, x1, x2, x3, x4, x5, x6⟩ := hb9.c7; obtain ⟨y0, y1, y2, y3, y4⟩ := hc9.c5; clear hb9 hc9; go_simp; try with_reducible rfl)
 try simp only [aP,aA,aZ,aS]
 refine tkQ 16 ?_ (fun wq hSw => ?_) ?_
 rotate_left
 ·(go_simp; try with_reducible rfl)
 try simp only [aP,aA,aZ,aS]
 refine tkQ 17 (.int .u64 (n : Int)) (fun wq hSw => ?_) ?_
 ·(go_simp; try first | (with_reducible rfl) | (simp; omega) | (intros; omega) | simp [*])
 try simp only [aP,aA,aZ,aS]
 refine tkQ 18 ?_ (fun wq hSw => ?_) ?_
 rotate_left
 ·(go_simp; try with_reducible rfl)
 try simp only [aP,aA,aZ,aS]
 refine tkQ 19 ?_ (fun wq hSw => ?_) ?_
 rotate_left
 ·(have hb9 := hSw.2.1; have hc9 := hSw.2.2; obtain ⟨x0, x1, x2, x3, x4, x5, x6⟩ := hb9.c7; obtain ⟨y0, y1, y2, y3, y4⟩ := hc9.c5; clear hb9 hc9; go_simp; try with_reducible rfl)
 try simp only [aP,aA,aZ,aS]
 refine tkQ 20 (.int .u64 (P.lv : Int)) (fun wq hSw => ?_) ?_
 ·(go_simp; try first | (with_reducible rfl) | (simp; omega) | (intros; omega) | simp [*])
 try simp only [aP,aA,aZ,aS]
 refine tkQ 21 ?_ (fun wq hSw => ?_) ?_
 rotate_left
 ·(go_simp; try with_reducible rfl)
 try simp only [aP,aA,aZ,aS]
 refine wpQuiet_nil ?_
 intro wz hHeld
 obtain ⟨hK5, hC5, hP5⟩ := hHeld
 have HM5 := Hd (HM.out.kept hK5 (fun h => h) (fun h => h))
 have HK5 := Hd (HK.out.trans hK5 (fun _ _ h => h.elim))
 have HR5 := Hd (HR.out.keptF hK5 (fun _ _ h => h))
 replace HC := Hd hC5
 replace HP := Hd hP5
 clear hK5 hC5 hP5 HM HK HR
 go_wp2_with fail
 refine (poke_any b g _ k a0 (n : Int) (P.lv : Int) ⟨#[]⟩ _ HM5.out).mono ?_; rintro e w1 ⟨rfl, hM6, hK6⟩
 have HM := Hd hM6
 have HK := Hd (HK5.out.trans hK6 (fun _ _ h => h))
 have HR := Hd (HR5.out.keptF hK6 HA.out)
 replace HC := Hd (hK6.blk HC.out HO.out.1)
 replace HP := Hd (hK6.blk HP.out HO.out.2)
 clear hM6 hK6 HM5 HK5 HR5
 have HM1L := Hd (show b < w1.heap.size ∧ g < w1.heap.size from ⟨HM.out.obj.lt, HM.out.row.lt⟩)
 obtain ⟨y0, y1, y2, y3, y4⟩ := HP.out.c5
 have hb1l : b1 < w1.heap.size := HP.out.lt
 go_upto_region 5 with fail
 clear y0 y1 y2 y3 y4 hb1l
 have HX := Hd (Blk.new w1 [.int .u64 0, .string P.hi, .int .u64 1] 54)
 have hal := (Kept.refl (fun _ => False) w1).alloc (.cells #[.int .u64 0, .string P.hi, .int .u64 1] 54)
 replace HM := Hd (HM.out.kept hal (fun h => h) (fun h => h))
 replace HK := Hd (HK.out.trans hal (fun _ _ h => h.elim))
 replace HR := Hd (HR.out.keptF hal (fun _ _ h => h))
 replace HC := Hd (hal.blk HC.out (fun h => h))
 replace HP := Hd (hal.blk HP.out (fun h => h))
 have HX1 := Hd (show ¬ Own b g w1.heap.size by have := HM1L.out; unfold Own; omega)
 clear hal
 generalize w1.alloc (.cells #[.int .u64 0, .string P.hi, .int .u64 1] 54) = W1 at *
 generalize w1.heap.size = bx at *
 refine qtail 5 (fun w' => Kept (fun _ => False) W1 w' ∧ Blk w' b0 25 [.int .i64 1, .int .i64 2, .int .i64 100, .int .i64 100, .int .i64 200, .int .i64 (F : Int), .int .u64 1000] ∧ Blk w' b1 38 [.int .i64 (P.lv : Int), .slice A n c, .string P.hi, .bool true, .int .u64 (P.rt : Int)] ∧ Blk w' bx 54 [.int .u64 0, .string P.hi, .int .u64 1]) (by kernel_rfl) (by kernel_rfl) ⟨(Kept.refl _ _).drew, HC.out.of rfl, HP.out.of rfl, HX.out.of rfl⟩ ?_
 simp only [List.take_succ_cons, List.take_zero, List.drop_succ_cons, List.drop_zero]
 refine tkQ 29 ?_ (fun wq hSw => ?_) ?_
 rotate_left
 ·(go_simp; try with_reducible rfl)
 try simp only [aP,aA,aZ,aS]
 refine tkQ 30 ?_ (fun wq hSw => ?_) ?_
 rotate_left
 ·(have hb9 := hSw.2.1; have hc9 := hSw.2.2.1; obtain ⟨x0, x1, x2, x3, x4, x5, x6⟩ := hb9.c7; obtain ⟨y0, y1, y2, y3, y4⟩ := hc9.c5; have hd9 := hSw.2.2.2; obtain ⟨v0, v1, v2⟩ := hd9.c3; clear hd9; clear hb9 hc9; go_simp; try with_reducible rfl)
 try simp only [aP,aA,aZ,aS]
 refine tkQ 31 ?_ (fun wq hSw => ?_) ?_
 rotate_left
 ·(go_simp; try with_reducible rfl)
 try simp only [aP,aA,aZ,aS]
 refine qcall (o := ⟨some 32, _, _, _, _, _⟩) (v := .int .i64 a1) (by rfl) (fun wq hSw => ?_) (fun wq hSw => Calls.mono (ref_to F nid 2 h4 h6 (by omega) a1 HA1.out _) ?_) ?_
 ·(go_simp; try with_reducible rfl)
 ·rintro e w9 ⟨rfl, hk⟩; exact ⟨rfl, hSw.1.trans hk (fun _ _ h => h), hk.blk hSw.2.1 (fun h => h), hk.blk hSw.2.2.1 (fun h => h), hk.blk hSw.2.2.2 (fun h => h)⟩
 try simp only [aP,aA,aZ,aS]
 refine tkQ 33 ?_ (fun wq hSw => ?_) ?_
 rotate_left
 ·(have hb9 := hSw.2.1; have hc9 := hSw.2.2.1; obtain ⟨x0, x1, x2, x3, x4, x5, x6⟩ := hb9.c7; obtain ⟨y0, y1, y2, y3, y4⟩ := hc9.c5; have hd9 := hSw.2.2.2; obtain ⟨v0, v1, v2⟩ := hd9.c3; clear hd9; clear hb9 hc9; go_simp; try with_reducible rfl)
 try simp only [aP,aA,aZ,aS]
 refine wpQuiet_nil ?_
 intro wz hHeld
 obtain ⟨hK5, hC5, hP5, -⟩ := hHeld
 have HM5 := Hd (HM.out.kept hK5 (fun h => h) (fun h => h))
 have HK5 := Hd (HK.out.trans hK5 (fun _ _ h => h.elim))
 have HR5 := Hd (HR.out.keptF hK5 (fun _ _ h => h))
 clear HX HX1 HM1L
 replace HC := Hd hC5
 replace HP := Hd hP5
 clear hK5 hC5 hP5 HM HK HR
 go_wp2_with fail
 refine (poke_any b g _ k a1 0 1 P.hi _ HM5.out).mono ?_; rintro e w2 ⟨rfl, hM6, hK6⟩
 have HM := Hd hM6
 have HK := Hd (HK5.out.trans hK6 (fun _ _ h => h))
 have HR := Hd (HR5.out.keptF hK6 HA.out)
 replace HC := Hd (hK6.blk HC.out HO.out.1)
 replace HP := Hd (hK6.blk HP.out HO.out.2)
 clear hM6 hK6 HM5 HK5 HR5
 go_upto_region 6 with fail
 refine qtail 7 (fun w' => Kept (fun _ => False) w2 w' ∧ Blk w' b0 25 [.int .i64 1, .int .i64 2, .int .i64 100, .int .i64 100, .int .i64 200, .int .i64 (F : Int), .int .u64 1000] ∧ Blk w' b1 38 [.int .i64 (P.lv : Int), .slice A n c, .string P.hi, .bool true, .int .u64 (P.rt : Int)]) (by kernel_rfl) (by kernel_rfl) ⟨(Kept.refl _ _).drew, HC.out.of rfl, HP.out.of rfl⟩ ?_
 simp only [List.take_succ_cons, List.take_zero, List.drop_succ_cons, List.drop_zero]
 refine tkQ 35 ?_ (fun wq hSw => ?_) ?_
 rotate_left
 ·(go_simp; try with_reducible rfl)
 try simp only [aP,aA,aZ,aS]
 refine tkQ 36 ?_ (fun wq hSw => ?_) ?_
 rotate_left
 ·(have hb9 := hSw.2.1; have hc9 := hSw.2.2; obtain ⟨x0, x1, x2, x3, x4, x5, x6⟩ := hb9.c7; obtain ⟨y0, y1, y2, y3, y4⟩ := hc9.c5; clear hb9 hc9; go_simp; try with_reducible rfl)
 try simp only [aP,aA,aZ,aS]
 refine tkQ 37 ?_ (fun wq hSw => ?_) ?_
 rotate_left
 ·(go_simp; try with_reducible rfl)
 try simp only [aP,aA,aZ,aS]
 refine qcall (o := ⟨some 38, _, _, _, _, _⟩) (v := .int .i64 a2) (by rfl) (fun wq hSw => ?_) (fun wq hSw => Calls.mono (ref_to F nid 3 h4 h6 (by omega) a2 HA2.out _) ?_) ?_
 ·(go_simp; try with_reducible rfl)
 ·rintro e w9 ⟨rfl, hk⟩; exact ⟨rfl, hSw.1.trans hk (fun _ _ h => h), hk.blk hSw.2.1 (fun h => h), hk.blk hSw.2.2 (fun h => h)⟩
 try simp only [aP,aA,aZ,aS]
 refine tkQ 39 ?_ (fun wq hSw => ?_) ?_
 rotate_left
 ·(go_simp; try with_reducible rfl)
 try simp only [aP,aA,aZ,aS]
 refine tkQ 40 ?_ (fun wq hSw => ?_) ?_
 rotate_left
 ·(have hb9 := hSw.2.1; have hc9 := hSw.2.2; obtain ⟨x0, x1, x2, x3, x4, x5, x6⟩ := hb9.c7; obtain ⟨y0, y1, y2, y3, y4⟩ := hc9.c5; clear hb9 hc9; go_simp; try with_reducible rfl)
 try simp only [aP,aA,aZ,aS]
 refine tkQ 41 ?_ (fun wq hSw => ?_) ?_
 rotate_left
 ·(go_simp; try with_reducible rfl)
 try simp only [aP,aA,aZ,aS]
 refine wpQuiet_nil ?_
 intro wz hHeld
 obtain ⟨hK5, hC5, hP5⟩ := hHeld
 have HM5 := Hd (HM.out.kept hK5 (fun h => h) (fun h => h))
 have HK5 := Hd (HK.out.trans hK5 (fun _ _ h => h.elim))
 have HR5 := Hd (HR.out.keptF hK5 (fun _ _ h => h))
 replace HC := Hd hC5
 replace HP := Hd hP5
 clear hK5 hC5 hP5 HM HK HR
 go_wp2_with fail
 refine (poke_any b g _ k a2 (P.rt : Int) 0 ⟨#[]⟩ _ HM5.out).mono ?_; rintro e w3 ⟨rfl, hM6, hK6⟩
 have HM := Hd hM6
 have HK := Hd (HK5.out.trans hK6 (fun _ _ h => h))
 have HR := Hd (HR5.out.keptF hK6 HA.out)
 replace HC := Hd (hK6.blk HC.out HO.out.1)
 replace HP := Hd (hK6.blk HP.out HO.out.2)
 clear hM6 hK6 HM5 HK5 HR5
 rw [← H3.out] at HM
 clear H3 HA0 HA1 HA2
 go_wp2_with fail
 go_loopw [9] (fun i wr => ∃ j : Nat, j ≤ n ∧ i = .int .i64 j ∧ Mem wr b g (app l ((pst (nad F nid) P).take (j + 3))) k ∧ Kept (Own b g) w wr ∧ Rs wr A c P.xs ∧ Blk wr b0 25 [.int .i64 1, .int .i64 2, .int .i64 100, .int .i64 100, .int .i64 200, .int .i64 (F : Int), .int .u64 1000] ∧ Blk wr b1 38 [.int .i64 (P.lv : Int), .slice A n c, .string P.hi, .bool true, .int .u64 (P.rt : Int)]) (fun i _ => n - (intOf i).toNat)
 case atStart => exact ⟨0, by omega, rfl, HM.out, HK.out, HR.out, HC.out, HP.out⟩
 case round =>
  obtain ⟨j, hj, rfl, hM, hK, hR, hC, hP⟩ := hrel
  rename World => wr
  clear HM HK HR HC HP
  have HM := Hd hM
  have HK := Hd hK
  have HR := Hd hR
  have HC := Hd hC
  have HP := Hd hP
  have y1 := HP.out.k 1 rfl
  clear hM hK hR hC hP
  by_cases hlt : j < n
  ·obtain ⟨x, hx⟩ : ∃ x, P.xs[j]? = some x := ⟨_, List.getElem?_eq_getElem (by have := HN.out; omega)⟩
   obtain ⟨gx, off, hAx, hgx, hcell⟩ := HR.out.at (by have := HN.out; omega)
   obtain ⟨cx0, cx1⟩ := hcell j x hx
   have hjn : (j : Int) < (n : Int) := by omega
   have wj := wrap_i (4 + (j : Int)) (by omega)
   obtain ⟨aj, haj⟩ : ∃ y, nad F nid (j + 3) = y := ⟨_, rfl⟩
   have HAJ := Hd (show nodeAt 100 (F : Int) 10 (nid : Int) ((4 + j : Nat) : Int) = aj by rw [← haj, show 4 + j = (j + 3) + 1 by omega]; exact putPst (l := []) (P := P) hn1 hn2 (j + 3) (by omega))
   have hnext : app l ((pst (nad F nid) P).take (j + 1 + 3)) = putAt (app l ((pst (nad F nid) P).take (j + 3))) aj ((x.2 : Int), x.1, 0) := by
    rw [show j + 1 + 3 = (j + 3) + 1 by omega, pst_step _ _ _ (by have := HN.out; omega), app_snoc, haj, pc_slot hx]; rfl
   have HNX := Hd hnext
   have hxb : ¬ Own b g gx := HA.out _ hAx
   have HXB := Hd hxb
   have HAE := Hd hAx
   have HP2 := HP
   rw [hAx] at HP2
   clear hcell hx haj hnext hxb hAx
   go_upto_region 10 with fail
   clear y1
   refine qtail 19 (fun w' => Kept (fun _ => False) wr w' ∧ Blk w' b0 25 [.int .i64 1, .int .i64 2, .int .i64 100, .int .i64 100, .int .i64 200, .int .i64 (F : Int), .int .u64 1000] ∧ Blk w' b1 38 [.int .i64 (P.lv : Int), .slice (some ⟨gx, off, none⟩) n c, .string P.hi, .bool true, .int .u64 (P.rt : Int)] ∧ w'.cell? ⟨gx, off + j * 2, none⟩ = some (.string x.1) ∧ w'.cell? ⟨gx, off + j * 2 + 1, none⟩ = some (.int .u64 (x.2 : Int))) (by kernel_rfl) (by kernel_rfl) ⟨(Kept.refl _ _).drew, HC.out.of rfl, HP2.out.of rfl, cx0, cx1⟩ ?_
   simp only [List.take_succ_cons, List.take_zero, List.drop_succ_cons, List.drop_zero]
   refine tkQ 50 ?_ (fun wq hSw => ?_) ?_
   rotate_left
   ·(go_simp; try with_reducible rfl)
   try simp only [aP,aA,aZ,aS]
   refine tkQ 51 ?_ (fun wq hSw => ?_) ?_
   rotate_left
   ·(have hb9 := hSw.2.1; have hc9 := hSw.2.2.1; have q0 := hSw.2.2.2.1; have q1 := hSw.2.2.2.2; obtain ⟨x0, x1, x2, x3, x4, x5, x6⟩ := hb9.c7; have y1 := hc9.k 1 rfl; clear hb9 hc9; go_simp; try with_reducible rfl)
   try simp only [aP,aA,aZ,aS]
   refine tkQ 52 ?_ (fun wq hSw => ?_) ?_
   rotate_left
   ·(go_simp; try with_reducible rfl)
   try simp only [aP,aA,aZ,aS]
   refine tkQ 53 ?_ (fun wq hSw => ?_) ?_
   rotate_left
   ·(go_simp; try with_reducible rfl)
   try simp only [aP,aA,aZ,aS]
   refine tkQ 54 (.int .i64 ((4 + j : Nat) : Int)) (fun wq hSw => ?_) ?_
   ·(go_simp; try first | (with_reducible rfl) | (simp; omega) | (intros; omega) | simp [*])
   try simp only [aP,aA,aZ,aS]
   refine qcall (o := ⟨some 55, _, _, _, _, _⟩) (v := .int .i64 aj) (by rfl) (fun wq hSw => ?_) (fun wq hSw => Calls.mono (ref_to F nid (4 + j) h4 h6 (by omega) aj HAJ.out _) ?_) ?_
   ·(go_simp; try with_reducible rfl)
   ·rintro e w9 ⟨rfl, hk⟩; exact ⟨rfl, hSw.1.trans hk (fun _ _ h => h), hk.blk hSw.2.1 (fun h => h), hk.blk hSw.2.2.1 (fun h => h), (hk.cell (p := ⟨gx, off + j * 2, none⟩) (Nat.lt_of_lt_of_le hgx hSw.1.size) (fun h => h)).trans hSw.2.2.2.1, (hk.cell (p := ⟨gx, off + j * 2 + 1, none⟩) (Nat.lt_of_lt_of_le hgx hSw.1.size) (fun h => h)).trans hSw.2.2.2.2⟩
   try simp only [aP,aA,aZ,aS]
   refine tkQ 56 ?_ (fun wq hSw => ?_) ?_
   rotate_left
   ·(go_simp; try with_reducible rfl)
   try simp only [aP,aA,aZ,aS]
   refine tkQ 57 (.slice (some ⟨gx, off, none⟩) n c) (fun wq hSw => ?_) ?_
   ·(have hb9 := hSw.2.1; have hc9 := hSw.2.2.1; have q0 := hSw.2.2.2.1; have q1 := hSw.2.2.2.2; obtain ⟨x0, x1, x2, x3, x4, x5, x6⟩ := hb9.c7; have y1 := hc9.k 1 rfl; clear hb9 hc9; go_simp; try first | (with_reducible rfl) | (simp; omega) | (intros; omega) | simp [*])
   try simp only [aP,aA,aZ,aS]
   refine tkQ 58 ?_ (fun wq hSw => ?_) ?_
   rotate_left
   ·(go_simp; try with_reducible rfl)
   try simp only [aP,aA,aZ,aS]
   refine tkQ 59 (.pointer (some ⟨gx, off + j * 2, none⟩)) (fun wq hSw => ?_) ?_
   ·(go_simp; try first | (with_reducible rfl) | (simp; omega) | (intros; omega) | simp [*])
   try simp only [aP,aA,aZ,aS]
   refine tkQ 60 ?_ (fun wq hSw => ?_) ?_
   rotate_left
   ·(go_simp; try with_reducible rfl)
   try simp only [aP,aA,aZ,aS]
   refine tkQ 61 (.string x.1) (fun wq hSw => ?_) ?_
   ·(have hb9 := hSw.2.1; have hc9 := hSw.2.2.1; have q0 := hSw.2.2.2.1; have q1 := hSw.2.2.2.2; obtain ⟨x0, x1, x2, x3, x4, x5, x6⟩ := hb9.c7; have y1 := hc9.k 1 rfl; clear hb9 hc9; go_simp; try first | (with_reducible rfl) | (simp; omega) | (intros; omega) | simp [*])
   try simp only [aP,aA,aZ,aS]
   refine tkQ 62 ?_ (fun wq hSw => ?_) ?_
   rotate_left
   ·(go_simp; try with_reducible rfl)
   try simp only [aP,aA,aZ,aS]
   refine tkQ 63 (.slice (some ⟨gx, off, none⟩) n c) (fun wq hSw => ?_) ?_
   ·(have hb9 := hSw.2.1; have hc9 := hSw.2.2.1; have q0 := hSw.2.2.2.1; have q1 := hSw.2.2.2.2; obtain ⟨x0, x1, x2, x3, x4, x5, x6⟩ := hb9.c7; have y1 := hc9.k 1 rfl; clear hb9 hc9; go_simp; try first | (with_reducible rfl) | (simp; omega) | (intros; omega) | simp [*])
   try simp only [aP,aA,aZ,aS]
   refine tkQ 64 ?_ (fun wq hSw => ?_) ?_
   rotate_left
   ·(go_simp; try with_reducible rfl)
   try simp only [aP,aA,aZ,aS]
   refine tkQ 65 (.pointer (some ⟨gx, off + j * 2, none⟩)) (fun wq hSw => ?_) ?_
   ·(go_simp; try first | (with_reducible rfl) | (simp; omega) | (intros; omega) | simp [*])
   try simp only [aP,aA,aZ,aS]
   refine tkQ 66 ?_ (fun wq hSw => ?_) ?_
   rotate_left
   ·(go_simp; try with_reducible rfl)
   try simp only [aP,aA,aZ,aS]
   refine tkQ 67 (.int .u64 (x.2 : Int)) (fun wq hSw => ?_) ?_
   ·(have hb9 := hSw.2.1; have hc9 := hSw.2.2.1; have q0 := hSw.2.2.2.1; have q1 := hSw.2.2.2.2; obtain ⟨x0, x1, x2, x3, x4, x5, x6⟩ := hb9.c7; have y1 := hc9.k 1 rfl; clear hb9 hc9; go_simp; try first | (with_reducible rfl) | (simp; omega) | (intros; omega) | simp [*])
   try simp only [aP,aA,aZ,aS]
   refine tkQ 68 ?_ (fun wq hSw => ?_) ?_
   rotate_left
   ·(go_simp; try with_reducible rfl)
   try simp only [aP,aA,aZ,aS]
   refine wpQuiet_nil ?_
   intro wz hHeld
   obtain ⟨hK5, hC5, -, -, -⟩ := hHeld
   have HM5 := Hd (HM.out.kept hK5 (fun h => h) (fun h => h))
   have HK5 := Hd (HK.out.trans hK5 (fun _ _ h => h.elim))
   have HR5 := Hd (HR.out.keptF hK5 (fun _ _ h => h))
   have HP5 := Hd (hK5.blk HP.out (fun h => h))
   have HC5 := Hd hC5
   clear hK5 hC5 HM HK HR HC HP HP2 cx0 cx1
   go_wp2_with fail
   refine (poke_any b g _ k aj (x.2 : Int) 0 x.1 _ HM5.out).mono ?_; rintro e w6 ⟨rfl, hM6, hK6⟩
   have HM := Hd hM6
   have HK := Hd (HK5.out.trans hK6 (fun _ _ h => h))
   have HR := Hd (HR5.out.keptF hK6 HA.out)
   have HC := Hd (hK6.blk HC5.out HO.out.1)
   have HP := Hd (hK6.blk HP5.out HO.out.2)
   rw [← HNX.out] at HM
   clear hM6 hK6 HM5 HK5 HR5 HC5 HP5
   go_wp2
   go_roundw
   case rel => exact ⟨j + 1, by omega, by go_num, HM.out, HK.out, HR.out, HC.out, HP.out⟩
   case measure => simp [intOf]; omega
  ·obtain rfl : j = n := by omega
   go_wp2
   go_end0
   have hM := HM.out
   rw [← HN.out, pst_all] at hM
   exact ⟨rfl, hM, HK.out⟩

theorem kput_false (F nid : Nat) (h4 : 4 ≤ F) (h6 : F ≤ 6) (hn1 : 1 ≤ nid) (hn2 : nid ≤ 100) (P : Pg) (hla : P.la = false) (hw : Wf P) (hlen : P.xs.length ≤ F) (hlv : P.lv < 9223372036854775808) (A : Option Addr) (c b g : Nat) (l : List Cel) (k : Nat) (w : World) (hm : Mem w b g l k) (hR : Rs w A c P.xs) (hA : ∀ a, A = some a → ¬ Own b g a.block) :
  Calls Tryz.prog 46 #[.agg #[.int .i64 1, .int .i64 2, .int .i64 100, .int .i64 100, .int .i64 200, .int .i64 (F : Int), .int .u64 1000], .pointer (some ⟨b, 0, none⟩), .int .u64 (nid : Int), .agg #[.int .i64 (P.lv : Int), .slice A P.xs.length c, .string P.hi, .bool P.la, .int .u64 (P.rt : Int)]] w fun e w' => e = .returned (.tuple #[]) ∧ Mem w' b g (app l (pst (nad F nid) P)) k ∧ Kept (Own b g) w w' := by
 obtain ⟨a0, ha0⟩ : ∃ x, nad F nid 0 = x := ⟨_, rfl⟩
 obtain ⟨a1, ha1⟩ : ∃ x, nad F nid 1 = x := ⟨_, rfl⟩
 obtain ⟨a2, ha2⟩ : ∃ x, nad F nid 2 = x := ⟨_, rfl⟩
 obtain ⟨n, hn⟩ : ∃ n, P.xs.length = n := ⟨_, rfl⟩
 rw [hn] at hlen
 have HA0 := Hd (show nodeAt 100 (F : Int) 10 (nid : Int) ((1 : Nat) : Int) = a0 by rw [← ha0]; exact putPst (l := []) (P := P) hn1 hn2 0 (by omega))
 have HA1 := Hd (show nodeAt 100 (F : Int) 10 (nid : Int) ((2 : Nat) : Int) = a1 by rw [← ha1]; exact putPst (l := []) (P := P) hn1 hn2 1 (by omega))
 have HA2 := Hd (show nodeAt 100 (F : Int) 10 (nid : Int) ((3 : Nat) : Int) = a2 by rw [← ha2]; exact putPst (l := []) (P := P) hn1 hn2 2 (by omega))
 have hthree : app l ((pst (nad F nid) P).take 3) = putAt (putAt (putAt l a0 ((n : Int), ⟨#[]⟩, (P.lv : Int))) a1 (0, P.hi, 0)) a2 ((P.rt : Int), ⟨#[]⟩, 0) := by
  rw [pst_three, ha0, ha1, ha2]
  have p0 : pc P 0 = ((n : Int), ⟨#[]⟩, (P.lv : Int)) := by rw [← hn]; rfl
  have p1 : pc P 1 = (0, P.hi, 0) := by show hiCel P.hi P.la = _; unfold hiCel; rw [hla]; rfl
  have p2 : pc P 2 = ((P.rt : Int), ⟨#[]⟩, 0) := rfl
  rw [p0, p1, p2]; rfl
 have H3 := Hd hthree
 have HN := Hd hn
 have wn := wrap_u (n : Int) (by omega)
 have wl := wrap_u (P.lv : Int) (by omega)
 obtain ⟨P0, S0, B0, Z0⟩ := box_two w [.int .i64 1, .int .i64 2, .int .i64 100, .int .i64 100, .int .i64 200, .int .i64 (F : Int), .int .u64 1000] [.int .i64 (P.lv : Int), .slice A P.xs.length c, .string P.hi, .bool P.la, .int .u64 (P.rt : Int)] 25 38
 have HC := Hd P0
 have HP := Hd S0
 have HM := Hd ((hm.alloc (.cells #[.int .i64 1, .int .i64 2, .int .i64 100, .int .i64 100, .int .i64 200, .int .i64 (F : Int), .int .u64 1000] 25)).alloc (.cells #[.int .i64 (P.lv : Int), .slice A P.xs.length c, .string P.hi, .bool P.la, .int .u64 (P.rt : Int)] 38))
 have HR := Hd (hR.below B0 (Nat.le_refl _))
 have HK := Hd (B0.kept0.mono (T := Own b g) (fun _ h => h.elim))
 have hbw := hm.obj.lt
 have hgw := hm.row.lt
 have HO := Hd (show ¬ Own b g w.heap.size ∧ ¬ Own b g (w.heap.size + 1) by unfold Own; omega)
 have hAfar : ∀ a, A = some a → ¬ Own b g a.block := hA
 have HA := Hd hAfar
 clear ha0 ha1 ha2 hn hthree P0 S0 B0 Z0 hm hR hA hAfar hbw hgw
 rw [HN.out, hla] at HC HP HM HK HR
 rw [HN.out, hla]
 go_enter Tryz.func46, Tryz.ntmps46
 go_wp2_with fail
 generalize (w.alloc (.cells #[.int .i64 1, .int .i64 2, .int .i64 100, .int .i64 100, .int .i64 200, .int .i64 (F : Int), .int .u64 1000] 25)).alloc (.cells #[.int .i64 (P.lv : Int), .slice A n c, .string P.hi, .bool false, .int .u64 (P.rt : Int)] 38) = W at *
 generalize hb1 : w.heap.size + 1 = b1 at *
 generalize hb0 : w.heap.size = b0 at HC HO ⊢
 have HBB := Hd (And.intro hb0 hb1)
 clear hb0 hb1
 refine qtail 12 (fun w' => Kept (fun _ => False) W w' ∧ Blk w' b0 25 [.int .i64 1, .int .i64 2, .int .i64 100, .int .i64 100, .int .i64 200, .int .i64 (F : Int), .int .u64 1000] ∧ Blk w' b1 38 [.int .i64 (P.lv : Int), .slice A n c, .string P.hi, .bool false, .int .u64 (P.rt : Int)]) (by kernel_rfl) (by kernel_rfl) ⟨(Kept.refl _ _).drew, HC.out.of rfl, HP.out.of rfl⟩ ?_
 simp only [List.take_succ_cons, List.take_zero, List.drop_succ_cons, List.drop_zero]
 refine tkQ 10 ?_ (fun wq hSw => ?_) ?_
 rotate_left
 ·(go_simp; try with_reducible rfl)
 try simp only [aP,aA,aZ,aS]
 refine tkQ 11 ?_ (fun wq hSw => ?_) ?_
 rotate_left
 ·(have hb9 := hSw.2.1; have hc9 := hSw.2.2; obtain ⟨x0, x1, x2, x3, x4, x5, x6⟩ := hb9.c7; obtain ⟨y0, y1, y2, y3, y4⟩ := hc9.c5; clear hb9 hc9; go_simp; try with_reducible rfl)
 try simp only [aP,aA,aZ,aS]
 refine tkQ 12 ?_ (fun wq hSw => ?_) ?_
 rotate_left
 ·(go_simp; try with_reducible rfl)
 try simp only [aP,aA,aZ,aS]
 refine qcall (o := ⟨some 13, _, _, _, _, _⟩) (v := .int .i64 a0) (by rfl) (fun wq hSw => ?_) (fun wq hSw => Calls.mono (ref_to F nid 1 h4 h6 (by omega) a0 HA0.out _) ?_) ?_
 ·(go_simp; try with_reducible rfl)
 ·rintro e w9 ⟨rfl, hk⟩; exact ⟨rfl, hSw.1.trans hk (fun _ _ h => h), hk.blk hSw.2.1 (fun h => h), hk.blk hSw.2.2 (fun h => h)⟩
 try simp only [aP,aA,aZ,aS]
 refine tkQ 14 ?_ (fun wq hSw => ?_) ?_
 rotate_left
 ·(go_simp; try with_reducible rfl)
 try simp only [aP,aA,aZ,aS]
 refine tkQ 15 ?_ (fun wq hSw => ?_) ?_
 rotate_left
 ·(have hb9 := hSw.2.1; have hc9 := hSw.2.2; obtain ⟨x0, x1, x2, x3, x4, x5, x6⟩ := hb9.c7; obtain ⟨y0, y1, y2, y3, y4⟩ := hc9.c5; clear hb9 hc9; go_simp; try with_reducible rfl)
 try simp only [aP,aA,aZ,aS]
 refine tkQ 16 ?_ (fun wq hSw => ?_) ?_
 rotate_left
 ·(go_simp; try with_reducible rfl)
 try simp only [aP,aA,aZ,aS]
 refine tkQ 17 (.int .u64 (n : Int)) (fun wq hSw => ?_) ?_
 ·(go_simp; try first | (with_reducible rfl) | (simp; omega) | (intros; omega) | simp [*])
 try simp only [aP,aA,aZ,aS]
 refine tkQ 18 ?_ (fun wq hSw => ?_) ?_
 rotate_left
 ·(go_simp; try with_reducible rfl)
 try simp only [aP,aA,aZ,aS]
 refine tkQ 19 ?_ (fun wq hSw => ?_) ?_
 rotate_left
 ·(have hb9 := hSw.2.1; have hc9 := hSw.2.2; obtain ⟨x0, x1, x2, x3, x4, x5, x6⟩ := hb9.c7; obtain ⟨y0, y1, y2, y3, y4⟩ := hc9.c5; clear hb9 hc9; go_simp; try with_reducible rfl)
 try simp only [aP,aA,aZ,aS]
 refine tkQ 20 (.int .u64 (P.lv : Int)) (fun wq hSw => ?_) ?_
 ·(go_simp; try first | (with_reducible rfl) | (simp; omega) | (intros; omega) | simp [*])
 try simp only [aP,aA,aZ,aS]
 refine tkQ 21 ?_ (fun wq hSw => ?_) ?_
 rotate_left
 ·(go_simp; try with_reducible rfl)
 try simp only [aP,aA,aZ,aS]
 refine wpQuiet_nil ?_
 intro wz hHeld
 obtain ⟨hK5, hC5, hP5⟩ := hHeld
 have HM5 := Hd (HM.out.kept hK5 (fun h => h) (fun h => h))
 have HK5 := Hd (HK.out.trans hK5 (fun _ _ h => h.elim))
 have HR5 := Hd (HR.out.keptF hK5 (fun _ _ h => h))
 replace HC := Hd hC5
 replace HP := Hd hP5
 clear hK5 hC5 hP5 HM HK HR
 go_wp2_with fail
 refine (poke_any b g _ k a0 (n : Int) (P.lv : Int) ⟨#[]⟩ _ HM5.out).mono ?_; rintro e w1 ⟨rfl, hM6, hK6⟩
 have HM := Hd hM6
 have HK := Hd (HK5.out.trans hK6 (fun _ _ h => h))
 have HR := Hd (HR5.out.keptF hK6 HA.out)
 replace HC := Hd (hK6.blk HC.out HO.out.1)
 replace HP := Hd (hK6.blk HP.out HO.out.2)
 clear hM6 hK6 HM5 HK5 HR5
 have HM1L := Hd (show b < w1.heap.size ∧ g < w1.heap.size from ⟨HM.out.obj.lt, HM.out.row.lt⟩)
 obtain ⟨y0, y1, y2, y3, y4⟩ := HP.out.c5
 have hb1l : b1 < w1.heap.size := HP.out.lt
 go_upto_region 5 with fail
 clear y0 y1 y2 y3 y4 hb1l
 have HX := Hd (Blk.new w1 [.int .u64 0, .string P.hi, .int .u64 0] 54)
 have hal := (Kept.refl (fun _ => False) w1).alloc (.cells #[.int .u64 0, .string P.hi, .int .u64 0] 54)
 replace HM := Hd (HM.out.kept hal (fun h => h) (fun h => h))
 replace HK := Hd (HK.out.trans hal (fun _ _ h => h.elim))
 replace HR := Hd (HR.out.keptF hal (fun _ _ h => h))
 replace HC := Hd (hal.blk HC.out (fun h => h))
 replace HP := Hd (hal.blk HP.out (fun h => h))
 have HX1 := Hd (show ¬ Own b g w1.heap.size by have := HM1L.out; unfold Own; omega)
 clear hal
 generalize w1.alloc (.cells #[.int .u64 0, .string P.hi, .int .u64 0] 54) = W1 at *
 generalize w1.heap.size = bx at *
 refine qtail 5 (fun w' => Kept (fun _ => False) W1 w' ∧ Blk w' b0 25 [.int .i64 1, .int .i64 2, .int .i64 100, .int .i64 100, .int .i64 200, .int .i64 (F : Int), .int .u64 1000] ∧ Blk w' b1 38 [.int .i64 (P.lv : Int), .slice A n c, .string P.hi, .bool false, .int .u64 (P.rt : Int)] ∧ Blk w' bx 54 [.int .u64 0, .string P.hi, .int .u64 0]) (by kernel_rfl) (by kernel_rfl) ⟨(Kept.refl _ _).drew, HC.out.of rfl, HP.out.of rfl, HX.out.of rfl⟩ ?_
 simp only [List.take_succ_cons, List.take_zero, List.drop_succ_cons, List.drop_zero]
 refine tkQ 29 ?_ (fun wq hSw => ?_) ?_
 rotate_left
 ·(go_simp; try with_reducible rfl)
 try simp only [aP,aA,aZ,aS]
 refine tkQ 30 ?_ (fun wq hSw => ?_) ?_
 rotate_left
 ·(have hb9 := hSw.2.1; have hc9 := hSw.2.2.1; obtain ⟨x0, x1, x2, x3, x4, x5, x6⟩ := hb9.c7; obtain ⟨y0, y1, y2, y3, y4⟩ := hc9.c5; have hd9 := hSw.2.2.2; obtain ⟨v0, v1, v2⟩ := hd9.c3; clear hd9; clear hb9 hc9; go_simp; try with_reducible rfl)
 try simp only [aP,aA,aZ,aS]
 refine tkQ 31 ?_ (fun wq hSw => ?_) ?_
 rotate_left
 ·(go_simp; try with_reducible rfl)
 try simp only [aP,aA,aZ,aS]
 refine qcall (o := ⟨some 32, _, _, _, _, _⟩) (v := .int .i64 a1) (by rfl) (fun wq hSw => ?_) (fun wq hSw => Calls.mono (ref_to F nid 2 h4 h6 (by omega) a1 HA1.out _) ?_) ?_
 ·(go_simp; try with_reducible rfl)
 ·rintro e w9 ⟨rfl, hk⟩; exact ⟨rfl, hSw.1.trans hk (fun _ _ h => h), hk.blk hSw.2.1 (fun h => h), hk.blk hSw.2.2.1 (fun h => h), hk.blk hSw.2.2.2 (fun h => h)⟩
 try simp only [aP,aA,aZ,aS]
 refine tkQ 33 ?_ (fun wq hSw => ?_) ?_
 rotate_left
 ·(have hb9 := hSw.2.1; have hc9 := hSw.2.2.1; obtain ⟨x0, x1, x2, x3, x4, x5, x6⟩ := hb9.c7; obtain ⟨y0, y1, y2, y3, y4⟩ := hc9.c5; have hd9 := hSw.2.2.2; obtain ⟨v0, v1, v2⟩ := hd9.c3; clear hd9; clear hb9 hc9; go_simp; try with_reducible rfl)
 try simp only [aP,aA,aZ,aS]
 refine wpQuiet_nil ?_
 intro wz hHeld
 obtain ⟨hK5, hC5, hP5, -⟩ := hHeld
 have HM5 := Hd (HM.out.kept hK5 (fun h => h) (fun h => h))
 have HK5 := Hd (HK.out.trans hK5 (fun _ _ h => h.elim))
 have HR5 := Hd (HR.out.keptF hK5 (fun _ _ h => h))
 clear HX HX1 HM1L
 replace HC := Hd hC5
 replace HP := Hd hP5
 clear hK5 hC5 hP5 HM HK HR
 go_wp2_with fail
 refine (poke_any b g _ k a1 0 0 P.hi _ HM5.out).mono ?_; rintro e w2 ⟨rfl, hM6, hK6⟩
 have HM := Hd hM6
 have HK := Hd (HK5.out.trans hK6 (fun _ _ h => h))
 have HR := Hd (HR5.out.keptF hK6 HA.out)
 replace HC := Hd (hK6.blk HC.out HO.out.1)
 replace HP := Hd (hK6.blk HP.out HO.out.2)
 clear hM6 hK6 HM5 HK5 HR5
 go_upto_region 6 with fail
 refine qtail 7 (fun w' => Kept (fun _ => False) w2 w' ∧ Blk w' b0 25 [.int .i64 1, .int .i64 2, .int .i64 100, .int .i64 100, .int .i64 200, .int .i64 (F : Int), .int .u64 1000] ∧ Blk w' b1 38 [.int .i64 (P.lv : Int), .slice A n c, .string P.hi, .bool false, .int .u64 (P.rt : Int)]) (by kernel_rfl) (by kernel_rfl) ⟨(Kept.refl _ _).drew, HC.out.of rfl, HP.out.of rfl⟩ ?_
 simp only [List.take_succ_cons, List.take_zero, List.drop_succ_cons, List.drop_zero]
 refine tkQ 35 ?_ (fun wq hSw => ?_) ?_
 rotate_left
 ·(go_simp; try with_reducible rfl)
 try simp only [aP,aA,aZ,aS]
 refine tkQ 36 ?_ (fun wq hSw => ?_) ?_
 rotate_left
 ·(have hb9 := hSw.2.1; have hc9 := hSw.2.2; obtain ⟨x0, x1, x2, x3, x4, x5, x6⟩ := hb9.c7; obtain ⟨y0, y1, y2, y3, y4⟩ := hc9.c5; clear hb9 hc9; go_simp; try with_reducible rfl)
 try simp only [aP,aA,aZ,aS]
 refine tkQ 37 ?_ (fun wq hSw => ?_) ?_
 rotate_left
 ·(go_simp; try with_reducible rfl)
 try simp only [aP,aA,aZ,aS]
 refine qcall (o := ⟨some 38, _, _, _, _, _⟩) (v := .int .i64 a2) (by rfl) (fun wq hSw => ?_) (fun wq hSw => Calls.mono (ref_to F nid 3 h4 h6 (by omega) a2 HA2.out _) ?_) ?_
 ·(go_simp; try with_reducible rfl)
 ·rintro e w9 ⟨rfl, hk⟩; exact ⟨rfl, hSw.1.trans hk (fun _ _ h => h), hk.blk hSw.2.1 (fun h => h), hk.blk hSw.2.2 (fun h => h)⟩
 try simp only [aP,aA,aZ,aS]
 refine tkQ 39 ?_ (fun wq hSw => ?_) ?_
 rotate_left
 ·(go_simp; try with_reducible rfl)
 try simp only [aP,aA,aZ,aS]
 refine tkQ 40 ?_ (fun wq hSw => ?_) ?_
 rotate_left
 ·(have hb9 := hSw.2.1; have hc9 := hSw.2.2; obtain ⟨x0, x1, x2, x3, x4, x5, x6⟩ := hb9.c7; obtain ⟨y0, y1, y2, y3, y4⟩ := hc9.c5; clear hb9 hc9; go_simp; try with_reducible rfl)
 try simp only [aP,aA,aZ,aS]
 refine tkQ 41 ?_ (fun wq hSw => ?_) ?_
 rotate_left
 ·(go_simp; try with_reducible rfl)
 try simp only [aP,aA,aZ,aS]
 refine wpQuiet_nil ?_
 intro wz hHeld
 obtain ⟨hK5, hC5, hP5⟩ := hHeld
 have HM5 := Hd (HM.out.kept hK5 (fun h => h) (fun h => h))
 have HK5 := Hd (HK.out.trans hK5 (fun _ _ h => h.elim))
 have HR5 := Hd (HR.out.keptF hK5 (fun _ _ h => h))
 replace HC := Hd hC5
 replace HP := Hd hP5
 clear hK5 hC5 hP5 HM HK HR
 go_wp2_with fail
 refine (poke_any b g _ k a2 (P.rt : Int) 0 ⟨#[]⟩ _ HM5.out).mono ?_; rintro e w3 ⟨rfl, hM6, hK6⟩
 have HM := Hd hM6
 have HK := Hd (HK5.out.trans hK6 (fun _ _ h => h))
 have HR := Hd (HR5.out.keptF hK6 HA.out)
 replace HC := Hd (hK6.blk HC.out HO.out.1)
 replace HP := Hd (hK6.blk HP.out HO.out.2)
 clear hM6 hK6 HM5 HK5 HR5
 rw [← H3.out] at HM
 clear H3 HA0 HA1 HA2
 go_wp2_with fail
 go_loopw [9] (fun i wr => ∃ j : Nat, j ≤ n ∧ i = .int .i64 j ∧ Mem wr b g (app l ((pst (nad F nid) P).take (j + 3))) k ∧ Kept (Own b g) w wr ∧ Rs wr A c P.xs ∧ Blk wr b0 25 [.int .i64 1, .int .i64 2, .int .i64 100, .int .i64 100, .int .i64 200, .int .i64 (F : Int), .int .u64 1000] ∧ Blk wr b1 38 [.int .i64 (P.lv : Int), .slice A n c, .string P.hi, .bool false, .int .u64 (P.rt : Int)]) (fun i _ => n - (intOf i).toNat)
 case atStart => exact ⟨0, by omega, rfl, HM.out, HK.out, HR.out, HC.out, HP.out⟩
 case round =>
  obtain ⟨j, hj, rfl, hM, hK, hR, hC, hP⟩ := hrel
  rename World => wr
  clear HM HK HR HC HP
  have HM := Hd hM
  have HK := Hd hK
  have HR := Hd hR
  have HC := Hd hC
  have HP := Hd hP
  have y1 := HP.out.k 1 rfl
  clear hM hK hR hC hP
  by_cases hlt : j < n
  ·obtain ⟨x, hx⟩ : ∃ x, P.xs[j]? = some x := ⟨_, List.getElem?_eq_getElem (by have := HN.out; omega)⟩
   obtain ⟨gx, off, hAx, hgx, hcell⟩ := HR.out.at (by have := HN.out; omega)
   obtain ⟨cx0, cx1⟩ := hcell j x hx
   have hjn : (j : Int) < (n : Int) := by omega
   have wj := wrap_i (4 + (j : Int)) (by omega)
   obtain ⟨aj, haj⟩ : ∃ y, nad F nid (j + 3) = y := ⟨_, rfl⟩
   have HAJ := Hd (show nodeAt 100 (F : Int) 10 (nid : Int) ((4 + j : Nat) : Int) = aj by rw [← haj, show 4 + j = (j + 3) + 1 by omega]; exact putPst (l := []) (P := P) hn1 hn2 (j + 3) (by omega))
   have hnext : app l ((pst (nad F nid) P).take (j + 1 + 3)) = putAt (app l ((pst (nad F nid) P).take (j + 3))) aj ((x.2 : Int), x.1, 0) := by
    rw [show j + 1 + 3 = (j + 3) + 1 by omega, pst_step _ _ _ (by have := HN.out; omega), app_snoc, haj, pc_slot hx]; rfl
   have HNX := Hd hnext
   have hxb : ¬ Own b g gx := HA.out _ hAx
   have HXB := Hd hxb
   have HAE := Hd hAx
   have HP2 := HP
   rw [hAx] at HP2
   clear hcell hx haj hnext hxb hAx
   go_upto_region 10 with fail
   clear y1
   refine qtail 19 (fun w' => Kept (fun _ => False) wr w' ∧ Blk w' b0 25 [.int .i64 1, .int .i64 2, .int .i64 100, .int .i64 100, .int .i64 200, .int .i64 (F : Int), .int .u64 1000] ∧ Blk w' b1 38 [.int .i64 (P.lv : Int), .slice (some ⟨gx, off, none⟩) n c, .string P.hi, .bool false, .int .u64 (P.rt : Int)] ∧ w'.cell? ⟨gx, off + j * 2, none⟩ = some (.string x.1) ∧ w'.cell? ⟨gx, off + j * 2 + 1, none⟩ = some (.int .u64 (x.2 : Int))) (by kernel_rfl) (by kernel_rfl) ⟨(Kept.refl _ _).drew, HC.out.of rfl, HP2.out.of rfl, cx0, cx1⟩ ?_
   simp only [List.take_succ_cons, List.take_zero, List.drop_succ_cons, List.drop_zero]
   refine tkQ 50 ?_ (fun wq hSw => ?_) ?_
   rotate_left
   ·(go_simp; try with_reducible rfl)
   try simp only [aP,aA,aZ,aS]
   refine tkQ 51 ?_ (fun wq hSw => ?_) ?_
   rotate_left
   ·(have hb9 := hSw.2.1; have hc9 := hSw.2.2.1; have q0 := hSw.2.2.2.1; have q1 := hSw.2.2.2.2; obtain ⟨x0, x1, x2, x3, x4, x5, x6⟩ := hb9.c7; have y1 := hc9.k 1 rfl; clear hb9 hc9; go_simp; try with_reducible rfl)
   try simp only [aP,aA,aZ,aS]
   refine tkQ 52 ?_ (fun wq hSw => ?_) ?_
   rotate_left
   ·(go_simp; try with_reducible rfl)
   try simp only [aP,aA,aZ,aS]
   refine tkQ 53 ?_ (fun wq hSw => ?_) ?_
   rotate_left
   ·(go_simp; try with_reducible rfl)
   try simp only [aP,aA,aZ,aS]
   refine tkQ 54 (.int .i64 ((4 + j : Nat) : Int)) (fun wq hSw => ?_) ?_
   ·(go_simp; try first | (with_reducible rfl) | (simp; omega) | (intros; omega) | simp [*])
   try simp only [aP,aA,aZ,aS]
   refine qcall (o := ⟨some 55, _, _, _, _, _⟩) (v := .int .i64 aj) (by rfl) (fun wq hSw => ?_) (fun wq hSw => Calls.mono (ref_to F nid (4 + j) h4 h6 (by omega) aj HAJ.out _) ?_) ?_
   ·(go_simp; try with_reducible rfl)
   ·rintro e w9 ⟨rfl, hk⟩; exact ⟨rfl, hSw.1.trans hk (fun _ _ h => h), hk.blk hSw.2.1 (fun h => h), hk.blk hSw.2.2.1 (fun h => h), (hk.cell (p := ⟨gx, off + j * 2, none⟩) (Nat.lt_of_lt_of_le hgx hSw.1.size) (fun h => h)).trans hSw.2.2.2.1, (hk.cell (p := ⟨gx, off + j * 2 + 1, none⟩) (Nat.lt_of_lt_of_le hgx hSw.1.size) (fun h => h)).trans hSw.2.2.2.2⟩
   try simp only [aP,aA,aZ,aS]
   refine tkQ 56 ?_ (fun wq hSw => ?_) ?_
   rotate_left
   ·(go_simp; try with_reducible rfl)
   try simp only [aP,aA,aZ,aS]
   refine tkQ 57 (.slice (some ⟨gx, off, none⟩) n c) (fun wq hSw => ?_) ?_
   ·(have hb9 := hSw.2.1; have hc9 := hSw.2.2.1; have q0 := hSw.2.2.2.1; have q1 := hSw.2.2.2.2; obtain ⟨x0, x1, x2, x3, x4, x5, x6⟩ := hb9.c7; have y1 := hc9.k 1 rfl; clear hb9 hc9; go_simp; try first | (with_reducible rfl) | (simp; omega) | (intros; omega) | simp [*])
   try simp only [aP,aA,aZ,aS]
   refine tkQ 58 ?_ (fun wq hSw => ?_) ?_
   rotate_left
   ·(go_simp; try with_reducible rfl)
   try simp only [aP,aA,aZ,aS]
   refine tkQ 59 (.pointer (some ⟨gx, off + j * 2, none⟩)) (fun wq hSw => ?_) ?_
   ·(go_simp; try first | (with_reducible rfl) | (simp; omega) | (intros; omega) | simp [*])
   try simp only [aP,aA,aZ,aS]
   refine tkQ 60 ?_ (fun wq hSw => ?_) ?_
   rotate_left
   ·(go_simp; try with_reducible rfl)
   try simp only [aP,aA,aZ,aS]
   refine tkQ 61 (.string x.1) (fun wq hSw => ?_) ?_
   ·(have hb9 := hSw.2.1; have hc9 := hSw.2.2.1; have q0 := hSw.2.2.2.1; have q1 := hSw.2.2.2.2; obtain ⟨x0, x1, x2, x3, x4, x5, x6⟩ := hb9.c7; have y1 := hc9.k 1 rfl; clear hb9 hc9; go_simp; try first | (with_reducible rfl) | (simp; omega) | (intros; omega) | simp [*])
   try simp only [aP,aA,aZ,aS]
   refine tkQ 62 ?_ (fun wq hSw => ?_) ?_
   rotate_left
   ·(go_simp; try with_reducible rfl)
   try simp only [aP,aA,aZ,aS]
   refine tkQ 63 (.slice (some ⟨gx, off, none⟩) n c) (fun wq hSw => ?_) ?_
   ·(have hb9 := hSw.2.1; have hc9 := hSw.2.2.1; have q0 := hSw.2.2.2.1; have q1 := hSw.2.2.2.2; obtain ⟨x0, x1, x2, x3, x4, x5, x6⟩ := hb9.c7; have y1 := hc9.k 1 rfl; clear hb9 hc9; go_simp; try first | (with_reducible rfl) | (simp; omega) | (intros; omega) | simp [*])
   try simp only [aP,aA,aZ,aS]
   refine tkQ 64 ?_ (fun wq hSw => ?_) ?_
   rotate_left
   ·(go_simp; try with_reducible rfl)
   try simp only [aP,aA,aZ,aS]
   refine tkQ 65 (.pointer (some ⟨gx, off + j * 2, none⟩)) (fun wq hSw => ?_) ?_
   ·(go_simp; try first | (with_reducible rfl) | (simp; omega) | (intros; omega) | simp [*])
   try simp only [aP,aA,aZ,aS]
   refine tkQ 66 ?_ (fun wq hSw => ?_) ?_
   rotate_left
   ·(go_simp; try with_reducible rfl)
   try simp only [aP,aA,aZ,aS]
   refine tkQ 67 (.int .u64 (x.2 : Int)) (fun wq hSw => ?_) ?_
   ·(have hb9 := hSw.2.1; have hc9 := hSw.2.2.1; have q0 := hSw.2.2.2.1; have q1 := hSw.2.2.2.2; obtain ⟨x0, x1, x2, x3, x4, x5, x6⟩ := hb9.c7; have y1 := hc9.k 1 rfl; clear hb9 hc9; go_simp; try first | (with_reducible rfl) | (simp; omega) | (intros; omega) | simp [*])
   try simp only [aP,aA,aZ,aS]
   refine tkQ 68 ?_ (fun wq hSw => ?_) ?_
   rotate_left
   ·(go_simp; try with_reducible rfl)
   try simp only [aP,aA,aZ,aS]
   refine wpQuiet_nil ?_
   intro wz hHeld
   obtain ⟨hK5, hC5, -, -, -⟩ := hHeld
   have HM5 := Hd (HM.out.kept hK5 (fun h => h) (fun h => h))
   have HK5 := Hd (HK.out.trans hK5 (fun _ _ h => h.elim))
   have HR5 := Hd (HR.out.keptF hK5 (fun _ _ h => h))
   have HP5 := Hd (hK5.blk HP.out (fun h => h))
   have HC5 := Hd hC5
   clear hK5 hC5 HM HK HR HC HP HP2 cx0 cx1
   go_wp2_with fail
   refine (poke_any b g _ k aj (x.2 : Int) 0 x.1 _ HM5.out).mono ?_; rintro e w6 ⟨rfl, hM6, hK6⟩
   have HM := Hd hM6
   have HK := Hd (HK5.out.trans hK6 (fun _ _ h => h))
   have HR := Hd (HR5.out.keptF hK6 HA.out)
   have HC := Hd (hK6.blk HC5.out HO.out.1)
   have HP := Hd (hK6.blk HP5.out HO.out.2)
   rw [← HNX.out] at HM
   clear hM6 hK6 HM5 HK5 HR5 HC5 HP5
   go_wp2
   go_roundw
   case rel => exact ⟨j + 1, by omega, by go_num, HM.out, HK.out, HR.out, HC.out, HP.out⟩
   case measure => simp [intOf]; omega
  ·obtain rfl : j = n := by omega
   go_wp2
   go_end0
   have hM := HM.out
   rw [← HN.out, pst_all] at hM
   exact ⟨rfl, hM, HK.out⟩

theorem kput_any (F nid : Nat) (h4 : 4 ≤ F) (h6 : F ≤ 6) (hn1 : 1 ≤ nid) (hn2 : nid ≤ 100) (P : Pg) (hw : Wf P) (hlen : P.xs.length ≤ F) (hlv : P.lv < 9223372036854775808) (A : Option Addr) (c b g : Nat) (l : List Cel) (k : Nat) (w : World) (hm : Mem w b g l k) (hR : Rs w A c P.xs) (hA : ∀ a, A = some a → ¬ Own b g a.block) :
  Calls Tryz.prog 46 #[.agg #[.int .i64 1, .int .i64 2, .int .i64 100, .int .i64 100, .int .i64 200, .int .i64 (F : Int), .int .u64 1000], .pointer (some ⟨b, 0, none⟩), .int .u64 (nid : Int), .agg #[.int .i64 (P.lv : Int), .slice A P.xs.length c, .string P.hi, .bool P.la, .int .u64 (P.rt : Int)]] w fun e w' => e = .returned (.tuple #[]) ∧ Mem w' b g (app l (pst (nad F nid) P)) k ∧ Kept (Own b g) w w' := by
 cases hla : P.la
 ·have := kput_false F nid h4 h6 hn1 hn2 P hla hw hlen hlv A c b g l k w hm hR hA; rwa [hla] at this
 ·have := kput_true F nid h4 h6 hn1 hn2 P hla hw hlen hlv A c b g l k w hm hR hA; rwa [hla] at this
end
end Go.Proofs.YtjnodgebpklaoaaGreat
