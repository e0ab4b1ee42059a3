/-
 The stores of the machines Write and Fresh of package node. Condition: a layout within its limits; fewer than 2^63 accesses.
-/
import Derived.Test.YtjnodgebpklaoaaGreatLkRead
import Derived.Test.YtjnodgebpklaoaaGreatLkLock
namespace Go.Proofs.YtjnodgebpklaoaaGreat
set_option maxHeartbeats 8000000
set_option maxRecDepth 100000
section
open Go.RowKit Go.Deep Plain
set_option linter.unusedVariables false

theorem highOf_true (lv : Nat) (A : Option Addr) (n c : Nat) (hi : ByteArray) (rt : Nat) (w : World) :
  Calls Tryz.prog 173 #[.agg #[.int .i64 (lv : Int), .slice A n c, .string hi, .bool true, .int .u64 (rt : Int)]] w fun e w' => e = .returned (.agg #[.int .u64 0, .string ⟨#[]⟩, .int .u64 1]) ∧ Kept (fun _ => False) w w' := by
 obtain ⟨P0, S0, B0, Z0⟩ := box_two w [.int .i64 (lv : Int), .slice A n c, .string hi, .bool true, .int .u64 (rt : Int)] [.int .u64 0, .string ⟨#[]⟩, .int .u64 0] 38 54
 go_enter Tryz.func173, Tryz.ntmps173
 go_wp2
 refine bodyPost_ret (v := .agg #[.int .u64 0, .string ⟨#[]⟩, .int .u64 1]) (by first | (simp [results, Tryz.results173, go_sem]; done) | (simp [results, Tryz.results173, go_sem, *]; done)) rfl ⟨rfl, ?_⟩
 exact ((Kept.refl _ _).alloc _).alloc _

theorem highOf_false (lv : Nat) (A : Option Addr) (n c : Nat) (hi : ByteArray) (rt : Nat) (w : World) :
  Calls Tryz.prog 173 #[.agg #[.int .i64 (lv : Int), .slice A n c, .string hi, .bool false, .int .u64 (rt : Int)]] w fun e w' => e = .returned (.agg #[.int .u64 0, .string hi, .int .u64 0]) ∧ Kept (fun _ => False) w w' := by
 obtain ⟨P0, S0, B0, Z0⟩ := box_two w [.int .i64 (lv : Int), .slice A n c, .string hi, .bool false, .int .u64 (rt : Int)] [.int .u64 0, .string ⟨#[]⟩, .int .u64 0] 38 54
 go_enter Tryz.func173, Tryz.ntmps173
 go_wp2
 refine bodyPost_ret (v := .agg #[.int .u64 0, .string hi, .int .u64 0]) (by first | (simp [results, Tryz.results173, go_sem]; done) | (simp [results, Tryz.results173, go_sem, *]; done)) rfl ⟨rfl, ?_⟩
 exact ((Kept.refl _ _).alloc _).alloc _

theorem highOf_any (lv : Nat) (A : Option Addr) (n c : Nat) (hi : ByteArray) (la : Bool) (rt : Nat) (h0 h2 : Int) (h1 : ByteArray) (hh : hiCel hi la = (h0, h1, h2)) (w : World) :
  Calls Tryz.prog 173 #[.agg #[.int .i64 (lv : Int), .slice A n c, .string hi, .bool la, .int .u64 (rt : Int)]] w fun e w' => e = .returned (.agg #[.int .u64 h0, .string h1, .int .u64 h2]) ∧ Kept (fun _ => False) w w' := by
 unfold hiCel at hh
 cases la
 ·obtain ⟨rfl, rfl, rfl⟩ : (0 : Int) = h0 ∧ hi = h1 ∧ (0 : Int) = h2 := by simpa using hh
  exact highOf_false lv A n c hi rt w
 ·obtain ⟨rfl, rfl, rfl⟩ : (0 : Int) = h0 ∧ (⟨#[]⟩ : ByteArray) = h1 ∧ (1 : Int) = h2 := by simpa using hh
  exact highOf_true lv A n c hi rt w

theorem latchStore_any (T S N C R : Int) (F : Nat) (K fa fb fd : Int) (hl : Lim T S N C R (F : Int)) (hd : Reach3 fa fb fd) (nid wd : Nat) (lv : Nat) (A : Option Addr) (n c : Nat) (hi : ByteArray) (la : Bool) (rt : Nat) (ad : Int) (had : nodeAt N (F : Int) fa (nid : Int) 0 = ad) (w : World) :
  Calls Tryz.prog 154 #[.agg #[.int .i64 T, .int .i64 S, .int .i64 N, .int .i64 C, .int .i64 R, .int .i64 (F : Int), .int .u64 K, .int .i64 fa, .int .i64 fb, .int .i64 fd], .agg #[.int .u64 (nid : Int), .int .u64 (wd : Int), .int .i64 (lv : Int), .slice A n c, .string hi, .bool la, .int .u64 (rt : Int)]] w fun e w' => e = .returned (.agg #[.int .i64 ad, .int .u64 (wd : Int), .string ⟨#[]⟩, .int .u64 0]) ∧ Kept (fun _ => False) w w' := by
 have hB1 : Blk (((w.alloc (.cells #[.int .i64 T, .int .i64 S, .int .i64 N, .int .i64 C, .int .i64 R, .int .i64 (F : Int), .int .u64 K, .int .i64 fa, .int .i64 fb, .int .i64 fd] 28)).alloc (.cells #[.int .u64 (nid : Int), .int .u64 (wd : Int), .int .i64 (lv : Int), .slice A n c, .string hi, .bool la, .int .u64 (rt : Int)] 40)).alloc (.cells #[.int .i64 0, .int .u64 0, .string ⟨#[]⟩, .int .u64 0] 198)) w.heap.size 28 [.int .i64 T, .int .i64 S, .int .i64 N, .int .i64 C, .int .i64 R, .int .i64 (F : Int), .int .u64 K, .int .i64 fa, .int .i64 fb, .int .i64 fd] := ((Blk.new w [.int .i64 T, .int .i64 S, .int .i64 N, .int .i64 C, .int .i64 R, .int .i64 (F : Int), .int .u64 K, .int .i64 fa, .int .i64 fb, .int .i64 fd] 28).alloc _).alloc _
 have hB2 : Blk (((w.alloc (.cells #[.int .i64 T, .int .i64 S, .int .i64 N, .int .i64 C, .int .i64 R, .int .i64 (F : Int), .int .u64 K, .int .i64 fa, .int .i64 fb, .int .i64 fd] 28)).alloc (.cells #[.int .u64 (nid : Int), .int .u64 (wd : Int), .int .i64 (lv : Int), .slice A n c, .string hi, .bool la, .int .u64 (rt : Int)] 40)).alloc (.cells #[.int .i64 0, .int .u64 0, .string ⟨#[]⟩, .int .u64 0] 198)) (w.heap.size + 1) 40 [.int .u64 (nid : Int), .int .u64 (wd : Int), .int .i64 (lv : Int), .slice A n c, .string hi, .bool la, .int .u64 (rt : Int)] := by have := (Blk.new (w.alloc (.cells #[.int .i64 T, .int .i64 S, .int .i64 N, .int .i64 C, .int .i64 R, .int .i64 (F : Int), .int .u64 K, .int .i64 fa, .int .i64 fb, .int .i64 fd] 28)) [.int .u64 (nid : Int), .int .u64 (wd : Int), .int .i64 (lv : Int), .slice A n c, .string hi, .bool la, .int .u64 (rt : Int)] 40).alloc (.cells #[.int .i64 0, .int .u64 0, .string ⟨#[]⟩, .int .u64 0] 198); rw [nblk_alloc] at this; exact this
 have hB3 : Blk (((w.alloc (.cells #[.int .i64 T, .int .i64 S, .int .i64 N, .int .i64 C, .int .i64 R, .int .i64 (F : Int), .int .u64 K, .int .i64 fa, .int .i64 fb, .int .i64 fd] 28)).alloc (.cells #[.int .u64 (nid : Int), .int .u64 (wd : Int), .int .i64 (lv : Int), .slice A n c, .string hi, .bool la, .int .u64 (rt : Int)] 40)).alloc (.cells #[.int .i64 0, .int .u64 0, .string ⟨#[]⟩, .int .u64 0] 198)) (w.heap.size + 1 + 1) 198 [.int .i64 0, .int .u64 0, .string ⟨#[]⟩, .int .u64 0] := by have := Blk.new ((w.alloc (.cells #[.int .i64 T, .int .i64 S, .int .i64 N, .int .i64 C, .int .i64 R, .int .i64 (F : Int), .int .u64 K, .int .i64 fa, .int .i64 fb, .int .i64 fd] 28)).alloc (.cells #[.int .u64 (nid : Int), .int .u64 (wd : Int), .int .i64 (lv : Int), .slice A n c, .string hi, .bool la, .int .u64 (rt : Int)] 40)) [.int .i64 0, .int .u64 0, .string ⟨#[]⟩, .int .u64 0] 198; rw [nblk_alloc, nblk_alloc] at this; exact this
 have HB1 := Hd hB1
 have HB2 := Hd hB2
 have HB3 := Hd hB3
 have HK := Hd ((((Kept.refl (fun _ => False) w).alloc (.cells #[.int .i64 T, .int .i64 S, .int .i64 N, .int .i64 C, .int .i64 R, .int .i64 (F : Int), .int .u64 K, .int .i64 fa, .int .i64 fb, .int .i64 fd] 28)).alloc (.cells #[.int .u64 (nid : Int), .int .u64 (wd : Int), .int .i64 (lv : Int), .slice A n c, .string hi, .bool la, .int .u64 (rt : Int)] 40)).alloc (.cells #[.int .i64 0, .int .u64 0, .string ⟨#[]⟩, .int .u64 0] 198))
 clear hB1 hB2 hB3
 go_enter Tryz.func154, Tryz.ntmps154
 go_wp2_with fail
 generalize ((w.alloc (.cells #[.int .i64 T, .int .i64 S, .int .i64 N, .int .i64 C, .int .i64 R, .int .i64 (F : Int), .int .u64 K, .int .i64 fa, .int .i64 fb, .int .i64 fd] 28)).alloc (.cells #[.int .u64 (nid : Int), .int .u64 (wd : Int), .int .i64 (lv : Int), .slice A n c, .string hi, .bool la, .int .u64 (rt : Int)] 40)).alloc (.cells #[.int .i64 0, .int .u64 0, .string ⟨#[]⟩, .int .u64 0] 198) = W at *
 generalize hr3 : w.heap.size + 1 + 1 = r3 at *
 generalize hr2 : w.heap.size + 1 = r2 at *
 have hw3 : w.heap.size ≤ r3 := by omega
 have HRR := Hd (And.intro hr2 hr3)
 clear hr2 hr3
 refine qtail 8 (fun w' => Kept (fun _ => False) W w' ∧ Blk w' w.heap.size 28 [.int .i64 T, .int .i64 S, .int .i64 N, .int .i64 C, .int .i64 R, .int .i64 (F : Int), .int .u64 K, .int .i64 fa, .int .i64 fb, .int .i64 fd] ∧ Blk w' r2 40 [.int .u64 (nid : Int), .int .u64 (wd : Int), .int .i64 (lv : Int), .slice A n c, .string hi, .bool la, .int .u64 (rt : Int)] ∧ Blk w' r3 198 [.int .i64 0, .int .u64 0, .string ⟨#[]⟩, .int .u64 0]) (by kernel_rfl) (by kernel_rfl) ⟨(Kept.refl _ _).drew, HB1.out, HB2.out, HB3.out⟩ ?_
 simp only [List.take_succ_cons, List.take_zero, List.drop_succ_cons, List.drop_zero]
 refine tkQ 5 ?_ (fun wq hSw => ?_) ?_
 rotate_left
 ·(have hb9 := hSw.2.1; have hc9 := hSw.2.2.1; obtain ⟨x0, x1, x2, x3, x4, x5, x6, x7, x8, x9⟩ := hb9.c10; have y0 := hc9.k 0 rfl; have y1 := hc9.k 1 rfl; clear hb9 hc9; go_simp; try with_reducible rfl)
 try simp only [aP,aA,aZ,aS]
 refine tkQ 6 ?_ (fun wq hSw => ?_) ?_
 rotate_left
 ·(go_simp; try with_reducible rfl)
 try simp only [aP,aA,aZ,aS]
 refine tkQ 7 ?_ (fun wq hSw => ?_) ?_
 rotate_left
 ·(have hb9 := hSw.2.1; have hc9 := hSw.2.2.1; obtain ⟨x0, x1, x2, x3, x4, x5, x6, x7, x8, x9⟩ := hb9.c10; have y0 := hc9.k 0 rfl; have y1 := hc9.k 1 rfl; clear hb9 hc9; go_simp; try with_reducible rfl)
 try simp only [aP,aA,aZ,aS]
 refine qcall (o := ⟨some 8, _, _, _, _, _⟩) (v := .int .i64 ad) (by rfl) (fun wq hSw => ?_) (fun wq hSw => Calls.mono (latch_to T S N C R F K fa fb fd hl hd (nid : Int) ad had _) ?_) ?_
 ·(go_simp; try with_reducible rfl)
 ·rintro e w9 ⟨rfl, hk⟩; exact ⟨rfl, hSw.1.trans hk (fun _ _ h => h), hk.blk hSw.2.1 (fun h => h), hk.blk hSw.2.2.1 (fun h => h), hk.blk hSw.2.2.2 (fun h => h)⟩
 try simp only [aP,aA,aZ,aS]
 refine tkQ 9 ?_ (fun wq hSw => ?_) ?_
 rotate_left
 ·(go_simp; try with_reducible rfl)
 try simp only [aP,aA,aZ,aS]
 refine tkQ 10 ?_ (fun wq hSw => ?_) ?_
 rotate_left
 ·(have hb9 := hSw.2.1; have hc9 := hSw.2.2.1; obtain ⟨x0, x1, x2, x3, x4, x5, x6, x7, x8, x9⟩ := hb9.c10; have y0 := hc9.k 0 rfl; have y1 := hc9.k 1 rfl; clear hb9 hc9; go_simp; try with_reducible rfl)
 try simp only [aP,aA,aZ,aS]
 refine tkQ 11 ?_ (fun wq hSw => ?_) ?_
 rotate_left
 ·(go_simp; try with_reducible rfl)
 try simp only [aP,aA,aZ,aS]
 refine tkQ 12 ?_ (fun wq hSw => ?_) ?_
 rotate_left
 ·(go_simp; try with_reducible rfl)
 try simp only [aP,aA,aZ,aS]
 refine wpQuiet_nil ?_
 intro wz hHeld
 obtain ⟨hK5, -, -, hB5⟩ := hHeld
 have x0 := hB5.k 0 rfl
 have z0 := hB5.frozen 0
 have x1 := hB5.k 1 rfl
 have z1 := hB5.frozen 1
 have x2 := hB5.k 2 rfl
 have z2 := hB5.frozen 2
 have x3 := hB5.k 3 rfl
 have z3 := hB5.frozen 3
 have HK5 := Hd (HK.out.trans hK5 (fun _ _ h => h))
 have HB5 := Hd hB5
 clear hK5 hB5 HK HB1 HB2 HB3
 go_wp2
 refine bodyPost_ret (v := .agg #[.int .i64 ad, .int .u64 (wd : Int), .string ⟨#[]⟩, .int .u64 0]) (by first | (simp [results, Tryz.results154, go_sem]; done) | (simp [results, Tryz.results154, go_sem, *]; done)) rfl ⟨rfl, ?_⟩
 exact (((HK5.out.setNew hw3 0 _).setNew hw3 1 _).setNew hw3 2 _).setNew hw3 3 _

def stv (v : Value) (j nid wd lv : Nat) (vs : Value) (hi : ByteArray) (la : Bool) (rt : Nat) : List Value :=
 [v, .int .i64 (j : Int), .int .u64 (nid : Int), .int .u64 (wd : Int), .int .i64 (lv : Int), vs, .string hi, .bool la, .int .u64 (rt : Int)]
structure Stm (Z : Nat → Prop) (w : World) (q : Nat) (t : TypeId) (ss : List Sto) (j nid wd : Nat) (P : Pg) : Prop where
 lt : ∀ i, Z i → i < w.heap.size
 own : Z q
 ex : ∃ gr cap A c, Blk w q t (stv (.slice (some ⟨gr, 0, none⟩) ss.length cap) j nid wd P.lv (.slice A P.xs.length c) P.hi P.la P.rt) ∧
  w.ownsRow 0 198 4 (.slice (some ⟨gr, 0, none⟩) ss.length cap) ss.length (flat4 ss) ∧ Z gr ∧ Rs w A c P.xs ∧ ∀ a, A = some a → Z a.block ∧ a.block ≠ q
theorem Stm.kept {Z Y : Nat → Prop} {w w' : World} {q : Nat} {t : TypeId} {ss : List Sto} {j nid wd : Nat} {P : Pg} (h : Stm Z w q t ss j nid wd P) (hk : Kept Y w w') (hd : ∀ i, Z i → ¬ Y i) : Stm Z w' q t ss j nid wd P :=
 let ⟨gr, cap, A, c, h1, h2, h3, h4, h5⟩ := h.ex
 ⟨fun i hi => Nat.lt_of_lt_of_le (h.lt i hi) hk.size, h.own, gr, cap, A, c, hk.blk h1 (hd q h.own), own_kept h2 hk (fun i hi => by cases hi; exact hd gr h3), h3, h4.keptF hk (fun a ha => hd _ (h5 a ha).1), h5⟩
theorem Stm.made {Z : Nat → Prop} {w : World} {q : Nat} {t : TypeId} {ss : List Sto} {j nid wd : Nat} {P : Pg} (h : Stm Z w q t ss j nid wd P) (ht : t ≠ 198) (j' : Nat) : Stm Z (w.setCell ⟨q, 1, none⟩ (.int .i64 (j' : Int))) q t ss j' nid wd P := by
 obtain ⟨gr, cap, A, c, h1, h2, h3, h4, h5⟩ := h.ex
 have hk := (Kept.refl (fun i => i = q) w).setCell (a := ⟨q, 1, none⟩) (fun _ => rfl) (.int .i64 (j' : Int))
 exact ⟨fun i hi => Nat.lt_of_lt_of_le (h.lt i hi) hk.size, h.own, gr, cap, A, c, h1.set 1 _, own_kept h2 hk (fun i hi e => own_far h2 h1 ht (by rw [hi, e])), h3, h4.keptF hk (fun a ha e => (h5 a ha).2 e), h5⟩

theorem finished_any (q : Nat) (t : TypeId) (a : Option Addr) (n cap j nid wd lv : Nat) (vs : Value) (hi : ByteArray) (la : Bool) (rt : Nat) (w : World) (h : Blk w q t (stv (.slice a n cap) j nid wd lv vs hi la rt)) (r : Bool) (hr : (j == n) = r) :
  Calls Tryz.prog 159 #[.pointer (some ⟨q, 0, none⟩)] w fun e w' => e = .returned (.bool r) ∧ ∃ m, w' = w.drewN m := by
 have x0 := h.k 0 rfl
 have x1 := h.k 1 rfl
 have hj : ((j : Int) == (n : Int)) = r := by rw [← hr]; rw [Bool.eq_iff_iff]; simp; omega
 clear h hr
 go_enter Tryz.func159, Tryz.ntmps159
 go_wp2_with fail
 go_quiet (fail)
 go_wp2
 go_ret
 exact ⟨rfl, _, rfl⟩

theorem step_more (Z : Nat → Prop) (q : Nat) (t : TypeId) (ss : List Sto) (j nid wd : Nat) (P : Pg) (w : World) (h : Stm Z w q t ss j nid wd P) (ht : t ≠ 198) (b g : Nat) (l : List Cel) (k : Nat) (hm : Mem w b g l k) (hb : ¬ Z b) (hg : ¬ Z g) (hk : k < 9223372036854775808) (hlen : ss.length ≤ 1000) (ad : Int) (cN cM : Int) (cK : ByteArray) (hs : ss[j]? = some (ad, cN, cK, cM)) (r : Bool) (hr : (j + 1 == ss.length) = r) :
  Calls Tryz.prog 116 #[.pointer (some ⟨q, 0, none⟩), .pointer (some ⟨b, 0, none⟩)] w fun e w' => e = .returned (.bool r) ∧ Mem w' b g (putAt l ad (cN, cK, cM)) (k + 1) ∧ Stm Z w' q t ss (j + 1) nid wd P ∧ Kept (fun i => Z i ∨ i = b ∨ i = g) w w' := by
 obtain ⟨gr, cap, A, c, h1, h2, h3, h4, h5⟩ := h.ex
 have hqb : q ≠ b := fun e => hb (e ▸ h.own)
 have hqg : q ≠ g := fun e => hg (e ▸ h.own)
 have hjl := (List.getElem?_eq_some_iff.1 hs).1
 have hcap := h2.2
 obtain ⟨f0, f1, f2, f3⟩ := flat4_at ss j _ hs
 have hrow := h2.cells (g := gr) rfl
 have r0 := hrow _ _ f0
 have r1 := hrow _ _ f1
 have r2 := hrow _ _ f2
 have r3 := hrow _ _ f3
 simp only [Addr.add_lit, Nat.zero_add] at r0 r1 r2 r3
 have hgl : gr < w.heap.size := (h2.lt gr rfl).2
 have hgb : ¬ Own b g gr := fun e => by rcases e with rfl | rfl; exact hb h3; exact hg h3
 have hgq : gr ≠ q := fun e => own_far h2 h1 ht (by rw [e]; rfl)
 have HB := Hd h1
 have HM := Hd hm
 have HH := Hd h
 have HR0 := Hd r0
 have HR1 := Hd r1
 have HR2 := Hd r2
 have HR3 := Hd r3
 have HJ := Hd hr
 have hj1 : (j : Int) < (ss.length : Int) := by omega
 have hj2 : (0 : Int) ≤ (j : Int) := by omega
 have hw1 := wrap_i ((j : Int) + 1) (by omega)
 clear h1 h2 h4 h5 h hm hcap f0 f1 f2 f3 hrow r0 r1 r2 r3 hr hs
 go_enter Tryz.func116, Tryz.ntmps116
 go_wp2_with fail
 refine (finished_any q t _ _ cap j nid wd _ _ _ _ _ _ HB.out false (by simp; omega)).mono ?_; rintro e w1 ⟨rfl, m1, rfl⟩
 have hk1 := (Kept.refl (fun _ => False) w).drewN m1
 replace HB := Hd (HB.out.of (w' := w.drewN m1) rfl)
 replace HM := Hd (HM.out.kept hk1 (fun h => h) (fun h => h))
 replace HH := Hd (HH.out.kept hk1 (fun _ _ h => h))
 replace HR0 := Hd (show (w.drewN m1).cell? ⟨gr, j * 4, none⟩ = _ from HR0.out)
 replace HR1 := Hd (show (w.drewN m1).cell? ⟨gr, j * 4 + 1, none⟩ = _ from HR1.out)
 replace HR2 := Hd (show (w.drewN m1).cell? ⟨gr, j * 4 + 2, none⟩ = _ from HR2.out)
 replace HR3 := Hd (show (w.drewN m1).cell? ⟨gr, j * 4 + 3, none⟩ = _ from HR3.out)
 have HK := Hd (hk1.mono (T := fun i => Z i ∨ i = b ∨ i = g) (fun _ h => h.elim))
 replace hgl : gr < (w.drewN m1).heap.size := hgl
 have hws : w.heap.size ≤ (w.drewN m1).heap.size := Nat.le_refl _
 clear hk1
 generalize w.drewN m1 = W1 at *
 go_wp2_with fail
 replace HB := Hd (HB.out.of (w' := W1.drew) rfl)
 replace HM := Hd HM.out.drew
 replace HH := Hd (HH.out.kept ((Kept.refl (fun _ => False) W1).drew) (fun _ _ h => h))
 replace HR0 := Hd (show W1.drew.cell? ⟨gr, j * 4, none⟩ = _ from HR0.out)
 replace HR1 := Hd (show W1.drew.cell? ⟨gr, j * 4 + 1, none⟩ = _ from HR1.out)
 replace HR2 := Hd (show W1.drew.cell? ⟨gr, j * 4 + 2, none⟩ = _ from HR2.out)
 replace HR3 := Hd (show W1.drew.cell? ⟨gr, j * 4 + 3, none⟩ = _ from HR3.out)
 replace HK := Hd HK.out.drew
 replace hgl : gr < W1.drew.heap.size := hgl
 replace hws : w.heap.size ≤ W1.drew.heap.size := hws
 refine wp_region_held_drew (S := (fun w' => Blk w' q t (stv (.slice (some ⟨gr, 0, none⟩) ss.length cap) j nid wd P.lv (.slice A P.xs.length c) P.hi P.la P.rt) ∧ w'.cell? ⟨gr, j * 4, none⟩ = some (.int .i64 ad) ∧ w'.cell? ⟨gr, j * 4 + 1, none⟩ = some (.int .u64 cN) ∧ w'.cell? ⟨gr, j * 4 + 2, none⟩ = some (.string cK) ∧ w'.cell? ⟨gr, j * 4 + 3, none⟩ = some (.int .u64 cM))) (by kernel_rfl) ?_ (fun hHeld => ?_)
 ·exact ⟨HB.out, HR0.out, HR1.out, HR2.out, HR3.out⟩
 generalize W1.drew = G at *
 refine tkH 0 9 ?_ rfl ?_ hHeld ?_
 rotate_left
 ·(intro wq hSw; go_simp; try with_reducible rfl)
 try simp only [aP,aA,aZ,aS]
 refine tkH 1 10 ?_ rfl ?_ hHeld ?_
 rotate_left
 ·(intro wq hSw; go_simp; try with_reducible rfl)
 try simp only [aP,aA,aZ,aS]
 refine tkH 2 11 ?_ rfl ?_ hHeld ?_
 rotate_left
 ·(intro wq hSw; go_simp; try with_reducible rfl)
 try simp only [aP,aA,aZ,aS]
 refine tkH 3 12 ?_ rfl ?_ hHeld ?_
 rotate_left
 ·(intro wq hSw; obtain ⟨hb9, r0, r1, r2, r3⟩ := hSw; have x0 := hb9.k 0 rfl; have x1 := hb9.k 1 rfl; clear hb9; go_simp; try with_reducible rfl)
 try simp only [aP,aA,aZ,aS]
 refine tkH 4 13 ?_ rfl ?_ hHeld ?_
 rotate_left
 ·(intro wq hSw; go_simp; try with_reducible rfl)
 try simp only [aP,aA,aZ,aS]
 refine tkH 5 14 ?_ rfl ?_ hHeld ?_
 rotate_left
 ·(intro wq hSw; go_simp; try with_reducible rfl)
 try simp only [aP,aA,aZ,aS]
 refine tkH 6 15 ?_ rfl ?_ hHeld ?_
 rotate_left
 ·(intro wq hSw; go_simp; try with_reducible rfl)
 try simp only [aP,aA,aZ,aS]
 refine tkH 7 16 ?_ rfl ?_ hHeld ?_
 rotate_left
 ·(intro wq hSw; obtain ⟨hb9, r0, r1, r2, r3⟩ := hSw; have x0 := hb9.k 0 rfl; have x1 := hb9.k 1 rfl; clear hb9; go_simp; try with_reducible rfl)
 try simp only [aP,aA,aZ,aS]
 refine tkH 8 17 (.pointer (some ⟨gr, j * 4, none⟩)) rfl ?_ hHeld ?_
 ·(intro wq hSw; go_simp; try first | (with_reducible rfl) | (simp; omega) | (intros; omega) | simp [*])
 try simp only [aP,aA,aZ,aS]
 refine tkH 9 18 (.agg #[.int .i64 ad, .int .u64 cN, .string cK, .int .u64 cM]) rfl ?_ hHeld ?_
 ·(intro wq hSw; obtain ⟨hb9, r0, r1, r2, r3⟩ := hSw; have x0 := hb9.k 0 rfl; have x1 := hb9.k 1 rfl; clear hb9; go_simp; try first | (with_reducible rfl) | (simp; omega) | (intros; omega) | simp [*])
 try simp only [aP,aA,aZ,aS]
 refine wpAnyH_ready (rs := [10]) (by kernel_rfl) (by simp) ?_
 refine AllReadyH.cons (o := ⟨some 5, _, _, _, _, _⟩) rfl (fun KK hK => ?_) AllReadyH.nil
 go_simp
 have HX := Hd (Blk.new G [.int .i64 0, .int .u64 0, .string ⟨#[]⟩, .int .u64 0] 198)
 have HKG := Hd ((Kept.refl (fun _ => False) G).alloc (.cells #[.int .i64 0, .int .u64 0, .string ⟨#[]⟩, .int .u64 0] 198))
 have hbx : G.heap.size ≤ G.heap.size := Nat.le_refl _
 generalize G.alloc (.cells #[.int .i64 0, .int .u64 0, .string ⟨#[]⟩, .int .u64 0] 198) = V at *
 generalize hbb : G.heap.size = bx at hbx HX ⊢
 have HBB := Hd hbb
 clear hbb
 have u0 := HX.out.k 0 rfl
 have zu0 := HX.out.frozen 0
 have u1 := HX.out.k 1 rfl
 have zu1 := HX.out.frozen 1
 have u2 := HX.out.k 2 rfl
 have zu2 := HX.out.frozen 2
 have u3 := HX.out.k 3 rfl
 have zu3 := HX.out.frozen 3
 refine hK.out _ _ ?_ (fun hHeld2 => ?_)
 ·exact ⟨HKG.out.blk HB.out (fun h => h), (HKG.out.cell (p := ⟨gr, j * 4, none⟩) hgl (fun h => h)).trans HR0.out, (HKG.out.cell (p := ⟨gr, j * 4 + 1, none⟩) hgl (fun h => h)).trans HR1.out, (HKG.out.cell (p := ⟨gr, j * 4 + 2, none⟩) hgl (fun h => h)).trans HR2.out, (HKG.out.cell (p := ⟨gr, j * 4 + 3, none⟩) hgl (fun h => h)).trans HR3.out⟩
 clear hK KK hHeld
 have hHeld := hHeld2
 clear hHeld2
 try simp only [aP,aA,aZ,aS]
 refine wpAnyH_ready (rs := [11]) (by kernel_rfl) (by simp) ?_
 refine AllReadyH.cons (o := ⟨none, _, _, _, _, _⟩) rfl (fun KK hK => ?_) AllReadyH.nil
 go_simp
 clear u0 zu0 u1 zu1 u2 zu2 u3 zu3
 replace HX := Hd ((((HX.out.set 0 (.int .i64 ad)).set 1 (.int .u64 cN)).set 2 (.string cK)).set 3 (.int .u64 cM))
 replace HKG := Hd ((((HKG.out.setNew (b := bx) (by have := HBB.out; omega) 0 (.int .i64 ad)).setNew (b := bx) (by have := HBB.out; omega) 1 (.int .u64 cN)).setNew (b := bx) (by have := HBB.out; omega) 2 (.string cK)).setNew (b := bx) (by have := HBB.out; omega) 3 (.int .u64 cM))
 generalize ((((V.setCell ⟨bx, 0, none⟩ (.int .i64 ad)).setCell ⟨bx, 1, none⟩ (.int .u64 cN)).setCell ⟨bx, 2, none⟩ (.string cK)).setCell ⟨bx, 3, none⟩ (.int .u64 cM)) = V4 at *
 refine hK.out _ _ ?_ (fun hHeld2 => ?_)
 ·exact ⟨HKG.out.blk HB.out (fun h => h), (HKG.out.cell (p := ⟨gr, j * 4, none⟩) hgl (fun h => h)).trans HR0.out, (HKG.out.cell (p := ⟨gr, j * 4 + 1, none⟩) hgl (fun h => h)).trans HR1.out, (HKG.out.cell (p := ⟨gr, j * 4 + 2, none⟩) hgl (fun h => h)).trans HR2.out, (HKG.out.cell (p := ⟨gr, j * 4 + 3, none⟩) hgl (fun h => h)).trans HR3.out⟩
 clear hK KK hHeld
 have hHeld := hHeld2
 clear hHeld2
 try simp only [aP,aA,aZ,aS]
 refine wpAnyH_done (by kernel_rfl) ?_ _
 clear hHeld
 have HM5 := Hd (HM.out.kept HKG.out (fun h => h) (fun h => h))
 have HH5 := Hd (HH.out.kept HKG.out (fun _ _ h => h))
 have HK5 := Hd (HK.out.trans HKG.out (fun _ _ h => h.elim))
 obtain ⟨x0, x1, x2, x3⟩ := HX.out.c4
 clear HX HKG HB HM HH HK HR0 HR1 HR2 HR3
 go_wp2_with fail
 refine (store_any b g l k ad cN cM cK _ HM5.out hk).mono ?_; rintro e w6 ⟨rfl, hM6, hK6⟩
 have hH6 := HH5.out.kept hK6 (keepOwn hb hg)
 have HK6 := Hd (HK5.out.trans hK6 (fun i _ e => .inr e))
 obtain ⟨gr6, cap6, A6, c6, h16, h26, h36, h46, h56⟩ := hH6.ex
 have y1 := h16.k 1 rfl
 have z1 := h16.frozen 1
 have HT := Hd (show Stm Z (w6.setCell ⟨q, 1, none⟩ (.int .i64 ((j : Int) + 1))) q t ss (j + 1) nid wd P from hH6.made ht (j + 1))
 have HM7 := Hd (hM6.farq (q := q) (by unfold Own; omega) 1 (.int .i64 ((j : Int) + 1)))
 have HK7 := Hd (HK6.out.setCell (a := ⟨q, 1, none⟩) (fun _ => .inl hH6.own) (.int .i64 ((j : Int) + 1)))
 clear x0 x1 x2 x3 hM6 hK6 hH6 h16 h26 h36 h46 h56 HM5 HH5 HK5 HK6
 go_wp2_with fail
 have hT := HT.out
 obtain ⟨gr7, cap7, A7, c7, h17, h27, h37, h47, h57⟩ := hT.ex
 have HB7 := Hd h17
 clear hT h17 h27 h37 h47 h57 y1 z1
 refine (finished_any q t _ _ cap7 (j + 1) nid wd _ _ _ _ _ _ HB7.out r HJ.out).mono ?_; rintro e w8 ⟨rfl, m8, rfl⟩
 have hk8 := (Kept.refl (fun _ => False) (w6.setCell ⟨q, 1, none⟩ (.int .i64 ((j : Int) + 1)))).drewN m8
 have HM8 := Hd (HM7.out.kept hk8 (fun h => h) (fun h => h))
 have HT8 := Hd (HT.out.kept hk8 (fun _ _ h => h))
 have HK8 := Hd (HK7.out.drewN m8)
 clear hk8 HM7 HT HK7 HB7
 go_wp2
 go_ret
 exact ⟨rfl, HM8.out, HT8.out, HK8.out⟩

theorem result_any (Z : Nat → Prop) (q : Nat) (t : TypeId) (ss : List Sto) (j nid wd : Nat) (P : Pg) (w : World) (h : Stm Z w q t ss j nid wd P) (hj : j = ss.length) (h40 : P.xs.length ≤ 1099511627776) :
  Calls Tryz.prog 117 #[.pointer (some ⟨q, 0, none⟩)] w fun e w' => ∃ A c, e = .returned (.agg #[.int .u64 (nid : Int), .int .u64 (wd : Int), .int .i64 (P.lv : Int), .slice A P.xs.length c, .string P.hi, .bool P.la, .int .u64 (P.rt : Int)]) ∧ Rs w' A c P.xs ∧ (∀ a, A = some a → w.heap.size ≤ a.block) ∧ Kept (fun _ => False) w w' := by
 obtain ⟨gr, cap, A, c, h1, h2, h3, h4, h5⟩ := h.ex
 obtain ⟨S0, B0, Z0⟩ := box_one w [.int .u64 0, .int .u64 0, .int .i64 0, .slice none 0 0, .string ⟨#[]⟩, .bool false, .int .u64 0] 40
 have HB := Hd (h1.alloc (.cells #[.int .u64 0, .int .u64 0, .int .i64 0, .slice none 0 0, .string ⟨#[]⟩, .bool false, .int .u64 0] 40))
 have HR := Hd (h4.below B0 (Nat.le_refl _))
 have HS := Hd S0
 have HK := Hd ((Kept.refl (fun _ => False) w).alloc (.cells #[.int .u64 0, .int .u64 0, .int .i64 0, .slice none 0 0, .string ⟨#[]⟩, .bool false, .int .u64 0] 40))
 clear h1 h2 h3 h4 h5 h S0 B0
 go_enter Tryz.func117, Tryz.ntmps117
 go_wp2_with fail
 refine (finished_any q t _ _ cap j nid wd _ _ _ _ _ _ HB.out true (by simp; omega)).mono ?_; rintro e w1 ⟨rfl, m1, rfl⟩
 replace HB := Hd (HB.out.of (w' := (w.alloc (.cells #[.int .u64 0, .int .u64 0, .int .i64 0, .slice none 0 0, .string ⟨#[]⟩, .bool false, .int .u64 0] 40)).drewN m1) rfl)
 replace HR := Hd (HR.out.keptF ((Kept.refl (fun _ => False) _).drewN m1) (fun _ _ h => h))
 replace HS := Hd (HS.out.of (w' := (w.alloc (.cells #[.int .u64 0, .int .u64 0, .int .i64 0, .slice none 0 0, .string ⟨#[]⟩, .bool false, .int .u64 0] 40)).drewN m1) rfl)
 replace HK := Hd (HK.out.drewN m1)
 replace Z0 : ((w.alloc (.cells #[.int .u64 0, .int .u64 0, .int .i64 0, .slice none 0 0, .string ⟨#[]⟩, .bool false, .int .u64 0] 40)).drewN m1).heap.size = w.heap.size + 1 := Z0
 generalize (w.alloc (.cells #[.int .u64 0, .int .u64 0, .int .i64 0, .slice none 0 0, .string ⟨#[]⟩, .bool false, .int .u64 0] 40)).drewN m1 = W1 at *
 have HZ0 := Hd Z0
 clear Z0
 have x2 := HB.out.k 2 rfl
 have x3 := HB.out.k 3 rfl
 have x4 := HB.out.k 4 rfl
 have x5 := HB.out.k 5 rfl
 have x6 := HB.out.k 6 rfl
 have x7 := HB.out.k 7 rfl
 have x8 := HB.out.k 8 rfl
 go_wp2_with fail
 have hC := Blk.new W1 [.int .u64 (nid : Int), .int .u64 (wd : Int), .int .i64 (P.lv : Int), .slice A P.xs.length c, .string P.hi, .bool P.la, .int .u64 (P.rt : Int)] 40
 have HC := Hd hC
 have hal := (Kept.refl (fun _ => False) W1).alloc (.cells #[.int .u64 (nid : Int), .int .u64 (wd : Int), .int .i64 (P.lv : Int), .slice A P.xs.length c, .string P.hi, .bool P.la, .int .u64 (P.rt : Int)] 40)
 have Z2 : (W1.alloc (.cells #[.int .u64 (nid : Int), .int .u64 (wd : Int), .int .i64 (P.lv : Int), .slice A P.xs.length c, .string P.hi, .bool P.la, .int .u64 (P.rt : Int)] 40)).heap.size = W1.heap.size + 1 := nblk_alloc _ _
 replace HR := Hd (HR.out.keptF hal (fun _ _ h => h))
 replace HS := Hd (hal.blk HS.out (fun h => h))
 replace HK := Hd (HK.out.trans hal (fun _ _ h => h))
 clear hC hal HB x2 x3 x4 x5 x6 x7 x8
 generalize W1.alloc (.cells #[.int .u64 (nid : Int), .int .u64 (wd : Int), .int .i64 (P.lv : Int), .slice A P.xs.length c, .string P.hi, .bool P.la, .int .u64 (P.rt : Int)] 40) = W2 at *
 generalize hb3 : W1.heap.size = b3 at *
 have hb30 : w.heap.size < b3 := by have := HZ0.out; omega
 clear HZ0 hb3
 refine (copied_any P.lv A c P.hi P.la P.rt P.xs _ _ rfl (by omega) HR.out).mono ?_; rintro e w3 ⟨A3, c3, rfl, hO3, hB3⟩
 rw [Z2] at hO3 hB3
 have hC3 := HC.out.below hB3 (by omega)
 have hS3 := HS.out.below hB3 (by omega)
 have HK3 := Hd (HK.out.trans (bkept (by rw [Z2]; exact hB3)) (fun _ _ h => h))
 have y0 := hC3.k 0 rfl
 have zy0 := hC3.frozen 0
 have v0 := hS3.k 0 rfl
 have zv0 := hS3.frozen 0
 have y1 := hC3.k 1 rfl
 have zy1 := hC3.frozen 1
 have v1 := hS3.k 1 rfl
 have zv1 := hS3.frozen 1
 have y2 := hC3.k 2 rfl
 have zy2 := hC3.frozen 2
 have v2 := hS3.k 2 rfl
 have zv2 := hS3.frozen 2
 have y3 := hC3.k 3 rfl
 have zy3 := hC3.frozen 3
 have v3 := hS3.k 3 rfl
 have zv3 := hS3.frozen 3
 have y4 := hC3.k 4 rfl
 have zy4 := hC3.frozen 4
 have v4 := hS3.k 4 rfl
 have zv4 := hS3.frozen 4
 have y5 := hC3.k 5 rfl
 have zy5 := hC3.frozen 5
 have v5 := hS3.k 5 rfl
 have zv5 := hS3.frozen 5
 have y6 := hC3.k 6 rfl
 have zy6 := hC3.frozen 6
 have v6 := hS3.k 6 rfl
 have zv6 := hS3.frozen 6
 have HO3 := Hd hO3
 clear hO3 hB3 hC3 hS3 HC HS HK HR Z2
 go_wp2
 refine bodyPost_ret (v := .agg #[.int .u64 (nid : Int), .int .u64 (wd : Int), .int .i64 (P.lv : Int), .slice A3 P.xs.length c3, .string P.hi, .bool P.la, .int .u64 (P.rt : Int)]) (by first | (simp [results, Tryz.results117, go_sem]; done) | (simp [results, Tryz.results117, go_sem, *]; done)) rfl ?_
 obtain ⟨A2, c2, e2, _, hR2, hA2⟩ := Rs.own HO3.out
 cases e2
 exact ⟨_, _, rfl, hR2.keptF (((((((((((((Kept.refl (fun i => i = b3 ∨ i = w.heap.size) w3).setCell (a := ⟨b3, 2, none⟩) (fun _ => .inl rfl) (.int .i64 (P.lv : Int))).setCell (a := ⟨b3, 3, none⟩) (fun _ => .inl rfl) (.slice A3 P.xs.length c3)).setCell (a := ⟨b3, 4, none⟩) (fun _ => .inl rfl) (.string P.hi)).setCell (a := ⟨b3, 5, none⟩) (fun _ => .inl rfl) (.bool P.la)).setCell (a := ⟨b3, 6, none⟩) (fun _ => .inl rfl) (.int .u64 (P.rt : Int))).setCell (a := ⟨w.heap.size, 0, none⟩) (fun _ => .inr rfl) (.int .u64 (nid : Int))).setCell (a := ⟨w.heap.size, 1, none⟩) (fun _ => .inr rfl) (.int .u64 (wd : Int))).setCell (a := ⟨w.heap.size, 2, none⟩) (fun _ => .inr rfl) (.int .i64 (P.lv : Int))).setCell (a := ⟨w.heap.size, 3, none⟩) (fun _ => .inr rfl) (.slice A3 P.xs.length c3)).setCell (a := ⟨w.heap.size, 4, none⟩) (fun _ => .inr rfl) (.string P.hi)).setCell (a := ⟨w.heap.size, 5, none⟩) (fun _ => .inr rfl) (.bool P.la)).setCell (a := ⟨w.heap.size, 6, none⟩) (fun _ => .inr rfl) (.int .u64 (P.rt : Int))) (fun a ha e => by have := hA2 a ha; rcases e with e | e <;> omega), fun a ha => by have := hA2 a ha; omega, ((((((((((((HK3.out.setNew (b := b3) (Nat.le_of_lt hb30) 2 (.int .i64 (P.lv : Int))).setNew (b := b3) (Nat.le_of_lt hb30) 3 (.slice A3 P.xs.length c3)).setNew (b := b3) (Nat.le_of_lt hb30) 4 (.string P.hi)).setNew (b := b3) (Nat.le_of_lt hb30) 5 (.bool P.la)).setNew (b := b3) (Nat.le_of_lt hb30) 6 (.int .u64 (P.rt : Int))).setNew (b := w.heap.size) (Nat.le_refl _) 0 (.int .u64 (nid : Int))).setNew (b := w.heap.size) (Nat.le_refl _) 1 (.int .u64 (wd : Int))).setNew (b := w.heap.size) (Nat.le_refl _) 2 (.int .i64 (P.lv : Int))).setNew (b := w.heap.size) (Nat.le_refl _) 3 (.slice A3 P.xs.length c3)).setNew (b := w.heap.size) (Nat.le_refl _) 4 (.string P.hi)).setNew (b := w.heap.size) (Nat.le_refl _) 5 (.bool P.la)).setNew (b := w.heap.size) (Nat.le_refl _) 6 (.int .u64 (P.rt : Int)))⟩

theorem wstep_any (Z : Nat → Prop) (q : Nat) (ss : List Sto) (j nid wd : Nat) (P : Pg) (w : World) (h : Stm Z w q 166 ss j nid wd P)  (b g : Nat) (l : List Cel) (k : Nat) (hm : Mem w b g l k) (hb : ¬ Z b) (hg : ¬ Z g) (hk : k < 9223372036854775808) (hlen : ss.length ≤ 1000) (ad : Int) (cN cM : Int) (cK : ByteArray) (hs : ss[j]? = some (ad, cN, cK, cM)) (r : Bool) (hr : (j + 1 == ss.length) = r) :
  Calls Tryz.prog 66 #[.pointer (some ⟨q, 0, none⟩), .pointer (some ⟨b, 0, none⟩)] w fun e w' => e = .returned (.bool r) ∧ Mem w' b g (putAt l ad (cN, cK, cM)) (k + 1) ∧ Stm Z w' q 166 ss (j + 1) nid wd P ∧ Kept (fun i => Z i ∨ i = b ∨ i = g) w w' := by
 have HH := Hd h
 have HM := Hd hm
 have HS := Hd hs
 have HJ := Hd hr
 clear h hm hs hr
 go_enter Tryz.func66, Tryz.ntmps66
 go_wp2_with fail
 refine (step_more Z q 166 ss j nid wd P _ HH.out (by decide) b g l k HM.out hb hg hk hlen ad cN cM cK HS.out r HJ.out).mono ?_; rintro e w1 ⟨rfl, hM, hT, hK⟩
 have HR := Hd (And.intro hM (And.intro hT hK))
 clear hM hT hK HH HM
 go_wp2
 go_ret
 exact ⟨rfl, HR.out.1, HR.out.2.1, HR.out.2.2⟩

theorem wheld_any (Z : Nat → Prop) (q : Nat) (ss : List Sto) (j nid wd : Nat) (P : Pg) (w : World) (h : Stm Z w q 166 ss j nid wd P) (hj : j = ss.length) (h40 : P.xs.length ≤ 1099511627776) :
  Calls Tryz.prog 67 #[.pointer (some ⟨q, 0, none⟩)] w fun e w' => ∃ A c, e = .returned (.agg #[.int .u64 (nid : Int), .int .u64 (wd : Int), .int .i64 (P.lv : Int), .slice A P.xs.length c, .string P.hi, .bool P.la, .int .u64 (P.rt : Int)]) ∧ Rs w' A c P.xs ∧ (∀ a, A = some a → w.heap.size ≤ a.block) ∧ Kept (fun _ => False) w w' := by
 have hzb : ∀ i, Z i → i < w.heap.size := h.lt
 obtain ⟨S0, B0, Z0⟩ := box_one w [.int .u64 0, .int .u64 0, .int .i64 0, .slice none 0 0, .string ⟨#[]⟩, .bool false, .int .u64 0] 40
 have hk0 := (Kept.refl (fun _ => False) w).alloc (.cells #[.int .u64 0, .int .u64 0, .int .i64 0, .slice none 0 0, .string ⟨#[]⟩, .bool false, .int .u64 0] 40)
 have HH := Hd (h.kept hk0 (fun _ _ h => h))
 have HS := Hd S0
 have HK := Hd hk0
 clear h S0 B0 hk0
 go_enter Tryz.func67, Tryz.ntmps67
 go_wp2_with fail
 generalize w.alloc (.cells #[.int .u64 0, .int .u64 0, .int .i64 0, .slice none 0 0, .string ⟨#[]⟩, .bool false, .int .u64 0] 40) = W at *
 refine (result_any Z q 166 ss j nid wd P _ HH.out hj h40).mono ?_; rintro e w1 ⟨A, c, rfl, hR, hA, hK⟩
 have hS1 := hK.blk HS.out (fun h => h)
 have HK1 := Hd (HK.out.trans hK (fun _ _ h => h))
 have v0 := hS1.k 0 rfl
 have zv0 := hS1.frozen 0
 have v1 := hS1.k 1 rfl
 have zv1 := hS1.frozen 1
 have v2 := hS1.k 2 rfl
 have zv2 := hS1.frozen 2
 have v3 := hS1.k 3 rfl
 have zv3 := hS1.frozen 3
 have v4 := hS1.k 4 rfl
 have zv4 := hS1.frozen 4
 have v5 := hS1.k 5 rfl
 have zv5 := hS1.frozen 5
 have v6 := hS1.k 6 rfl
 have zv6 := hS1.frozen 6
 have HR := Hd hR
 have HA := Hd hA
 clear hR hA hK hS1 HS HK HH
 go_wp2
 refine bodyPost_ret (v := .agg #[.int .u64 (nid : Int), .int .u64 (wd : Int), .int .i64 (P.lv : Int), .slice A P.xs.length c, .string P.hi, .bool P.la, .int .u64 (P.rt : Int)]) (by first | (simp [results, Tryz.results67, go_sem]; done) | (simp [results, Tryz.results67, go_sem, *]; done)) rfl ?_
 exact ⟨_, _, rfl, HR.out.keptF ((((((((Kept.refl (fun i => i = w.heap.size) w1).setCell (a := ⟨w.heap.size, 0, none⟩) (fun _ => rfl) (.int .u64 (nid : Int))).setCell (a := ⟨w.heap.size, 1, none⟩) (fun _ => rfl) (.int .u64 (wd : Int))).setCell (a := ⟨w.heap.size, 2, none⟩) (fun _ => rfl) (.int .i64 (P.lv : Int))).setCell (a := ⟨w.heap.size, 3, none⟩) (fun _ => rfl) (.slice A P.xs.length c)).setCell (a := ⟨w.heap.size, 4, none⟩) (fun _ => rfl) (.string P.hi)).setCell (a := ⟨w.heap.size, 5, none⟩) (fun _ => rfl) (.bool P.la)).setCell (a := ⟨w.heap.size, 6, none⟩) (fun _ => rfl) (.int .u64 (P.rt : Int))) (fun a ha e => by have := HA.out a ha; omega), fun a ha => by have := HA.out a ha; omega, (((((((HK1.out.setNew (b := w.heap.size) (Nat.le_refl _) 0 (.int .u64 (nid : Int))).setNew (b := w.heap.size) (Nat.le_refl _) 1 (.int .u64 (wd : Int))).setNew (b := w.heap.size) (Nat.le_refl _) 2 (.int .i64 (P.lv : Int))).setNew (b := w.heap.size) (Nat.le_refl _) 3 (.slice A P.xs.length c)).setNew (b := w.heap.size) (Nat.le_refl _) 4 (.string P.hi)).setNew (b := w.heap.size) (Nat.le_refl _) 5 (.bool P.la)).setNew (b := w.heap.size) (Nat.le_refl _) 6 (.int .u64 (P.rt : Int)))⟩

theorem fstep_any (Z : Nat → Prop) (q : Nat) (ss : List Sto) (j nid wd : Nat) (P : Pg) (w : World) (h : Stm Z w q 165 ss j nid wd P)  (b g : Nat) (l : List Cel) (k : Nat) (hm : Mem w b g l k) (hb : ¬ Z b) (hg : ¬ Z g) (hk : k < 9223372036854775808) (hlen : ss.length ≤ 1000) (ad : Int) (cN cM : Int) (cK : ByteArray) (hs : ss[j]? = some (ad, cN, cK, cM)) (r : Bool) (hr : (j + 1 == ss.length) = r) :
  Calls Tryz.prog 65 #[.pointer (some ⟨q, 0, none⟩), .pointer (some ⟨b, 0, none⟩)] w fun e w' => e = .returned (.bool r) ∧ Mem w' b g (putAt l ad (cN, cK, cM)) (k + 1) ∧ Stm Z w' q 165 ss (j + 1) nid wd P ∧ Kept (fun i => Z i ∨ i = b ∨ i = g) w w' := by
 have HH := Hd h
 have HM := Hd hm
 have HS := Hd hs
 have HJ := Hd hr
 clear h hm hs hr
 go_enter Tryz.func65, Tryz.ntmps65
 go_wp2_with fail
 refine (step_more Z q 165 ss j nid wd P _ HH.out (by decide) b g l k HM.out hb hg hk hlen ad cN cM cK HS.out r HJ.out).mono ?_; rintro e w1 ⟨rfl, hM, hT, hK⟩
 have HR := Hd (And.intro hM (And.intro hT hK))
 clear hM hT hK HH HM
 go_wp2
 go_ret
 exact ⟨rfl, HR.out.1, HR.out.2.1, HR.out.2.2⟩
end

section
open Go.RowKit Go.Deep Plain
set_option linter.unusedVariables false

theorem Tryz.info198 : (Tryz.prog.info? 198).map (fun i => (i.zero, i.size, i.bytes)) = some (some (.agg #[.int .i64 0, .int .u64 0, .string ByteArray.empty, .int .u64 0]), 4, 40) := by kernel_rfl
theorem adr_slot (N F a id : Int) (j : Nat) : adr N F a id (j + 3) = slotAt N F a id (j : Int) := by
 unfold adr; rw [if_neg (by omega), if_neg (by omega), if_neg (by omega)]; congr 1; omega
theorem pc_slot {P : Pg} {j : Nat} {x : Sl} (h : P.xs[j]? = some x) : pc P (j + 3) = slCel x := by
 unfold pc; rw [if_neg (by omega), if_neg (by omega), if_neg (by omega), Nat.add_sub_cancel, h]
theorem pst_three (ad : Nat → Int) (P : Pg) : (pst ad P).take 3 = [(ad 0, pc P 0), (ad 1, pc P 1), (ad 2, pc P 2)] := by
 apply List.ext_getElem?
 intro i
 rw [List.getElem?_take]
 rcases (by omega : i = 0 ∨ i = 1 ∨ i = 2 ∨ 3 ≤ i) with rfl | rfl | rfl | h
 ·rw [if_pos (by omega), pst_at ad P 0 (by omega)]; rfl
 ·rw [if_pos (by omega), pst_at ad P 1 (by omega)]; rfl
 ·rw [if_pos (by omega), pst_at ad P 2 (by omega)]; rfl
 ·rw [if_neg (by omega), List.getElem?_eq_none (by simp; omega)]
theorem pst_step (ad : Nat → Int) (P : Pg) (j : Nat) (h : j < P.xs.length + 3) : (pst ad P).take (j + 1) = (pst ad P).take j ++ [(ad j, pc P j)] := by
 rw [List.take_add_one, pst_at ad P j h]; rfl
theorem pst_all (ad : Nat → Int) (P : Pg) : (pst ad P).take (P.xs.length + 3) = pst ad P := List.take_of_length_le (by rw [pst_length]; exact Nat.le_refl _)
theorem one_sto (a N M : Int) (K : ByteArray) : ∀ u ∈ [Value.int .i64 a, .int .u64 N, .string K, .int .u64 M], u.oneCell' = true := by intro u hu; simp at hu; rcases hu with rfl | rfl | rfl | rfl <;> rfl
theorem neq_sto (a N M N' M' : Int) (K K' : ByteArray) (w : World) :
  (binOp .neq 198 (.agg #[.int .i64 a, .int .u64 N, .string K, .int .u64 M]) (.agg #[.int .i64 a, .int .u64 N', .string K', .int .u64 M'])).run Tryz.prog w = .ok (.bool (!(decide (((a, N, K, M) : Sto) = (a, N', K', M'))))) w := by
 by_cases h1 : N = N'
 ·subst h1
  by_cases h2 : K = K'
  ·subst h2
   by_cases h3 : M = M'
   ·subst h3
    simp [go_sem]
   ·simp [go_sem, h3]
  ·have h4 : ¬ K.toList = K'.toList := fun e => h2 (toList_inj e)
   simp [go_sem, h2, h4]
 ·simp [go_sem, h1]
theorem head_to (T S N C R : Int) (F : Nat) (K fa fb fd : Int) (hl : Lim T S N C R (F : Int)) (hd : Reach3 fa fb fd) (n v : Int) (hv : nodeAt N (F : Int) fa n 1 = v) (w : World) :
  Calls Tryz.prog 137 #[.agg #[.int .i64 T, .int .i64 S, .int .i64 N, .int .i64 C, .int .i64 R, .int .i64 (F : Int), .int .u64 K, .int .i64 fa, .int .i64 fb, .int .i64 fd], .int .u64 n] w fun e w' => e = .returned (.int .i64 v) ∧ Kept (fun _ => False) w w' := by
 have := head_any T S N C R (F : Int) K fa fb fd n hl hd w; rwa [hv] at this
theorem high_to (T S N C R : Int) (F : Nat) (K fa fb fd : Int) (hl : Lim T S N C R (F : Int)) (hd : Reach3 fa fb fd) (n v : Int) (hv : nodeAt N (F : Int) fa n 2 = v) (w : World) :
  Calls Tryz.prog 96 #[.agg #[.int .i64 T, .int .i64 S, .int .i64 N, .int .i64 C, .int .i64 R, .int .i64 (F : Int), .int .u64 K, .int .i64 fa, .int .i64 fb, .int .i64 fd], .int .u64 n] w fun e w' => e = .returned (.int .i64 v) ∧ Kept (fun _ => False) w w' := by
 have := high_any T S N C R (F : Int) K fa fb fd n hl hd w; rwa [hv] at this
theorem right_to (T S N C R : Int) (F : Nat) (K fa fb fd : Int) (hl : Lim T S N C R (F : Int)) (hd : Reach3 fa fb fd) (n v : Int) (hv : nodeAt N (F : Int) fa n 3 = v) (w : World) :
  Calls Tryz.prog 170 #[.agg #[.int .i64 T, .int .i64 S, .int .i64 N, .int .i64 C, .int .i64 R, .int .i64 (F : Int), .int .u64 K, .int .i64 fa, .int .i64 fb, .int .i64 fd], .int .u64 n] w fun e w' => e = .returned (.int .i64 v) ∧ Kept (fun _ => False) w w' := by
 have := right_any T S N C R (F : Int) K fa fb fd n hl hd w; rwa [hv] at this
theorem slot_to (T S N C R : Int) (F : Nat) (K fa fb fd : Int) (hl : Lim T S N C R (F : Int)) (hd : Reach3 fa fb fd) (n i v : Int) (hv : slotAt N (F : Int) fa n i = v) (w : World) :
  Calls Tryz.prog 171 #[.agg #[.int .i64 T, .int .i64 S, .int .i64 N, .int .i64 C, .int .i64 R, .int .i64 (F : Int), .int .u64 K, .int .i64 fa, .int .i64 fb, .int .i64 fd], .int .u64 n, .int .i64 i] w fun e w' => e = .returned (.int .i64 v) ∧ Kept (fun _ => False) w w' := by
 have := slot_any T S N C R (F : Int) K fa fb fd n i hl hd w; rwa [hv] at this

theorem pageStores_any (T S N C R : Int) (F : Nat) (K fa fb fd : Int) (hl : Lim T S N C R (F : Int)) (hd : Reach3 fa fb fd) (nid : Nat) (lv : Nat) (A : Option Addr) (c : Nat) (hi : ByteArray) (la : Bool) (rt : Nat) (xs : List Sl) (w : World) (n : Nat) (hn : xs.length = n) (h40 : n ≤ 1000000) (hlv : lv < 9223372036854775808) (hR : Rs w A c xs) :
  Calls Tryz.prog 156 #[.agg #[.int .i64 T, .int .i64 S, .int .i64 N, .int .i64 C, .int .i64 R, .int .i64 (F : Int), .int .u64 K, .int .i64 fa, .int .i64 fb, .int .i64 fd], .int .u64 (nid : Int), .agg #[.int .i64 (lv : Int), .slice A n c, .string hi, .bool la, .int .u64 (rt : Int)]] w fun e w' => ∃ g cap, e = .returned (.slice (some ⟨g, 0, none⟩) (3 + n) cap) ∧ w'.ownsRow w.heap.size 198 4 (.slice (some ⟨g, 0, none⟩) (3 + n) cap) (3 + n) (flat4 (pst (adr N F fa nid) (⟨lv, hi, la, rt, xs⟩ : Pg))) ∧ Below w.heap.size w w' := by
 obtain ⟨a0, ha0⟩ : ∃ x, nodeAt N (F : Int) fa (nid : Int) 1 = x := ⟨_, rfl⟩
 obtain ⟨a1, ha1⟩ : ∃ x, nodeAt N (F : Int) fa (nid : Int) 2 = x := ⟨_, rfl⟩
 obtain ⟨a2, ha2⟩ : ∃ x, nodeAt N (F : Int) fa (nid : Int) 3 = x := ⟨_, rfl⟩
 obtain ⟨h0, h1, h2, hh⟩ : ∃ x y z, hiCel hi la = (x, y, z) := ⟨_, _, _, rfl⟩
 have e0 : (adr N F fa nid) 0 = a0 := by rw [← ha0]; rfl
 have e1 : (adr N F fa nid) 1 = a1 := by rw [← ha1]; rfl
 have e2 : (adr N F fa nid) 2 = a2 := by rw [← ha2]; rfl
 have hthree : flat4 ((pst (adr N F fa nid) (⟨lv, hi, la, rt, xs⟩ : Pg)).take 3) = [.int .i64 a0, .int .u64 (n : Int), .string ⟨#[]⟩, .int .u64 (lv : Int), .int .i64 a1, .int .u64 h0, .string h1, .int .u64 h2, .int .i64 a2, .int .u64 (rt : Int), .string ⟨#[]⟩, .int .u64 0] := by
  rw [pst_three, e0, e1, e2]
  have p0 : pc (⟨lv, hi, la, rt, xs⟩ : Pg) 0 = ((n : Int), ⟨#[]⟩, (lv : Int)) := by rw [← hn]; rfl
  have p1 : pc (⟨lv, hi, la, rt, xs⟩ : Pg) 1 = (h0, h1, h2) := hh
  have p2 : pc (⟨lv, hi, la, rt, xs⟩ : Pg) 2 = ((rt : Int), ⟨#[]⟩, 0) := rfl
  rw [p0, p1, p2]; rfl
 have HA0 := Hd ha0
 have HA1 := Hd ha1
 have HA2 := Hd ha2
 have HHH := Hd hh
 have H3 := Hd hthree
 have wn := wrap_u (n : Int) (by omega)
 have wl := wrap_u (lv : Int) (by omega)
 obtain ⟨P0, S0, B0, Z0⟩ := box_two w [.int .i64 T, .int .i64 S, .int .i64 N, .int .i64 C, .int .i64 R, .int .i64 (F : Int), .int .u64 K, .int .i64 fa, .int .i64 fb, .int .i64 fd] [.int .i64 (lv : Int), .slice A n c, .string hi, .bool la, .int .u64 (rt : Int)] 28 38
 have HR := Hd (hR.below B0 (Nat.le_refl _))
 have HRW := Hd hR
 have HP := Hd P0
 have HS := Hd S0
 have HB := Hd B0
 have HZ := Hd Z0
 clear ha0 ha1 ha2 hh hthree e0 e1 e2 P0 S0 B0 Z0 hR
 obtain ⟨i0, hi0, hz0, hz1, hz2⟩ := info_parts Tryz.info198
 have HI0 := Hd hi0
 have HI1 := Hd hz0
 have HI2 := Hd hz1
 have HI3 := Hd hz2
 clear hi0 hz0 hz1 hz2
 go_enter Tryz.func156, Tryz.ntmps156
 go_upto_region 1 with fail
 generalize (w.alloc (.cells #[.int .i64 T, .int .i64 S, .int .i64 N, .int .i64 C, .int .i64 R, .int .i64 (F : Int), .int .u64 K, .int .i64 fa, .int .i64 fb, .int .i64 fd] 28)).alloc (.cells #[.int .i64 (lv : Int), .slice A n c, .string hi, .bool la, .int .u64 (rt : Int)] 38) = W at *
 generalize hb1 : w.heap.size + 1 = b1 at *
 have HB1 := Hd hb1
 clear hb1
 refine qtail 25 (fun w' => Kept (fun _ => False) W w' ∧ Blk w' w.heap.size 28 [.int .i64 T, .int .i64 S, .int .i64 N, .int .i64 C, .int .i64 R, .int .i64 (F : Int), .int .u64 K, .int .i64 fa, .int .i64 fb, .int .i64 fd] ∧ Blk w' b1 38 [.int .i64 (lv : Int), .slice A n c, .string hi, .bool la, .int .u64 (rt : Int)]) (by kernel_rfl) (by kernel_rfl) ⟨(Kept.refl _ _).drew, HP.out, HS.out⟩ ?_
 simp only [List.take_succ_cons, List.take_zero, List.drop_succ_cons, List.drop_zero]
 refine tkQ 10 ?_ (fun wq hSw => ?_) ?_
 rotate_left
 ·(have hb9 := hSw.2.1; have hc9 := hSw.2.2; obtain ⟨x0, x1, x2, x3, x4, x5, x6, x7, x8, x9⟩ := hb9.c10; obtain ⟨y0, y1, y2, y3, y4⟩ := hc9.c5; clear hb9 hc9; go_simp; try with_reducible rfl)
 try simp only [aP,aA,aZ,aS]
 refine tkQ 11 ?_ (fun wq hSw => ?_) ?_
 rotate_left
 ·(go_simp; try with_reducible rfl)
 try simp only [aP,aA,aZ,aS]
 refine qcall (o := ⟨some 12, _, _, _, _, _⟩) (v := .int .i64 a0) (by rfl) (fun wq hSw => ?_) (fun wq hSw => Calls.mono (head_to T S N C R F K fa fb fd hl hd (nid : Int) a0 HA0.out _) ?_) ?_
 ·(go_simp; try with_reducible rfl)
 ·rintro e w9 ⟨rfl, hk⟩; exact ⟨rfl, hSw.1.trans hk (fun _ _ h => h), hk.blk hSw.2.1 (fun h => h), hk.blk hSw.2.2 (fun h => h)⟩
 try simp only [aP,aA,aZ,aS]
 refine tkQ 13 ?_ (fun wq hSw => ?_) ?_
 rotate_left
 ·(go_simp; try with_reducible rfl)
 try simp only [aP,aA,aZ,aS]
 refine tkQ 14 ?_ (fun wq hSw => ?_) ?_
 rotate_left
 ·(have hb9 := hSw.2.1; have hc9 := hSw.2.2; obtain ⟨x0, x1, x2, x3, x4, x5, x6, x7, x8, x9⟩ := hb9.c10; obtain ⟨y0, y1, y2, y3, y4⟩ := hc9.c5; clear hb9 hc9; go_simp; try with_reducible rfl)
 try simp only [aP,aA,aZ,aS]
 refine tkQ 15 ?_ (fun wq hSw => ?_) ?_
 rotate_left
 ·(go_simp; try with_reducible rfl)
 try simp only [aP,aA,aZ,aS]
 refine tkQ 16 (.int .u64 (n : Int)) (fun wq hSw => ?_) ?_
 ·(go_simp; try first | (with_reducible rfl) | (simp; omega) | (intros; omega) | simp [*])
 try simp only [aP,aA,aZ,aS]
 refine tkQ 17 ?_ (fun wq hSw => ?_) ?_
 rotate_left
 ·(go_simp; try with_reducible rfl)
 try simp only [aP,aA,aZ,aS]
 refine tkQ 18 ?_ (fun wq hSw => ?_) ?_
 rotate_left
 ·(have hb9 := hSw.2.1; have hc9 := hSw.2.2; obtain ⟨x0, x1, x2, x3, x4, x5, x6, x7, x8, x9⟩ := hb9.c10; obtain ⟨y0, y1, y2, y3, y4⟩ := hc9.c5; clear hb9 hc9; go_simp; try with_reducible rfl)
 try simp only [aP,aA,aZ,aS]
 refine tkQ 19 (.int .u64 (lv : Int)) (fun wq hSw => ?_) ?_
 ·(go_simp; try first | (with_reducible rfl) | (simp; omega) | (intros; omega) | simp [*])
 try simp only [aP,aA,aZ,aS]
 refine tkQ 20 ?_ (fun wq hSw => ?_) ?_
 rotate_left
 ·(go_simp; try with_reducible rfl)
 try simp only [aP,aA,aZ,aS]
 refine tkQ 21 ?_ (fun wq hSw => ?_) ?_
 rotate_left
 ·(go_simp; try with_reducible rfl)
 try simp only [aP,aA,aZ,aS]
 refine tkQ 22 ?_ (fun wq hSw => ?_) ?_
 rotate_left
 ·(have hb9 := hSw.2.1; have hc9 := hSw.2.2; obtain ⟨x0, x1, x2, x3, x4, x5, x6, x7, x8, x9⟩ := hb9.c10; obtain ⟨y0, y1, y2, y3, y4⟩ := hc9.c5; clear hb9 hc9; go_simp; try with_reducible rfl)
 try simp only [aP,aA,aZ,aS]
 refine tkQ 23 ?_ (fun wq hSw => ?_) ?_
 rotate_left
 ·(go_simp; try with_reducible rfl)
 try simp only [aP,aA,aZ,aS]
 refine qcall (o := ⟨some 24, _, _, _, _, _⟩) (v := .int .i64 a1) (by rfl) (fun wq hSw => ?_) (fun wq hSw => Calls.mono (high_to T S N C R F K fa fb fd hl hd (nid : Int) a1 HA1.out _) ?_) ?_
 ·(go_simp; try with_reducible rfl)
 ·rintro e w9 ⟨rfl, hk⟩; exact ⟨rfl, hSw.1.trans hk (fun _ _ h => h), hk.blk hSw.2.1 (fun h => h), hk.blk hSw.2.2 (fun h => h)⟩
 try simp only [aP,aA,aZ,aS]
 refine tkQ 25 ?_ (fun wq hSw => ?_) ?_
 rotate_left
 ·(have hb9 := hSw.2.1; have hc9 := hSw.2.2; obtain ⟨x0, x1, x2, x3, x4, x5, x6, x7, x8, x9⟩ := hb9.c10; obtain ⟨y0, y1, y2, y3, y4⟩ := hc9.c5; clear hb9 hc9; go_simp; try with_reducible rfl)
 try simp only [aP,aA,aZ,aS]
 refine qcall (o := ⟨some 26, _, _, _, _, _⟩) (v := .agg #[.int .u64 h0, .string h1, .int .u64 h2]) (by rfl) (fun wq hSw => ?_) (fun wq hSw => Calls.mono (highOf_any lv A n c hi la rt h0 h2 h1 HHH.out _) ?_) ?_
 ·(go_simp; try with_reducible rfl)
 ·rintro e w9 ⟨rfl, hk⟩; exact ⟨rfl, hSw.1.trans hk (fun _ _ h => h), hk.blk hSw.2.1 (fun h => h), hk.blk hSw.2.2 (fun h => h)⟩
 try simp only [aP,aA,aZ,aS]
 refine tkQ 27 ?_ (fun wq hSw => ?_) ?_
 rotate_left
 ·(go_simp; try with_reducible rfl)
 try simp only [aP,aA,aZ,aS]
 refine tkQ 28 ?_ (fun wq hSw => ?_) ?_
 rotate_left
 ·(have hb9 := hSw.2.1; have hc9 := hSw.2.2; obtain ⟨x0, x1, x2, x3, x4, x5, x6, x7, x8, x9⟩ := hb9.c10; obtain ⟨y0, y1, y2, y3, y4⟩ := hc9.c5; clear hb9 hc9; go_simp; try with_reducible rfl)
 try simp only [aP,aA,aZ,aS]
 refine tkQ 29 ?_ (fun wq hSw => ?_) ?_
 rotate_left
 ·(go_simp; try with_reducible rfl)
 try simp only [aP,aA,aZ,aS]
 refine qcall (o := ⟨some 30, _, _, _, _, _⟩) (v := .int .i64 a2) (by rfl) (fun wq hSw => ?_) (fun wq hSw => Calls.mono (right_to T S N C R F K fa fb fd hl hd (nid : Int) a2 HA2.out _) ?_) ?_
 ·(go_simp; try with_reducible rfl)
 ·rintro e w9 ⟨rfl, hk⟩; exact ⟨rfl, hSw.1.trans hk (fun _ _ h => h), hk.blk hSw.2.1 (fun h => h), hk.blk hSw.2.2 (fun h => h)⟩
 try simp only [aP,aA,aZ,aS]
 refine tkQ 31 ?_ (fun wq hSw => ?_) ?_
 rotate_left
 ·(go_simp; try with_reducible rfl)
 try simp only [aP,aA,aZ,aS]
 refine tkQ 32 ?_ (fun wq hSw => ?_) ?_
 rotate_left
 ·(have hb9 := hSw.2.1; have hc9 := hSw.2.2; obtain ⟨x0, x1, x2, x3, x4, x5, x6, x7, x8, x9⟩ := hb9.c10; obtain ⟨y0, y1, y2, y3, y4⟩ := hc9.c5; clear hb9 hc9; go_simp; try with_reducible rfl)
 try simp only [aP,aA,aZ,aS]
 refine tkQ 33 ?_ (fun wq hSw => ?_) ?_
 rotate_left
 ·(go_simp; try with_reducible rfl)
 try simp only [aP,aA,aZ,aS]
 refine tkQ 34 ?_ (fun wq hSw => ?_) ?_
 rotate_left
 ·(go_simp; try with_reducible rfl)
 try simp only [aP,aA,aZ,aS]
 refine wpQuiet_nil ?_
 intro wz hHeld
 obtain ⟨hK5, hP5, hS5⟩ := hHeld
 have hB5 := hK5.below (Nat.le_refl _) (fun _ h => h.elim)
 have HR5 := Hd (HR.out.below hB5 (Nat.le_refl _))
 have HBW := Hd (HB.out.trans (hB5.mono (by rw [HZ.out]; omega)))
 have hwz : w.heap.size ≤ wz.heap.size := HBW.out.size
 have hO := World.ownsRow_lit (base := w.heap.size) (e := 198) (size := 4) wz #[.int .i64 a0, .int .u64 (n : Int), .string ⟨#[]⟩, .int .u64 (lv : Int), .int .i64 a1, .int .u64 h0, .string h1, .int .u64 h2, .int .i64 a2, .int .u64 (rt : Int), .string ⟨#[]⟩, .int .u64 0] 3 hwz (by unfold maxLen; omega) rfl
 have HO := Hd (show (wz.alloc (.cells #[.int .i64 a0, .int .u64 (n : Int), .string ⟨#[]⟩, .int .u64 (lv : Int), .int .i64 a1, .int .u64 h0, .string h1, .int .u64 h2, .int .i64 a2, .int .u64 (rt : Int), .string ⟨#[]⟩, .int .u64 0] 198)).ownsRow w.heap.size 198 4 (.slice (some ⟨wz.heap.size, 0, none⟩) (3 + 0) 3) (3 + 0) (flat4 ((pst (adr N F fa nid) (⟨lv, hi, la, rt, xs⟩ : Pg)).take (0 + 3))) by rw [Nat.zero_add, H3.out]; exact hO)
 have hPa := hP5.alloc (.cells #[.int .i64 a0, .int .u64 (n : Int), .string ⟨#[]⟩, .int .u64 (lv : Int), .int .i64 a1, .int .u64 h0, .string h1, .int .u64 h2, .int .i64 a2, .int .u64 (rt : Int), .string ⟨#[]⟩, .int .u64 0] 198)
 have hSa := hS5.alloc (.cells #[.int .i64 a0, .int .u64 (n : Int), .string ⟨#[]⟩, .int .u64 (lv : Int), .int .i64 a1, .int .u64 h0, .string h1, .int .u64 h2, .int .i64 a2, .int .u64 (rt : Int), .string ⟨#[]⟩, .int .u64 0] 198)
 have HPa := Hd hPa
 have HSa := Hd hSa
 have hBa := (Below.refl wz.heap.size wz).alloc (Nat.le_refl _) (.cells #[.int .i64 a0, .int .u64 (n : Int), .string ⟨#[]⟩, .int .u64 (lv : Int), .int .i64 a1, .int .u64 h0, .string h1, .int .u64 h2, .int .i64 a2, .int .u64 (rt : Int), .string ⟨#[]⟩, .int .u64 0] 198)
 have HRa := Hd (HR5.out.below hBa (Nat.le_refl _))
 have HBa := Hd (HBW.out.trans (hBa.mono hwz))
 have y1 := hS5.k 1 rfl
 have hb1z := hS5.lt
 clear hK5 hP5 hS5 hB5 hO hPa hSa hBa HR HP HS HB HR5 HBW HA0 HA1 HA2 HHH H3
 go_wp2_with fail
 generalize wz.alloc (.cells #[.int .i64 a0, .int .u64 (n : Int), .string ⟨#[]⟩, .int .u64 (lv : Int), .int .i64 a1, .int .u64 h0, .string h1, .int .u64 h2, .int .i64 a2, .int .u64 (rt : Int), .string ⟨#[]⟩, .int .u64 0] 198) = W2 at *
 clear y1
 go_loopw [7, 39] (fun v i wr => ∃ (j g cap : Nat), j ≤ n ∧ i = .int .i64 j ∧ v = .slice (some ⟨g, 0, none⟩) (3 + j) cap ∧ wr.ownsRow w.heap.size 198 4 (.slice (some ⟨g, 0, none⟩) (3 + j) cap) (3 + j) (flat4 ((pst (adr N F fa nid) (⟨lv, hi, la, rt, xs⟩ : Pg)).take (j + 3))) ∧ Blk wr w.heap.size 28 [.int .i64 T, .int .i64 S, .int .i64 N, .int .i64 C, .int .i64 R, .int .i64 (F : Int), .int .u64 K, .int .i64 fa, .int .i64 fb, .int .i64 fd] ∧ Rs wr A c xs ∧ Below w.heap.size w wr) (fun _ i _ => n - (intOf i).toNat)
 case atStart => exact ⟨0, _, _, Nat.zero_le _, rfl, rfl, HO.out, HPa.out, HRa.out, HBa.out⟩
 case round =>
  obtain ⟨j, g, cap, hj, rfl, rfl, hO, hP, hR, hB⟩ := hrel
  rename World => wr
  clear HO HPa HSa HRa HBa
  have HO := Hd hO
  have HP := Hd hP
  have HR := Hd hR
  have HB := Hd hB
  clear hO hP hR hB
  by_cases hlt : j < n
  ·obtain ⟨x, hx⟩ : ∃ x, xs[j]? = some x := ⟨_, List.getElem?_eq_getElem (by omega)⟩
   obtain ⟨gx, off, rfl, hgx, hcell⟩ := HR.out.at (by omega)
   obtain ⟨cx0, cx1⟩ := hcell j x hx
   obtain ⟨aj, haj⟩ : ∃ y, slotAt N (F : Int) fa (nid : Int) (j : Int) = y := ⟨_, rfl⟩
   have HAJ := Hd haj
   have hnext : flat4 ((pst (adr N F fa nid) (⟨lv, hi, la, rt, xs⟩ : Pg)).take (j + 1 + 3)) = flat4 ((pst (adr N F fa nid) (⟨lv, hi, la, rt, xs⟩ : Pg)).take (j + 3)) ++ [.int .i64 aj, .int .u64 (x.2 : Int), .string x.1, .int .u64 0] := by
    rw [show j + 1 + 3 = (j + 3) + 1 by omega, pst_step _ _ _ (by show j + 3 < xs.length + 3; omega), flat4_append, adr_slot, haj, pc_slot (P := (⟨lv, hi, la, rt, xs⟩ : Pg)) hx]; rfl
   have HNX := Hd hnext
   clear hcell hx haj hnext
   go_upto_region 5 with fail
   clear cx0 cx1
   have HX := Hd (Blk.new wr [.string x.1, .int .u64 (x.2 : Int)] 60)
   have hbl := (Below.refl wr.heap.size wr).alloc (Nat.le_refl _) (.cells #[.string x.1, .int .u64 (x.2 : Int)] 60)
   replace HO := Hd (own_below HO.out hbl (Nat.le_refl _))
   replace HP := Hd (HP.out.alloc (.cells #[.string x.1, .int .u64 (x.2 : Int)] 60))
   replace HR := Hd (HR.out.below hbl (Nat.le_refl _))
   have hwr := HB.out.size
   replace HB := Hd (HB.out.alloc hwr (.cells #[.string x.1, .int .u64 (x.2 : Int)] 60))
   have hwr2 : w.heap.size ≤ (wr.alloc (.cells #[.string x.1, .int .u64 (x.2 : Int)] 60)).heap.size := by rw [nblk_alloc]; omega
   have hgw := (HO.out.lt g rfl).1
   clear hbl
   generalize wr.alloc (.cells #[.string x.1, .int .u64 (x.2 : Int)] 60) = V at *
   generalize wr.heap.size = bx at *
   replace HX := Hd (HX.out.of (w' := V.drew) rfl)
   replace HP := Hd (HP.out.of (w' := V.drew) rfl)
   replace HO := Hd HO.out.drew
   replace HR := Hd (HR.out.keptF ((Kept.refl (fun _ => False) V).drew) (fun _ _ h => h))
   replace HB := Hd HB.out.drew
   replace hwr2 : w.heap.size ≤ V.drew.heap.size := hwr2
   have hgb := own_far HO.out HX.out (by decide)
   have hgl := own_far HO.out HP.out (by decide)
   refine wp_region_held_drew (S := (fun w' => Blk w' w.heap.size 28 [.int .i64 T, .int .i64 S, .int .i64 N, .int .i64 C, .int .i64 R, .int .i64 (F : Int), .int .u64 K, .int .i64 fa, .int .i64 fb, .int .i64 fd] ∧ Blk w' bx 60 [.string x.1, .int .u64 (x.2 : Int)])) (by kernel_rfl) ?_ (fun hHeld => ?_)
   ·exact ⟨HP.out, HX.out⟩
   generalize V.drew = G at *
   refine tkH 0 44 ?_ rfl ?_ hHeld ?_
   rotate_left
   ·(intro wq hSw; go_simp; try with_reducible rfl)
   try simp only [aP,aA,aZ,aS]
   refine tkH 1 45 ?_ rfl ?_ hHeld ?_
   rotate_left
   ·(intro wq hSw; have hb9 := hSw.1; have hc9 := hSw.2; obtain ⟨x0, x1, x2, x3, x4, x5, x6, x7, x8, x9⟩ := hb9.c10; have y0 := hc9.k 0 rfl; have y1 := hc9.k 1 rfl; clear hb9 hc9; go_simp; try with_reducible rfl)
   try simp only [aP,aA,aZ,aS]
   refine tkH 2 46 ?_ rfl ?_ hHeld ?_
   rotate_left
   ·(intro wq hSw; go_simp; try with_reducible rfl)
   try simp only [aP,aA,aZ,aS]
   refine tkH 3 47 ?_ rfl ?_ hHeld ?_
   rotate_left
   ·(intro wq hSw; go_simp; try with_reducible rfl)
   try simp only [aP,aA,aZ,aS]
   refine tkH 5 49 ?_ rfl ?_ hHeld ?_
   rotate_left
   ·(intro wq hSw; go_simp; try with_reducible rfl)
   try simp only [aP,aA,aZ,aS]
   refine tkH 6 50 ?_ rfl ?_ hHeld ?_
   rotate_left
   ·(intro wq hSw; have hb9 := hSw.1; have hc9 := hSw.2; obtain ⟨x0, x1, x2, x3, x4, x5, x6, x7, x8, x9⟩ := hb9.c10; have y0 := hc9.k 0 rfl; have y1 := hc9.k 1 rfl; clear hb9 hc9; go_simp; try with_reducible rfl)
   try simp only [aP,aA,aZ,aS]
   refine tkH 7 51 ?_ rfl ?_ hHeld ?_
   rotate_left
   ·(intro wq hSw; go_simp; try with_reducible rfl)
   try simp only [aP,aA,aZ,aS]
   refine tkH 8 52 ?_ rfl ?_ hHeld ?_
   rotate_left
   ·(intro wq hSw; have hb9 := hSw.1; have hc9 := hSw.2; obtain ⟨x0, x1, x2, x3, x4, x5, x6, x7, x8, x9⟩ := hb9.c10; have y0 := hc9.k 0 rfl; have y1 := hc9.k 1 rfl; clear hb9 hc9; go_simp; try with_reducible rfl)
   try simp only [aP,aA,aZ,aS]
   refine tkH 9 53 ?_ rfl ?_ hHeld ?_
   rotate_left
   ·(intro wq hSw; go_simp; try with_reducible rfl)
   try simp only [aP,aA,aZ,aS]
   refine wpAnyH_ready (rs := [4]) (by kernel_rfl) (by simp) ?_
   refine AllReadyH.cons (o := ⟨some 48, _, _, _, _, _⟩) rfl (fun KK hK => ?_) AllReadyH.nil
   go_simp
   go_at_call 171
   refine (slot_to T S N C R F K fa fb fd hl hd (nid : Int) (j : Int) aj HAJ.out _).mono ?_; rintro e w5 ⟨rfl, hK5⟩
   have hB5 := hK5.below (Nat.le_refl _) (fun _ h => h.elim)
   replace HP := Hd (hK5.blk HP.out (fun h => h))
   replace HX := Hd (hK5.blk HX.out (fun h => h))
   replace HO := Hd (own_below HO.out hB5 (Nat.le_refl _))
   replace HR := Hd (HR.out.below hB5 (Nat.le_refl _))
   replace HB := Hd (HB.out.trans (hB5.mono hwr2))
   have hw5 : w.heap.size ≤ w5.heap.size := HB.out.size
   clear hK5 hB5
   refine hK.out _ _ ?_ (fun hHeld2 => ?_)
   ·exact ⟨HP.out, HX.out⟩
   clear hK KK hHeld
   have hHeld := hHeld2
   clear hHeld2
   try simp only [aP,aA,aZ,aS]
   refine tkH 10 54 ?_ rfl ?_ hHeld ?_
   rotate_left
   ·(intro wq hSw; go_simp; try with_reducible rfl)
   try simp only [aP,aA,aZ,aS]
   refine wpAnyH_ready (rs := [11]) (by kernel_rfl) (by simp) ?_
   refine AllReadyH.cons (o := ⟨some 55, _, _, _, _, _⟩) rfl (fun KK hK => ?_) AllReadyH.nil
   go_simp
   have HNb := Hd (show (w5.alloc (.cells #[.int .i64 aj, .int .u64 (x.2 : Int), .string x.1, .int .u64 0] 198)).heap[w5.heap.size]? = some (.cells #[.int .i64 aj, .int .u64 (x.2 : Int), .string x.1, .int .u64 0] 198 (0, 0)) from Blk.new w5 [.int .i64 aj, .int .u64 (x.2 : Int), .string x.1, .int .u64 0] 198)
   have hbl := (Below.refl w5.heap.size w5).alloc (Nat.le_refl _) (.cells #[.int .i64 aj, .int .u64 (x.2 : Int), .string x.1, .int .u64 0] 198)
   replace HO := Hd (own_below HO.out hbl (Nat.le_refl _))
   replace HP := Hd (HP.out.alloc (.cells #[.int .i64 aj, .int .u64 (x.2 : Int), .string x.1, .int .u64 0] 198))
   replace HX := Hd (HX.out.alloc (.cells #[.int .i64 aj, .int .u64 (x.2 : Int), .string x.1, .int .u64 0] 198))
   replace HR := Hd (HR.out.below hbl (Nat.le_refl _))
   replace HB := Hd (HB.out.alloc hw5 (.cells #[.int .i64 aj, .int .u64 (x.2 : Int), .string x.1, .int .u64 0] 198))
   have hw6 : w.heap.size ≤ (w5.alloc (.cells #[.int .i64 aj, .int .u64 (x.2 : Int), .string x.1, .int .u64 0] 198)).heap.size := by rw [nblk_alloc]; omega
   clear hbl
   generalize w5.alloc (.cells #[.int .i64 aj, .int .u64 (x.2 : Int), .string x.1, .int .u64 0] 198) = V6 at *
   refine hK.out _ _ ?_ (fun hHeld2 => ?_)
   ·exact ⟨HP.out, HX.out⟩
   clear hK KK hHeld
   have hHeld := hHeld2
   clear hHeld2
   try simp only [aP,aA,aZ,aS]
   refine wpAnyH_ready (rs := [12]) (by kernel_rfl) (by simp) ?_
   refine AllReadyH.cons (o := ⟨some 56, _, _, _, _, _⟩) rfl (fun KK hK => ?_) AllReadyH.nil
   refine step_append_lies _ (by rfl) (.tmp 44) (.tmp 55) 161 (by rfl) w.heap.size 198 i0 _ 4 40 Tryz.underlying161 HI0.out HI1.out HI2.out HI3.out rfl (by decide) _ (3 + j) _ (by rfl) HO.out ⟨w5.heap.size, 0, none⟩ 1 1 [.int .i64 aj, .int .u64 (x.2 : Int), .string x.1, .int .u64 0] (by rfl) (by rfl) (World.news_of_block HNb.out) (one_sto _ _ _ _) (by omega) (by unfold maxLen; omega) (by omega) hw6 _ rfl ?_
   intro g4 cap4 w4 hown4 hgrow4 hat4 hlt4
   replace HP := Hd (HP.out.of (hgrow4.block _ HP.out.lt (fun e => hgl e.symm)))
   replace HX := Hd (HX.out.of (hgrow4.block bx HX.out.lt (fun e => hgb e.symm)))
   have hbel := (Below.refl w.heap.size V6).grown hgrow4 hw6 (fun k hk => (World.ownsRow.lt HO.out k hk).1)
   replace HB := Hd (HB.out.trans hbel)
   replace HR := Hd (HRW.out.below HB.out (Nat.le_refl _))
   replace HO := Hd (show w4.ownsRow w.heap.size 198 4 (.slice (some ⟨g4, 0, none⟩) (3 + (j + 1)) cap4) (3 + (j + 1)) (flat4 ((pst (adr N F fa nid) (⟨lv, hi, la, rt, xs⟩ : Pg)).take (j + 1 + 3))) by rw [HNX.out]; exact hown4)
   clear hown4 hgrow4 hat4 hlt4 HNb hbel
   refine hK.out _ _ ?_ (fun hHeld2 => ?_)
   ·exact ⟨HP.out, HX.out⟩
   clear hK KK hHeld
   have hHeld := hHeld2
   clear hHeld2
   try simp only [aP,aA,aZ,aS]
   refine tkH 13 7 ?_ rfl ?_ hHeld ?_
   rotate_left
   ·(intro wq hSw; go_simp; try with_reducible rfl)
   try simp only [aP,aA,aZ,aS]
   refine wpAnyH_done (by kernel_rfl) ?_ _
   clear hHeld
   go_wp2
   go_roundw
   case rel => exact ⟨j + 1, g4, cap4, by omega, by go_num, by first | rfl | simp; omega, HO.out, HP.out, HR.out, HB.out⟩
   case measure => simp [intOf]; omega
  ·obtain rfl : j = n := by omega
   go_wp2
   go_ret
   refine ⟨g, cap, rfl, ?_, HB.out⟩
   have hO := HO.out
   rw [show j + 3 = xs.length + 3 by omega, pst_all _ (⟨lv, hi, la, rt, xs⟩ : Pg)] at hO
   exact hO

theorem changes_any (fr tg : List Sto) (gf gt cf ct n m : Nat) (w : World) (hn : fr.length = n) (hm : tg.length = m) (hn40 : n ≤ 1000000) (hm40 : m ≤ 1000000) (hf : gf < w.heap.size ∧ ∀ i u, (flat4 fr)[i]? = some u → w.cell? ⟨gf, i, none⟩ = some u) (ht : gt < w.heap.size ∧ ∀ i u, (flat4 tg)[i]? = some u → w.cell? ⟨gt, i, none⟩ = some u)
  (hsm : ∀ (i : Nat) (s t : Sto), fr[i]? = some s → tg[i]? = some t → s.1 = t.1) :
  Calls Tryz.prog 155 #[.slice (some ⟨gf, 0, none⟩) n cf, .slice (some ⟨gt, 0, none⟩) m ct] w fun e w' => ∃ v, e = .returned v ∧ w'.ownsRow w.heap.size 198 4 v (chg fr tg).length (flat4 (chg fr tg)) ∧ Below w.heap.size w w' := by
 have HT := Hd ht
 have HF := Hd hf
 have HSM := Hd hsm
 clear ht hf hsm
 obtain ⟨i0, hi0, hz0, hz1, hz2⟩ := info_parts Tryz.info198
 have HI0 := Hd hi0
 have HI1 := Hd hz0
 have HI2 := Hd hz1
 have HI3 := Hd hz2
 clear hi0 hz0 hz1 hz2
 go_enter Tryz.func155, Tryz.ntmps155
 go_wp2_with fail
 go_loopw [5, 10] (fun v i wr => ∃ (j : Nat), j ≤ m ∧ i = .int .i64 j ∧ wr.ownsRow w.heap.size 198 4 v (chgTo fr tg j).length (flat4 (chgTo fr tg j)) ∧ Below w.heap.size w wr) (fun _ i _ => m - (intOf i).toNat)
 case atStart => exact ⟨0, Nat.zero_le _, rfl, World.ownsRow_nil _ _ _ _, Below.refl _ _⟩
 case round =>
  obtain ⟨j, hj, rfl, hO, hB⟩ := hrel
  rename World => wr
  have HO := Hd hO
  have HB := Hd hB
  clear hO hB
  by_cases hlt : j < m
  ·obtain ⟨⟨aj, cN, cK, cM⟩, hsj⟩ : ∃ s, tg[j]? = some s := ⟨_, List.getElem?_eq_getElem (by omega)⟩
   obtain ⟨f0, f1, f2, f3⟩ := flat4_at tg j _ hsj
   have t0 := (HB.out.cell (p := ⟨gt, j * 4, none⟩) HT.out.1).trans (HT.out.2 _ _ f0)
   have t1 := (HB.out.cell (p := ⟨gt, j * 4 + 1, none⟩) HT.out.1).trans (HT.out.2 _ _ f1)
   have t2 := (HB.out.cell (p := ⟨gt, j * 4 + 2, none⟩) HT.out.1).trans (HT.out.2 _ _ f2)
   have t3 := (HB.out.cell (p := ⟨gt, j * 4 + 3, none⟩) HT.out.1).trans (HT.out.2 _ _ f3)
   have hgt : gt < wr.heap.size := Nat.lt_of_lt_of_le HT.out.1 HB.out.size
   have hjm : (j : Int) < (m : Int) := by omega
   have hj0 : (0 : Int) ≤ (j : Int) := by omega
   have hstep := chgTo_step (fr := fr) hsj
   have HSTEP := Hd hstep
   have hwr := HB.out.size
   have HC1 := Hd (chgTo_length fr tg j)
   clear f0 f1 f2 f3 hstep
   simp only at t0 t1 t2 t3
   by_cases hfl : j < n
   ·obtain ⟨⟨af, dN, dK, dM⟩, hfj⟩ : ∃ s, fr[j]? = some s := ⟨_, List.getElem?_eq_getElem (by omega)⟩
    obtain rfl : af = aj := HSM.out j _ _ hfj hsj
    obtain ⟨f0, f1, f2, f3⟩ := flat4_at fr j _ hfj
    have q0 := (HB.out.cell (p := ⟨gf, j * 4, none⟩) HF.out.1).trans (HF.out.2 _ _ f0)
    have q1 := (HB.out.cell (p := ⟨gf, j * 4 + 1, none⟩) HF.out.1).trans (HF.out.2 _ _ f1)
    have q2 := (HB.out.cell (p := ⟨gf, j * 4 + 2, none⟩) HF.out.1).trans (HF.out.2 _ _ f2)
    have q3 := (HB.out.cell (p := ⟨gf, j * 4 + 3, none⟩) HF.out.1).trans (HF.out.2 _ _ f3)
    have hgf : gf < wr.heap.size := Nat.lt_of_lt_of_le HF.out.1 HB.out.size
    have hjn : (j : Int) < (n : Int) := by omega
    have hnn : decide ((n : Int) ≤ (j : Int)) = false := by simp; omega
    simp only at q0 q1 q2 q3
    clear f0 f1 f2 f3
    obtain ⟨bb, hbb⟩ : ∃ bb, (!(decide (((af, cN, cK, cM) : Sto) = (af, dN, dK, dM)))) = bb := ⟨_, rfl⟩
    have hnq : ∀ w : World, (binOp .neq 198 (.agg #[.int .i64 af, .int .u64 cN, .string cK, .int .u64 cM]) (.agg #[.int .i64 af, .int .u64 dN, .string dK, .int .u64 dM])).run Tryz.prog w = .ok (.bool bb) w := fun w => by rw [← hbb]; exact neq_sto _ _ _ _ _ _ _ w
    have HNW := Hd (show news fr (af, cN, cK, cM) j = bb by unfold news; rw [hfj]; exact hbb)
    clear hbb hfj hsj
    go_upto_region 5 with fail
    have HX := Hd (Blk.new wr [.int .i64 af, .int .u64 cN, .string cK, .int .u64 cM] 198)
    have hbl := (Below.refl wr.heap.size wr).alloc (Nat.le_refl _) (.cells #[.int .i64 af, .int .u64 cN, .string cK, .int .u64 cM] 198)
    replace HO := Hd (own_below HO.out hbl (Nat.le_refl _))
    replace HB := Hd (HB.out.alloc hwr (.cells #[.int .i64 af, .int .u64 cN, .string cK, .int .u64 cM] 198))
    replace hwr : w.heap.size ≤ (wr.alloc (.cells #[.int .i64 af, .int .u64 cN, .string cK, .int .u64 cM] 198)).heap.size := by rw [nblk_alloc]; omega
    replace q0 := (hbl.cell (p := ⟨gf, j * 4, none⟩) hgf).trans q0
    replace q1 := (hbl.cell (p := ⟨gf, j * 4 + 1, none⟩) hgf).trans q1
    replace q2 := (hbl.cell (p := ⟨gf, j * 4 + 2, none⟩) hgf).trans q2
    replace q3 := (hbl.cell (p := ⟨gf, j * 4 + 3, none⟩) hgf).trans q3
    clear hgf
    clear hbl t0 t1 t2 t3 hgt
    generalize wr.alloc (.cells #[.int .i64 af, .int .u64 cN, .string cK, .int .u64 cM] 198) = V at *
    generalize wr.heap.size = bx at *
    have hX := HX.out
    obtain ⟨u0, u1, u2, u3⟩ := hX.c4
    clear hX
    cases bb
    ·go_quiet (fail)
     go_wp2
     go_roundw
     case rel => exact ⟨j + 1, by omega, by go_num, by rw [HSTEP.out, if_neg (by rw [HNW.out]; simp)]; exact own_kept HO.out ((Kept.refl (fun _ => False) V).drewN _) (fun _ _ h => h), below_drewN HB.out _⟩
     case measure => simp [intOf]; omega
    ·go_quiet (fail)
     have HO2 := Hd (own_kept HO.out ((Kept.refl (fun _ => False) V).drewN nq) (fun _ _ h => h))
     have HB2 := Hd (below_drewN HB.out nq)
     have HX2 := Hd (HX.out.of (w' := V.drewN nq) rfl)
     have hw2 : w.heap.size ≤ (V.drewN nq).heap.size := hwr
     clear HO HB HX u0 u1 u2 u3 q0 q1 q2 q3 hwr
     generalize V.drewN nq = V2 at *
     obtain ⟨u0, u1, u2, u3⟩ := HX2.out.c4
     have hwx : w.heap.size ≤ (V2.alloc (.cells #[.int .i64 af, .int .u64 cN, .string cK, .int .u64 cM] 198)).heap.size := by rw [nblk_alloc]; omega
     have HWX := Hd hwx
     clear hwx
     go_wp2_with (at_builtin; go_must (refine wpList_append_lies _ rfl (.tmp 27) (.tmp 29) 161 rfl w.heap.size 198 i0 _ 4 40 Tryz.underlying161 HI0.out HI1.out HI2.out HI3.out rfl (by decide) _ (chgTo fr tg j).length _ rfl (HO2.out.alloc _) ⟨V2.heap.size, 0, none⟩ 1 1 [.int .i64 af, .int .u64 cN, .string cK, .int .u64 cM] rfl rfl (World.news_of_block (Blk.new V2 [.int .i64 af, .int .u64 cN, .string cK, .int .u64 cM] 198)) (one_sto _ _ _ _) (by omega) (by have := HC1.out; unfold maxLen; omega) (by have := HC1.out; omega) HWX.out _ rfl ?_))
     intro g4 cap4 w4 hown4 hgrow4 hat4 hlt4
     have HB4 := Hd ((HB2.out.alloc hw2 (.cells #[.int .i64 af, .int .u64 cN, .string cK, .int .u64 cM] 198)).trans ((Below.refl w.heap.size _).grown hgrow4 HWX.out (fun k hk => (World.ownsRow.lt (HO2.out.alloc (.cells #[.int .i64 af, .int .u64 cN, .string cK, .int .u64 cM] 198)) k hk).1)))
     have HO4 := Hd (show w4.ownsRow w.heap.size 198 4 (.slice (some ⟨g4, 0, none⟩) ((chgTo fr tg j).length + 1) cap4) (chgTo fr tg (j + 1)).length (flat4 (chgTo fr tg (j + 1))) by
      rw [HSTEP.out, if_pos HNW.out, flat4_append, List.length_append]; exact hown4)
     clear hown4 hgrow4 hat4 hlt4 HO2 HB2 HX2 u0 u1 u2 u3
     go_wp2
     go_roundw
     case rel => exact ⟨j + 1, by omega, by go_num, HO4.out, HB4.out⟩
     case measure => simp [intOf]; omega
   ·have hnn : decide ((n : Int) ≤ (j : Int)) = true := by simp; omega
    have HNW := Hd (show news fr (aj, cN, cK, cM) j = true by unfold news; rw [List.getElem?_eq_none (by omega)])
    clear hsj
    go_upto_region 5 with fail
    have HX := Hd (Blk.new wr [.int .i64 aj, .int .u64 cN, .string cK, .int .u64 cM] 198)
    have hbl := (Below.refl wr.heap.size wr).alloc (Nat.le_refl _) (.cells #[.int .i64 aj, .int .u64 cN, .string cK, .int .u64 cM] 198)
    replace HO := Hd (own_below HO.out hbl (Nat.le_refl _))
    replace HB := Hd (HB.out.alloc hwr (.cells #[.int .i64 aj, .int .u64 cN, .string cK, .int .u64 cM] 198))
    replace hwr : w.heap.size ≤ (wr.alloc (.cells #[.int .i64 aj, .int .u64 cN, .string cK, .int .u64 cM] 198)).heap.size := by rw [nblk_alloc]; omega
    clear hbl t0 t1 t2 t3 hgt
    generalize wr.alloc (.cells #[.int .i64 aj, .int .u64 cN, .string cK, .int .u64 cM] 198) = V at *
    generalize wr.heap.size = bx at *
    have hX := HX.out
    obtain ⟨u0, u1, u2, u3⟩ := hX.c4
    clear hX
    go_quiet (fail)
    have HO2 := Hd (own_kept HO.out ((Kept.refl (fun _ => False) V).drewN nq) (fun _ _ h => h))
    have HB2 := Hd (below_drewN HB.out nq)
    have HX2 := Hd (HX.out.of (w' := V.drewN nq) rfl)
    have hw2 : w.heap.size ≤ (V.drewN nq).heap.size := hwr
    clear HO HB HX u0 u1 u2 u3 hwr
    generalize V.drewN nq = V2 at *
    obtain ⟨u0, u1, u2, u3⟩ := HX2.out.c4
    have hwx : w.heap.size ≤ (V2.alloc (.cells #[.int .i64 aj, .int .u64 cN, .string cK, .int .u64 cM] 198)).heap.size := by rw [nblk_alloc]; omega
    have HWX := Hd hwx
    clear hwx
    go_wp2_with (at_builtin; go_must (refine wpList_append_lies _ rfl (.tmp 27) (.tmp 29) 161 rfl w.heap.size 198 i0 _ 4 40 Tryz.underlying161 HI0.out HI1.out HI2.out HI3.out rfl (by decide) _ (chgTo fr tg j).length _ rfl (HO2.out.alloc _) ⟨V2.heap.size, 0, none⟩ 1 1 [.int .i64 aj, .int .u64 cN, .string cK, .int .u64 cM] rfl rfl (World.news_of_block (Blk.new V2 [.int .i64 aj, .int .u64 cN, .string cK, .int .u64 cM] 198)) (one_sto _ _ _ _) (by omega) (by have := HC1.out; unfold maxLen; omega) (by have := HC1.out; omega) HWX.out _ rfl ?_))
    intro g4 cap4 w4 hown4 hgrow4 hat4 hlt4
    have HB4 := Hd ((HB2.out.alloc hw2 (.cells #[.int .i64 aj, .int .u64 cN, .string cK, .int .u64 cM] 198)).trans ((Below.refl w.heap.size _).grown hgrow4 HWX.out (fun k hk => (World.ownsRow.lt (HO2.out.alloc (.cells #[.int .i64 aj, .int .u64 cN, .string cK, .int .u64 cM] 198)) k hk).1)))
    have HO4 := Hd (show w4.ownsRow w.heap.size 198 4 (.slice (some ⟨g4, 0, none⟩) ((chgTo fr tg j).length + 1) cap4) (chgTo fr tg (j + 1)).length (flat4 (chgTo fr tg (j + 1))) by
     rw [HSTEP.out, if_pos HNW.out, flat4_append, List.length_append]; exact hown4)
    clear hown4 hgrow4 hat4 hlt4 HO2 HB2 HX2 u0 u1 u2 u3
    go_wp2
    go_roundw
    case rel => exact ⟨j + 1, by omega, by go_num, HO4.out, HB4.out⟩
    case measure => simp [intOf]; omega
  ·obtain rfl : j = m := by omega
   go_wp2
   go_ret
   have hO := HO.out
   rw [show j = tg.length from hm.symm] at hO
   exact ⟨_, rfl, hO, HB.out⟩
end
end Go.Proofs.YtjnodgebpklaoaaGreat
