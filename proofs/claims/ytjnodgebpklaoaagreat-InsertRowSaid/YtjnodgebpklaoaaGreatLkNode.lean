/-
 How the machines of package node take a node's cells. Condition: a layout within its limits.
-/
import Derived.Test.YtjnodgebpklaoaaGreatLkLay
import Derived.Test.YtjnodgebpklaoaaGreatLkPlain
import Derived.Test.YtjnodgebpklaoaaGreatLkPag
import Derived.Deep.AppendLies
namespace Go.Proofs.YtjnodgebpklaoaaGreat
set_option maxHeartbeats 8000000
set_option maxRecDepth 100000
section
open Go.RowKit Go.Deep Plain
set_option linter.unusedVariables false

def conv (T S N C R : Int) (F : Nat) (K fa fb fd : Int) (nid rd en lv : Nat) (v : Value) (hi : ByteArray) (la : Bool) (rt : Nat) (tl : List Value) : List Value :=
 .int .i64 T :: .int .i64 S :: .int .i64 N :: .int .i64 C :: .int .i64 R :: .int .i64 (F : Int) :: .int .u64 K :: .int .i64 fa :: .int .i64 fb :: .int .i64 fd :: .int .u64 (nid : Int) :: .int .i64 (rd : Int) :: .int .i64 (en : Int) :: .int .i64 (lv : Int) :: v :: .string hi :: .bool la :: .int .u64 (rt : Int) :: tl

theorem address_0 (T S N C R : Int) (F : Nat) (K fa fb fd : Int) (hl : Lim T S N C R (F : Int)) (hd : Reach3 fa fb fd) (q : Nat) (t : TypeId) (nid rd en lv : Nat) (v : Value) (hi : ByteArray) (la : Bool) (rt : Nat) (tl : List Value) (w : World) (h : Blk w q t (conv T S N C R F K fa fb fd nid rd en lv v hi la rt tl)) (hrd : rd = 0) :
  Calls Tryz.prog 150 #[.pointer (some ⟨q, 0, none⟩)] w fun e w' => e = .returned (.int .i64 (adr N F fa nid rd)) ∧ Kept (fun _ => False) w w' := by
 have h0 : ((rd : Int) == 0) = true := by simp; omega
 have c11 := h.k 11 rfl
 have HB := Hd h
 clear h
 go_enter Tryz.func150, Tryz.ntmps150
 go_upto_region 3 with fail
 clear c11
 refine qregion (fun w' => Kept (fun _ => False) w w' ∧ Blk w' q t (conv T S N C R F K fa fb fd nid rd en lv v hi la rt tl)) (by kernel_rfl) (by kernel_rfl) ⟨(Kept.refl _ _).drew, HB.out⟩ ?_
 refine tkQ 9 ?_ (fun wq hSw => ?_) ?_
 rotate_left
 ·(go_simp; try with_reducible rfl)
 try simp only [aP,aA,aZ,aS]
 refine tkQ 10 ?_ (fun wq hSw => ?_) ?_
 rotate_left
 ·(go_simp; try with_reducible rfl)
 try simp only [aP,aA,aZ,aS]
 refine tkQ 11 ?_ (fun wq hSw => ?_) ?_
 rotate_left
 ·(go_simp; try with_reducible rfl)
 try simp only [aP,aA,aZ,aS]
 refine tkQ 12 ?_ (fun wq hSw => ?_) ?_
 rotate_left
 ·(have hb9 := hSw.2; obtain ⟨x0, x1, x2, x3, x4, x5, x6, x7, x8, x9, x10, x11⟩ := hb9.c12; clear hb9; go_simp; try with_reducible rfl)
 try simp only [aP,aA,aZ,aS]
 refine tkQ 13 ?_ (fun wq hSw => ?_) ?_
 rotate_left
 ·(go_simp; try with_reducible rfl)
 try simp only [aP,aA,aZ,aS]
 refine tkQ 14 ?_ (fun wq hSw => ?_) ?_
 rotate_left
 ·(go_simp; try with_reducible rfl)
 try simp only [aP,aA,aZ,aS]
 refine tkQ 15 ?_ (fun wq hSw => ?_) ?_
 rotate_left
 ·(go_simp; try with_reducible rfl)
 try simp only [aP,aA,aZ,aS]
 refine tkQ 16 ?_ (fun wq hSw => ?_) ?_
 rotate_left
 ·(have hb9 := hSw.2; obtain ⟨x0, x1, x2, x3, x4, x5, x6, x7, x8, x9, x10, x11⟩ := hb9.c12; clear hb9; go_simp; try with_reducible rfl)
 try simp only [aP,aA,aZ,aS]
 refine qcall (o := ⟨some 17, _, _, _, _, _⟩) (v := .int .i64 (nodeAt N (F : Int) fa (nid : Int) 1)) (by rfl) (fun wq hSw => ?_) (fun wq hSw => Calls.mono (head_any T S N C R (F : Int) K fa fb fd (nid : Int) hl hd _) ?_) ?_
 ·(go_simp; try with_reducible rfl)
 ·rintro e w9 ⟨rfl, hk⟩; exact ⟨rfl, hSw.1.trans hk (fun _ _ h => h), hk.blk hSw.2 id⟩
 try simp only [aP,aA,aZ,aS]
 refine tkQ 2 ?_ (fun wq hSw => ?_) ?_
 rotate_left
 ·(go_simp; try with_reducible rfl)
 try simp only [aP,aA,aZ,aS]
 refine wpQuiet_nil ?_
 intro wz hHeld
 obtain ⟨hK, -⟩ := hHeld
 clear HB
 go_wp2
 go_ret
 exact ⟨ret_int (by unfold adr; rw [if_pos (by omega)]), hK⟩

theorem address_1 (T S N C R : Int) (F : Nat) (K fa fb fd : Int) (hl : Lim T S N C R (F : Int)) (hd : Reach3 fa fb fd) (q : Nat) (t : TypeId) (nid rd en lv : Nat) (v : Value) (hi : ByteArray) (la : Bool) (rt : Nat) (tl : List Value) (w : World) (h : Blk w q t (conv T S N C R F K fa fb fd nid rd en lv v hi la rt tl)) (hrd : rd = 1) :
  Calls Tryz.prog 150 #[.pointer (some ⟨q, 0, none⟩)] w fun e w' => e = .returned (.int .i64 (adr N F fa nid rd)) ∧ Kept (fun _ => False) w w' := by
 have h0 : ((rd : Int) == 0) = false := by simp; omega
 have h1 : ((rd : Int) == 1) = true := by simp; omega
 have c11 := h.k 11 rfl
 have HB := Hd h
 clear h
 go_enter Tryz.func150, Tryz.ntmps150
 go_upto_region 5 with fail
 clear c11
 refine qregion (fun w' => Kept (fun _ => False) w w' ∧ Blk w' q t (conv T S N C R F K fa fb fd nid rd en lv v hi la rt tl)) (by kernel_rfl) (by kernel_rfl) ⟨(Kept.refl _ _).drew, HB.out⟩ ?_
 refine tkQ 20 ?_ (fun wq hSw => ?_) ?_
 rotate_left
 ·(go_simp; try with_reducible rfl)
 try simp only [aP,aA,aZ,aS]
 refine tkQ 21 ?_ (fun wq hSw => ?_) ?_
 rotate_left
 ·(go_simp; try with_reducible rfl)
 try simp only [aP,aA,aZ,aS]
 refine tkQ 22 ?_ (fun wq hSw => ?_) ?_
 rotate_left
 ·(go_simp; try with_reducible rfl)
 try simp only [aP,aA,aZ,aS]
 refine tkQ 23 ?_ (fun wq hSw => ?_) ?_
 rotate_left
 ·(have hb9 := hSw.2; obtain ⟨x0, x1, x2, x3, x4, x5, x6, x7, x8, x9, x10, x11⟩ := hb9.c12; clear hb9; go_simp; try with_reducible rfl)
 try simp only [aP,aA,aZ,aS]
 refine tkQ 24 ?_ (fun wq hSw => ?_) ?_
 rotate_left
 ·(go_simp; try with_reducible rfl)
 try simp only [aP,aA,aZ,aS]
 refine tkQ 25 ?_ (fun wq hSw => ?_) ?_
 rotate_left
 ·(go_simp; try with_reducible rfl)
 try simp only [aP,aA,aZ,aS]
 refine tkQ 26 ?_ (fun wq hSw => ?_) ?_
 rotate_left
 ·(go_simp; try with_reducible rfl)
 try simp only [aP,aA,aZ,aS]
 refine tkQ 27 ?_ (fun wq hSw => ?_) ?_
 rotate_left
 ·(have hb9 := hSw.2; obtain ⟨x0, x1, x2, x3, x4, x5, x6, x7, x8, x9, x10, x11⟩ := hb9.c12; clear hb9; go_simp; try with_reducible rfl)
 try simp only [aP,aA,aZ,aS]
 refine qcall (o := ⟨some 28, _, _, _, _, _⟩) (v := .int .i64 (nodeAt N (F : Int) fa (nid : Int) 2)) (by rfl) (fun wq hSw => ?_) (fun wq hSw => Calls.mono (high_any T S N C R (F : Int) K fa fb fd (nid : Int) hl hd _) ?_) ?_
 ·(go_simp; try with_reducible rfl)
 ·rintro e w9 ⟨rfl, hk⟩; exact ⟨rfl, hSw.1.trans hk (fun _ _ h => h), hk.blk hSw.2 id⟩
 try simp only [aP,aA,aZ,aS]
 refine tkQ 2 ?_ (fun wq hSw => ?_) ?_
 rotate_left
 ·(go_simp; try with_reducible rfl)
 try simp only [aP,aA,aZ,aS]
 refine wpQuiet_nil ?_
 intro wz hHeld
 obtain ⟨hK, -⟩ := hHeld
 clear HB
 go_wp2
 go_ret
 exact ⟨ret_int (by unfold adr; rw [if_neg (by omega)]; rw [if_pos (by omega)]), hK⟩

theorem address_2 (T S N C R : Int) (F : Nat) (K fa fb fd : Int) (hl : Lim T S N C R (F : Int)) (hd : Reach3 fa fb fd) (q : Nat) (t : TypeId) (nid rd en lv : Nat) (v : Value) (hi : ByteArray) (la : Bool) (rt : Nat) (tl : List Value) (w : World) (h : Blk w q t (conv T S N C R F K fa fb fd nid rd en lv v hi la rt tl)) (hrd : rd = 2) :
  Calls Tryz.prog 150 #[.pointer (some ⟨q, 0, none⟩)] w fun e w' => e = .returned (.int .i64 (adr N F fa nid rd)) ∧ Kept (fun _ => False) w w' := by
 have h0 : ((rd : Int) == 0) = false := by simp; omega
 have h1 : ((rd : Int) == 1) = false := by simp; omega
 have h2 : ((rd : Int) == 2) = true := by simp; omega
 have c11 := h.k 11 rfl
 have HB := Hd h
 clear h
 go_enter Tryz.func150, Tryz.ntmps150
 go_upto_region 7 with fail
 clear c11
 refine qregion (fun w' => Kept (fun _ => False) w w' ∧ Blk w' q t (conv T S N C R F K fa fb fd nid rd en lv v hi la rt tl)) (by kernel_rfl) (by kernel_rfl) ⟨(Kept.refl _ _).drew, HB.out⟩ ?_
 refine tkQ 31 ?_ (fun wq hSw => ?_) ?_
 rotate_left
 ·(go_simp; try with_reducible rfl)
 try simp only [aP,aA,aZ,aS]
 refine tkQ 32 ?_ (fun wq hSw => ?_) ?_
 rotate_left
 ·(go_simp; try with_reducible rfl)
 try simp only [aP,aA,aZ,aS]
 refine tkQ 33 ?_ (fun wq hSw => ?_) ?_
 rotate_left
 ·(go_simp; try with_reducible rfl)
 try simp only [aP,aA,aZ,aS]
 refine tkQ 34 ?_ (fun wq hSw => ?_) ?_
 rotate_left
 ·(have hb9 := hSw.2; obtain ⟨x0, x1, x2, x3, x4, x5, x6, x7, x8, x9, x10, x11⟩ := hb9.c12; clear hb9; go_simp; try with_reducible rfl)
 try simp only [aP,aA,aZ,aS]
 refine tkQ 35 ?_ (fun wq hSw => ?_) ?_
 rotate_left
 ·(go_simp; try with_reducible rfl)
 try simp only [aP,aA,aZ,aS]
 refine tkQ 36 ?_ (fun wq hSw => ?_) ?_
 rotate_left
 ·(go_simp; try with_reducible rfl)
 try simp only [aP,aA,aZ,aS]
 refine tkQ 37 ?_ (fun wq hSw => ?_) ?_
 rotate_left
 ·(go_simp; try with_reducible rfl)
 try simp only [aP,aA,aZ,aS]
 refine tkQ 38 ?_ (fun wq hSw => ?_) ?_
 rotate_left
 ·(have hb9 := hSw.2; obtain ⟨x0, x1, x2, x3, x4, x5, x6, x7, x8, x9, x10, x11⟩ := hb9.c12; clear hb9; go_simp; try with_reducible rfl)
 try simp only [aP,aA,aZ,aS]
 refine qcall (o := ⟨some 39, _, _, _, _, _⟩) (v := .int .i64 (nodeAt N (F : Int) fa (nid : Int) 3)) (by rfl) (fun wq hSw => ?_) (fun wq hSw => Calls.mono (right_any T S N C R (F : Int) K fa fb fd (nid : Int) hl hd _) ?_) ?_
 ·(go_simp; try with_reducible rfl)
 ·rintro e w9 ⟨rfl, hk⟩; exact ⟨rfl, hSw.1.trans hk (fun _ _ h => h), hk.blk hSw.2 id⟩
 try simp only [aP,aA,aZ,aS]
 refine tkQ 2 ?_ (fun wq hSw => ?_) ?_
 rotate_left
 ·(go_simp; try with_reducible rfl)
 try simp only [aP,aA,aZ,aS]
 refine wpQuiet_nil ?_
 intro wz hHeld
 obtain ⟨hK, -⟩ := hHeld
 clear HB
 go_wp2
 go_ret
 exact ⟨ret_int (by unfold adr; rw [if_neg (by omega)]; rw [if_neg (by omega)]; rw [if_pos (by omega)]), hK⟩

theorem address_3 (T S N C R : Int) (F : Nat) (K fa fb fd : Int) (hl : Lim T S N C R (F : Int)) (hd : Reach3 fa fb fd) (q : Nat) (t : TypeId) (nid rd en lv : Nat) (v : Value) (hi : ByteArray) (la : Bool) (rt : Nat) (tl : List Value) (w : World) (h : Blk w q t (conv T S N C R F K fa fb fd nid rd en lv v hi la rt tl)) (hrd : 3 ≤ rd ∧ rd ≤ 40) :
  Calls Tryz.prog 150 #[.pointer (some ⟨q, 0, none⟩)] w fun e w' => e = .returned (.int .i64 (adr N F fa nid rd)) ∧ Kept (fun _ => False) w w' := by
 have h0 : ((rd : Int) == 0) = false := by simp; omega
 have h1 : ((rd : Int) == 1) = false := by simp; omega
 have h2 : ((rd : Int) == 2) = false := by simp; omega
 have c11 := h.k 11 rfl
 have HB := Hd h
 have hi0 : (0 : Int) ≤ (rd : Int) - 3 := by omega
 have hw : IntKind.i64.wrap ((rd : Int) - 3) = (rd : Int) - 3 := by rw [IntKind.wrap_i64]; omega
 clear h
 go_enter Tryz.func150, Tryz.ntmps150
 go_upto_region 8 with fail
 clear c11
 refine qregion (fun w' => Kept (fun _ => False) w w' ∧ Blk w' q t (conv T S N C R F K fa fb fd nid rd en lv v hi la rt tl)) (by kernel_rfl) (by kernel_rfl) ⟨(Kept.refl _ _).drew, HB.out⟩ ?_
 refine tkQ 40 ?_ (fun wq hSw => ?_) ?_
 rotate_left
 ·(go_simp; try with_reducible rfl)
 try simp only [aP,aA,aZ,aS]
 refine tkQ 41 ?_ (fun wq hSw => ?_) ?_
 rotate_left
 ·(go_simp; try with_reducible rfl)
 try simp only [aP,aA,aZ,aS]
 refine tkQ 42 ?_ (fun wq hSw => ?_) ?_
 rotate_left
 ·(go_simp; try with_reducible rfl)
 try simp only [aP,aA,aZ,aS]
 refine tkQ 43 ?_ (fun wq hSw => ?_) ?_
 rotate_left
 ·(have hb9 := hSw.2; obtain ⟨x0, x1, x2, x3, x4, x5, x6, x7, x8, x9, x10, x11⟩ := hb9.c12; clear hb9; go_simp; try with_reducible rfl)
 try simp only [aP,aA,aZ,aS]
 refine tkQ 44 ?_ (fun wq hSw => ?_) ?_
 rotate_left
 ·(go_simp; try with_reducible rfl)
 try simp only [aP,aA,aZ,aS]
 refine tkQ 45 ?_ (fun wq hSw => ?_) ?_
 rotate_left
 ·(go_simp; try with_reducible rfl)
 try simp only [aP,aA,aZ,aS]
 refine tkQ 46 ?_ (fun wq hSw => ?_) ?_
 rotate_left
 ·(go_simp; try with_reducible rfl)
 try simp only [aP,aA,aZ,aS]
 refine tkQ 47 ?_ (fun wq hSw => ?_) ?_
 rotate_left
 ·(have hb9 := hSw.2; obtain ⟨x0, x1, x2, x3, x4, x5, x6, x7, x8, x9, x10, x11⟩ := hb9.c12; clear hb9; go_simp; try with_reducible rfl)
 try simp only [aP,aA,aZ,aS]
 refine tkQ 48 ?_ (fun wq hSw => ?_) ?_
 rotate_left
 ·(go_simp; try with_reducible rfl)
 try simp only [aP,aA,aZ,aS]
 refine tkQ 49 ?_ (fun wq hSw => ?_) ?_
 rotate_left
 ·(go_simp; try with_reducible rfl)
 try simp only [aP,aA,aZ,aS]
 refine tkQ 50 ?_ (fun wq hSw => ?_) ?_
 rotate_left
 ·(go_simp; try with_reducible rfl)
 try simp only [aP,aA,aZ,aS]
 refine tkQ 51 ?_ (fun wq hSw => ?_) ?_
 rotate_left
 ·(have hb9 := hSw.2; obtain ⟨x0, x1, x2, x3, x4, x5, x6, x7, x8, x9, x10, x11⟩ := hb9.c12; clear hb9; go_simp; try with_reducible rfl)
 try simp only [aP,aA,aZ,aS]
 refine tkQ 52 (.int .i64 ((rd : Int) - 3)) (fun wq hSw => ?_) ?_
 ·(go_simp; try first | (with_reducible rfl) | (simp; omega) | (intros; omega) | simp [*])
 try simp only [aP,aA,aZ,aS]
 refine qcall (o := ⟨some 53, _, _, _, _, _⟩) (v := .int .i64 (slotAt N (F : Int) fa (nid : Int) ((rd : Int) - 3))) (by rfl) (fun wq hSw => ?_) (fun wq hSw => Calls.mono (slot_any T S N C R (F : Int) K fa fb fd (nid : Int) ((rd : Int) - 3) hl hd _) ?_) ?_
 ·(go_simp; try with_reducible rfl)
 ·rintro e w9 ⟨rfl, hk⟩; exact ⟨rfl, hSw.1.trans hk (fun _ _ h => h), hk.blk hSw.2 id⟩
 try simp only [aP,aA,aZ,aS]
 refine tkQ 2 ?_ (fun wq hSw => ?_) ?_
 rotate_left
 ·(go_simp; try with_reducible rfl)
 try simp only [aP,aA,aZ,aS]
 refine wpQuiet_nil ?_
 intro wz hHeld
 obtain ⟨hK, -⟩ := hHeld
 clear HB
 go_wp2
 go_ret
 exact ⟨ret_int (by unfold adr; rw [if_neg (by omega)]; rw [if_neg (by omega)]; rw [if_neg (by omega)]), hK⟩

theorem address_any (T S N C R : Int) (F : Nat) (K fa fb fd : Int) (hl : Lim T S N C R (F : Int)) (hd : Reach3 fa fb fd) (q : Nat) (t : TypeId) (nid rd en lv : Nat) (v : Value) (hi : ByteArray) (la : Bool) (rt : Nat) (tl : List Value) (w : World) (h : Blk w q t (conv T S N C R F K fa fb fd nid rd en lv v hi la rt tl)) (hrd : rd ≤ 40) (ad : Int) (had : adr N F fa nid rd = ad) :
  Calls Tryz.prog 150 #[.pointer (some ⟨q, 0, none⟩)] w fun e w' => e = .returned (.int .i64 ad) ∧ Kept (fun _ => False) w w' := by
 subst had
 rcases (by omega : rd = 0 ∨ rd = 1 ∨ rd = 2 ∨ 3 ≤ rd) with h0 | h0 | h0 | h0
 ·exact address_0 T S N C R F K fa fb fd hl hd q t nid rd en lv v hi la rt tl w h h0
 ·exact address_1 T S N C R F K fa fb fd hl hd q t nid rd en lv v hi la rt tl w h h0
 ·exact address_2 T S N C R F K fa fb fd hl hd q t nid rd en lv v hi la rt tl w h h0
 ·exact address_3 T S N C R F K fa fb fd hl hd q t nid rd en lv v hi la rt tl w h ⟨h0, hrd⟩
end

section
open Go.RowKit Go.Deep Plain
set_option linter.unusedVariables false

theorem own_kept {S : Nat → Prop} {w w' : World} {base : Nat} {e : TypeId} {size : Nat} {v : Value} {n : Nat} {xs : List Value} (h : w.ownsRow base e size v n xs) (hk : Kept S w w') (hs : ∀ i, v.ownBlock = some i → ¬ S i) : w'.ownsRow base e size v n xs := by
 refine ⟨h.1, ?_⟩
 rcases h.2 with hn | ⟨g, cap, cur, rfl, hb, hg, rest⟩
 ·exact .inl hn
 ·exact .inr ⟨g, cap, cur, rfl, hb, (hk.block g (Array.getElem?_eq_some_iff.1 hg).1 (hs g rfl)).trans hg, rest⟩
theorem own_far {w : World} {base : Nat} {e t : TypeId} {size : Nat} {v : Value} {n q : Nat} {xs ys : List Value} (h : w.ownsRow base e size v n xs) (hq : Blk w q t ys) (ht : t ≠ e) : v.ownBlock ≠ some q := by
 rcases h.2 with ⟨rfl, _⟩ | ⟨g, cap, cur, rfl, _, hg, _⟩
 ·intro e; cases e
 ·intro e
  cases e
  unfold Blk at hq
  rw [hg] at hq
  cases hq
  exact ht rfl
theorem one_slot (k : ByteArray) (r : Int) : ∀ u ∈ [Value.string k, .int .u64 r], u.oneCell' = true := by intro u hu; simp at hu; rcases hu with rfl | rfl <;> rfl
theorem wrap_i (n : Int) (h : -9223372036854775808 ≤ n ∧ n < 9223372036854775808) : IntKind.i64.wrap n = n := by rw [IntKind.wrap_i64]; omega
theorem wrap_u (n : Int) (h : 0 ≤ n ∧ n < 18446744073709551616) : IntKind.u64.wrap n = n := by rw [IntKind.wrap_u64]; omega
theorem fieldF (T S N C R F K : Int) (w : World) : (Instr.field 25 (.agg #[.int .i64 T, .int .i64 S, .int .i64 N, .int .i64 C, .int .i64 R, .int .i64 F, .int .u64 K]) 5).run Tryz.prog w = .ok (.int .i64 F) w := by kernel_rfl

theorem take_0 (T S N C R : Int) (F : Nat) (K fa fb fd : Int) (hl : Lim T S N C R (F : Int)) (hd : Reach3 fa fb fd) (q : Nat) (t : TypeId) (nid rd en lv : Nat) (v : Value) (hi : ByteArray) (la : Bool) (rt : Nat) (tl : List Value) (w : World) (h : Blk w q t (conv T S N C R F K fa fb fd nid rd en lv v hi la rt tl)) (hrd : rd = 0) (nN mM : Nat) (kK : ByteArray) (hN : nN < 18446744073709551616) (hM : mM < 9223372036854775808) :
  Calls Tryz.prog 149 #[.pointer (some ⟨q, 0, none⟩), .agg #[.int .u64 (nN : Int), .string kK, .int .u64 (mM : Int)]] w fun e w' => e = .returned (.bool false) ∧ Blk w' q t (((((conv T S N C R F K fa fb fd nid rd en lv v hi la rt tl)).set 13 (.int .i64 (mM : Int))).set 12 (.int .i64 (3 + ((min nN F : Nat) : Int)))).set 11 (.int .i64 1)) ∧ Kept (fun i => i = q) w w' := by
 have hqlt := h.lt
 have hqb : q ≠ w.heap.size := by omega
 have h0 : ((rd : Int) == 0) = true := by simp; omega
 obtain ⟨m, hm⟩ : ∃ m, min nN F = m := ⟨_, rfl⟩
 have hF := hl.f2
 have hm1 : m ≤ 32 := by omega
 have w1 := wrap_i (mM : Int) (by omega)
 have w2 := wrap_u (F : Int) (by omega)
 have w3 := wrap_i (m : Int) (by omega)
 have w4 := wrap_i (3 + (m : Int)) (by omega)
 have c11 := h.k 11 rfl
 have c13 := h.k 13 rfl
 have f13 := h.frozen 13
 go_enter Tryz.func149, Tryz.ntmps149
 go_upto_region 5 with fail
 clear c11 c13 f13
 have hC := Blk.new (w.setCell ⟨q, 13, none⟩ (.int .i64 (mM : Int))) [.int .u64 (nN : Int), .string kK, .int .u64 (mM : Int)] 54
 have hsz : (w.setCell ⟨q, 13, none⟩ (.int .i64 (mM : Int))).heap.size = w.heap.size := by simp [World.setCell]
 rw [hsz] at hC
 have HC := Hd hC
 have HQ := Hd ((h.set 13 (.int .i64 (mM : Int))).alloc (.cells #[.int .u64 (nN : Int), .string kK, .int .u64 (mM : Int)] 54))
 have HK := Hd (((Kept.refl (fun i => i = q) w).setCell (a := ⟨q, 13, none⟩) (fun _ => rfl) (.int .i64 (mM : Int))).alloc (.cells #[.int .u64 (nN : Int), .string kK, .int .u64 (mM : Int)] 54))
 clear hC hsz
 generalize (w.setCell ⟨q, 13, none⟩ (.int .i64 (mM : Int))).alloc (.cells #[.int .u64 (nN : Int), .string kK, .int .u64 (mM : Int)] 54) = W at *
 generalize w.heap.size = bx at *
 clear h
 refine qtail 13 (fun w' => Kept (fun _ => False) W w' ∧ Blk w' q t ((conv T S N C R F K fa fb fd nid rd en lv v hi la rt tl).set 13 (.int .i64 (mM : Int))) ∧ Blk w' bx 54 [.int .u64 (nN : Int), .string kK, .int .u64 (mM : Int)]) (by kernel_rfl) (by kernel_rfl) ⟨(Kept.refl _ _).drew, HQ.out, HC.out⟩ ?_
 simp only [List.take_succ_cons, List.take_zero, List.drop_succ_cons, List.drop_zero]
 refine tkQ 34 ?_ (fun wq hSw => ?_) ?_
 rotate_left
 ·(go_simp; try with_reducible rfl)
 try simp only [aP,aA,aZ,aS]
 refine tkQ 35 ?_ (fun wq hSw => ?_) ?_
 rotate_left
 ·(go_simp; try with_reducible rfl)
 try simp only [aP,aA,aZ,aS]
 refine tkQ 36 ?_ (fun wq hSw => ?_) ?_
 rotate_left
 ·(have hb9 := hSw.2.1; have hc9 := hSw.2.2; have y0 := hc9.k 0 rfl; obtain ⟨x0, x1, x2, x3, x4, x5, x6, x7, x8, x9⟩ := hb9.c10; clear hb9 hc9; go_simp; try with_reducible rfl)
 try simp only [aP,aA,aZ,aS]
 refine tkQ 37 ?_ (fun wq hSw => ?_) ?_
 rotate_left
 ·(go_simp; try with_reducible rfl)
 try simp only [aP,aA,aZ,aS]
 refine tkQ 38 ?_ (fun wq hSw => ?_) ?_
 rotate_left
 ·(go_simp; try with_reducible rfl)
 try simp only [aP,aA,aZ,aS]
 refine tkQ 39 ?_ (fun wq hSw => ?_) ?_
 rotate_left
 ·(go_simp; try with_reducible rfl)
 try simp only [aP,aA,aZ,aS]
 refine tkQ 40 ?_ (fun wq hSw => ?_) ?_
 rotate_left
 ·(have hb9 := hSw.2.1; have hc9 := hSw.2.2; have y0 := hc9.k 0 rfl; obtain ⟨x0, x1, x2, x3, x4, x5, x6, x7, x8, x9⟩ := hb9.c10; clear hb9 hc9; go_simp; try with_reducible rfl)
 try simp only [aP,aA,aZ,aS]
 refine qcall (o := ⟨some 41, _, _, _, _, _⟩) (v := .agg #[.int .i64 T, .int .i64 S, .int .i64 N, .int .i64 C, .int .i64 R, .int .i64 (F : Int), .int .u64 K]) (by rfl) (fun wq hSw => ?_) (fun wq hSw => Calls.mono (config_any T S N C R (F : Int) K fa fb fd _) ?_) ?_
 ·(go_simp; try with_reducible rfl)
 ·rintro e w9 ⟨rfl, hk⟩; exact ⟨rfl, hSw.1.trans hk (fun _ _ h => h), hk.blk hSw.2.1 id, hk.blk hSw.2.2 id⟩
 try simp only [aP,aA,aZ,aS]
 refine tkQ 42 (.int .i64 (F : Int)) (fun wq hSw => ?_) ?_
 ·(have hfd := fieldF T S N C R (F : Int) K wq; go_simp; try first | (with_reducible rfl) | (simp; omega) | (intros; omega) | simp [*])
 try simp only [aP,aA,aZ,aS]
 refine tkQ 43 (.int .u64 (F : Int)) (fun wq hSw => ?_) ?_
 ·(go_simp; try first | (with_reducible rfl) | (simp; omega) | (intros; omega) | simp [*])
 try simp only [aP,aA,aZ,aS]
 refine tkQ 44 (.int .u64 (m : Int)) (fun wq hSw => ?_) ?_
 ·(go_simp; try first | (with_reducible rfl) | (simp; omega) | (intros; omega) | simp [*])
 try simp only [aP,aA,aZ,aS]
 refine tkQ 45 (.int .i64 (m : Int)) (fun wq hSw => ?_) ?_
 ·(go_simp; try first | (with_reducible rfl) | (simp; omega) | (intros; omega) | simp [*])
 try simp only [aP,aA,aZ,aS]
 refine tkQ 46 (.int .i64 (3 + (m : Int))) (fun wq hSw => ?_) ?_
 ·(go_simp; try first | (with_reducible rfl) | (simp; omega) | (intros; omega) | simp [*])
 try simp only [aP,aA,aZ,aS]
 refine wpQuiet_nil ?_
 intro wz hHeld
 obtain ⟨hK5, hQ5, -⟩ := hHeld
 clear HC w2 w3 w4
 have x11 := hQ5.k 11 rfl
 have x12 := hQ5.k 12 rfl
 have z11 := hQ5.frozen 11
 have z12 := hQ5.frozen 12
 have HQ5 := Hd (hQ5.set 12 (.int .i64 (3 + (m : Int))))
 have HK5 := Hd ((HK.out.trans hK5 (fun _ _ h => h.elim)).setCell (a := ⟨q, 12, none⟩) (fun _ => rfl) (.int .i64 (3 + (m : Int))))
 clear hQ5 hK5 HQ HK
 have hr1 : ((1 : Int) == 3 + (m : Int)) = false := by simp; omega
 go_upto_region 11 with fail
 have hQ6 := HQ5.out.set 11 (.int .i64 1)
 have y11 := hQ6.k 11 rfl
 have y12 := hQ6.k 12 rfl
 have HQ6 := Hd hQ6
 clear hQ6 x11 x12 z11 z12
 go_quiet (fail)
 go_wp2
 go_ret
 subst hm
 exact ⟨rfl, HQ6.out.of rfl, (HK5.out.setCell (a := ⟨q, 11, none⟩) (fun _ => rfl) _).drewN _⟩

theorem take_1 (T S N C R : Int) (F : Nat) (K fa fb fd : Int) (hl : Lim T S N C R (F : Int)) (hd : Reach3 fa fb fd) (q : Nat) (t : TypeId) (nid rd en lv : Nat) (v : Value) (hi : ByteArray) (la : Bool) (rt : Nat) (tl : List Value) (w : World) (h : Blk w q t (conv T S N C R F K fa fb fd nid rd en lv v hi la rt tl)) (hrd : rd = 1) (hen : en ≤ 40) (nN mM : Nat) (kK : ByteArray) (hN : nN < 18446744073709551616) (hM : mM < 9223372036854775808) (r : Bool) (hr : (2 == en) = r) :
  Calls Tryz.prog 149 #[.pointer (some ⟨q, 0, none⟩), .agg #[.int .u64 (nN : Int), .string kK, .int .u64 (mM : Int)]] w fun e w' => e = .returned (.bool r) ∧ Blk w' q t (((((conv T S N C R F K fa fb fd nid rd en lv v hi la rt tl)).set 15 (.string kK)).set 16 (.bool (mM == 1))).set 11 (.int .i64 2)) ∧ Kept (fun i => i = q) w w' := by
 have hqlt := h.lt
 have hqb : q ≠ w.heap.size := by omega
 have h0 : ((rd : Int) == 0) = false := by simp; omega
 have h1 : ((rd : Int) == 1) = true := by simp; omega
 have c11 := h.k 11 rfl
 have hM1 : ((mM : Int) == 1) = (mM == 1) := by rw [Bool.eq_iff_iff]; simp; omega
 go_enter Tryz.func149, Tryz.ntmps149
 go_upto_region 7 with fail
 have hC := Blk.new (w) [.int .u64 (nN : Int), .string kK, .int .u64 (mM : Int)] 54
 have HC := Hd hC
 have HQ := Hd (h.alloc (.cells #[.int .u64 (nN : Int), .string kK, .int .u64 (mM : Int)] 54))
 have HK := Hd ((Kept.refl (fun i => i = q) w).alloc (.cells #[.int .u64 (nN : Int), .string kK, .int .u64 (mM : Int)] 54))
 clear hC
 generalize w.alloc (.cells #[.int .u64 (nN : Int), .string kK, .int .u64 (mM : Int)] 54) = W at *
 generalize w.heap.size = bx at *
 clear h c11 hqlt
 obtain ⟨y0, y1, y2⟩ := HC.out.c3
 have x15 := HQ.out.k 15 rfl
 have z15 := HQ.out.frozen 15
 have x16 := HQ.out.k 16 rfl
 have z16 := HQ.out.frozen 16
 have x11 := HQ.out.k 11 rfl
 have z11 := HQ.out.frozen 11
 have x12 := HQ.out.k 12 rfl
 have z12 := HQ.out.frozen 12
 go_region
 have hr1 : ((2 : Int) == (en : Int)) = r := by rw [← hr]; rw [Bool.eq_iff_iff]; simp; omega
 have HQ6 := Hd (((HQ.out.set 15 (.string kK)).set 16 (.bool (mM == 1))).set 11 (.int .i64 2))
 have HK6 := Hd (((HK.out.setCell (a := ⟨q, 15, none⟩) (fun _ => rfl) (.string kK)).setCell (a := ⟨q, 16, none⟩) (fun _ => rfl) (.bool (mM == 1))).setCell (a := ⟨q, 11, none⟩) (fun _ => rfl) (.int .i64 2))
 have rdv : ((rd : Int) + 1) = 2 := by omega
 go_upto_region 11 with fail
 clear x11 z11
 have hQ6 := HQ6.out
 have y11 := hQ6.k 11 rfl
 have y12 := hQ6.k 12 rfl
 clear hQ6 x12 z12
 go_quiet (fail)
 go_wp2
 go_ret
 exact ⟨rfl, HQ6.out.of rfl, HK6.out.drew.drewN _⟩

theorem take_2 (T S N C R : Int) (F : Nat) (K fa fb fd : Int) (hl : Lim T S N C R (F : Int)) (hd : Reach3 fa fb fd) (q : Nat) (t : TypeId) (nid rd en lv : Nat) (v : Value) (hi : ByteArray) (la : Bool) (rt : Nat) (tl : List Value) (w : World) (h : Blk w q t (conv T S N C R F K fa fb fd nid rd en lv v hi la rt tl)) (hrd : rd = 2) (hen : en ≤ 40) (nN mM : Nat) (kK : ByteArray) (hN : nN < 18446744073709551616) (hM : mM < 9223372036854775808) (r : Bool) (hr : (3 == en) = r) :
  Calls Tryz.prog 149 #[.pointer (some ⟨q, 0, none⟩), .agg #[.int .u64 (nN : Int), .string kK, .int .u64 (mM : Int)]] w fun e w' => e = .returned (.bool r) ∧ Blk w' q t ((((conv T S N C R F K fa fb fd nid rd en lv v hi la rt tl)).set 17 (.int .u64 (nN : Int))).set 11 (.int .i64 3)) ∧ Kept (fun i => i = q) w w' := by
 have hqlt := h.lt
 have hqb : q ≠ w.heap.size := by omega
 have h0 : ((rd : Int) == 0) = false := by simp; omega
 have h1 : ((rd : Int) == 1) = false := by simp; omega
 have h2 : ((rd : Int) == 2) = true := by simp; omega
 have c11 := h.k 11 rfl
 go_enter Tryz.func149, Tryz.ntmps149
 go_upto_region 9 with fail
 have hC := Blk.new (w) [.int .u64 (nN : Int), .string kK, .int .u64 (mM : Int)] 54
 have HC := Hd hC
 have HQ := Hd (h.alloc (.cells #[.int .u64 (nN : Int), .string kK, .int .u64 (mM : Int)] 54))
 have HK := Hd ((Kept.refl (fun i => i = q) w).alloc (.cells #[.int .u64 (nN : Int), .string kK, .int .u64 (mM : Int)] 54))
 clear hC
 generalize w.alloc (.cells #[.int .u64 (nN : Int), .string kK, .int .u64 (mM : Int)] 54) = W at *
 generalize w.heap.size = bx at *
 clear h c11 hqlt
 obtain ⟨y0, y1, y2⟩ := HC.out.c3
 have x17 := HQ.out.k 17 rfl
 have z17 := HQ.out.frozen 17
 have x11 := HQ.out.k 11 rfl
 have z11 := HQ.out.frozen 11
 have x12 := HQ.out.k 12 rfl
 have z12 := HQ.out.frozen 12
 have hr1 : ((3 : Int) == (en : Int)) = r := by rw [← hr]; rw [Bool.eq_iff_iff]; simp; omega
 have HQ6 := Hd ((HQ.out.set 17 (.int .u64 (nN : Int))).set 11 (.int .i64 3))
 have HK6 := Hd ((HK.out.setCell (a := ⟨q, 17, none⟩) (fun _ => rfl) (.int .u64 (nN : Int))).setCell (a := ⟨q, 11, none⟩) (fun _ => rfl) (.int .i64 3))
 have rdv : ((rd : Int) + 1) = 3 := by omega
 go_upto_region 11 with fail
 clear x11 z11
 have hQ6 := HQ6.out
 have y11 := hQ6.k 11 rfl
 have y12 := hQ6.k 12 rfl
 clear hQ6 x12 z12
 go_quiet (fail)
 go_wp2
 go_ret
 exact ⟨rfl, HQ6.out.of rfl, HK6.out.drewN _⟩

theorem take_3 (T S N C R : Int) (F : Nat) (K fa fb fd : Int) (hl : Lim T S N C R (F : Int)) (hd : Reach3 fa fb fd) (q : Nat) (t : TypeId) (nid rd en lv : Nat) (v : Value) (hi : ByteArray) (la : Bool) (rt : Nat) (tl : List Value) (xs : List Sl) (n : Nat) (w : World) (h : Blk w q t (conv T S N C R F K fa fb fd nid rd en lv v hi la rt tl)) (hown : w.ownsRow 0 60 2 v n (flat xs)) (ht : t ≠ 60) (hn : n ≤ 1000) (hrd : 3 ≤ rd ∧ rd ≤ 1000) (hen : en ≤ 1000) (nN mM : Nat) (kK : ByteArray) (hN : nN < 18446744073709551616) (hM : mM < 9223372036854775808) (r : Bool) (hr : (rd + 1 == en) = r) :
  Calls Tryz.prog 149 #[.pointer (some ⟨q, 0, none⟩), .agg #[.int .u64 (nN : Int), .string kK, .int .u64 (mM : Int)]] w fun e w' => e = .returned (.bool r) ∧ ∃ g cap, Blk w' q t ((((conv T S N C R F K fa fb fd nid rd en lv v hi la rt tl)).set 14 (.slice (some ⟨g, 0, none⟩) (n + 1) cap)).set 11 (.int .i64 ((rd : Int) + 1))) ∧ w'.ownsRow 0 60 2 (.slice (some ⟨g, 0, none⟩) (n + 1) cap) (n + 1) (flat xs ++ [.string kK, .int .u64 (nN : Int)]) ∧ (v.ownBlock = some g ∨ w.heap.size ≤ g) ∧ Kept (fun i => i = q ∨ v.ownBlock = some i) w w' := by
 have hqlt := h.lt
 have hqb : q ≠ w.heap.size := by omega
 have h0 : ((rd : Int) == 0) = false := by simp; omega
 have h1 : ((rd : Int) == 1) = false := by simp; omega
 have h2 : ((rd : Int) == 2) = false := by simp; omega
 have c11 := h.k 11 rfl
 have hvq := own_far hown h ht
 have HO := Hd (hown.alloc (.cells #[.int .u64 (nN : Int), .string kK, .int .u64 (mM : Int)] 54))
 have hvb : v.ownBlock ≠ some w.heap.size := fun e => by have := (hown.lt _ e).2; omega
 obtain ⟨i0, hi0, hz0, hz1, hz2⟩ := info_parts Tryz.info60
 have HI0 := Hd hi0
 have HI1 := Hd hz0
 have HI2 := Hd hz1
 have HI3 := Hd hz2
 clear hi0 hz0 hz1 hz2 hown
 go_enter Tryz.func149, Tryz.ntmps149
 go_upto_region 2 with fail
 have hC := Blk.new (w) [.int .u64 (nN : Int), .string kK, .int .u64 (mM : Int)] 54
 have HC := Hd hC
 have HQ := Hd (h.alloc (.cells #[.int .u64 (nN : Int), .string kK, .int .u64 (mM : Int)] 54))
 have HK := Hd ((Kept.refl (fun i => i = q ∨ v.ownBlock = some i) w).alloc (.cells #[.int .u64 (nN : Int), .string kK, .int .u64 (mM : Int)] 54))
 clear hC
 have hws : w.heap.size ≤ (w.alloc (.cells #[.int .u64 (nN : Int), .string kK, .int .u64 (mM : Int)] 54)).heap.size := by rw [nblk_alloc]; omega
 have HWS := Hd (Nat.le_refl w.heap.size)
 generalize w.alloc (.cells #[.int .u64 (nN : Int), .string kK, .int .u64 (mM : Int)] 54) = W at *
 generalize hbx : w.heap.size = bx at *
 have HBX := Hd hbx
 clear hbx
 clear h c11 HWS
 have hvb' : bx ≠ q := fun e => hqb e.symm
 replace HQ := Hd (show Blk W.drew q t (conv T S N C R F K fa fb fd nid rd en lv v hi la rt tl) from HQ.out)
 replace HC := Hd (show Blk W.drew bx 54 [.int .u64 (nN : Int), .string kK, .int .u64 (mM : Int)] from HC.out)
 replace HK := Hd HK.out.drew
 replace HO := Hd HO.out.drew
 replace hws : bx ≤ W.drew.heap.size := hws
 refine region_E 16 (fun w' => Blk w' q t (conv T S N C R F K fa fb fd nid rd en lv v hi la rt tl) ∧ Blk w' bx 54 [.int .u64 (nN : Int), .string kK, .int .u64 (mM : Int)]) (by kernel_rfl) ?_ (fun hHeld => ?_)
 ·exact ⟨HQ.out, HC.out⟩
 generalize W.drew = G at *
 refine anyE_take (i := 0) (oi := ⟨some 9, _, _, _, _, _⟩) (v := ?_) rfl (by kernel_rfl) (by kernel_rfl) (by kernel_rfl) (by kernel_rfl) (fun _ _ _ h => h) (Or.inl ⟨by rfl, ?_⟩) hHeld ?_
 rotate_left
 ·(intro wq hSw; go_simp; try with_reducible rfl)
 try simp only [aP,aA,aZ,aS]
 refine anyE_take (i := 1) (oi := ⟨some 10, _, _, _, _, _⟩) (v := ?_) rfl (by kernel_rfl) (by kernel_rfl) (by kernel_rfl) (by kernel_rfl) (fun _ _ _ h => h) (Or.inl ⟨by rfl, ?_⟩) hHeld ?_
 rotate_left
 ·(intro wq hSw; go_simp; try with_reducible rfl)
 try simp only [aP,aA,aZ,aS]
 refine anyE_take (i := 2) (oi := ⟨some 11, _, _, _, _, _⟩) (v := ?_) rfl (by kernel_rfl) (by kernel_rfl) (by kernel_rfl) (by kernel_rfl) (fun _ _ _ h => h) (Or.inl ⟨by rfl, ?_⟩) hHeld ?_
 rotate_left
 ·(intro wq hSw; go_simp; try with_reducible rfl)
 try simp only [aP,aA,aZ,aS]
 refine anyE_take (i := 3) (oi := ⟨some 12, _, _, _, _, _⟩) (v := ?_) rfl (by kernel_rfl) (by kernel_rfl) (by kernel_rfl) (by kernel_rfl) (fun _ _ _ h => h) (Or.inl ⟨by rfl, ?_⟩) hHeld ?_
 rotate_left
 ·(intro wq hSw; go_simp; try with_reducible rfl)
 try simp only [aP,aA,aZ,aS]
 refine anyE_take (i := 4) (oi := ⟨some 13, _, _, _, _, _⟩) (v := ?_) rfl (by kernel_rfl) (by kernel_rfl) (by kernel_rfl) (by kernel_rfl) (fun _ _ _ h => h) (Or.inl ⟨by rfl, ?_⟩) hHeld ?_
 rotate_left
 ·(intro wq hSw; go_simp; try with_reducible rfl)
 try simp only [aP,aA,aZ,aS]
 refine anyE_take (i := 5) (oi := ⟨some 14, _, _, _, _, _⟩) (v := ?_) rfl (by kernel_rfl) (by kernel_rfl) (by kernel_rfl) (by kernel_rfl) (fun _ _ _ h => h) (Or.inl ⟨by rfl, ?_⟩) hHeld ?_
 rotate_left
 ·(intro wq hSw; obtain ⟨hb9, hc9⟩ := hSw; have x14 := hb9.k 14 rfl; have y0 := hc9.k 0 rfl; have y1 := hc9.k 1 rfl; clear hb9 hc9; go_simp; try with_reducible rfl)
 try simp only [aP,aA,aZ,aS]
 refine anyE_take (i := 6) (oi := ⟨some 15, _, _, _, _, _⟩) (v := ?_) rfl (by kernel_rfl) (by kernel_rfl) (by kernel_rfl) (by kernel_rfl) (fun _ _ _ h => h) (Or.inl ⟨by rfl, ?_⟩) hHeld ?_
 rotate_left
 ·(intro wq hSw; go_simp; try with_reducible rfl)
 try simp only [aP,aA,aZ,aS]
 refine anyE_take (i := 7) (oi := ⟨some 16, _, _, _, _, _⟩) (v := ?_) rfl (by kernel_rfl) (by kernel_rfl) (by kernel_rfl) (by kernel_rfl) (fun _ _ _ h => h) (Or.inl ⟨by rfl, ?_⟩) hHeld ?_
 rotate_left
 ·(intro wq hSw; obtain ⟨hb9, hc9⟩ := hSw; have x14 := hb9.k 14 rfl; have y0 := hc9.k 0 rfl; have y1 := hc9.k 1 rfl; clear hb9 hc9; go_simp; try with_reducible rfl)
 try simp only [aP,aA,aZ,aS]
 refine anyE_take (i := 8) (oi := ⟨some 17, _, _, _, _, _⟩) (v := ?_) rfl (by kernel_rfl) (by kernel_rfl) (by kernel_rfl) (by kernel_rfl) (fun _ _ _ h => h) (Or.inl ⟨by rfl, ?_⟩) hHeld ?_
 rotate_left
 ·(intro wq hSw; go_simp; try with_reducible rfl)
 try simp only [aP,aA,aZ,aS]
 refine anyE_take (i := 9) (oi := ⟨some 18, _, _, _, _, _⟩) (v := ?_) rfl (by kernel_rfl) (by kernel_rfl) (by kernel_rfl) (by kernel_rfl) (fun _ _ _ h => h) (Or.inl ⟨by rfl, ?_⟩) hHeld ?_
 rotate_left
 ·(intro wq hSw; obtain ⟨hb9, hc9⟩ := hSw; have x14 := hb9.k 14 rfl; have y0 := hc9.k 0 rfl; have y1 := hc9.k 1 rfl; clear hb9 hc9; go_simp; try with_reducible rfl)
 try simp only [aP,aA,aZ,aS]
 refine anyE_take (i := 10) (oi := ⟨some 19, _, _, _, _, _⟩) (v := ?_) rfl (by kernel_rfl) (by kernel_rfl) (by kernel_rfl) (by kernel_rfl) (fun _ _ _ h => h) (Or.inl ⟨by rfl, ?_⟩) hHeld ?_
 rotate_left
 ·(intro wq hSw; go_simp; try with_reducible rfl)
 try simp only [aP,aA,aZ,aS]
 refine anyE_ready (i := 11) (o := ⟨some 20, _, _, _, _, _⟩) (by kernel_rfl) rfl (fun KK hK => ?_)
 go_simp
 have HNb := Hd (show (G.alloc (.cells #[.string kK, .int .u64 (nN : Int)] 60)).heap[G.heap.size]? = some (.cells #[.string kK, .int .u64 (nN : Int)] 60 (0, 0)) from Blk.new G [.string kK, .int .u64 (nN : Int)] 60)
 replace HQ := Hd (HQ.out.alloc (.cells #[.string kK, .int .u64 (nN : Int)] 60))
 replace HC := Hd (HC.out.alloc (.cells #[.string kK, .int .u64 (nN : Int)] 60))
 replace HK := Hd (HK.out.alloc (.cells #[.string kK, .int .u64 (nN : Int)] 60))
 replace HO := Hd (HO.out.alloc (.cells #[.string kK, .int .u64 (nN : Int)] 60))
 have hws2 : bx ≤ (G.alloc (.cells #[.string kK, .int .u64 (nN : Int)] 60)).heap.size := by rw [nblk_alloc]; omega
 generalize G.alloc (.cells #[.string kK, .int .u64 (nN : Int)] 60) = V at *
 refine hK.out _ _ (fun _ => ?_) (fun hHeld2 => ?_)
 ·exact ⟨HQ.out, HC.out⟩
 clear hK KK hHeld
 have hHeld := hHeld2 (by decide)
 clear hHeld2
 try simp only [aP,aA,aZ,aS]
 refine anyE_ready (i := 12) (o := ⟨some 21, _, _, _, _, _⟩) (by kernel_rfl) rfl (fun KK hK => ?_)
 refine step_append_lies _ (by rfl) (.tmp 14) (.tmp 20) 36 (by rfl) 0 60 i0 _ 2 24 Tryz.underlying36 HI0.out HI1.out HI2.out HI3.out rfl (by decide) v n (flat xs) (by rfl) HO.out ⟨G.heap.size, 0, none⟩ 1 1 [.string kK, .int .u64 (nN : Int)] (by rfl) (by rfl) (World.news_of_block HNb.out) (one_slot _ _) (by omega) (by unfold maxLen; omega) (by omega) (Nat.zero_le _) _ rfl ?_
 intro g4 cap4 w4 hown4 hgrow4 hat4 hlt4
 replace HQ := Hd (HQ.out.of (hgrow4.block q HQ.out.lt (fun e => hvq e.symm)))
 replace HC := Hd (HC.out.of (hgrow4.block bx HC.out.lt (fun e => hvb e.symm)))
 replace HK := Hd (HK.out.grown hgrow4 (fun k hk _ => .inr hk))
 replace HO := Hd hown4
 have HAT := Hd (show v.ownBlock = some g4 ∨ bx ≤ g4 by rcases hat4 with h | h; exact .inl h; exact .inr (by omega))
 have hvq4 : ∀ i, (Value.slice (some ⟨g4, 0, none⟩) (n + 1) cap4).ownBlock = some i → ¬ (i = q) := fun i hi e => by
  subst e; exact own_far hown4 HQ.out ht hi
 have x14 := HQ.out.k 14 rfl
 have z14 := HQ.out.frozen 14
 clear hown4 hgrow4 hat4 hlt4 HNb hws2 HI0 HI1 HI2 HI3 hvq hvb hws
 refine hK.out _ _ (fun _ => ?_) (fun hHeld2 => ?_)
 ·exact ⟨HQ.out, HC.out⟩
 clear hK KK hHeld
 have hHeld := hHeld2 (by decide)
 clear hHeld2
 try simp only [aP,aA,aZ,aS]
 refine anyE_ready (i := 13) (o := ⟨some 22, _, _, _, _, _⟩) (by kernel_rfl) rfl (fun KK hK => ?_)
 go_simp
 refine hK.out _ _ (fun _ => ?_) (fun hHeld2 => ?_)
 ·exact ⟨HQ.out, HC.out⟩
 clear hK KK hHeld
 have hHeld := hHeld2 (by decide)
 clear hHeld2
 try simp only [aP,aA,aZ,aS]
 refine anyE_ready (i := 14) (o := ⟨some 23, _, _, _, _, _⟩) (by kernel_rfl) rfl (fun KK hK => ?_)
 go_simp
 refine hK.out _ _ (fun _ => ?_) (fun hHeld2 => ?_)
 ·exact ⟨HQ.out, HC.out⟩
 clear hK KK hHeld
 have hHeld := hHeld2 (by decide)
 clear hHeld2
 try simp only [aP,aA,aZ,aS]
 refine anyE_take (i := 15) (oi := ⟨some 24, _, _, _, _, _⟩) (v := ?_) rfl (by kernel_rfl) (by kernel_rfl) (by kernel_rfl) (by kernel_rfl) (fun _ _ _ h => h) (Or.inl ⟨by rfl, ?_⟩) hHeld ?_
 rotate_left
 ·(intro wq hSw; go_simp; try with_reducible rfl)
 try simp only [aP,aA,aZ,aS]
 refine anyE_ready (i := 16) (o := ⟨none, _, _, _, _, _⟩) (by kernel_rfl) rfl (fun KK hK => ?_)
 go_simp
 have HKs := (Kept.refl (fun i => i = q) w4).setCell (a := ⟨q, 14, none⟩) (fun _ => rfl) (.slice (some ⟨g4, 0, none⟩) (n + 1) cap4)
 replace HO := Hd (own_kept HO.out HKs hvq4)
 replace HQ := Hd (HQ.out.set 14 (.slice (some ⟨g4, 0, none⟩) (n + 1) cap4))
 replace HK := Hd (HK.out.setCell (a := ⟨q, 14, none⟩) (fun _ => .inl rfl) (.slice (some ⟨g4, 0, none⟩) (n + 1) cap4))
 clear HKs HC x14 z14
 generalize w4.setCell ⟨q, 14, none⟩ (.slice (some ⟨g4, 0, none⟩) (n + 1) cap4) = V4 at *
 refine hK.out _ _ (fun h => absurd rfl h) (fun _ => ?_)
 clear hK KK hHeld
 try simp only [aP,aA,aZ,aS]
 refine anyE_done (by kernel_rfl) ?_ _
 have x11 := HQ.out.k 11 rfl
 have z11 := HQ.out.frozen 11
 have hw1 := wrap_i ((rd : Int) + 1) (by omega)
 have hr1 : ((rd : Int) + 1 == (en : Int)) = r := by rw [← hr]; rw [Bool.eq_iff_iff]; simp; omega
 have hQ6 := HQ.out.set 11 (.int .i64 ((rd : Int) + 1))
 have hO6 := own_kept HO.out ((Kept.refl (fun i => i = q) V4).setCell (a := ⟨q, 11, none⟩) (fun _ => rfl) (.int .i64 ((rd : Int) + 1))) hvq4
 have HO6 := Hd hO6
 have HK6 := Hd (HK.out.setCell (a := ⟨q, 11, none⟩) (fun _ => .inl rfl) (.int .i64 ((rd : Int) + 1)))
 have y11 := hQ6.k 11 rfl
 have y12 := hQ6.k 12 rfl
 have HQ6 := Hd hQ6
 clear hQ6 hO6 HQ HO HK hvq4
 go_upto_region 11 with fail
 clear x11 z11
 go_quiet (fail)
 go_wp2
 go_ret
 exact ⟨rfl, g4, cap4, HQ6.out.of rfl, own_kept HO6.out ((Kept.refl (fun _ => False) _).drewN _) (fun _ _ h => h), (by rw [HBX.out]; exact HAT.out), HK6.out.drewN _⟩
end

section
open Go.RowKit Go.Deep Plain
set_option linter.unusedVariables false

structure Con (Z : Nat → Prop) (w : World) (T S N C R : Int) (F : Nat) (K fa fb fd : Int) (q : Nat) (t : TypeId) (nid : Nat) (s : Cs) (tl : List Value) : Prop where
 lt : ∀ i, Z i → i < w.heap.size
 own : Z q
 ex : ∃ v, Blk w q t (conv T S N C R F K fa fb fd nid s.rd s.en s.lv v s.hi s.la s.rt tl) ∧ w.ownsRow 0 60 2 v s.xs.length (flat s.xs) ∧ ∀ i, v.ownBlock = some i → Z i
section
variable {Z Y : Nat → Prop} {w w' : World} {T S N C R : Int} {F : Nat} {K fa fb fd : Int} {q : Nat} {t : TypeId} {nid : Nat} {s : Cs} {tl : List Value}
theorem Con.kept (h : Con Z w T S N C R F K fa fb fd q t nid s tl) (hk : Kept Y w w') (hd : ∀ i, Z i → ¬ Y i) : Con Z w' T S N C R F K fa fb fd q t nid s tl :=
 let ⟨v, h1, h2, h3⟩ := h.ex
 ⟨fun i hi => Nat.lt_of_lt_of_le (h.lt i hi) hk.size, h.own, v, hk.blk h1 (hd q h.own), own_kept h2 hk (fun i hi => hd i (h3 i hi)), h3⟩
theorem Con.setTail (h : Con Z w T S N C R F K fa fb fd q t nid s tl) (ht : t ≠ 60) (i : Nat) (u : Value) : Con Z (w.setCell ⟨q, 18 + i, none⟩ u) T S N C R F K fa fb fd q t nid s (tl.set i u) := by
 obtain ⟨v, h1, h2, h3⟩ := h.ex
 have hk := (Kept.refl (fun i => i = q) w).setCell (a := ⟨q, 18 + i, none⟩) (fun _ => rfl) u
 refine ⟨fun j hj => Nat.lt_of_lt_of_le (h.lt j hj) hk.size, h.own, v, ?_, own_kept h2 hk (fun j hj e => own_far h2 h1 ht (by rw [hj, e])), h3⟩
 have e : (conv T S N C R F K fa fb fd nid s.rd s.en s.lv v s.hi s.la s.rt tl).set (18 + i) u = (conv T S N C R F K fa fb fd nid s.rd s.en s.lv v s.hi s.la s.rt (tl.set i u)) := by
  rw [Nat.add_comm]; rfl
 rw [← e]; exact h1.set _ _
end

theorem take_any (Z : Nat → Prop) (T S N C R : Int) (F : Nat) (K fa fb fd : Int) (hl : Lim T S N C R (F : Int)) (hd : Reach3 fa fb fd) (q : Nat) (t : TypeId) (nid : Nat) (s s' : Cs) (tl : List Value) (w : World) (h : Con Z w T S N C R F K fa fb fd q t nid s tl) (ht : t ≠ 60) (hok : Oks F s) (hlt : s.rd = 0 ∨ s.rd < s.en)
  (nN mM : Nat) (kK : ByteArray) (hN : nN < 18446744073709551616) (hM : mM < 9223372036854775808) (hs : tk F s nN kK mM = s') (r : Bool) (hr : (s'.rd == s'.en) = r) :
  Calls Tryz.prog 149 #[.pointer (some ⟨q, 0, none⟩), .agg #[.int .u64 (nN : Int), .string kK, .int .u64 (mM : Int)]] w fun e w' => e = .returned (.bool r) ∧ ∃ Z', Con Z' w' T S N C R F K fa fb fd q t nid s' tl ∧ Kept Z w w' ∧ (∀ i, Z' i → Z i ∨ w.heap.size ≤ i) := by
 obtain ⟨v, h1, h2, h3⟩ := h.ex
 have hF := hl.f2
 have hrd := hok.lt
 have hx := hok.xs
 have hkq : ∀ {w' : World}, Kept (fun i => i = q) w w' → Kept Z w w' := fun hk => hk.mono (fun i e => by subst e; exact h.own)
 have hfar := own_far h2 h1 ht
 have hlt' : ∀ {w' : World}, Kept (fun i => i = q) w w' → ∀ i, Z i → i < w'.heap.size := fun hk i hi => Nat.lt_of_lt_of_le (h.lt i hi) hk.size
 have hrow : ∀ {w' : World}, Kept (fun i => i = q) w w' → w'.ownsRow 0 60 2 v s.xs.length (flat s.xs) := fun hk => own_kept h2 hk (fun i hi e => hfar (by rw [hi, e]))
 have hen : s.en ≤ 40 := by
  by_cases h0 : s.rd = 0
  ·rw [hok.zero h0]; show 0 ≤ 40; omega
  ·have := hok.en (by omega); omega
 rcases (by omega : s.rd = 0 ∨ s.rd = 1 ∨ s.rd = 2 ∨ 3 ≤ s.rd) with h0 | h0 | h0 | h0
 ·have e : s' = { s with rd := 1, en := 3 + min nN F, lv := mM } := by rw [← hs]; unfold tk; rw [if_pos h0]
  subst e
  obtain rfl : false = r := by rw [← hr]; show false = (1 == 3 + min nN F); symm; simp; omega
  refine (take_0 T S N C R F K fa fb fd hl hd q t nid s.rd s.en s.lv v s.hi s.la s.rt tl w h1 h0 nN mM kK hN hM).mono ?_
  rintro e w' ⟨he, hB, hk⟩
  exact ⟨he, Z, ⟨hlt' hk, h.own, v, hB, hrow hk, h3⟩, hkq hk, fun i hi => .inl hi⟩
 ·have e : s' = { s with rd := 2, hi := kK, la := mM == 1 } := by rw [← hs]; unfold tk; rw [if_neg (by omega), if_pos h0]
  subst e
  refine (take_1 T S N C R F K fa fb fd hl hd q t nid s.rd s.en s.lv v s.hi s.la s.rt tl w h1 h0 hen nN mM kK hN hM r hr).mono ?_
  rintro e w' ⟨he, hB, hk⟩
  exact ⟨he, Z, ⟨hlt' hk, h.own, v, hB, hrow hk, h3⟩, hkq hk, fun i hi => .inl hi⟩
 ·have e : s' = { s with rd := 3, rt := nN } := by rw [← hs]; unfold tk; rw [if_neg (by omega), if_neg (by omega), if_pos h0]
  subst e
  refine (take_2 T S N C R F K fa fb fd hl hd q t nid s.rd s.en s.lv v s.hi s.la s.rt tl w h1 h0 hen nN mM kK hN hM r hr).mono ?_
  rintro e w' ⟨he, hB, hk⟩
  exact ⟨he, Z, ⟨hlt' hk, h.own, v, hB, hrow hk, h3⟩, hkq hk, fun i hi => .inl hi⟩
 ·have e : s' = { s with rd := s.rd + 1, xs := s.xs ++ [(kK, nN)] } := by rw [← hs]; unfold tk; rw [if_neg (by omega), if_neg (by omega), if_neg (by omega)]
  subst e
  refine (take_3 T S N C R F K fa fb fd hl hd q t nid s.rd s.en s.lv v s.hi s.la s.rt tl s.xs s.xs.length w h1 h2 ht (by omega) ⟨h0, by omega⟩ (by omega) nN mM kK hN hM r hr).mono ?_
  rintro e w' ⟨he, g, cap, hB, hO, hat, hk⟩
  refine ⟨he, fun i => Z i ∨ i = g, ⟨fun i hi => ?_, .inl h.own, _, hB, ?_, fun i hi => .inr (by cases hi; rfl)⟩, hk.mono (fun i hi => ?_), fun i hi => ?_⟩
  ·rcases hi with hi | rfl
   ·exact Nat.lt_of_lt_of_le (h.lt i hi) hk.size
   ·exact (hO.lt i rfl).2
  ·simp only [List.length_append, List.length_cons, List.length_nil, flat_append]; exact hO
  ·rcases hi with rfl | hi
   ·exact h.own
   ·exact h3 i hi
  ·rcases hi with hi | rfl
   ·exact .inl hi
   ·rcases hat with hat | hat
    ·exact .inl (h3 i hat)
    ·exact .inr hat

theorem cload_any (Z : Nat → Prop) (T S N C R : Int) (F : Nat) (K fa fb fd : Int) (hl : Lim T S N C R (F : Int)) (hd : Reach3 fa fb fd) (q : Nat) (t : TypeId) (nid : Nat) (s s' : Cs) (tl : List Value) (w : World) (h : Con Z w T S N C R F K fa fb fd q t nid s tl) (ht : t ≠ 60) (b g : Nat) (l : List Cel) (k : Nat) (hm : Mem w b g l k) (hb : ¬ Z b) (hg : ¬ Z g) (hk : k < 9223372036854775808) (hok : Oks F s) (hlt : s.rd = 0 ∨ s.rd < s.en) (ad : Int) (had : adr N F fa nid s.rd = ad)
  (nN mM : Nat) (kK : ByteArray) (hc : cellAt l ad = ((nN : Int), kK, (mM : Int))) (hN : nN < 18446744073709551616) (hM : mM < 9223372036854775808) (hs : tk F s nN kK mM = s') (r : Bool) (hr : (s'.rd == s'.en) = r) :
  Calls Tryz.prog 104 #[.pointer (some ⟨q, 0, none⟩), .pointer (some ⟨b, 0, none⟩)] w fun e w' => e = .returned (.bool r) ∧ Mem w' b g l (k + 1) ∧ ∃ Z', Con Z' w' T S N C R F K fa fb fd q t nid s' tl ∧ Kept (fun i => Z i ∨ i = b ∨ i = g) w w' ∧ (∀ i, Z' i → Z i ∨ w.heap.size ≤ i) := by
 obtain ⟨v, h1, h2, h3⟩ := h.ex
 have hF := hl.f2
 have hrd := hok.lt
 have HC := Hd hc
 have HAD := Hd had
 have HM := Hd hm
 have HH := Hd h
 have HS := Hd hs
 have HR := Hd hr
 have HOK := Hd hok
 have HLT := Hd hlt
 have HB := Hd h1
 clear hc had hm h hs hr hok hlt h1 h2 h3
 go_enter Tryz.func104, Tryz.ntmps104
 go_wp2_with fail
 refine (address_any T S N C R F K fa fb fd hl hd q t nid s.rd s.en s.lv v s.hi s.la s.rt tl _ HB.out (by omega) ad HAD.out).mono ?_; rintro e w1 ⟨rfl, hK1⟩
 have HM1 := Hd (HM.out.kept hK1 (fun h => h) (fun h => h))
 have HH1 := Hd (HH.out.kept hK1 (fun _ _ h => h))
 have HK1 := Hd (hK1.mono (T := fun i => Z i ∨ i = b ∨ i = g) (fun _ h => h.elim))
 clear hK1 HB
 go_wp2_with fail
 refine (load_any b g l k ad (nN : Int) (mM : Int) kK _ HM1.out hk HC.out).mono ?_; rintro e w2 ⟨rfl, hM2, hK2⟩
 have HM2 := Hd hM2
 have HH2 := Hd (HH1.out.kept hK2 (fun i hi e => by rcases e with rfl | rfl; exact hb hi; exact hg hi))
 have HK2 := Hd (HK1.out.trans hK2 (T := Own b g) (fun i _ e => .inr e))
 clear hM2 hK2 HM1 HH1 HK1 HM HH
 go_wp2_with fail
 refine (take_any Z T S N C R F K fa fb fd hl hd q t nid s s' tl _ HH2.out ht HOK.out HLT.out nN mM kK hN hM HS.out r HR.out).mono ?_; rintro e w3 ⟨rfl, Z', hC3, hK3, hn3⟩
 have HM3 := Hd (HM2.out.kept hK3 hb hg)
 have HK3 := Hd (HK2.out.trans hK3 (fun i _ e => .inl e))
 have HN3 := Hd (show ∀ i, Z' i → Z i ∨ w.heap.size ≤ i from fun i hi => by rcases hn3 i hi with h | h; exact .inl h; exact .inr (Nat.le_trans HK2.out.size h))
 have HC3 := Hd hC3
 clear hC3 hK3 hn3 HM2 HK2 HH2
 go_wp2
 go_ret
 exact ⟨rfl, HM3.out, Z', HC3.out, HK3.out, HN3.out⟩

theorem restart_any (T S N C R : Int) (F : Nat) (K fa fb fd : Int) (hl : Lim T S N C R (F : Int)) (hd : Reach3 fa fb fd) (q : Nat) (t : TypeId) (nid rd en lv : Nat) (v : Value) (hi : ByteArray) (la : Bool) (rt : Nat) (tl : List Value) (w : World) (h : Blk w q t (conv T S N C R F K fa fb fd nid rd en lv v hi la rt tl)) :
  Calls Tryz.prog 177 #[.pointer (some ⟨q, 0, none⟩)] w fun e w' => e = .returned (.tuple #[]) ∧ Blk w' q t (conv T S N C R F K fa fb fd nid 0 0 0 (.slice none 0 0) ⟨#[]⟩ false 0 tl) ∧ Kept (fun i => i = q) w w' := by
 have HB := Hd h
 clear h
 go_enter Tryz.func177, Tryz.ntmps177
 go_wp2_with fail
 refine qtail 10 (fun w' => Kept (fun _ => False) w w' ∧ Blk w' q t (conv T S N C R F K fa fb fd nid rd en lv v hi la rt tl)) (by kernel_rfl) (by kernel_rfl) ⟨(Kept.refl _ _).drew, HB.out⟩ ?_
 simp only [List.take_succ_cons, List.take_zero, List.drop_succ_cons, List.drop_zero]
 refine tkQ 2 ?_ (fun wq hSw => ?_) ?_
 rotate_left
 ·(go_simp; try with_reducible rfl)
 try simp only [aP,aA,aZ,aS]
 refine tkQ 3 ?_ (fun wq hSw => ?_) ?_
 rotate_left
 ·(go_simp; try with_reducible rfl)
 try simp only [aP,aA,aZ,aS]
 refine tkQ 4 ?_ (fun wq hSw => ?_) ?_
 rotate_left
 ·(go_simp; try with_reducible rfl)
 try simp only [aP,aA,aZ,aS]
 refine tkQ 5 ?_ (fun wq hSw => ?_) ?_
 rotate_left
 ·(go_simp; try with_reducible rfl)
 try simp only [aP,aA,aZ,aS]
 refine tkQ 6 ?_ (fun wq hSw => ?_) ?_
 rotate_left
 ·(have hb9 := hSw.2; obtain ⟨x0, x1, x2, x3, x4, x5, x6, x7, x8, x9, x10⟩ := hb9.c11; clear hb9; go_simp; try with_reducible rfl)
 try simp only [aP,aA,aZ,aS]
 refine tkQ 7 ?_ (fun wq hSw => ?_) ?_
 rotate_left
 ·(go_simp; try with_reducible rfl)
 try simp only [aP,aA,aZ,aS]
 refine tkQ 8 ?_ (fun wq hSw => ?_) ?_
 rotate_left
 ·(go_simp; try with_reducible rfl)
 try simp only [aP,aA,aZ,aS]
 refine tkQ 9 ?_ (fun wq hSw => ?_) ?_
 rotate_left
 ·(go_simp; try with_reducible rfl)
 try simp only [aP,aA,aZ,aS]
 refine tkQ 10 ?_ (fun wq hSw => ?_) ?_
 rotate_left
 ·(have hb9 := hSw.2; obtain ⟨x0, x1, x2, x3, x4, x5, x6, x7, x8, x9, x10⟩ := hb9.c11; clear hb9; go_simp; try with_reducible rfl)
 try simp only [aP,aA,aZ,aS]
 refine tkQ 11 ?_ (fun wq hSw => ?_) ?_
 rotate_left
 ·(go_simp; try with_reducible rfl)
 try simp only [aP,aA,aZ,aS]
 refine wpQuiet_nil ?_
 intro wz hHeld
 obtain ⟨hK, hB⟩ := hHeld
 have x0 := hB.k 0 rfl
 have z0 := hB.frozen 0
 have x1 := hB.k 1 rfl
 have z1 := hB.frozen 1
 have x2 := hB.k 2 rfl
 have z2 := hB.frozen 2
 have x3 := hB.k 3 rfl
 have z3 := hB.frozen 3
 have x4 := hB.k 4 rfl
 have z4 := hB.frozen 4
 have x5 := hB.k 5 rfl
 have z5 := hB.frozen 5
 have x6 := hB.k 6 rfl
 have z6 := hB.frozen 6
 have x7 := hB.k 7 rfl
 have z7 := hB.frozen 7
 have x8 := hB.k 8 rfl
 have z8 := hB.frozen 8
 have x9 := hB.k 9 rfl
 have z9 := hB.frozen 9
 have x10 := hB.k 10 rfl
 have z10 := hB.frozen 10
 have x11 := hB.k 11 rfl
 have z11 := hB.frozen 11
 have x12 := hB.k 12 rfl
 have z12 := hB.frozen 12
 have x13 := hB.k 13 rfl
 have z13 := hB.frozen 13
 have x14 := hB.k 14 rfl
 have z14 := hB.frozen 14
 have x15 := hB.k 15 rfl
 have z15 := hB.frozen 15
 have x16 := hB.k 16 rfl
 have z16 := hB.frozen 16
 have x17 := hB.k 17 rfl
 have z17 := hB.frozen 17
 have HB5 := Hd hB
 have HK5 := Hd (hK.mono (T := fun i => i = q) (fun _ h => h.elim))
 clear hB hK HB
 go_wp2
 go_end0
 exact ⟨rfl, ((((((((((((((((((HB5.out.set 0 (.int .i64 T)).set 1 (.int .i64 S)).set 2 (.int .i64 N)).set 3 (.int .i64 C)).set 4 (.int .i64 R)).set 5 (.int .i64 (F : Int))).set 6 (.int .u64 K)).set 7 (.int .i64 fa)).set 8 (.int .i64 fb)).set 9 (.int .i64 fd)).set 10 (.int .u64 (nid : Int))).set 11 (.int .i64 0)).set 12 (.int .i64 0)).set 13 (.int .i64 0)).set 14 (.slice none 0 0)).set 15 (.string ⟨#[]⟩)).set 16 (.bool false)).set 17 (.int .u64 0)), ((((((((((((((((((HK5.out.setCell (a := ⟨q, 0, none⟩) (fun _ => rfl) (.int .i64 T)).setCell (a := ⟨q, 1, none⟩) (fun _ => rfl) (.int .i64 S)).setCell (a := ⟨q, 2, none⟩) (fun _ => rfl) (.int .i64 N)).setCell (a := ⟨q, 3, none⟩) (fun _ => rfl) (.int .i64 C)).setCell (a := ⟨q, 4, none⟩) (fun _ => rfl) (.int .i64 R)).setCell (a := ⟨q, 5, none⟩) (fun _ => rfl) (.int .i64 (F : Int))).setCell (a := ⟨q, 6, none⟩) (fun _ => rfl) (.int .u64 K)).setCell (a := ⟨q, 7, none⟩) (fun _ => rfl) (.int .i64 fa)).setCell (a := ⟨q, 8, none⟩) (fun _ => rfl) (.int .i64 fb)).setCell (a := ⟨q, 9, none⟩) (fun _ => rfl) (.int .i64 fd)).setCell (a := ⟨q, 10, none⟩) (fun _ => rfl) (.int .u64 (nid : Int))).setCell (a := ⟨q, 11, none⟩) (fun _ => rfl) (.int .i64 0)).setCell (a := ⟨q, 12, none⟩) (fun _ => rfl) (.int .i64 0)).setCell (a := ⟨q, 13, none⟩) (fun _ => rfl) (.int .i64 0)).setCell (a := ⟨q, 14, none⟩) (fun _ => rfl) (.slice none 0 0)).setCell (a := ⟨q, 15, none⟩) (fun _ => rfl) (.string ⟨#[]⟩)).setCell (a := ⟨q, 16, none⟩) (fun _ => rfl) (.bool false)).setCell (a := ⟨q, 17, none⟩) (fun _ => rfl) (.int .u64 0))⟩
end

section
open Go.RowKit Go.Deep Plain
set_option linter.unusedVariables false

theorem copied_any (lv : Nat) (A : Option Addr) (c : Nat) (hi : ByteArray) (la : Bool) (rt : Nat) (xs : List Sl) (w : World) (n : Nat) (hn : xs.length = n) (h40 : n ≤ 1099511627776) (hR : Rs w A c xs) :
  Calls Tryz.prog 106 #[.agg #[.int .i64 (lv : Int), .slice A n c, .string hi, .bool la, .int .u64 (rt : Int)]] w fun e w' => ∃ A' c', e = .returned (.agg #[.int .i64 (lv : Int), .slice A' n c', .string hi, .bool la, .int .u64 (rt : Int)]) ∧ w'.ownsRow w.heap.size 60 2 (.slice A' n c') n (flat xs) ∧ Below w.heap.size w w' := by
 obtain ⟨P0, S0, B0, Z0⟩ := box_two w [.int .i64 (lv : Int), .slice A n c, .string hi, .bool la, .int .u64 (rt : Int)] [.int .i64 0, .slice none 0 0, .string ⟨#[]⟩, .bool false, .int .u64 0] 38 38
 have R0 := hR.below B0 (Nat.le_refl _)
 go_enter Tryz.func106, Tryz.ntmps106
 go_wp2_with (at_builtin; go_must (refine wpList_app rfl (.const (.slice none 0 0)) (.tmp 4) rfl (w.heap.size + 2) _ 0 [] rfl (World.ownsRow_nil _ _ _ _) A n c xs rfl hn R0 (by omega) (Nat.le_of_eq Z0.symm) ?_))
 intro v1 w1 hown hB

 have P1 := P0.below hB (by omega)
 have S1 := S0.below hB (by omega)
 have HB := Hd (B0.trans (hB.mono (by omega)))
 have HO := Hd hown
 have x0 := P1.k 0 rfl
 have y0 := S1.k 0 rfl
 have z0 := S1.frozen 0
 have x1 := P1.k 1 rfl
 have y1 := S1.k 1 rfl
 have z1 := S1.frozen 1
 have x2 := P1.k 2 rfl
 have y2 := S1.k 2 rfl
 have z2 := S1.frozen 2
 have x3 := P1.k 3 rfl
 have y3 := S1.k 3 rfl
 have z3 := S1.frozen 3
 have x4 := P1.k 4 rfl
 have y4 := S1.k 4 rfl
 have z4 := S1.frozen 4
 have f1 := P1.frozen 1
 obtain ⟨A4, c4, rfl, hl4, hR4, hA4⟩ := Rs.own hown
 clear hown hB P0 S0 B0 Z0 P1 S1 R0 hR hl4 hR4 hA4
 go_wp2
 refine bodyPost_ret (v := .agg #[.int .i64 (lv : Int), .slice A4 n c4, .string hi, .bool la, .int .u64 (rt : Int)]) (by simp [results, Tryz.results106, go_sem, *]) rfl ?_
 exact ⟨_, _, rfl, own_less (own_page HO.out (by omega) (by omega) _ _ _ _ _ _) (by omega), below_page HB.out (Nat.le_refl _) (Nat.le_succ _) _ _ _ _ _ _⟩
end
end Go.Proofs.YtjnodgebpklaoaaGreat
