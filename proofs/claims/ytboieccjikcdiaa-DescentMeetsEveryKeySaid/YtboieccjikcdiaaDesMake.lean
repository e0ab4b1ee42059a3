/-
  What NewRead and Read.Page of package node answer. Condition: a layout within its limits.
-/
import Derived.Test.YtboieccjikcdiaaDesRead
import Derived.Test.YtboieccjikcdiaaDesCopy
import Derived.Test.YtboieccjikcdiaaDesNear
namespace Go.Proofs.Ytboieccjikcdiaa
open Go.RowKit Go.Deep Plain
set_option linter.unusedVariables false

set_option linter.unusedVariables false

theorem bkept {w w' : World} (h : Below w.heap.size w w') : Kept (fun _ => False) w w' := ⟨h.os, h.tape, h.output, h.size, fun i hi _ => h.block i hi⟩

set_option maxHeartbeats 1000000 in
theorem newRead_any (T S N C R : Int) (F : Nat) (K fa fb fd : Int) (hl : Lim T S N C R (F : Int)) (hd : Reach3 fa fb fd) (nid : Nat)  (w : World) :
    Calls Try.prog 70 #[.agg #[.int .i64 T, .int .i64 S, .int .i64 N, .int .i64 C, .int .i64 R, .int .i64 (F : Int), .int .u64 K, .int .i64 fa, .int .i64 fb, .int .i64 fd], .int .u64 (nid : Int)] w fun e w' => ∃ q : Nat, e = .returned (.pointer (some ⟨q, 0, none⟩)) ∧ Con (fun i => i = q) w' T S N C R F K fa fb fd q 121 nid cs0 [.int .u64 0, .int .i64 0] ∧ w.heap.size ≤ q ∧ Kept (fun _ => False) w w' := by
  go_enter Try.func70, Try.ntmps70
  go_wp2
  go_ret
  have hB : Blk ((w.alloc (.cells #[.int .i64 T, .int .i64 S, .int .i64 N, .int .i64 C, .int .i64 R, .int .i64 (F : Int), .int .u64 K, .int .i64 fa, .int .i64 fb, .int .i64 fd] 27)).alloc (.cells ⟨(conv T S N C R F K fa fb fd nid 0 0 0 (.slice none 0 0) ⟨#[]⟩ false 0 [.int .u64 0, .int .i64 0])⟩ 121)) (w.heap.size + 1) 121 (conv T S N C R F K fa fb fd nid 0 0 0 (.slice none 0 0) ⟨#[]⟩ false 0 [.int .u64 0, .int .i64 0]) := by have := Blk.new (w.alloc (.cells #[.int .i64 T, .int .i64 S, .int .i64 N, .int .i64 C, .int .i64 R, .int .i64 (F : Int), .int .u64 K, .int .i64 fa, .int .i64 fb, .int .i64 fd] 27)) (conv T S N C R F K fa fb fd nid 0 0 0 (.slice none 0 0) ⟨#[]⟩ false 0 [.int .u64 0, .int .i64 0]) 121; rwa [nblk_alloc] at this
  exact ⟨w.heap.size + 1, rfl, ⟨fun i hi => by subst hi; exact hB.lt, rfl, _, hB, World.ownsRow_nil _ _ _ _, fun i hi => by cases hi⟩, Nat.le_succ _, ((Kept.refl _ _).alloc _).alloc _⟩

set_option maxHeartbeats 2000000 in
theorem rpage_any (Z : Nat → Prop) (T S N C R : Int) (F : Nat) (K fa fb fd : Int) (q nid : Nat) (y : Rst) (w : World) (h : Con Z w T S N C R F K fa fb fd q 121 nid y.s (rtl y)) (hph : y.ph = 3) (h40 : y.s.xs.length ≤ 1099511627776) :
    Calls Try.prog 58 #[.pointer (some ⟨q, 0, none⟩)] w fun e w' => ∃ A c, e = .returned (.agg #[.int .i64 (y.s.lv : Int), .slice A y.s.xs.length c, .string y.s.hi, .bool y.s.la, .int .u64 (y.s.rt : Int)]) ∧ Rs w' A c y.s.xs ∧ (∀ a, A = some a → w.heap.size ≤ a.block) ∧ Kept (fun _ => False) w w' := by
  obtain ⟨v, h1, h2, h3⟩ := h.ex
  obtain ⟨A, c, rfl, _, hR, _⟩ := Rs.own h2
  obtain ⟨S0, B0, Z0⟩ := box_one w [.int .i64 0, .slice none 0 0, .string ⟨#[]⟩, .bool false, .int .u64 0] 43
  have x19 : w.cell? ⟨q, 19, none⟩ = some (.int .i64 (y.ph : Int)) := h1.cell (i := 19) rfl
  have p3 : ((y.ph : Int) == 3) = true := by simp; omega
  have HR := Lib.hid (hR.below B0 (Nat.le_refl _))
  have hqlt := h1.lt
  have x13 := h1.cell (i := 13) rfl
  have x14 := h1.cell (i := 14) rfl
  have x15 := h1.cell (i := 15) rfl
  have x16 := h1.cell (i := 16) rfl
  have x17 := h1.cell (i := 17) rfl
  clear h h1 h2 h3 hR
  go_enter Try.func58, Try.ntmps58
  go_wp2_with fail
  refine (copied_any y.s.lv A c y.s.hi y.s.la y.s.rt y.s.xs _ _ rfl (by omega) HR.out).mono ?_; rintro e w1 ⟨A1, c1, rfl, hO1, hB1⟩
  rw [Z0] at hO1 hB1
  have S1 := S0.below hB1 (by omega)
  have HB := Lib.hid (B0.trans (hB1.mono (by omega)))
  have HO := Lib.hid hO1
  have y0 := S1.cell (i := 0) rfl
  have z0 := S1.frozen 0
  have y1 := S1.cell (i := 1) rfl
  have z1 := S1.frozen 1
  have y2 := S1.cell (i := 2) rfl
  have z2 := S1.frozen 2
  have y3 := S1.cell (i := 3) rfl
  have z3 := S1.frozen 3
  have y4 := S1.cell (i := 4) rfl
  have z4 := S1.frozen 4
  clear hB1 hO1 S0 B0 Z0 S1 HR
  clear x13 x14 x15 x16 x17
  go_wp2
  refine bodyPost_ret (v := .agg #[.int .i64 (y.s.lv : Int), .slice A1 y.s.xs.length c1, .string y.s.hi, .bool y.s.la, .int .u64 (y.s.rt : Int)]) (by first | (simp [results, Try.results58, go_sem]; done) | (simp [results, Try.results58, go_sem, *]; done)) rfl ?_
  have hO := own_res (own_less HO.out (by omega : w.heap.size + 1 ≤ w.heap.size + 1)) (show w.heap.size < w.heap.size + 1 by omega) (.int .i64 (y.s.lv : Int)) (.slice A1 y.s.xs.length c1) (.string y.s.hi) (.bool y.s.la) (.int .u64 (y.s.rt : Int))
  obtain ⟨A2, c2, e2, _, hR2, hA2⟩ := Rs.own hO
  cases e2
  exact ⟨_, _, rfl, hR2, fun a ha => Nat.le_trans (Nat.le_succ _) (hA2 a ha), bkept (below_res HB.out (Nat.le_refl _) _ _ _ _ _)⟩

theorem nat_toNat {c : Cel} (h : NatCell c) : c = ((c.1.toNat : Int), c.2.1, (c.2.2.toNat : Int)) ∧ c.1.toNat < 18446744073709551616 ∧ c.2.2.toNat < 9223372036854775808 := by
  obtain ⟨N, M, K, rfl, h1, h2⟩ := h
  refine ⟨rfl, ?_, ?_⟩ <;> simp <;> omega

theorem Rs.keptF {Y : Nat → Prop} {w w' : World} {A : Option Addr} {c : Nat} {xs : List Sl} (h : Rs w A c xs) (hk : Kept Y w w') (hA : ∀ a, A = some a → ¬ Y a.block) : Rs w' A c xs :=
  ⟨h.le, h.max, h.none', fun hp => by
    obtain ⟨g, off, e, hg, hc⟩ := h.some' hp
    exact ⟨g, off, e, Nat.lt_of_lt_of_le hg hk.size, fun j u hu => (hk.cell (p := ⟨g, off + j, none⟩) hg (show ¬ Y g from hA _ e)).trans (hc j u hu)⟩⟩

end Go.Proofs.Ytboieccjikcdiaa
