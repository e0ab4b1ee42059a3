/-
  What the machines of packages alloc (Take) and clock (Allocate, Publish, Now) answer and write, a step at a time: contracts for every memory. Condition: fewer than 2^63 accesses so far, words below 2^64.
-/
import Derived.Test.YtddjggckmmdicaaCloStart
import Derived.StillTailTactics
import Derived.Deep.RegionHeld3
namespace Go.Proofs.Ytddjggckmmdicaa
open Go.RowKit Go.Deep
set_option linter.unusedVariables false

set_option linter.unusedVariables false

/-- The cells of a machine: its counter (the cell, what it has seen, whether that is fresh), its limit, whether it has changed the counter, whether it has finished. -/
def macv (i : Int) (N : Nat) (K : ByteArray) (M : Int) (ld : Bool) (lim : Nat) (tk fin : Bool) : List Value :=
  [.int .i64 i, .int .u64 (N : Int), .string K, .int .u64 M, .bool ld, .int .u64 (lim : Int), .bool tk, .bool fin]

theorem Mem.setFar {w : World} {b g : Nat} {l : List Cel} {k r : Nat} (h : Mem w b g l k) (hb : r ≠ b) (hg : r ≠ g) (i : Nat) (u : Value) : Mem (w.setCell ⟨r, i, none⟩ u) b g l k :=
  ⟨h.obj.other (fun e => hb e.symm) _, h.row.other (fun e => hg e.symm) _, h.ne⟩

/-- The blocks of a machine and of a memory. -/
def Own3 (q b g : Nat) : Nat → Prop := fun k => k = q ∨ k = b ∨ k = g

theorem keepSwap {b g q r2 : Nat} {W w' : World} {v0 v1 v2 v3 v4 : Value} (hK : Kept (Own b g) W.drew w') (hq : ¬ Own b g q) (hr : ¬ Own b g r2) (hql : q < W.heap.size) (hrl : r2 < W.heap.size)
    (c0 : W.cell? ⟨q, 0, none⟩ = some v0) (c1 : W.cell? ⟨q, 1, none⟩ = some v1) (d0 : W.cell? ⟨r2, 0, none⟩ = some v2) (d1 : W.cell? ⟨r2, 1, none⟩ = some v3) (d2 : W.cell? ⟨r2, 2, none⟩ = some v4) :
    w'.cell? ⟨q, 0, none⟩ = some v0 ∧ w'.cell? ⟨q, 1, none⟩ = some v1 ∧ w'.cell? ⟨r2, 0, none⟩ = some v2 ∧ w'.cell? ⟨r2, 1, none⟩ = some v3 ∧ w'.cell? ⟨r2, 2, none⟩ = some v4 :=
  ⟨(hK.ofDrew.cell (p := ⟨q, 0, none⟩) hql hq).trans c0, (hK.ofDrew.cell (p := ⟨q, 1, none⟩) hql hq).trans c1, (hK.ofDrew.cell (p := ⟨r2, 0, none⟩) hrl hr).trans d0, (hK.ofDrew.cell (p := ⟨r2, 1, none⟩) hrl hr).trans d1, (hK.ofDrew.cell (p := ⟨r2, 2, none⟩) hrl hr).trans d2⟩

/-- The cells of a publisher (its cell, its timestamp, whether its turn has come, whether it has published), and of a reader of the clock. -/
def pubv (i : Int) (x : Nat) (rd pd : Bool) : List Value := [.int .i64 i, .int .u64 (x : Int), .bool rd, .bool pd]
def nowv (i : Int) (x : Nat) (ld : Bool) : List Value := [.int .i64 i, .int .u64 (x : Int), .bool ld]

theorem field6 (T S N C R F K : Int) (w : World) : (Instr.field 25 (.agg #[.int .i64 T, .int .i64 S, .int .i64 N, .int .i64 C, .int .i64 R, .int .i64 F, .int .u64 K]) 6).run Try.prog w = .ok (.int .u64 K) w := by kernel_rfl

set_option maxHeartbeats 1000000 in
theorem newNow_any (T S N C R F a b d : Int) (lim : Nat) (w : World) :
    Calls Try.prog 23 #[.agg #[.int .i64 T, .int .i64 S, .int .i64 N, .int .i64 C, .int .i64 R, .int .i64 F, .int .u64 (lim : Int), .int .i64 a, .int .i64 b, .int .i64 d]] w fun e w' => ∃ p : Nat, e = .returned (.pointer (some ⟨p, 0, none⟩)) ∧ Blk w' p 72 (nowv 2 0 false) ∧ w.heap.size ≤ p ∧ w'.heap.size = p + 1 ∧ Kept (fun _ => False) w w' := by
  go_enter Try.func23, Try.ntmps23
  go_wp2_with fail
  refine (published_any T S N C R F (lim : Int) a b d _).mono ?_; rintro e w1 ⟨rfl, hK1⟩
  have hz := hK1.size
  simp only [World.size_alloc] at hz
  have HK := Lib.hid (((Kept.refl (fun _ => False) w).alloc (.cells #[.int .i64 T, .int .i64 S, .int .i64 N, .int .i64 C, .int .i64 R, .int .i64 F, .int .u64 (lim : Int), .int .i64 a, .int .i64 b, .int .i64 d] 29)).trans hK1 (fun _ _ h => h))
  clear hK1
  go_wp2
  go_ret
  exact ⟨w1.heap.size, rfl, Blk.new w1 (nowv 2 0 false) 72, by omega, nblk_alloc _ _, HK.out.alloc _⟩

set_option maxHeartbeats 400000 in
theorem nowStep_done (q m : Nat) (i : Int) (x : Nat) (w : World) (h : Blk w q 72 (nowv i x true)) :
    Calls Try.prog 25 #[.pointer (some ⟨q, 0, none⟩), .pointer (some ⟨m, 0, none⟩)] w fun e w' => e = .returned (.bool true) ∧ w = w' := by
  have c2 := h.cell (i := 2) rfl
  go_enter Try.func25, Try.ntmps25
  go_wp2
  go_ret
  exact ⟨rfl, rfl⟩

set_option maxHeartbeats 1000000 in
theorem nowStep_load (q b g : Nat) (l : List Cel) (k : Nat) (i : Int) (V : Nat) (K : ByteArray) (M : Int) (x : Nat) (w : World) (hq : Blk w q 72 (nowv i x false)) (h : Mem w b g l k) (hqb : q ≠ b) (hqg : q ≠ g) (hk : k < 9223372036854775808)
    (hc : cellAt l i = ((V : Int), K, M)) :
    Calls Try.prog 25 #[.pointer (some ⟨q, 0, none⟩), .pointer (some ⟨b, 0, none⟩)] w fun e w' => e = .returned (.bool true) ∧ Mem w' b g l (k + 1) ∧ Blk w' q 72 (nowv i V true) ∧ Kept (Own3 q b g) w w' := by
  have c0 := hq.cell (i := 0) rfl
  have c2 := hq.cell (i := 2) rfl
  have hqlt := hq.lt
  have hqn : ¬ Own b g q := by unfold Own; omega
  have hfd := field0 (V : Int) M K
  have HQ := Lib.hid hq
  have HM := Lib.hid h
  have HC := Lib.hid hc
  clear hq h hc
  go_enter Try.func25, Try.ntmps25
  go_wp2_with fail
  refine (load_any b g l k i (V : Int) M K _ HM.out hk HC.out).mono ?_; rintro e w5 ⟨rfl, hM5, hK5⟩
  have hQ5 := hK5.blk HQ.out hqn
  have y1 := hQ5.cell (i := 1) rfl
  have z1 := hQ5.frozen 1
  have y2 := hQ5.cell (i := 2) rfl
  have z2 := hQ5.frozen 2
  have HQ5 := Lib.hid hQ5
  have HM5 := Lib.hid hM5
  have HK5 := Lib.hid (hK5.mono (T := Own3 q b g) (fun _ h => .inr h))
  clear hQ5 hM5 hK5 HQ HM c0 c2
  go_wp2
  go_ret
  exact ⟨rfl, (HM5.out.setFar hqb hqg _ _).setFar hqb hqg _ _, (HQ5.out.set 1 _).set 2 _, (HK5.out.setCell (fun _ => .inl rfl) _).setCell (fun _ => .inl rfl) _⟩

set_option maxHeartbeats 400000 in
theorem nowTime_any (q : Nat) (i : Int) (x : Nat) (ld : Bool) (w : World) (h : Blk w q 72 (nowv i x ld)) :
    Calls Try.prog 26 #[.pointer (some ⟨q, 0, none⟩)] w fun e w' => e = .returned (.int .u64 (x : Int)) ∧ w = w' := by
  have c1 := h.cell (i := 1) rfl
  go_enter Try.func26, Try.ntmps26
  go_wp2
  go_ret
  exact ⟨rfl, rfl⟩

end Go.Proofs.Ytddjggckmmdicaa
