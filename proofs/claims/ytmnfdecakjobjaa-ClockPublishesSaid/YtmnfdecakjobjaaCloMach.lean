/-
  What the machines of packages alloc (Take) and clock (Allocate, Publish, Now) answer and write, a step at a time: contracts for every memory. Condition: fewer than 2^63 accesses so far, words below 2^64.
-/
import Derived.Test.YtmnfdecakjobjaaCloStart
import Derived.StillTailTactics
import Derived.Deep.RegionHeld3
namespace Go.Proofs.Ytmnfdecakjobjaa
open Go.RowKit Go.Deep
set_option linter.unusedVariables false

set_option linter.unusedVariables false

/-- The cells of a machine: its counter (the cell, what it has seen, whether that is fresh), its limit, whether it has changed the counter, whether it has finished. -/
def macv (i : Int) (N : Nat) (K : ByteArray) (M : Int) (ld : Bool) (lim : Nat) (tk fin : Bool) : List Value :=
  [.int .i64 i, .int .u64 (N : Int), .string K, .int .u64 M, .bool ld, .int .u64 (lim : Int), .bool tk, .bool fin]

theorem Mem.setFar {w : World} {b g : Nat} {l : List Cel} {k r : Nat} (h : Mem w b g l k) (hb : r ≠ b) (hg : r ≠ g) (i : Nat) (u : Value) : Mem (w.setCell ⟨r, i, none⟩ u) b g l k :=
  ⟨h.obj.other (fun e => hb e.symm) _, h.row.other (fun e => hg e.symm) _, h.ne⟩

/-- The blocks of a machine and of a memory. -/
def Own3 (q b g : Nat) : Nat → Prop := fun k => k = q ∨ k = b ∨ k = g

set_option maxHeartbeats 400000 in
theorem newTake_any (i : Int) (lim : Nat) (w : World) :
    Calls Try.prog 26 #[.int .i64 i, .int .u64 (lim : Int)] w fun e w' => e = .returned (.pointer (some ⟨w.heap.size, 0, none⟩)) ∧ w.alloc (.cells ⟨macv i 0 ⟨#[]⟩ 0 false lim false false⟩ 82) = w' := by
  go_enter Try.func26, Try.ntmps26
  go_wp2
  go_ret
  exact ⟨rfl, rfl⟩

set_option maxHeartbeats 400000 in
theorem next_any (q : Nat) (t : TypeId) (i : Int) (N : Nat) (K : ByteArray) (M : Int) (ld tk fin : Bool) (lim : Nat) (w : World) (h : Blk w q t (macv i N K M ld lim tk fin)) (hN : N < 18446744073709551615) :
    Calls Try.prog 43 #[.pointer (some ⟨q, 0, none⟩)] w fun e w' => e = .returned (.int .u64 ((N + 1 : Nat) : Int)) ∧ w = w' := by
  have c1 := h.cell (i := 1) rfl
  go_enter Try.func43, Try.ntmps43
  go_wp2
  go_ret
  exact ⟨rfl, rfl⟩

set_option maxHeartbeats 400000 in
theorem number_yes (q : Nat) (t : TypeId) (i : Int) (N : Nat) (K : ByteArray) (M : Int) (ld fin : Bool) (lim : Nat) (w : World) (h : Blk w q t (macv i N K M ld lim true fin)) (hN : N < 18446744073709551615) :
    Calls Try.prog 31 #[.pointer (some ⟨q, 0, none⟩)] w fun e w' => e = .returned (.tuple #[.int .u64 ((N + 1 : Nat) : Int), .bool true]) ∧ w = w' := by
  have c6 := h.cell (i := 6) rfl
  go_enter Try.func31, Try.ntmps31
  go_wp2_with fail
  refine (next_any q t i N K M ld true fin lim _ h hN).mono ?_; rintro e w2 ⟨rfl, rfl⟩
  go_wp2
  go_ret2
  exact ⟨rfl, rfl⟩

set_option maxHeartbeats 400000 in
theorem number_no (q : Nat) (t : TypeId) (i : Int) (N : Nat) (K : ByteArray) (M : Int) (ld fin : Bool) (lim : Nat) (w : World) (h : Blk w q t (macv i N K M ld lim false fin)) :
    Calls Try.prog 31 #[.pointer (some ⟨q, 0, none⟩)] w fun e w' => e = .returned (.tuple #[.int .u64 0, .bool false]) ∧ w = w' := by
  have c6 := h.cell (i := 6) rfl
  go_enter Try.func31, Try.ntmps31
  go_wp2
  go_ret2
  exact ⟨rfl, rfl⟩

set_option maxHeartbeats 1000000 in
theorem cload_any (q b g : Nat) (t : TypeId) (l : List Cel) (k : Nat) (i : Int) (N N0 : Nat) (K K0 : ByteArray) (M M0 : Int) (ld tk fin : Bool) (lim : Nat) (w : World) (hq : Blk w q t (macv i N0 K0 M0 ld lim tk fin)) (h : Mem w b g l k) (hqb : q ≠ b) (hqg : q ≠ g) (hk : k < 9223372036854775808)
    (hc : cellAt l i = ((N : Int), K, M)) :
    Calls Try.prog 44 #[.pointer (some ⟨q, 0, none⟩), .pointer (some ⟨b, 0, none⟩)] w fun e w' => e = .returned (.int .u64 (N : Int)) ∧ Mem w' b g l (k + 1) ∧ Blk w' q t (macv i N K M true lim tk fin) ∧ Kept (Own3 q b g) w w' := by
  have c0 := hq.cell (i := 0) rfl
  go_enter Try.func44, Try.ntmps44
  go_wp2_with fail
  refine (load_any b g l k i N M K w h hk hc).mono ?_; rintro e w2 ⟨rfl, hM, hK⟩
  have hQ := hK.blk hq (by unfold Own; omega)
  have y1 := hQ.cell (i := 1) rfl
  have y2 := hQ.cell (i := 2) rfl
  have y3 := hQ.cell (i := 3) rfl
  have y4 := hQ.cell (i := 4) rfl
  have z1 := hQ.frozen 1
  have z2 := hQ.frozen 2
  have z3 := hQ.frozen 3
  have z4 := hQ.frozen 4
  have HM := Lib.hid hM
  have HK := Lib.hid hK
  have HQ := Lib.hid hQ
  clear hM hK hQ c0
  go_wp2
  go_ret
  exact ⟨rfl, (((HM.out.setFar hqb hqg _ _).setFar hqb hqg _ _).setFar hqb hqg _ _).setFar hqb hqg _ _, (((HQ.out.set 1 _).set 2 _).set 3 _).set 4 _,
    ((((HK.out.mono (fun _ h => .inr h)).setCell (fun _ => .inl rfl) _).setCell (fun _ => .inl rfl) _).setCell (fun _ => .inl rfl) _).setCell (fun _ => .inl rfl) _⟩

theorem keepSwap {b g q r2 : Nat} {W w' : World} {v0 v1 v2 v3 v4 : Value} (hK : Kept (Own b g) W.drew w') (hq : ¬ Own b g q) (hr : ¬ Own b g r2) (hql : q < W.heap.size) (hrl : r2 < W.heap.size)
    (c0 : W.cell? ⟨q, 0, none⟩ = some v0) (c1 : W.cell? ⟨q, 1, none⟩ = some v1) (d0 : W.cell? ⟨r2, 0, none⟩ = some v2) (d1 : W.cell? ⟨r2, 1, none⟩ = some v3) (d2 : W.cell? ⟨r2, 2, none⟩ = some v4) :
    w'.cell? ⟨q, 0, none⟩ = some v0 ∧ w'.cell? ⟨q, 1, none⟩ = some v1 ∧ w'.cell? ⟨r2, 0, none⟩ = some v2 ∧ w'.cell? ⟨r2, 1, none⟩ = some v3 ∧ w'.cell? ⟨r2, 2, none⟩ = some v4 :=
  ⟨(hK.ofDrew.cell (p := ⟨q, 0, none⟩) hql hq).trans c0, (hK.ofDrew.cell (p := ⟨q, 1, none⟩) hql hq).trans c1, (hK.ofDrew.cell (p := ⟨r2, 0, none⟩) hrl hr).trans d0, (hK.ofDrew.cell (p := ⟨r2, 1, none⟩) hrl hr).trans d1, (hK.ofDrew.cell (p := ⟨r2, 2, none⟩) hrl hr).trans d2⟩

set_option maxHeartbeats 2000000 in
theorem cswap_any (q b g : Nat) (t : TypeId) (l l' : List Cel) (k : Nat) (i : Int) (N X : Nat) (K : ByteArray) (M : Int) (ld tk fin r : Bool) (lim : Nat) (w : World) (hq : Blk w q t (macv i N K M ld lim tk fin)) (h : Mem w b g l k) (hqb : q ≠ b) (hqg : q ≠ g) (hk : k < 9223372036854775808)
    (hr : swaps l i (N : Int) = r) (hl : (if r then putAt l i ((X : Int), K, M) else l) = l') :
    Calls Try.prog 42 #[.pointer (some ⟨q, 0, none⟩), .pointer (some ⟨b, 0, none⟩), .int .u64 (X : Int)] w fun e w' => e = .returned (.bool r) ∧ Mem w' b g l' (k + 1) ∧ Blk w' q t (macv i N K M false lim tk fin) ∧ Kept (Own3 q b g) w w' := by
  have c0 := hq.cell (i := 0) rfl
  have c1 := hq.cell (i := 1) rfl
  have c2 := hq.cell (i := 2) rfl
  have c3 := hq.cell (i := 3) rfl
  have c4 := hq.cell (i := 4) rfl
  have f4 := hq.frozen 4
  have hqlt := hq.lt
  have hblt := h.obj.lt
  have hglt := h.row.lt
  have HR := Lib.hid hr
  have HL := Lib.hid hl
  clear hr hl
  go_enter Try.func42, Try.ntmps42
  go_wp2_with fail
  have hM := (h.setFar hqb hqg 4 (.bool false)).alloc (.cells #[.int .u64 (X : Int), .string K, .int .u64 M] 41)
  have hQ := (hq.set 4 (.bool false)).alloc (.cells #[.int .u64 (X : Int), .string K, .int .u64 M] 41)
  have hC := Blk.new (w.setCell ⟨q, 4, none⟩ (.bool false)) [.int .u64 (X : Int), .string K, .int .u64 M] 41
  have hK := ((Kept.refl (Own3 q b g) w).setCell (a := ⟨q, 4, none⟩) (fun _ => .inl rfl) (.bool false)).alloc (.cells #[.int .u64 (X : Int), .string K, .int .u64 M] 41)
  have hsz : (w.setCell ⟨q, 4, none⟩ (.bool false)).heap.size = w.heap.size := by simp [World.setCell]
  rw [hsz] at hC
  clear c0 c1 c2 c3 c4 f4 hq h hsz
  have c0 := hQ.cell (i := 0) rfl
  have c1 := hQ.cell (i := 1) rfl
  have d0 := hC.cell (i := 0) rfl
  have d1 := hC.cell (i := 1) rfl
  have d2 := hC.cell (i := 2) rfl
  have hqW := hQ.lt
  have hrW := hC.lt
  have HM := Lib.hid hM
  have HQ := Lib.hid hQ
  have HK := Lib.hid hK
  clear hM hQ hC hK
  generalize hr2 : w.heap.size = r2 at *
  have Hr2 := Lib.hid hr2
  clear hr2
  generalize (w.setCell ⟨q, 4, none⟩ (.bool false)).alloc (.cells #[.int .u64 (X : Int), .string K, .int .u64 M] 41) = W at *
  have hqn : ¬ Own b g q := by unfold Own; omega
  have hrn : ¬ Own b g r2 := by unfold Own; omega
  go_region_held3 (fun w' => w'.cell? ⟨q, 0, none⟩ = some (.int .i64 i) ∧ w'.cell? ⟨q, 1, none⟩ = some (.int .u64 (N : Int)) ∧ w'.cell? ⟨r2, 0, none⟩ = some (.int .u64 (X : Int)) ∧ w'.cell? ⟨r2, 1, none⟩ = some (.string K) ∧ w'.cell? ⟨r2, 2, none⟩ = some (.int .u64 M))
    (first | exact ⟨c0, c1, d0, d1, d2⟩ | exact keepSwap hK5 hqn hrn hqW hrW c0 c1 d0 d1 d2)
    (first | (go_at_call 50; refine (swap_of b g l l' k i (N : Int) (X : Int) M K r _ HM.out.drew hk HR.out HL.out).mono ?_; rintro e w5 ⟨rfl, hM5, hK5⟩))
  have HQ5 := Lib.hid (hK5.blk HQ.out hqn)
  have HM5 := Lib.hid hM5
  have HK5 := Lib.hid (HK.out.drew.trans hK5 (T := Own b g) (fun _ _ h => .inr h))
  clear hM5 hK5 HM HQ HK c0 c1 d0 d1 d2
  go_wp2
  go_ret
  exact ⟨rfl, HM5.out, HQ5.out, HK5.out⟩

set_option maxHeartbeats 400000 in
theorem takeStep_done (q m : Nat) (i : Int) (N : Nat) (K : ByteArray) (M : Int) (ld tk : Bool) (lim : Nat) (w : World) (h : Blk w q 82 (macv i N K M ld lim tk true)) :
    Calls Try.prog 30 #[.pointer (some ⟨q, 0, none⟩), .pointer (some ⟨m, 0, none⟩)] w fun e w' => e = .returned (.bool true) ∧ w = w' := by
  have c7 := h.cell (i := 7) rfl
  go_enter Try.func30, Try.ntmps30
  go_wp2
  go_ret
  exact ⟨rfl, rfl⟩

set_option maxHeartbeats 1000000 in
theorem takeStep_load (q b g : Nat) (l : List Cel) (k : Nat) (i : Int) (N N0 : Nat) (K K0 : ByteArray) (M M0 : Int) (r : Bool) (lim : Nat) (w : World) (hq : Blk w q 82 (macv i N0 K0 M0 false lim false false)) (h : Mem w b g l k) (hqb : q ≠ b) (hqg : q ≠ g) (hk : k < 9223372036854775808)
    (hc : cellAt l i = ((N : Int), K, M)) (hr : decide (lim ≤ N) = r) :
    Calls Try.prog 30 #[.pointer (some ⟨q, 0, none⟩), .pointer (some ⟨b, 0, none⟩)] w fun e w' => e = .returned (.bool r) ∧ Mem w' b g l (k + 1) ∧ Blk w' q 82 (macv i N K M true lim false r) ∧ Kept (Own3 q b g) w w' := by
  have c4 := hq.cell (i := 4) rfl
  have c5 := hq.cell (i := 5) rfl
  have c7 := hq.cell (i := 7) rfl
  have f7 := hq.frozen 7
  have hqlt := hq.lt
  have HR := Lib.hid hr
  have H1 := Lib.hid hq
  have H2 := Lib.hid h
  clear hr hq h
  go_enter Try.func30, Try.ntmps30
  go_wp2_with fail
  clear c4 c7
  go_region_held3 (fun w' => w'.cell? ⟨q, 5, none⟩ = some (.int .u64 (lim : Int)))
    (first | exact c5 | exact hQ5.cell (i := 5) rfl | exact (hQ5.set 7 _).cell (i := 5) rfl)
    (first | (go_at_call 44; refine (cload_any q b g _ l k i N N0 K K0 M M0 false false false lim _ (by first | exact H1.out | exact (H1.out).of rfl) (by first | exact H2.out | exact H2.out.drew) hqb hqg hk hc).mono ?_; rintro e w5 ⟨rfl, hM5, hQ5, hK5⟩; have z7 := hQ5.frozen 7; have y7 := hQ5.cell (i := 7) rfl))
  rw [HR.out]
  have hQ6 := hQ5.set 7 (.bool r)
  have HM5 := Lib.hid hM5
  have HK5 := Lib.hid hK5
  have x7 := hQ6.cell (i := 7) rfl
  have HQ6 := Lib.hid hQ6
  clear hM5 hK5 hQ5 hQ6 y7 z7 c5 H1 H2
  go_wp2
  go_ret
  exact ⟨rfl, HM5.out.setFar hqb hqg _ _, HQ6.out, HK5.out.ofDrew.setCell (fun _ => .inl rfl) _⟩

set_option maxHeartbeats 2000000 in
theorem takeStep_swap (q b g : Nat) (l l' : List Cel) (k : Nat) (i : Int) (N : Nat) (K : ByteArray) (M : Int) (r : Bool) (lim : Nat) (w : World) (hq : Blk w q 82 (macv i N K M true lim false false)) (h : Mem w b g l k) (hqb : q ≠ b) (hqg : q ≠ g) (hk : k < 9223372036854775808)
    (hN : N < 18446744073709551615) (hr : swaps l i (N : Int) = r) (hl : (if r then putAt l i (((N + 1 : Nat) : Int), K, M) else l) = l') :
    Calls Try.prog 30 #[.pointer (some ⟨q, 0, none⟩), .pointer (some ⟨b, 0, none⟩)] w fun e w' => e = .returned (.bool r) ∧ Mem w' b g l' (k + 1) ∧ Blk w' q 82 (macv i N K M false lim r r) ∧ Kept (Own3 q b g) w w' := by
  have c4 := hq.cell (i := 4) rfl
  have c5 := hq.cell (i := 5) rfl
  have c7 := hq.cell (i := 7) rfl
  have hqlt := hq.lt
  have HR := Lib.hid hr
  have HL := Lib.hid hl
  have H1 := Lib.hid hq
  have H2 := Lib.hid h
  clear hr hl hq h
  go_enter Try.func30, Try.ntmps30
  go_wp2_with fail
  clear c4 c7
  go_region_held3 (fun w' => w'.cell? ⟨q, 5, none⟩ = some (.int .u64 (lim : Int)))
    (first | exact c5 | exact hQ5.cell (i := 5) rfl | exact (hQ5.set 6 _).cell (i := 5) rfl)
    (first | (go_at_call 43; refine (next_any q _ i N K M true false false lim _ (by first | exact H1.out | exact (H1.out).of rfl) hN).mono ?_; rintro e w2 ⟨rfl, rfl⟩)
           | (go_at_call 42; refine (cswap_any q b g _ l l' k i N _ K M true false false r lim _ (by first | exact H1.out | exact (H1.out).of rfl) (by first | exact H2.out | exact H2.out.drew) hqb hqg hk HR.out HL.out).mono ?_; rintro e w5 ⟨rfl, hM5, hQ5, hK5⟩; have z6 := hQ5.frozen 6; have y6 := hQ5.cell (i := 6) rfl))
  have hQ6 := hQ5.set 6 (.bool r)
  have HM5 := Lib.hid (hM5.setFar hqb hqg 6 (.bool r))
  have HK5 := Lib.hid (hK5.ofDrew.setCell (a := ⟨q, 6, none⟩) (fun _ => .inl rfl) (.bool r))
  have x6 := hQ6.cell (i := 6) rfl
  have x7 := hQ6.cell (i := 7) rfl
  have v7 := hQ6.frozen 7
  have HQ6 := Lib.hid hQ6
  clear hM5 hK5 hQ5 hQ6 y6 z6 c5 H1 H2
  go_wp2
  go_ret
  exact ⟨rfl, HM5.out.setFar hqb hqg _ _, HQ6.out.set 7 _, HK5.out.setCell (fun _ => .inl rfl) _⟩


/-- The cells of a publisher (its cell, its timestamp, whether its turn has come, whether it has published), and of a reader of the clock. -/
def pubv (i : Int) (x : Nat) (rd pd : Bool) : List Value := [.int .i64 i, .int .u64 (x : Int), .bool rd, .bool pd]
def nowv (i : Int) (x : Nat) (ld : Bool) : List Value := [.int .i64 i, .int .u64 (x : Int), .bool ld]

theorem field6 (T S N C R F K : Int) (w : World) : (Instr.field 26 (.agg #[.int .i64 T, .int .i64 S, .int .i64 N, .int .i64 C, .int .i64 R, .int .i64 F, .int .u64 K]) 6).run Try.prog w = .ok (.int .u64 K) w := by kernel_rfl

theorem newTake_at (i : Int) (lim : Nat) (w : World) :
    Calls Try.prog 26 #[.int .i64 i, .int .u64 (lim : Int)] w fun e w' => e = .returned (.pointer (some ⟨w.heap.size, 0, none⟩)) ∧ Blk w' w.heap.size 82 (macv i 0 ⟨#[]⟩ 0 false lim false false) ∧ w'.heap.size = w.heap.size + 1 ∧ Kept (fun _ => False) w w' :=
  (newTake_any i lim w).mono fun e w' ⟨he, hw⟩ => by subst hw; exact ⟨he, Blk.new _ _ _, nblk_alloc _ _, (Kept.refl _ _).alloc _⟩

set_option maxHeartbeats 1000000 in
theorem newAllocate_any (T S N C R F a b d : Int) (lim : Nat) (w : World) :
    Calls Try.prog 10 #[.agg #[.int .i64 T, .int .i64 S, .int .i64 N, .int .i64 C, .int .i64 R, .int .i64 F, .int .u64 (lim : Int), .int .i64 a, .int .i64 b, .int .i64 d]] w fun e w' => ∃ p q : Nat, e = .returned (.pointer (some ⟨p, 0, none⟩)) ∧ Blk w' p 66 [.pointer (some ⟨q, 0, none⟩)] ∧ Blk w' q 82 (macv 1 0 ⟨#[]⟩ 0 false lim false false) ∧ w.heap.size ≤ q ∧ p = q + 1 ∧ w'.heap.size = p + 1 ∧ Kept (fun _ => False) w w' := by
  go_enter Try.func10, Try.ntmps10
  go_wp2_with fail
  have hN0 := Blk.new w [.int .i64 T, .int .i64 S, .int .i64 N, .int .i64 C, .int .i64 R, .int .i64 F, .int .u64 (lim : Int), .int .i64 a, .int .i64 b, .int .i64 d] 29
  have x0 := hN0.cell (i := 0) rfl
  have x1 := hN0.cell (i := 1) rfl
  have x2 := hN0.cell (i := 2) rfl
  have x3 := hN0.cell (i := 3) rfl
  have x4 := hN0.cell (i := 4) rfl
  have x5 := hN0.cell (i := 5) rfl
  have x6 := hN0.cell (i := 6) rfl
  have x7 := hN0.cell (i := 7) rfl
  have x8 := hN0.cell (i := 8) rfl
  have x9 := hN0.cell (i := 9) rfl
  have hr : w.heap.size < (w.alloc (.cells #[.int .i64 T, .int .i64 S, .int .i64 N, .int .i64 C, .int .i64 R, .int .i64 F, .int .u64 (lim : Int), .int .i64 a, .int .i64 b, .int .i64 d] 29)).heap.size := hN0.lt
  have HK := Lib.hid ((Kept.refl (fun _ => False) w).alloc (.cells #[.int .i64 T, .int .i64 S, .int .i64 N, .int .i64 C, .int .i64 R, .int .i64 F, .int .u64 (lim : Int), .int .i64 a, .int .i64 b, .int .i64 d] 29))
  clear hN0
  generalize w.alloc (.cells #[.int .i64 T, .int .i64 S, .int .i64 N, .int .i64 C, .int .i64 R, .int .i64 F, .int .u64 (lim : Int), .int .i64 a, .int .i64 b, .int .i64 d] 29) = W at *
  generalize hrw : w.heap.size = r at *
  have HRW := Lib.hid hrw
  clear hrw
  have hf6 := field6 T S N C R F (lim : Int)
  go_region_held3 (fun w' => Kept (fun _ => False) W w' ∧ w'.cell? ⟨r, 0, none⟩ = some (.int .i64 T) ∧ w'.cell? ⟨r, 1, none⟩ = some (.int .i64 S) ∧ w'.cell? ⟨r, 2, none⟩ = some (.int .i64 N) ∧ w'.cell? ⟨r, 3, none⟩ = some (.int .i64 C) ∧ w'.cell? ⟨r, 4, none⟩ = some (.int .i64 R) ∧ w'.cell? ⟨r, 5, none⟩ = some (.int .i64 F) ∧ w'.cell? ⟨r, 6, none⟩ = some (.int .u64 (lim : Int)) ∧ w'.cell? ⟨r, 7, none⟩ = some (.int .i64 a) ∧ w'.cell? ⟨r, 8, none⟩ = some (.int .i64 b) ∧ w'.cell? ⟨r, 9, none⟩ = some (.int .i64 d))
    (first | exact ⟨(Kept.refl _ _).drew, x0, x1, x2, x3, x4, x5, x6, x7, x8, x9⟩ | exact keep10 (by assumption) hr (by assumption) | exact keep10 (Kept.ofDrew (by assumption)) hr (by assumption) | exact keep10 ((Kept.refl _ _).alloc _) hr (by assumption))
    (first | (go_at_call 27; refine (allocated_any T S N C R F (lim : Int) a b d _).mono ?_; rintro e w9 ⟨rfl, hK9⟩)
           | (go_at_call 28; refine (config_any T S N C R F (lim : Int) a b d _).mono ?_; rintro e w8 ⟨rfl, hK8⟩)
           | (go_at_call 26; refine (newTake_at 1 lim _).mono ?_; rintro e w7 ⟨rfl, hQ7, hz7, hK7⟩))
  have hB := Blk.new w7 [.pointer (some ⟨w8.heap.size, 0, none⟩)] 66
  have h1 := HK.out.size
  have h2 := hK9.ofDrew.size
  have h3 := hK8.size
  have HB := Lib.hid hB
  have HQ7 := Lib.hid (hQ7.alloc (.cells #[.pointer (some ⟨w8.heap.size, 0, none⟩)] 66))
  have HK7 := Lib.hid ((((HK.out.trans hK9.ofDrew (fun _ _ h => h)).trans hK8 (fun _ _ h => h)).trans hK7 (fun _ _ h => h)).alloc (.cells #[.pointer (some ⟨w8.heap.size, 0, none⟩)] 66))
  have hle : w.heap.size ≤ w8.heap.size := by omega
  clear hB hQ7 hK7 hK8 hK9 h1 h2 h3 x0 x1 x2 x3 x4 x5 x6 x7 x8 x9
  go_wp2
  go_ret
  exact ⟨w8.heap.size + 1, w8.heap.size, rfl, hz7 ▸ HB.out, HQ7.out, hle, rfl, by rw [nblk_alloc, hz7], HK7.out⟩

set_option maxHeartbeats 1000000 in
theorem newPublish_any (T S N C R F a b d : Int) (lim : Nat) (x : Nat) (w : World) :
    Calls Try.prog 15 #[.agg #[.int .i64 T, .int .i64 S, .int .i64 N, .int .i64 C, .int .i64 R, .int .i64 F, .int .u64 (lim : Int), .int .i64 a, .int .i64 b, .int .i64 d], .int .u64 (x : Int)] w fun e w' => ∃ p : Nat, e = .returned (.pointer (some ⟨p, 0, none⟩)) ∧ Blk w' p 71 (pubv 2 x false false) ∧ w.heap.size ≤ p ∧ w'.heap.size = p + 1 ∧ Kept (fun _ => False) w w' := by
  go_enter Try.func15, Try.ntmps15
  go_wp2_with fail
  refine (published_any T S N C R F (lim : Int) a b d _).mono ?_; rintro e w1 ⟨rfl, hK1⟩
  have hz := hK1.size
  simp only [World.size_alloc] at hz
  have HK := Lib.hid (((Kept.refl (fun _ => False) w).alloc (.cells #[.int .i64 T, .int .i64 S, .int .i64 N, .int .i64 C, .int .i64 R, .int .i64 F, .int .u64 (lim : Int), .int .i64 a, .int .i64 b, .int .i64 d] 29)).trans hK1 (fun _ _ h => h))
  clear hK1
  go_wp2
  go_ret
  exact ⟨w1.heap.size, rfl, Blk.new w1 (pubv 2 x false false) 71, by omega, nblk_alloc _ _, HK.out.alloc _⟩

set_option maxHeartbeats 1000000 in
theorem newNow_any (T S N C R F a b d : Int) (lim : Nat) (w : World) :
    Calls Try.prog 19 #[.agg #[.int .i64 T, .int .i64 S, .int .i64 N, .int .i64 C, .int .i64 R, .int .i64 F, .int .u64 (lim : Int), .int .i64 a, .int .i64 b, .int .i64 d]] w fun e w' => ∃ p : Nat, e = .returned (.pointer (some ⟨p, 0, none⟩)) ∧ Blk w' p 73 (nowv 2 0 false) ∧ w.heap.size ≤ p ∧ w'.heap.size = p + 1 ∧ Kept (fun _ => False) w w' := by
  go_enter Try.func19, Try.ntmps19
  go_wp2_with fail
  refine (published_any T S N C R F (lim : Int) a b d _).mono ?_; rintro e w1 ⟨rfl, hK1⟩
  have hz := hK1.size
  simp only [World.size_alloc] at hz
  have HK := Lib.hid (((Kept.refl (fun _ => False) w).alloc (.cells #[.int .i64 T, .int .i64 S, .int .i64 N, .int .i64 C, .int .i64 R, .int .i64 F, .int .u64 (lim : Int), .int .i64 a, .int .i64 b, .int .i64 d] 29)).trans hK1 (fun _ _ h => h))
  clear hK1
  go_wp2
  go_ret
  exact ⟨w1.heap.size, rfl, Blk.new w1 (nowv 2 0 false) 73, by omega, nblk_alloc _ _, HK.out.alloc _⟩

set_option maxHeartbeats 400000 in
theorem pubStep_done (q m : Nat) (i : Int) (x : Nat) (rd : Bool) (w : World) (h : Blk w q 71 (pubv i x rd true)) :
    Calls Try.prog 16 #[.pointer (some ⟨q, 0, none⟩), .pointer (some ⟨m, 0, none⟩)] w fun e w' => e = .returned (.bool true) ∧ w = w' := by
  have c3 := h.cell (i := 3) rfl
  go_enter Try.func16, Try.ntmps16
  go_wp2
  go_ret
  exact ⟨rfl, rfl⟩

set_option maxHeartbeats 1000000 in
theorem pubStep_store (q b g : Nat) (l : List Cel) (k : Nat) (i : Int) (x : Nat) (w : World) (hq : Blk w q 71 (pubv i x true false)) (h : Mem w b g l k) (hqb : q ≠ b) (hqg : q ≠ g) (hk : k < 9223372036854775808) :
    Calls Try.prog 16 #[.pointer (some ⟨q, 0, none⟩), .pointer (some ⟨b, 0, none⟩)] w fun e w' => e = .returned (.bool true) ∧ Mem w' b g (putAt l i ((x : Int), ⟨#[]⟩, 0)) (k + 1) ∧ Blk w' q 71 (pubv i x true true) ∧ Kept (Own3 q b g) w w' := by
  have c0 := hq.cell (i := 0) rfl
  have c1 := hq.cell (i := 1) rfl
  have c2 := hq.cell (i := 2) rfl
  have c3 := hq.cell (i := 3) rfl
  have hqlt := hq.lt
  have hqn : ¬ Own b g q := by unfold Own; omega
  have HQ := Lib.hid hq
  have HM := Lib.hid h
  clear hq h
  go_enter Try.func16, Try.ntmps16
  go_wp2_with fail
  clear c2 c3
  go_region_held3 (fun w' => w'.cell? ⟨q, 0, none⟩ = some (.int .i64 i) ∧ w'.cell? ⟨q, 1, none⟩ = some (.int .u64 (x : Int)))
    (first | exact ⟨c0, c1⟩ | exact ⟨(hQ5.cell (i := 0) rfl), (hQ5.cell (i := 1) rfl)⟩)
    (first | (go_at_call 33; refine (store_any b g l k i (x : Int) 0 ⟨#[]⟩ _ (by first | exact HM.out | exact HM.out.drew) hk).mono ?_; rintro e w5 ⟨rfl, hM5, hK5⟩; have hQ5 := hK5.ofDrew.blk HQ.out hqn))
  have HM5 := Lib.hid (hM5.setFar hqb hqg 3 (.bool true))
  have HK5 := Lib.hid ((hK5.ofDrew.mono (T := Own3 q b g) (fun _ h => .inr h)).setCell (a := ⟨q, 3, none⟩) (fun _ => .inl rfl) (.bool true))
  have y3 := hQ5.cell (i := 3) rfl
  have z3 := hQ5.frozen 3
  have HQ5 := Lib.hid (hQ5.set 3 (.bool true))
  clear hM5 hK5 hQ5 HM HQ c0 c1
  go_wp2
  go_ret
  exact ⟨rfl, HM5.out, HQ5.out, HK5.out⟩

set_option maxHeartbeats 2000000 in
theorem pubStep_load (q b g : Nat) (l : List Cel) (k : Nat) (i : Int) (x V : Nat) (K : ByteArray) (M : Int) (r : Bool) (w : World) (hq : Blk w q 71 (pubv i x false false)) (h : Mem w b g l k) (hqb : q ≠ b) (hqg : q ≠ g) (hk : k < 9223372036854775808)
    (hx : 1 ≤ x) (hc : cellAt l i = ((V : Int), K, M)) (hr : ((V : Int) == (x : Int) - 1) = r) (hx2 : x < 18446744073709551616) :
    Calls Try.prog 16 #[.pointer (some ⟨q, 0, none⟩), .pointer (some ⟨b, 0, none⟩)] w fun e w' => e = .returned (.bool false) ∧ Mem w' b g l (k + 1) ∧ Blk w' q 71 (pubv i x r false) ∧ Kept (Own3 q b g) w w' := by
  have c0 := hq.cell (i := 0) rfl
  have c1 := hq.cell (i := 1) rfl
  have c2 := hq.cell (i := 2) rfl
  have c3 := hq.cell (i := 3) rfl
  have hqlt := hq.lt
  have hqn : ¬ Own b g q := by unfold Own; omega
  have hfd := field0 (V : Int) M K
  have HQ := Lib.hid hq
  have HM := Lib.hid h
  have HR := Lib.hid hr
  have HC := Lib.hid hc
  clear hq h hr hc
  go_enter Try.func16, Try.ntmps16
  go_wp2_with fail
  clear c2 c3
  have e1 : IntKind.u64.wrap ((x : Int) - 1) = (x : Int) - 1 := IntWalk.u64_in _ (by omega)
  go_region_held3 (fun w' => w'.cell? ⟨q, 0, none⟩ = some (.int .i64 i) ∧ w'.cell? ⟨q, 1, none⟩ = some (.int .u64 (x : Int)))
    (first | exact ⟨c0, c1⟩ | exact ⟨(hQ5.cell (i := 0) rfl), (hQ5.cell (i := 1) rfl)⟩ | exact ⟨((hQ5.set 2 _).cell (i := 0) rfl), ((hQ5.set 2 _).cell (i := 1) rfl)⟩)
    (first | (go_at_call 34; refine (load_any b g l k i (V : Int) M K _ (by first | exact HM.out | exact HM.out.drew) hk HC.out).mono ?_; rintro e w5 ⟨rfl, hM5, hK5⟩; have hQ5 := hK5.ofDrew.blk HQ.out hqn; have z2 := hQ5.frozen 2; have y2 := hQ5.cell (i := 2) rfl))
  rw [HR.out]
  have HM5 := Lib.hid (hM5.setFar hqb hqg 2 (.bool r))
  have HK5 := Lib.hid ((hK5.ofDrew.mono (T := Own3 q b g) (fun _ h => .inr h)).setCell (a := ⟨q, 2, none⟩) (fun _ => .inl rfl) (.bool r))
  have hQ6 := hQ5.set 2 (.bool r)
  have x3 := hQ6.cell (i := 3) rfl
  have HQ6 := Lib.hid hQ6
  clear hM5 hK5 hQ5 hQ6 HM HQ c0 c1 y2 z2
  go_wp2
  go_ret
  exact ⟨rfl, HM5.out, HQ6.out, HK5.out⟩

set_option maxHeartbeats 400000 in
theorem nowStep_done (q m : Nat) (i : Int) (x : Nat) (w : World) (h : Blk w q 73 (nowv i x true)) :
    Calls Try.prog 21 #[.pointer (some ⟨q, 0, none⟩), .pointer (some ⟨m, 0, none⟩)] w fun e w' => e = .returned (.bool true) ∧ w = w' := by
  have c2 := h.cell (i := 2) rfl
  go_enter Try.func21, Try.ntmps21
  go_wp2
  go_ret
  exact ⟨rfl, rfl⟩

set_option maxHeartbeats 1000000 in
theorem nowStep_load (q b g : Nat) (l : List Cel) (k : Nat) (i : Int) (V : Nat) (K : ByteArray) (M : Int) (x : Nat) (w : World) (hq : Blk w q 73 (nowv i x false)) (h : Mem w b g l k) (hqb : q ≠ b) (hqg : q ≠ g) (hk : k < 9223372036854775808)
    (hc : cellAt l i = ((V : Int), K, M)) :
    Calls Try.prog 21 #[.pointer (some ⟨q, 0, none⟩), .pointer (some ⟨b, 0, none⟩)] w fun e w' => e = .returned (.bool true) ∧ Mem w' b g l (k + 1) ∧ Blk w' q 73 (nowv i V true) ∧ Kept (Own3 q b g) w w' := by
  have c0 := hq.cell (i := 0) rfl
  have c2 := hq.cell (i := 2) rfl
  have hqlt := hq.lt
  have hqn : ¬ Own b g q := by unfold Own; omega
  have hfd := field0 (V : Int) M K
  have HQ := Lib.hid hq
  have HM := Lib.hid h
  have HC := Lib.hid hc
  clear hq h hc
  go_enter Try.func21, Try.ntmps21
  go_wp2_with fail
  refine (load_any b g l k i (V : Int) M K _ HM.out hk HC.out).mono ?_; rintro e w5 ⟨rfl, hM5, hK5⟩
  have hQ5 := hK5.blk HQ.out hqn
  have y1 := hQ5.cell (i := 1) rfl
  have z1 := hQ5.frozen 1
  have y2 := hQ5.cell (i := 2) rfl
  have z2 := hQ5.frozen 2
  have HQ5 := Lib.hid hQ5
  have HM5 := Lib.hid hM5
  have HK5 := Lib.hid (hK5.mono (T := Own3 q b g) (fun _ h => .inr h))
  clear hQ5 hM5 hK5 HQ HM c0 c2
  go_wp2
  go_ret
  exact ⟨rfl, (HM5.out.setFar hqb hqg _ _).setFar hqb hqg _ _, (HQ5.out.set 1 _).set 2 _, (HK5.out.setCell (fun _ => .inl rfl) _).setCell (fun _ => .inl rfl) _⟩

set_option maxHeartbeats 400000 in
theorem nowTime_any (q : Nat) (i : Int) (x : Nat) (ld : Bool) (w : World) (h : Blk w q 73 (nowv i x ld)) :
    Calls Try.prog 20 #[.pointer (some ⟨q, 0, none⟩)] w fun e w' => e = .returned (.int .u64 (x : Int)) ∧ w = w' := by
  have c1 := h.cell (i := 1) rfl
  go_enter Try.func20, Try.ntmps20
  go_wp2
  go_ret
  exact ⟨rfl, rfl⟩

end Go.Proofs.Ytmnfdecakjobjaa
