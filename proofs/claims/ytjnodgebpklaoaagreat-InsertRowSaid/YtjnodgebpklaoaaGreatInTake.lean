/-
  The machine Take of package alloc a step at a time. Condition: fewer than 2^63 accesses.
-/
import Derived.Test.YtjnodgebpklaoaaGreatLkLatch
import Derived.StillTailTactics
import Derived.Deep.RegionHeld3
namespace Go.Proofs.YtjnodgebpklaoaaGreat
set_option maxHeartbeats 8000000
set_option maxRecDepth 100000
section
open Go.RowKit Go.Deep
set_option linter.unusedVariables false

def macv (i : Int) (N : Nat) (K : ByteArray) (M : Int) (ld : Bool) (lim : Nat) (tk fin : Bool) : List Value :=
  [.int .i64 i, .int .u64 (N : Int), .string K, .int .u64 M, .bool ld, .int .u64 (lim : Int), .bool tk, .bool fin]
theorem newTake_any (i : Int) (lim : Nat) (w : World) :
    Calls Tryz.prog 60 #[.int .i64 i, .int .u64 (lim : Int)] w fun e w' => e = .returned (.pointer (some ⟨w.heap.size, 0, none⟩)) ∧ w.alloc (.cells ⟨macv i 0 ⟨#[]⟩ 0 false lim false false⟩ 152) = w' := by
  go_enter Tryz.func60, Tryz.ntmps60
  go_wp2
  go_ret
  exact ⟨rfl, rfl⟩

theorem next_any (q : Nat) (t : TypeId) (i : Int) (N : Nat) (K : ByteArray) (M : Int) (ld tk fin : Bool) (lim : Nat) (w : World) (h : Blk w q t (macv i N K M ld lim tk fin)) (hN : N < 18446744073709551615) :
    Calls Tryz.prog 111 #[.pointer (some ⟨q, 0, none⟩)] w fun e w' => e = .returned (.int .u64 ((N + 1 : Nat) : Int)) ∧ w = w' := by
  have c1 := h.k 1 rfl
  go_enter Tryz.func111, Tryz.ntmps111
  go_wp2
  go_ret
  exact ⟨rfl, rfl⟩

theorem number_yes (q : Nat) (t : TypeId) (i : Int) (N : Nat) (K : ByteArray) (M : Int) (ld fin : Bool) (lim : Nat) (w : World) (h : Blk w q t (macv i N K M ld lim true fin)) (hN : N < 18446744073709551615) :
    Calls Tryz.prog 113 #[.pointer (some ⟨q, 0, none⟩)] w fun e w' => e = .returned (.tuple #[.int .u64 ((N + 1 : Nat) : Int), .bool true]) ∧ w = w' := by
  have c6 := h.k 6 rfl
  go_enter Tryz.func113, Tryz.ntmps113
  go_wp2_with fail
  refine (next_any q t i N K M ld true fin lim _ h hN).mono ?_; rintro e w2 ⟨rfl, rfl⟩
  go_wp2
  go_ret2
  exact ⟨rfl, rfl⟩

theorem number_no (q : Nat) (t : TypeId) (i : Int) (N : Nat) (K : ByteArray) (M : Int) (ld fin : Bool) (lim : Nat) (w : World) (h : Blk w q t (macv i N K M ld lim false fin)) :
    Calls Tryz.prog 113 #[.pointer (some ⟨q, 0, none⟩)] w fun e w' => e = .returned (.tuple #[.int .u64 0, .bool false]) ∧ w = w' := by
  have c6 := h.k 6 rfl
  go_enter Tryz.func113, Tryz.ntmps113
  go_wp2
  go_ret2
  exact ⟨rfl, rfl⟩

theorem tload_any (q b g : Nat) (t : TypeId) (l : List Cel) (k : Nat) (i : Int) (N N0 : Nat) (K K0 : ByteArray) (M M0 : Int) (ld tk fin : Bool) (lim : Nat) (w : World) (hq : Blk w q t (macv i N0 K0 M0 ld lim tk fin)) (h : Mem w b g l k) (hqb : q ≠ b) (hqg : q ≠ g) (hk : k < 9223372036854775808)
    (hc : cellAt l i = ((N : Int), K, M)) :
    Calls Tryz.prog 112 #[.pointer (some ⟨q, 0, none⟩), .pointer (some ⟨b, 0, none⟩)] w fun e w' => e = .returned (.int .u64 (N : Int)) ∧ Mem w' b g l (k + 1) ∧ Blk w' q t (macv i N K M true lim tk fin) ∧ Kept (Own3 q b g) w w' := by
  have c0 := hq.k 0 rfl
  go_enter Tryz.func112, Tryz.ntmps112
  go_wp2_with fail
  refine (load_any b g l k i N M K w h hk hc).mono ?_; rintro e w2 ⟨rfl, hM, hK⟩
  have hQ := hK.blk hq (by unfold Own; omega)
  have y1 := hQ.k 1 rfl
  have y2 := hQ.k 2 rfl
  have y3 := hQ.k 3 rfl
  have y4 := hQ.k 4 rfl
  have z1 := hQ.frozen 1
  have z2 := hQ.frozen 2
  have z3 := hQ.frozen 3
  have z4 := hQ.frozen 4
  have HM := Hd hM
  have HK := Hd hK
  have HQ := Hd hQ
  clear hM hK hQ c0
  go_wp2
  go_ret
  exact ⟨rfl, (((HM.out.setFar hqb hqg _ _).setFar hqb hqg _ _).setFar hqb hqg _ _).setFar hqb hqg _ _, (((HQ.out.set 1 _).set 2 _).set 3 _).set 4 _,
    ((((HK.out.mono (fun _ h => .inr h)).setCell (fun _ => .inl rfl) _).setCell (fun _ => .inl rfl) _).setCell (fun _ => .inl rfl) _).setCell (fun _ => .inl rfl) _⟩

theorem tkeepSwap {b g q r2 : Nat} {W w' : World} {v0 v1 v2 v3 v4 : Value} (hK : Kept (Own b g) W.drew w') (hq : ¬ Own b g q) (hr : ¬ Own b g r2) (hql : q < W.heap.size) (hrl : r2 < W.heap.size)
    (c0 : W.cell? ⟨q, 0, none⟩ = some v0) (c1 : W.cell? ⟨q, 1, none⟩ = some v1) (d0 : W.cell? ⟨r2, 0, none⟩ = some v2) (d1 : W.cell? ⟨r2, 1, none⟩ = some v3) (d2 : W.cell? ⟨r2, 2, none⟩ = some v4) :
    w'.cell? ⟨q, 0, none⟩ = some v0 ∧ w'.cell? ⟨q, 1, none⟩ = some v1 ∧ w'.cell? ⟨r2, 0, none⟩ = some v2 ∧ w'.cell? ⟨r2, 1, none⟩ = some v3 ∧ w'.cell? ⟨r2, 2, none⟩ = some v4 :=
  ⟨(hK.ofDrew.cell (p := ⟨q, 0, none⟩) hql hq).trans c0, (hK.ofDrew.cell (p := ⟨q, 1, none⟩) hql hq).trans c1, (hK.ofDrew.cell (p := ⟨r2, 0, none⟩) hrl hr).trans d0, (hK.ofDrew.cell (p := ⟨r2, 1, none⟩) hrl hr).trans d1, (hK.ofDrew.cell (p := ⟨r2, 2, none⟩) hrl hr).trans d2⟩

theorem tswap_any (q b g : Nat) (t : TypeId) (l l' : List Cel) (k : Nat) (i : Int) (N X : Nat) (K : ByteArray) (M : Int) (ld tk fin r : Bool) (lim : Nat) (w : World) (hq : Blk w q t (macv i N K M ld lim tk fin)) (h : Mem w b g l k) (hqb : q ≠ b) (hqg : q ≠ g) (hk : k < 9223372036854775808)
    (hr : swaps l i (N : Int) = r) (hl : (if r then putAt l i ((X : Int), K, M) else l) = l') :
    Calls Tryz.prog 110 #[.pointer (some ⟨q, 0, none⟩), .pointer (some ⟨b, 0, none⟩), .int .u64 (X : Int)] w fun e w' => e = .returned (.bool r) ∧ Mem w' b g l' (k + 1) ∧ Blk w' q t (macv i N K M false lim tk fin) ∧ Kept (Own3 q b g) w w' := by
  obtain ⟨c0, c1, c2, c3, c4⟩ := hq.c5
  have f4 := hq.frozen 4
  have hqlt := hq.lt
  have hblt := h.obj.lt
  have hglt := h.row.lt
  have HR := Hd hr
  have HL := Hd hl
  clear hr hl
  go_enter Tryz.func110, Tryz.ntmps110
  go_wp2_with fail
  have hM := (h.setFar hqb hqg 4 (.bool false)).alloc (.cells #[.int .u64 (X : Int), .string K, .int .u64 M] 54)
  have hQ := (hq.set 4 (.bool false)).alloc (.cells #[.int .u64 (X : Int), .string K, .int .u64 M] 54)
  have hC := Blk.new (w.setCell ⟨q, 4, none⟩ (.bool false)) [.int .u64 (X : Int), .string K, .int .u64 M] 54
  have hK := ((Kept.refl (Own3 q b g) w).setCell (a := ⟨q, 4, none⟩) (fun _ => .inl rfl) (.bool false)).alloc (.cells #[.int .u64 (X : Int), .string K, .int .u64 M] 54)
  have hsz : (w.setCell ⟨q, 4, none⟩ (.bool false)).heap.size = w.heap.size := by simp [World.setCell]
  rw [hsz] at hC
  clear c0 c1 c2 c3 c4 f4 hq h hsz
  have c0 := hQ.k 0 rfl
  have c1 := hQ.k 1 rfl
  obtain ⟨d0, d1, d2⟩ := hC.c3
  have hqW := hQ.lt
  have hrW := hC.lt
  have HM := Hd hM
  have HQ := Hd hQ
  have HK := Hd hK
  clear hM hQ hC hK
  generalize hr2 : w.heap.size = r2 at *
  have Hr2 := Hd hr2
  clear hr2
  generalize (w.setCell ⟨q, 4, none⟩ (.bool false)).alloc (.cells #[.int .u64 (X : Int), .string K, .int .u64 M] 54) = W at *
  have hqn : ¬ Own b g q := by unfold Own; omega
  have hrn : ¬ Own b g r2 := by unfold Own; omega
  go_region_held3 (fun w' => w'.cell? ⟨q, 0, none⟩ = some (.int .i64 i) ∧ w'.cell? ⟨q, 1, none⟩ = some (.int .u64 (N : Int)) ∧ w'.cell? ⟨r2, 0, none⟩ = some (.int .u64 (X : Int)) ∧ w'.cell? ⟨r2, 1, none⟩ = some (.string K) ∧ w'.cell? ⟨r2, 2, none⟩ = some (.int .u64 M))
    (first | exact ⟨c0, c1, d0, d1, d2⟩ | exact tkeepSwap hK5 hqn hrn hqW hrW c0 c1 d0 d1 d2)
    (first | (go_at_call 147; refine (swap_of b g l l' k i (N : Int) (X : Int) M K r _ HM.out.drew hk HR.out HL.out).mono ?_; rintro e w5 ⟨rfl, hM5, hK5⟩))
  have HQ5 := Hd (hK5.blk HQ.out hqn)
  have HM5 := Hd hM5
  have HK5 := Hd (HK.out.drew.trans hK5 (T := Own b g) (fun _ _ h => .inr h))
  clear hM5 hK5 HM HQ HK c0 c1 d0 d1 d2
  go_wp2
  go_ret
  exact ⟨rfl, HM5.out, HQ5.out, HK5.out⟩

theorem takeStep_load (q b g : Nat) (l : List Cel) (k : Nat) (i : Int) (N N0 : Nat) (K K0 : ByteArray) (M M0 : Int) (r : Bool) (lim : Nat) (w : World) (hq : Blk w q 152 (macv i N0 K0 M0 false lim false false)) (h : Mem w b g l k) (hqb : q ≠ b) (hqg : q ≠ g) (hk : k < 9223372036854775808)
    (hc : cellAt l i = ((N : Int), K, M)) (hr : decide (lim ≤ N) = r) :
    Calls Tryz.prog 63 #[.pointer (some ⟨q, 0, none⟩), .pointer (some ⟨b, 0, none⟩)] w fun e w' => e = .returned (.bool r) ∧ Mem w' b g l (k + 1) ∧ Blk w' q 152 (macv i N K M true lim false r) ∧ Kept (Own3 q b g) w w' := by
  have c4 := hq.k 4 rfl
  have c5 := hq.k 5 rfl
  have c7 := hq.k 7 rfl
  have f7 := hq.frozen 7
  have hqlt := hq.lt
  have HR := Hd hr
  have H1 := Hd hq
  have H2 := Hd h
  clear hr hq h
  go_enter Tryz.func63, Tryz.ntmps63
  go_wp2_with fail
  clear c4 c7
  go_region_held3 (fun w' => w'.cell? ⟨q, 5, none⟩ = some (.int .u64 (lim : Int)))
    (first | exact c5 | exact hQ5.k 5 rfl | exact (hQ5.set 7 _).k 5 rfl)
    (first | (go_at_call 112; refine (tload_any q b g _ l k i N N0 K K0 M M0 false false false lim _ (by first | exact H1.out | exact (H1.out).of rfl) (by first | exact H2.out | exact H2.out.drew) hqb hqg hk hc).mono ?_; rintro e w5 ⟨rfl, hM5, hQ5, hK5⟩; have z7 := hQ5.frozen 7; have y7 := hQ5.k 7 rfl))
  rw [HR.out]
  have hQ6 := hQ5.set 7 (.bool r)
  have HM5 := Hd hM5
  have HK5 := Hd hK5
  have x7 := hQ6.k 7 rfl
  have HQ6 := Hd hQ6
  clear hM5 hK5 hQ5 hQ6 y7 z7 c5 H1 H2
  go_wp2
  go_ret
  exact ⟨rfl, HM5.out.setFar hqb hqg _ _, HQ6.out, HK5.out.ofDrew.setCell (fun _ => .inl rfl) _⟩

theorem takeStep_swap (q b g : Nat) (l l' : List Cel) (k : Nat) (i : Int) (N : Nat) (K : ByteArray) (M : Int) (r : Bool) (lim : Nat) (w : World) (hq : Blk w q 152 (macv i N K M true lim false false)) (h : Mem w b g l k) (hqb : q ≠ b) (hqg : q ≠ g) (hk : k < 9223372036854775808)
    (hN : N < 18446744073709551615) (hr : swaps l i (N : Int) = r) (hl : (if r then putAt l i (((N + 1 : Nat) : Int), K, M) else l) = l') :
    Calls Tryz.prog 63 #[.pointer (some ⟨q, 0, none⟩), .pointer (some ⟨b, 0, none⟩)] w fun e w' => e = .returned (.bool r) ∧ Mem w' b g l' (k + 1) ∧ Blk w' q 152 (macv i N K M false lim r r) ∧ Kept (Own3 q b g) w w' := by
  have c4 := hq.k 4 rfl
  have c5 := hq.k 5 rfl
  have c7 := hq.k 7 rfl
  have hqlt := hq.lt
  have HR := Hd hr
  have HL := Hd hl
  have H1 := Hd hq
  have H2 := Hd h
  clear hr hl hq h
  go_enter Tryz.func63, Tryz.ntmps63
  go_wp2_with fail
  clear c4 c7
  go_region_held3 (fun w' => w'.cell? ⟨q, 5, none⟩ = some (.int .u64 (lim : Int)))
    (first | exact c5 | exact hQ5.k 5 rfl | exact (hQ5.set 6 _).k 5 rfl)
    (first | (go_at_call 111; refine (next_any q _ i N K M true false false lim _ (by first | exact H1.out | exact (H1.out).of rfl) hN).mono ?_; rintro e w2 ⟨rfl, rfl⟩)
           | (go_at_call 110; refine (tswap_any q b g _ l l' k i N _ K M true false false r lim _ (by first | exact H1.out | exact (H1.out).of rfl) (by first | exact H2.out | exact H2.out.drew) hqb hqg hk HR.out HL.out).mono ?_; rintro e w5 ⟨rfl, hM5, hQ5, hK5⟩; have z6 := hQ5.frozen 6; have y6 := hQ5.k 6 rfl))
  have hQ6 := hQ5.set 6 (.bool r)
  have HM5 := Hd (hM5.setFar hqb hqg 6 (.bool r))
  have HK5 := Hd (hK5.ofDrew.setCell (a := ⟨q, 6, none⟩) (fun _ => .inl rfl) (.bool r))
  have x6 := hQ6.k 6 rfl
  have x7 := hQ6.k 7 rfl
  have v7 := hQ6.frozen 7
  have HQ6 := Hd hQ6
  clear hM5 hK5 hQ5 hQ6 y6 z6 c5 H1 H2
  go_wp2
  go_ret
  exact ⟨rfl, HM5.out.setFar hqb hqg _ _, HQ6.out.set 7 _, HK5.out.setCell (fun _ => .inl rfl) _⟩
end
end Go.Proofs.YtjnodgebpklaoaaGreat
