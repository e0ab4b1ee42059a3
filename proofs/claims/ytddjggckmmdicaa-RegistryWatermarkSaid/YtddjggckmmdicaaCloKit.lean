/-
  What the kit's Config and Memory answer; a pick of a machine Allocate and what its Time answers. Condition: sizes within their limits; fewer than 2^63 accesses so far.
-/
import Derived.Test.YtddjggckmmdicaaCloMach
import Derived.Test.YtddjggckmmdicaaAllPlain
namespace Go.Proofs.Ytddjggckmmdicaa
open Go.RowKit Go.Deep
set_option linter.unusedVariables false

set_option maxHeartbeats 1000000 in
theorem kitConfig_any (T : Int) (w : World) :
    Calls Try.prog 4 #[.int .i64 T, .int .i64 0] w fun e w' => e = .returned (.agg #[.int .i64 T, .int .i64 2, .int .i64 100, .int .i64 100, .int .i64 200, .int .i64 4, .int .u64 1000]) ∧ Kept (fun _ => False) w w' := by
  go_enter Try.func4, Try.ntmps4
  go_wp2_with fail
  refine (mod_of 0 3 0 _ (by omega) (by omega) (by rfl)).mono ?_; rintro e w2 ⟨rfl, rfl⟩
  go_wp2
  refine bodyPost_ret (v := .agg #[.int .i64 T, .int .i64 2, .int .i64 100, .int .i64 100, .int .i64 200, .int .i64 4, .int .u64 1000]) ?_ rfl ⟨rfl, ?_⟩
  · have hE := Blk.new w [.int .i64 T, .int .i64 2, .int .i64 100, .int .i64 100, .int .i64 200, .int .i64 4, .int .u64 1000] 25
    have q0 := hE.cell (i := 0) rfl
    have q1 := hE.cell (i := 1) rfl
    have q2 := hE.cell (i := 2) rfl
    have q3 := hE.cell (i := 3) rfl
    have q4 := hE.cell (i := 4) rfl
    have q5 := hE.cell (i := 5) rfl
    have q6 := hE.cell (i := 6) rfl
    clear hE
    simp [results, Try.results4, go_sem, q0, q1, q2, q3, q4, q5, q6]
  · exact (Kept.refl _ _).alloc _

theorem startCells_length (T S N C R F : Int) (hl : Lim T S N C R F) : ((startCells T S N C R F).length : Int) = allCells T S N C R F := by
  have := allCells_bd hl
  unfold startCells
  rw [putAt_length, putAt_length, putAt_length, List.length_replicate]
  omega
theorem cells_to (b g : Nat) (l : List Cel) (k : Nat) (v : Int) (w : World) (h : Mem w b g l k) (hv : (l.length : Int) = v) :
    Calls Try.prog 19 #[.pointer (some ⟨b, 0, none⟩)] w fun e w' => e = .returned (.int .i64 v) ∧ w = w' := by
  subst hv; exact cells_any b g l k w h

set_option maxHeartbeats 2000000 in
theorem kitMemory_yes (T S N C R F K : Int) (hl : Lim T S N C R F) (hk1 : 1 ≤ K) (hk2 : K ≤ 1099511627776) (w : World) :
    Calls Try.prog 6 #[.agg #[.int .i64 T, .int .i64 S, .int .i64 N, .int .i64 C, .int .i64 R, .int .i64 F, .int .u64 K]] w fun e w' => ∃ b g : Nat, e = .returned (.tuple #[.agg #[.int .i64 T, .int .i64 S, .int .i64 N, .int .i64 C, .int .i64 R, .int .i64 F, .int .u64 K, .int .i64 (firstNode T S), .int .i64 (firstChain T S N F), .int .i64 (firstRecord T S N C F)], .pointer (some ⟨b, 0, none⟩)]) ∧ Mem w' b g (startCells T S N C R F) 0 ∧ w.heap.size ≤ b ∧ w.heap.size ≤ g ∧ Kept (fun _ => False) w w' := by
  go_enter Try.func6, Try.ntmps6
  go_wp2_with fail
  refine (start_yes T S N C R F K hl hk1 hk2 _).mono ?_
  intro e w1 hst
  obtain ⟨b, g, rfl, hM1, hb1, hg1, hK1⟩ := hst
  have hC : Blk w1 w.heap.size 25 [.int .i64 T, .int .i64 S, .int .i64 N, .int .i64 C, .int .i64 R, .int .i64 F, .int .u64 K] := hK1.blk ((Blk.new w [.int .i64 T, .int .i64 S, .int .i64 N, .int .i64 C, .int .i64 R, .int .i64 F, .int .u64 K] 25).alloc _) id
  have hQ : Blk w1 (w.heap.size + 1) 29 [.int .i64 0, .int .i64 0, .int .i64 0, .int .i64 0, .int .i64 0, .int .i64 0, .int .u64 0, .int .i64 0, .int .i64 0, .int .i64 0] := hK1.blk (by have := Blk.new (w.alloc (.cells #[.int .i64 T, .int .i64 S, .int .i64 N, .int .i64 C, .int .i64 R, .int .i64 F, .int .u64 K] 25)) [.int .i64 0, .int .i64 0, .int .i64 0, .int .i64 0, .int .i64 0, .int .i64 0, .int .u64 0, .int .i64 0, .int .i64 0, .int .i64 0] 29; rwa [nblk_alloc] at this) id
  have hK := ((Kept.refl (fun _ => False) w).alloc (.cells #[.int .i64 T, .int .i64 S, .int .i64 N, .int .i64 C, .int .i64 R, .int .i64 F, .int .u64 K] 25)).alloc (.cells #[.int .i64 0, .int .i64 0, .int .i64 0, .int .i64 0, .int .i64 0, .int .i64 0, .int .u64 0, .int .i64 0, .int .i64 0, .int .i64 0] 29) |>.trans hK1 (fun _ _ h => h)
  simp only [World.size_alloc] at hb1 hg1
  have hz := hK1.size
  simp only [World.size_alloc] at hz
  have hlen := startCells_length T S N C R F hl
  obtain ⟨fa, hfa⟩ : ∃ x, x = firstNode T S := ⟨_, rfl⟩
  obtain ⟨fb, hfb⟩ : ∃ x, x = firstChain T S N F := ⟨_, rfl⟩
  obtain ⟨fd, hfd⟩ : ∃ x, x = firstRecord T S N C F := ⟨_, rfl⟩
  rw [← hfa, ← hfb, ← hfd]
  have hob : ¬ Own b g (w.heap.size + 1) := by unfold Own; omega
  have HOB := Lib.hid hob
  have HB := Lib.hid (show w.heap.size ≤ b ∧ w.heap.size ≤ g by omega)
  have HLEN := Lib.hid hlen
  have HC := Lib.hid hC
  have HQ := Lib.hid hQ
  have HM := Lib.hid hM1
  have HK := Lib.hid hK
  have hz0 : w.heap.size < w1.heap.size := by omega
  have HFA := Lib.hid hfa
  have HFB := Lib.hid hfb
  have HFD := Lib.hid hfd
  clear hfa hfb hfd hob hlen hC hQ hM1 hK hb1 hg1 hK1 hz
  go_wp2_with fail
  have HL := Lib.hid (Blk.new w1 [.int .i64 T, .int .i64 S, .int .i64 N, .int .i64 C, .int .i64 R, .int .i64 F, .int .u64 K, .int .i64 fa, .int .i64 fb, .int .i64 fd] 29)
  replace HC := Lib.hid (HC.out.alloc (.cells #[.int .i64 T, .int .i64 S, .int .i64 N, .int .i64 C, .int .i64 R, .int .i64 F, .int .u64 K, .int .i64 fa, .int .i64 fb, .int .i64 fd] 29))
  replace HQ := Lib.hid (HQ.out.alloc (.cells #[.int .i64 T, .int .i64 S, .int .i64 N, .int .i64 C, .int .i64 R, .int .i64 F, .int .u64 K, .int .i64 fa, .int .i64 fb, .int .i64 fd] 29))
  replace HM := Lib.hid (HM.out.alloc (.cells #[.int .i64 T, .int .i64 S, .int .i64 N, .int .i64 C, .int .i64 R, .int .i64 F, .int .u64 K, .int .i64 fa, .int .i64 fb, .int .i64 fd] 29))
  replace HK := Lib.hid (HK.out.alloc (.cells #[.int .i64 T, .int .i64 S, .int .i64 N, .int .i64 C, .int .i64 R, .int .i64 F, .int .u64 K, .int .i64 fa, .int .i64 fb, .int .i64 fd] 29))
  have hr : w.heap.size < (w1.alloc (.cells #[.int .i64 T, .int .i64 S, .int .i64 N, .int .i64 C, .int .i64 R, .int .i64 F, .int .u64 K, .int .i64 fa, .int .i64 fb, .int .i64 fd] 29)).heap.size := HC.out.lt
  generalize w1.alloc (.cells #[.int .i64 T, .int .i64 S, .int .i64 N, .int .i64 C, .int .i64 R, .int .i64 F, .int .u64 K, .int .i64 fa, .int .i64 fb, .int .i64 fd] 29) = W at *
  generalize hss : w1.heap.size = s at *
  clear hss
  generalize hqq : w.heap.size + 1 = q at *
  have HQQ := Lib.hid hqq
  clear hqq
  generalize hrr : w.heap.size = r at *
  have HRR := Lib.hid hrr
  clear hrr
  have x0 := HC.out.cell (i := 0) rfl
  have x1 := HC.out.cell (i := 1) rfl
  have x2 := HC.out.cell (i := 2) rfl
  have x3 := HC.out.cell (i := 3) rfl
  have x4 := HC.out.cell (i := 4) rfl
  have x5 := HC.out.cell (i := 5) rfl
  have x6 := HC.out.cell (i := 6) rfl
  go_region_held3 (fun w' => Kept (fun _ => False) W w' ∧ w'.cell? ⟨r, 0, none⟩ = some (.int .i64 T) ∧ w'.cell? ⟨r, 1, none⟩ = some (.int .i64 S) ∧ w'.cell? ⟨r, 2, none⟩ = some (.int .i64 N) ∧ w'.cell? ⟨r, 3, none⟩ = some (.int .i64 C) ∧ w'.cell? ⟨r, 4, none⟩ = some (.int .i64 R) ∧ w'.cell? ⟨r, 5, none⟩ = some (.int .i64 F) ∧ w'.cell? ⟨r, 6, none⟩ = some (.int .u64 K))
    (first | exact ⟨(Kept.refl _ _).drew, x0, x1, x2, x3, x4, x5, x6⟩ | exact keep7 (by assumption) hr (by assumption) | exact keep7 (Kept.ofDrew (by assumption)) hr (by assumption))
    (first | (go_at_call 19; refine (cells_to b g _ 0 _ _ (by first | exact HM.out | exact HM.out.drew) HLEN.out).mono ?_; rintro e w8 ⟨rfl, rfl⟩)
           | (go_at_call 20; refine (refCells_any T S N C R F K hl _).mono ?_; rintro e w9 ⟨rfl, hK9⟩))
  replace HL := Lib.hid (hK9.ofDrew.blk HL.out id)
  replace HQ := Lib.hid (hK9.ofDrew.blk HQ.out id)
  replace HM := Lib.hid (HM.out.kept hK9.ofDrew id id)
  replace HK := Lib.hid (HK.out.trans hK9.ofDrew (fun _ _ h => h))
  clear hK9 x0 x1 x2 x3 x4 x5 x6 HC
  have x0 := HL.out.cell (i := 0) rfl
  have x1 := HL.out.cell (i := 1) rfl
  have x2 := HL.out.cell (i := 2) rfl
  have x3 := HL.out.cell (i := 3) rfl
  have x4 := HL.out.cell (i := 4) rfl
  have x5 := HL.out.cell (i := 5) rfl
  have x6 := HL.out.cell (i := 6) rfl
  have x7 := HL.out.cell (i := 7) rfl
  have x8 := HL.out.cell (i := 8) rfl
  have x9 := HL.out.cell (i := 9) rfl
  have q0 := HQ.out.cell (i := 0) rfl
  have q1 := HQ.out.cell (i := 1) rfl
  have q2 := HQ.out.cell (i := 2) rfl
  have q3 := HQ.out.cell (i := 3) rfl
  have q4 := HQ.out.cell (i := 4) rfl
  have q5 := HQ.out.cell (i := 5) rfl
  have q6 := HQ.out.cell (i := 6) rfl
  have q7 := HQ.out.cell (i := 7) rfl
  have q8 := HQ.out.cell (i := 8) rfl
  have q9 := HQ.out.cell (i := 9) rfl
  have qf0 := HQ.out.frozen 0
  have qf1 := HQ.out.frozen 1
  have qf2 := HQ.out.frozen 2
  have qf3 := HQ.out.frozen 3
  have qf4 := HQ.out.frozen 4
  have qf5 := HQ.out.frozen 5
  have qf6 := HQ.out.frozen 6
  have qf7 := HQ.out.frozen 7
  have qf8 := HQ.out.frozen 8
  have qf9 := HQ.out.frozen 9
  go_wp2
  refine bodyPost_ret (v := .tuple #[.agg #[.int .i64 T, .int .i64 S, .int .i64 N, .int .i64 C, .int .i64 R, .int .i64 F, .int .u64 K, .int .i64 fa, .int .i64 fb, .int .i64 fd], .pointer (some ⟨b, 0, none⟩)]) ?_ rfl ?_
  · have hE := ((((((((((HQ.out.set 0 (.int .i64 T)).set 1 (.int .i64 S)).set 2 (.int .i64 N)).set 3 (.int .i64 C)).set 4 (.int .i64 R)).set 5 (.int .i64 F)).set 6 (.int .u64 K)).set 7 (.int .i64 fa)).set 8 (.int .i64 fb)).set 9 (.int .i64 fd))
    clear q0 q1 q2 q3 q4 q5 q6 q7 q8 q9 qf0 qf1 qf2 qf3 qf4 qf5 qf6 qf7 qf8 qf9
    clear x0 x1 x2 x3 x4 x5 x6 x7 x8 x9
    have q0 := hE.cell (i := 0) rfl
    have q1 := hE.cell (i := 1) rfl
    have q2 := hE.cell (i := 2) rfl
    have q3 := hE.cell (i := 3) rfl
    have q4 := hE.cell (i := 4) rfl
    have q5 := hE.cell (i := 5) rfl
    have q6 := hE.cell (i := 6) rfl
    have q7 := hE.cell (i := 7) rfl
    have q8 := hE.cell (i := 8) rfl
    have q9 := hE.cell (i := 9) rfl
    clear hE HQ HK HM HL
    simp [results, Try.results6, go_sem, q0, q1, q2, q3, q4, q5, q6, q7, q8, q9]
  · have hb : w.heap.size ≤ q := by have := HQQ.out; have := HRR.out; omega
    have hbr : w.heap.size ≤ b ∧ w.heap.size ≤ g := by rw [HRR.out]; exact HB.out
    refine ⟨b, g, by rw [← HFA.out, ← HFB.out, ← HFD.out], ?_, hbr.1, hbr.2, ?_⟩
    · exact (((((((((HM.out.farq HOB.out _ _).farq HOB.out _ _).farq HOB.out _ _).farq HOB.out _ _).farq HOB.out _ _).farq HOB.out _ _).farq HOB.out _ _).farq HOB.out _ _).farq HOB.out _ _).farq HOB.out _ _
    · exact (((((((((HK.out.setNew hb _ _).setNew hb _ _).setNew hb _ _).setNew hb _ _).setNew hb _ _).setNew hb _ _).setNew hb _ _).setNew hb _ _).setNew hb _ _).setNew hb _ _

/-- A memory whose counters Allocated and Published are A and V. -/
structure Cl (l : List Cel) (A V : Nat) : Prop where
  len : 3 ≤ l.length
  a : cellAt l 1 = ((A : Int), ⟨#[]⟩, 0)
  v : cellAt l 2 = ((V : Int), ⟨#[]⟩, 0)
theorem cellAt_nat (l : List Cel) (i : Nat) : cellAt l i = l.getD i cel0 := by unfold cellAt; rw [if_pos (by omega)]; rfl
theorem cellAt_put (l : List Cel) (i j : Nat) (c : Cel) (hi : i < l.length) : cellAt (putAt l i c) j = if i = j then c else cellAt l j := by
  rw [putAt_in, cellAt_nat, cellAt_nat, List.getD_eq_getElem?_getD, List.getD_eq_getElem?_getD]
  by_cases h : i = j
  · subst h; rw [if_pos rfl, List.getElem?_set_self hi]; rfl
  · rw [if_neg h, List.getElem?_set_ne h]
theorem Cl.put1 {l : List Cel} {A V : Nat} (h : Cl l A V) (X : Nat) : Cl (putAt l 1 ((X : Int), ⟨#[]⟩, 0)) X V :=
  ⟨by rw [putAt_length]; exact h.len, (cellAt_put l 1 1 _ (by have := h.len; omega)).trans (if_pos rfl), ((cellAt_put l 1 2 _ (by have := h.len; omega)).trans (if_neg (by omega))).trans h.v⟩
theorem Cl.put2 {l : List Cel} {A V : Nat} (h : Cl l A V) (X : Nat) : Cl (putAt l 2 ((X : Int), ⟨#[]⟩, 0)) A X :=
  ⟨by rw [putAt_length]; exact h.len, ((cellAt_put l 2 1 _ (by have := h.len; omega)).trans (if_neg (by omega))).trans h.a, (cellAt_put l 2 2 _ (by have := h.len; omega)).trans (if_pos rfl)⟩
theorem Cl.swap {l : List Cel} {A V : Nat} (h : Cl l A V) (N : Nat) : swaps l 1 (N : Int) = decide (N = A) := by
  have h3 := h.len
  unfold swaps
  rw [h.a]
  have h1 : isIn l 1 = true := by unfold isIn; simp; omega
  rw [h1]
  by_cases e : N = A
  · simp [e]
  · simp [e]; omega
theorem startCells_cl (T S N C R F : Int) (hl : Lim T S N C R F) (h10 : 10 ≤ allCells T S N C R F) (hn : 7 ≤ nodeAt N F (firstNode T S) 1 2) : Cl (startCells T S N C R F) 0 0 := by
  have hlen := startCells_length T S N C R F hl
  have hz : Cl (List.replicate (allCells T S N C R F).toNat cel0) 0 0 := ⟨by rw [List.length_replicate]; omega, cellAt_zero _ _, cellAt_zero _ _⟩
  have hput : ∀ (l : List Cel) (i : Nat) (c : Cel), Cl l 0 0 → i < l.length → i ≠ 1 → i ≠ 2 → Cl (putAt l i c) 0 0 := fun l i c h hi h1 h2 =>
    ⟨by rw [putAt_length]; exact h.len, ((cellAt_put l i 1 c hi).trans (if_neg h1)).trans h.a, ((cellAt_put l i 2 c hi).trans (if_neg h2)).trans h.v⟩
  obtain ⟨x, hx⟩ : ∃ x : Nat, nodeAt N F (firstNode T S) 1 2 = x := ⟨(nodeAt N F (firstNode T S) 1 2).toNat, by omega⟩
  unfold startCells
  rw [hx]
  by_cases hxl : x < (putAt (putAt (List.replicate (allCells T S N C R F).toNat cel0) 0 (1, ⟨#[]⟩, 0)) 4 (1, ⟨#[]⟩, 0)).length
  · exact hput _ x _ (hput _ 4 _ (hput _ 0 _ hz (by rw [List.length_replicate]; omega) (by omega) (by omega)) (by rw [putAt_length, List.length_replicate]; omega) (by omega) (by omega)) hxl (by omega) (by omega)
  · rw [putAt_out _ _ _ (.inr (by omega))]
    exact hput _ 4 _ (hput _ 0 _ hz (by rw [List.length_replicate]; omega) (by omega) (by omega)) (by rw [putAt_length, List.length_replicate]; omega) (by omega) (by omega)

/-- The cells of a taker's machine in this state. -/
def macb (lim : Nat) (y : Mac) : List Value := macv 1 y.2 ⟨#[]⟩ 0 (y.1 == 1 || y.1 == 3) lim (y.1 == 2) (decide (2 ≤ y.1))
/-- The cells of a publisher in this state: 2 waits, 4 is next, 5 has published; the timestamp less one. -/
def pubb (y : Mac) : List Value := pubv 2 (y.2 + 1) (decide (4 ≤ y.1)) (y.1 == 5)
def pmoved (y : Mac) (V : Nat) : Mac := if y.1 = 2 then (if y.2 = V then (4, y.2) else y) else if y.1 = 4 then (5, y.2) else y
def pcounts (y : Mac) (V : Nat) : Nat := if y.1 = 4 then y.2 + 1 else V

end Go.Proofs.Ytddjggckmmdicaa
