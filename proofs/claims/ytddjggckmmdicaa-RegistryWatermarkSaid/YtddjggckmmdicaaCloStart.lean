/-
  What New and Start of package layout answer for a valid configuration: the layout and a memory of which three cells are not zero. Condition: sizes within their limits.
-/
import Derived.Test.YtddjggckmmdicaaCloLay
import Derived.Deep.RegionWith
import Derived.Deep.DrawnRows
import Derived.StillTailTactics
namespace Go.Proofs.Ytddjggckmmdicaa
open Go.RowKit Go.Deep
set_option linter.unusedVariables false

set_option linter.unusedVariables false
attribute [local go_sem ↓] Go.wp_at_zero Go.wp_at_succ

set_option maxHeartbeats 1000000 in
theorem new_yes (T S N C R F K : Int) (hl : Lim T S N C R F) (hk1 : 1 ≤ K) (hk2 : K ≤ 1099511627776) (w : World) :
    Calls Try.prog 32 #[.agg #[.int .i64 T, .int .i64 S, .int .i64 N, .int .i64 C, .int .i64 R, .int .i64 F, .int .u64 K]] w fun e w' => e = .returned (.tuple #[.agg #[.int .i64 T, .int .i64 S, .int .i64 N, .int .i64 C, .int .i64 R, .int .i64 F, .int .u64 K, .int .i64 (firstNode T S), .int .i64 (firstChain T S N F), .int .i64 (firstRecord T S N C F)], .int .i64 0]) ∧ Kept (fun _ => False) w w' := by
  have lt1 := hl.t1
  have lt2 := hl.t2
  have ls1 := hl.s1
  have ls2 := hl.s2
  have ln1 := hl.n1
  have ln2 := hl.n2
  have lc1 := hl.c1
  have lc2 := hl.c2
  have lr1 := hl.r1
  have lr2 := hl.r2
  have lf1 := hl.f1
  have lf2 := hl.f2
  have ts := hl.ts
  have ts1 := ts.1
  have ts2 := ts.2
  clear ts
  have nf := hl.nf
  have nf1 := nf.1
  have nf2 := nf.2
  have nf4 := nf4 N F
  clear nf
  clear nf4
  go_enter Try.func32, Try.ntmps32
  go_wp2_with fail
  refine (valid_yes T S N C R F K hl hk1 hk2 _).mono ?_; rintro e w1 ⟨rfl, hK1⟩
  have hC1 : Blk w1 w.heap.size 25 [.int .i64 T, .int .i64 S, .int .i64 N, .int .i64 C, .int .i64 R, .int .i64 F, .int .u64 K] := hK1.blk ((Blk.new w [.int .i64 T, .int .i64 S, .int .i64 N, .int .i64 C, .int .i64 R, .int .i64 F, .int .u64 K] 25).alloc _) id
  have hQ1 : Blk w1 (w.heap.size + 1) 29 [.int .i64 0, .int .i64 0, .int .i64 0, .int .i64 0, .int .i64 0, .int .i64 0, .int .u64 0, .int .i64 0, .int .i64 0, .int .i64 0] := hK1.blk (by have := Blk.new (w.alloc (.cells #[.int .i64 T, .int .i64 S, .int .i64 N, .int .i64 C, .int .i64 R, .int .i64 F, .int .u64 K] 25)) [.int .i64 0, .int .i64 0, .int .i64 0, .int .i64 0, .int .i64 0, .int .i64 0, .int .u64 0, .int .i64 0, .int .i64 0, .int .i64 0] 29; rwa [nblk_alloc] at this) id
  have HK1 := Lib.hid (((Kept.refl (fun _ => False) w).alloc _).alloc _ |>.trans hK1 (fun _ _ h => h))
  have hz := hK1.size
  simp only [World.size_alloc] at hz
  have hz0 : w.heap.size < w1.heap.size := by omega
  have hz1 : w.heap.size + 1 < w1.heap.size := by omega
  clear hK1
  have x0 := hC1.cell (i := 0) rfl
  have x1 := hC1.cell (i := 1) rfl
  have x2 := hC1.cell (i := 2) rfl
  have x3 := hC1.cell (i := 3) rfl
  have x4 := hC1.cell (i := 4) rfl
  have x5 := hC1.cell (i := 5) rfl
  have x6 := hC1.cell (i := 6) rfl
  have HC1 := Lib.hid (hC1.alloc (.cells #[.int .i64 T, .int .i64 S, .int .i64 N, .int .i64 C, .int .i64 R, .int .i64 F, .int .u64 K, .int .i64 (8 + T * S), .int .i64 0, .int .i64 0] 29))
  have HQ1 := Lib.hid (hQ1.alloc (.cells #[.int .i64 T, .int .i64 S, .int .i64 N, .int .i64 C, .int .i64 R, .int .i64 F, .int .u64 K, .int .i64 (8 + T * S), .int .i64 0, .int .i64 0] 29))
  have HN1 := Lib.hid (Blk.new w1 [.int .i64 T, .int .i64 S, .int .i64 N, .int .i64 C, .int .i64 R, .int .i64 F, .int .u64 K, .int .i64 (8 + T * S), .int .i64 0, .int .i64 0] 29)
  clear hC1 hQ1
  go_wp2_with fail
  have hK2 := HK1.out.alloc (.cells #[.int .i64 T, .int .i64 S, .int .i64 N, .int .i64 C, .int .i64 R, .int .i64 F, .int .u64 K, .int .i64 (8 + T * S), .int .i64 0, .int .i64 0] 29)
  have hs : w1.heap.size < (w1.alloc (.cells #[.int .i64 T, .int .i64 S, .int .i64 N, .int .i64 C, .int .i64 R, .int .i64 F, .int .u64 K, .int .i64 (8 + T * S), .int .i64 0, .int .i64 0] 29)).heap.size := HN1.out.lt
  clear x0 x1 x2 x3 x4 x5 x6
  have HK2 := Lib.hid hK2
  clear hK2 HK1
  generalize w1.alloc (.cells #[.int .i64 T, .int .i64 S, .int .i64 N, .int .i64 C, .int .i64 R, .int .i64 F, .int .u64 K, .int .i64 (8 + T * S), .int .i64 0, .int .i64 0] 29) = W at *
  generalize w1.heap.size = s at *
  generalize hrr : w.heap.size = r at *
  have HRR := Lib.hid hrr
  clear hrr
  have x0 := HC1.out.cell (i := 0) rfl
  have x1 := HC1.out.cell (i := 1) rfl
  have x2 := HC1.out.cell (i := 2) rfl
  have x3 := HC1.out.cell (i := 3) rfl
  have x4 := HC1.out.cell (i := 4) rfl
  have x5 := HC1.out.cell (i := 5) rfl
  have x6 := HC1.out.cell (i := 6) rfl
  have y0 := HN1.out.cell (i := 0) rfl
  have y1 := HN1.out.cell (i := 1) rfl
  have y2 := HN1.out.cell (i := 2) rfl
  have y3 := HN1.out.cell (i := 3) rfl
  have y4 := HN1.out.cell (i := 4) rfl
  have y5 := HN1.out.cell (i := 5) rfl
  have y6 := HN1.out.cell (i := 6) rfl
  have y7 := HN1.out.cell (i := 7) rfl
  have y8 := HN1.out.cell (i := 8) rfl
  have y9 := HN1.out.cell (i := 9) rfl
  have yf8 := HN1.out.frozen 8
  have hr : r < W.heap.size := by omega
  go_region_with ((go_at_call 45; refine (nodeCells_any T S N C R F K (8 + T * S) 0 0 N (by omega) (by omega) nf1 (by omega) _).mono ?_; rintro e w9 ⟨rfl, hK9⟩; have hN9 := hK9.ofDrew.blk HN1.out id; have z7 := hN9.cell (i := 7) rfl; have z8 := hN9.cell (i := 8) rfl; have z8f := hN9.frozen 8))
  all_goals
    rw [IntWalk.i64_in (8 + T * S + (N * F + N * 4)) (by omega)]
    have hK3 := (HK2.out.trans hK9.ofDrew (fun _ _ h => h)).setNew (b := s) (by have := HRR.out; omega) 8 (.int .i64 (8 + T * S + (N * F + N * 4)))
    have hN3 := hN9.set 8 (.int .i64 (8 + T * S + (N * F + N * 4)))
    have hC3 := (hK9.ofDrew.blk HC1.out id).other (a := ⟨s, 8, none⟩) (by simp; omega) (.int .i64 (8 + T * S + (N * F + N * 4)))
    have hQ3 := (hK9.ofDrew.blk HQ1.out id).other (a := ⟨s, 8, none⟩) (by simp; omega) (.int .i64 (8 + T * S + (N * F + N * 4)))
    clear hK9 hN9 z7 z8 z8f
    clear x0 x1 x2 x3 x4 x5 x6
    clear y0 y1 y2 y3 y4 y5 y6 y7 y8 y9 yf8
    have HK3 := Lib.hid hK3
    have HN3 := Lib.hid hN3
    have HQ3 := Lib.hid hQ3
    clear hK3 hN3 hQ3
    generalize w9.setCell ⟨s, 8, none⟩ (.int .i64 (8 + T * S + (N * F + N * 4))) = W3 at *
    have x3 := hC3.cell (i := 3) rfl
    clear hC3
    have y0 := HN3.out.cell (i := 0) rfl
    have y1 := HN3.out.cell (i := 1) rfl
    have y2 := HN3.out.cell (i := 2) rfl
    have y3 := HN3.out.cell (i := 3) rfl
    have y4 := HN3.out.cell (i := 4) rfl
    have y5 := HN3.out.cell (i := 5) rfl
    have y6 := HN3.out.cell (i := 6) rfl
    have y7 := HN3.out.cell (i := 7) rfl
    have y8 := HN3.out.cell (i := 8) rfl
    have y9 := HN3.out.cell (i := 9) rfl
    have yf9 := HN3.out.frozen 9
    have q0 := HQ3.out.cell (i := 0) rfl
    have q1 := HQ3.out.cell (i := 1) rfl
    have q2 := HQ3.out.cell (i := 2) rfl
    have q3 := HQ3.out.cell (i := 3) rfl
    have q4 := HQ3.out.cell (i := 4) rfl
    have q5 := HQ3.out.cell (i := 5) rfl
    have q6 := HQ3.out.cell (i := 6) rfl
    have q7 := HQ3.out.cell (i := 7) rfl
    have q8 := HQ3.out.cell (i := 8) rfl
    have q9 := HQ3.out.cell (i := 9) rfl
    have qf0 := HQ3.out.frozen 0
    have qf1 := HQ3.out.frozen 1
    have qf2 := HQ3.out.frozen 2
    have qf3 := HQ3.out.frozen 3
    have qf4 := HQ3.out.frozen 4
    have qf5 := HQ3.out.frozen 5
    have qf6 := HQ3.out.frozen 6
    have qf7 := HQ3.out.frozen 7
    have qf8 := HQ3.out.frozen 8
    have qf9 := HQ3.out.frozen 9
    have hsq : ¬ s = r + 1 := by omega
    have hqs : ¬ r + 1 = s := by omega
    go_wp2
    refine bodyPost_ret (v := .tuple #[.agg #[.int .i64 T, .int .i64 S, .int .i64 N, .int .i64 C, .int .i64 R, .int .i64 F, .int .u64 K, .int .i64 (8 + T * S), .int .i64 (8 + T * S + (N * F + N * 4)), .int .i64 (8 + T * S + (N * F + N * 4) + C)], .int .i64 0]) ?_ rfl ⟨rfl, ?_⟩
    · have hE := (((((((((((HQ3.out.other (a := ⟨s, 9, none⟩) hqs (.int .i64 (8 + T * S + (N * F + N * 4) + C))).set 0 (.int .i64 T)).set 1 (.int .i64 S)).set 2 (.int .i64 N)).set 3 (.int .i64 C)).set 4 (.int .i64 R)).set 5 (.int .i64 F)).set 6 (.int .u64 K)).set 7 (.int .i64 (8 + T * S))).set 8 (.int .i64 (8 + T * S + (N * F + N * 4)))).set 9 (.int .i64 (8 + T * S + (N * F + N * 4) + C)))
      clear y0 y1 y2 y3 y4 y5 y6 y7 y8 y9 yf9
      clear q0 q1 q2 q3 q4 q5 q6 q7 q8 q9 qf0 qf1 qf2 qf3 qf4 qf5 qf6 qf7 qf8 qf9
      have q0 := hE.cell (i := 0) rfl
      have q1 := hE.cell (i := 1) rfl
      have q2 := hE.cell (i := 2) rfl
      have q3 := hE.cell (i := 3) rfl
      have q4 := hE.cell (i := 4) rfl
      have q5 := hE.cell (i := 5) rfl
      have q6 := hE.cell (i := 6) rfl
      have q7 := hE.cell (i := 7) rfl
      have q8 := hE.cell (i := 8) rfl
      have q9 := hE.cell (i := 9) rfl
      clear hE HK3 HN3 HQ3 x3
      simp [results, Try.results32, go_sem, q0, q1, q2, q3, q4, q5, q6, q7, q8, q9]
    · have hb1 : w.heap.size ≤ s := by have := HRR.out; omega
      have hb2 : w.heap.size ≤ r + 1 := by have := HRR.out; omega
      exact ((((((((((HK3.out.setNew hb1 _ _).setNew hb2 _ _).setNew hb2 _ _).setNew hb2 _ _).setNew hb2 _ _).setNew hb2 _ _).setNew hb2 _ _).setNew hb2 _ _).setNew hb2 _ _).setNew hb2 _ _).setNew hb2 _ _

/-- The cells of an empty database: three are not zero. -/
def startCells (T S N C R F : Int) : List Cel := putAt (putAt (putAt (List.replicate (allCells T S N C R F).toNat cel0) 0 (1, ⟨#[]⟩, 0)) 4 (1, ⟨#[]⟩, 0)) (nodeAt N F (firstNode T S) 1 2) (0, ⟨#[]⟩, 1)

def StartOk (T S N C R F K : Int) (w : World) (e : Ending) (w' : World) : Prop :=
  ∃ b g : Nat, e = .returned (.tuple #[.agg #[.int .i64 T, .int .i64 S, .int .i64 N, .int .i64 C, .int .i64 R, .int .i64 F, .int .u64 K, .int .i64 (firstNode T S), .int .i64 (firstChain T S N F), .int .i64 (firstRecord T S N C F)], .pointer (some ⟨b, 0, none⟩), .int .i64 0]) ∧ Mem w' b g (startCells T S N C R F) 0 ∧ w.heap.size ≤ b ∧ w.heap.size ≤ g ∧ Kept (fun _ => False) w w'

theorem allCells_bd {T S N C R F : Int} (hl : Lim T S N C R F) : 1 ≤ allCells T S N C R F ∧ allCells T S N C R F ≤ 1048576 := by
  have := hl.reach; have a1 := this.d1; have := hl.nf; have := hl.ts; have := hl.n1; have := hl.n2; have := hl.c1; have := hl.c2; have := hl.r1; have := hl.r2
  unfold allCells firstRecord firstChain firstNode at *; omega

theorem Mem.farq {w : World} {b g : Nat} {l : List Cel} {k : Nat} (h : Mem w b g l k) {q : Nat} (hq : ¬ Own b g q) (i : Nat) (v : Value) : Mem (w.setCell ⟨q, i, none⟩ v) b g l k := by
  have h1 : b ≠ q := fun e => hq (.inl e.symm)
  have h2 : g ≠ q := fun e => hq (.inr e.symm)
  exact ⟨h.obj.other h1 _, h.row.other h2 _, h.ne⟩

set_option maxHeartbeats 2000000 in
theorem start_yes (T S N C R F K : Int) (hl : Lim T S N C R F) (hk1 : 1 ≤ K) (hk2 : K ≤ 1099511627776) (w : World) :
    Calls Try.prog 18 #[.agg #[.int .i64 T, .int .i64 S, .int .i64 N, .int .i64 C, .int .i64 R, .int .i64 F, .int .u64 K]] w (StartOk T S N C R F K w) := by
  go_enter Try.func18, Try.ntmps18
  go_wp2_with fail
  refine (new_yes T S N C R F K hl hk1 hk2 _).mono ?_; rintro e w1 ⟨rfl, hK1⟩
  have hQ : Blk w1 (w.heap.size + 1) 29 [.int .i64 0, .int .i64 0, .int .i64 0, .int .i64 0, .int .i64 0, .int .i64 0, .int .u64 0, .int .i64 0, .int .i64 0, .int .i64 0] := hK1.blk (by have := Blk.new (w.alloc (.cells #[.int .i64 T, .int .i64 S, .int .i64 N, .int .i64 C, .int .i64 R, .int .i64 F, .int .u64 K] 25)) [.int .i64 0, .int .i64 0, .int .i64 0, .int .i64 0, .int .i64 0, .int .i64 0, .int .u64 0, .int .i64 0, .int .i64 0, .int .i64 0] 29; rwa [nblk_alloc] at this) id
  have HK := Lib.hid (((Kept.refl (fun _ => False) w).alloc _).alloc _ |>.trans hK1 (fun _ _ h => h))
  have hz := hK1.size
  simp only [World.size_alloc] at hz
  have hz1 : w.heap.size + 1 < w1.heap.size := by omega
  clear hK1
  have hrc := hl.reach
  obtain ⟨fa, hfa⟩ : ∃ x, x = firstNode T S := ⟨_, rfl⟩
  obtain ⟨fb, hfb⟩ : ∃ x, x = firstChain T S N F := ⟨_, rfl⟩
  obtain ⟨fd, hfd⟩ : ∃ x, x = firstRecord T S N C F := ⟨_, rfl⟩
  rw [← hfa, ← hfb, ← hfd] at hrc
  have ⟨ac1, ac2⟩ := allCells_bd hl
  have hac : fd + R * 3 = ((allCells T S N C R F).toNat : Int) := by rw [hfd, Int.toNat_of_nonneg (by omega)]; rfl
  obtain ⟨M, hM⟩ : ∃ M : Nat, M = (allCells T S N C R F).toNat := ⟨_, rfl⟩
  rw [← hM] at hac
  have hM1 : 1 ≤ M := by omega
  have hM2 : M ≤ 1048576 := by omega
  rw [← hfa, ← hfb, ← hfd]
  have HFA := Lib.hid hfa
  have HFB := Lib.hid hfb
  have HFD := Lib.hid hfd
  have HM0 := Lib.hid hM
  have HAC := Lib.hid hac
  clear hfa hfb hfd hM hac ac1 ac2
  have HQ := Lib.hid hQ
  clear hQ
  go_wp2_with fail
  replace HQ := Lib.hid (HQ.out.alloc (.cells #[.int .i64 T, .int .i64 S, .int .i64 N, .int .i64 C, .int .i64 R, .int .i64 F, .int .u64 K, .int .i64 fa, .int .i64 fb, .int .i64 fd] 29))
  have HL := Lib.hid (Blk.new w1 [.int .i64 T, .int .i64 S, .int .i64 N, .int .i64 C, .int .i64 R, .int .i64 F, .int .u64 K, .int .i64 fa, .int .i64 fb, .int .i64 fd] 29)
  replace HK := Lib.hid (HK.out.alloc (.cells #[.int .i64 T, .int .i64 S, .int .i64 N, .int .i64 C, .int .i64 R, .int .i64 F, .int .u64 K, .int .i64 fa, .int .i64 fb, .int .i64 fd] 29))
  generalize w1.alloc (.cells #[.int .i64 T, .int .i64 S, .int .i64 N, .int .i64 C, .int .i64 R, .int .i64 F, .int .u64 K, .int .i64 fa, .int .i64 fb, .int .i64 fd] 29) = W1 at *
  generalize hss : w1.heap.size = s at *
  have HSS := Lib.hid hss
  clear hss
  generalize hqq : w.heap.size + 1 = q at *
  have HQQ := Lib.hid hqq
  clear hqq
  refine (cells_of T S N C R F K fa fb fd hl hrc _).mono ?_; rintro e w2 ⟨rfl, hk2⟩
  have hB : Blk w2 s 29 [.int .i64 T, .int .i64 S, .int .i64 N, .int .i64 C, .int .i64 R, .int .i64 F, .int .u64 K, .int .i64 fa, .int .i64 fb, .int .i64 fd] := hk2.blk HL.out id
  have hB2 : Blk w2 q 29 [.int .i64 0, .int .i64 0, .int .i64 0, .int .i64 0, .int .i64 0, .int .i64 0, .int .u64 0, .int .i64 0, .int .i64 0, .int .i64 0] := hk2.blk HQ.out id
  replace HL := Lib.hid hB
  replace HQ := Lib.hid hB2
  clear hB hB2
  replace HK : Hid (Kept (fun _ => False) w w2) := Lib.hid (HK.out.trans hk2 (fun _ _ h => h))
  clear hk2
  go_wp2_with fail
  refine (new_of (fd + R * 3) M _ HAC.out hM1 hM2).mono ?_; rintro e w3 ⟨rfl, hm, hk3⟩
  have hl2 := HL.out.lt
  have hq2 := HQ.out.lt
  have hw2 := HK.out.size
  have hB : Blk w3 s 29 [.int .i64 T, .int .i64 S, .int .i64 N, .int .i64 C, .int .i64 R, .int .i64 F, .int .u64 K, .int .i64 fa, .int .i64 fb, .int .i64 fd] := hk3.blk HL.out id
  have hB2 : Blk w3 q 29 [.int .i64 0, .int .i64 0, .int .i64 0, .int .i64 0, .int .i64 0, .int .i64 0, .int .u64 0, .int .i64 0, .int .i64 0, .int .i64 0] := hk3.blk HQ.out id
  replace HL := Lib.hid hB
  replace HQ := Lib.hid hB2
  clear hB hB2
  replace HK : Hid (Kept (fun _ => False) w w3) := Lib.hid (HK.out.trans hk3 (fun _ _ h => h))
  clear hk3
  generalize hbb : w2.heap.size + 1 = b at *
  have hgb : w2.heap.size < b := by omega
  generalize w2.heap.size = g at *
  clear hbb
  have HNS : Hid (¬ Own b g s) := Lib.hid (by unfold Own; omega)
  have HNQ : Hid (¬ Own b g q) := Lib.hid (by unfold Own; omega)
  have HNW : Hid (∀ i, i < w.heap.size → Own b g i → False) := Lib.hid (by intro i h1 h2; unfold Own at h2; omega)
  have HBG : Hid (w.heap.size ≤ b ∧ w.heap.size ≤ g) := Lib.hid (by omega)
  have HM := Lib.hid hm
  clear hm hl2 hq2 hw2 hgb
  have x0 := HL.out.cell (i := 0) rfl
  have x1 := HL.out.cell (i := 1) rfl
  have x2 := HL.out.cell (i := 2) rfl
  have x3 := HL.out.cell (i := 3) rfl
  have x4 := HL.out.cell (i := 4) rfl
  have x5 := HL.out.cell (i := 5) rfl
  have x6 := HL.out.cell (i := 6) rfl
  have x7 := HL.out.cell (i := 7) rfl
  have x8 := HL.out.cell (i := 8) rfl
  have x9 := HL.out.cell (i := 9) rfl
  go_wp2_with fail
  refine (root_any T S N C R F K fa fb fd _).mono ?_; rintro e w4 ⟨rfl, hk⟩
  have hB : Blk w4 s 29 [.int .i64 T, .int .i64 S, .int .i64 N, .int .i64 C, .int .i64 R, .int .i64 F, .int .u64 K, .int .i64 fa, .int .i64 fb, .int .i64 fd] := hk.blk HL.out id
  have hB2 : Blk w4 q 29 [.int .i64 0, .int .i64 0, .int .i64 0, .int .i64 0, .int .i64 0, .int .i64 0, .int .u64 0, .int .i64 0, .int .i64 0, .int .i64 0] := hk.blk HQ.out id
  replace HL := Lib.hid hB
  replace HQ := Lib.hid hB2
  clear hB hB2
  replace HK : Hid (Kept (fun _ => False) w w4) := Lib.hid (HK.out.trans hk (fun _ _ h => h))
  replace HM := Lib.hid (HM.out.kept hk id id)
  clear hk
  clear x0 x1 x2 x3 x4 x5 x6 x7 x8 x9
  go_wp2_with fail
  refine (poke_any b g _ 0 0 1 0 ⟨#[]⟩ _ HM.out).mono ?_; rintro e w5 ⟨rfl, hm, hk⟩
  have hB : Blk w5 s 29 [.int .i64 T, .int .i64 S, .int .i64 N, .int .i64 C, .int .i64 R, .int .i64 F, .int .u64 K, .int .i64 fa, .int .i64 fb, .int .i64 fd] := hk.blk HL.out HNS.out
  have hB2 : Blk w5 q 29 [.int .i64 0, .int .i64 0, .int .i64 0, .int .i64 0, .int .i64 0, .int .i64 0, .int .u64 0, .int .i64 0, .int .i64 0, .int .i64 0] := hk.blk HQ.out HNQ.out
  replace HL := Lib.hid hB
  replace HQ := Lib.hid hB2
  clear hB hB2
  replace HK : Hid (Kept (fun _ => False) w w5) := Lib.hid (HK.out.trans hk HNW.out)
  replace HM := Lib.hid hm
  clear hk hm
  have x0 := HL.out.cell (i := 0) rfl
  have x1 := HL.out.cell (i := 1) rfl
  have x2 := HL.out.cell (i := 2) rfl
  have x3 := HL.out.cell (i := 3) rfl
  have x4 := HL.out.cell (i := 4) rfl
  have x5 := HL.out.cell (i := 5) rfl
  have x6 := HL.out.cell (i := 6) rfl
  have x7 := HL.out.cell (i := 7) rfl
  have x8 := HL.out.cell (i := 8) rfl
  have x9 := HL.out.cell (i := 9) rfl
  go_wp2_with fail
  refine (nodes_any T S N C R F K fa fb fd _).mono ?_; rintro e w6 ⟨rfl, hk⟩
  have hB : Blk w6 s 29 [.int .i64 T, .int .i64 S, .int .i64 N, .int .i64 C, .int .i64 R, .int .i64 F, .int .u64 K, .int .i64 fa, .int .i64 fb, .int .i64 fd] := hk.blk HL.out id
  have hB2 : Blk w6 q 29 [.int .i64 0, .int .i64 0, .int .i64 0, .int .i64 0, .int .i64 0, .int .i64 0, .int .u64 0, .int .i64 0, .int .i64 0, .int .i64 0] := hk.blk HQ.out id
  replace HL := Lib.hid hB
  replace HQ := Lib.hid hB2
  clear hB hB2
  replace HK : Hid (Kept (fun _ => False) w w6) := Lib.hid (HK.out.trans hk (fun _ _ h => h))
  replace HM := Lib.hid (HM.out.kept hk id id)
  clear hk
  clear x0 x1 x2 x3 x4 x5 x6 x7 x8 x9
  go_wp2_with fail
  refine (poke_any b g _ 0 4 1 0 ⟨#[]⟩ _ HM.out).mono ?_; rintro e w7 ⟨rfl, hm, hk⟩
  have hB : Blk w7 s 29 [.int .i64 T, .int .i64 S, .int .i64 N, .int .i64 C, .int .i64 R, .int .i64 F, .int .u64 K, .int .i64 fa, .int .i64 fb, .int .i64 fd] := hk.blk HL.out HNS.out
  have hB2 : Blk w7 q 29 [.int .i64 0, .int .i64 0, .int .i64 0, .int .i64 0, .int .i64 0, .int .i64 0, .int .u64 0, .int .i64 0, .int .i64 0, .int .i64 0] := hk.blk HQ.out HNQ.out
  replace HL := Lib.hid hB
  replace HQ := Lib.hid hB2
  clear hB hB2
  replace HK : Hid (Kept (fun _ => False) w w7) := Lib.hid (HK.out.trans hk HNW.out)
  replace HM := Lib.hid hm
  clear hk hm
  have x0 := HL.out.cell (i := 0) rfl
  have x1 := HL.out.cell (i := 1) rfl
  have x2 := HL.out.cell (i := 2) rfl
  have x3 := HL.out.cell (i := 3) rfl
  have x4 := HL.out.cell (i := 4) rfl
  have x5 := HL.out.cell (i := 5) rfl
  have x6 := HL.out.cell (i := 6) rfl
  have x7 := HL.out.cell (i := 7) rfl
  have x8 := HL.out.cell (i := 8) rfl
  have x9 := HL.out.cell (i := 9) rfl
  go_wp2_with fail
  refine (high_any T S N C R F K fa fb fd 1 hl hrc _).mono ?_; rintro e w8 ⟨rfl, hk⟩
  have hB : Blk w8 s 29 [.int .i64 T, .int .i64 S, .int .i64 N, .int .i64 C, .int .i64 R, .int .i64 F, .int .u64 K, .int .i64 fa, .int .i64 fb, .int .i64 fd] := hk.blk HL.out id
  have hB2 : Blk w8 q 29 [.int .i64 0, .int .i64 0, .int .i64 0, .int .i64 0, .int .i64 0, .int .i64 0, .int .u64 0, .int .i64 0, .int .i64 0, .int .i64 0] := hk.blk HQ.out id
  replace HL := Lib.hid hB
  replace HQ := Lib.hid hB2
  clear hB hB2
  replace HK : Hid (Kept (fun _ => False) w w8) := Lib.hid (HK.out.trans hk (fun _ _ h => h))
  replace HM := Lib.hid (HM.out.kept hk id id)
  clear hk
  clear x0 x1 x2 x3 x4 x5 x6 x7 x8 x9
  go_wp2_with fail
  refine (poke_any b g _ 0 (nodeAt N F fa 1 2) 0 1 ⟨#[]⟩ _ HM.out).mono ?_; rintro e w9 ⟨rfl, hm, hk⟩
  have hB : Blk w9 s 29 [.int .i64 T, .int .i64 S, .int .i64 N, .int .i64 C, .int .i64 R, .int .i64 F, .int .u64 K, .int .i64 fa, .int .i64 fb, .int .i64 fd] := hk.blk HL.out HNS.out
  have hB2 : Blk w9 q 29 [.int .i64 0, .int .i64 0, .int .i64 0, .int .i64 0, .int .i64 0, .int .i64 0, .int .u64 0, .int .i64 0, .int .i64 0, .int .i64 0] := hk.blk HQ.out HNQ.out
  replace HL := Lib.hid hB
  replace HQ := Lib.hid hB2
  clear hB hB2
  replace HK : Hid (Kept (fun _ => False) w w9) := Lib.hid (HK.out.trans hk HNW.out)
  replace HM := Lib.hid hm
  clear hk hm
  have x0 := HL.out.cell (i := 0) rfl
  have x1 := HL.out.cell (i := 1) rfl
  have x2 := HL.out.cell (i := 2) rfl
  have x3 := HL.out.cell (i := 3) rfl
  have x4 := HL.out.cell (i := 4) rfl
  have x5 := HL.out.cell (i := 5) rfl
  have x6 := HL.out.cell (i := 6) rfl
  have x7 := HL.out.cell (i := 7) rfl
  have x8 := HL.out.cell (i := 8) rfl
  have x9 := HL.out.cell (i := 9) rfl
  have q0 := HQ.out.cell (i := 0) rfl
  have q1 := HQ.out.cell (i := 1) rfl
  have q2 := HQ.out.cell (i := 2) rfl
  have q3 := HQ.out.cell (i := 3) rfl
  have q4 := HQ.out.cell (i := 4) rfl
  have q5 := HQ.out.cell (i := 5) rfl
  have q6 := HQ.out.cell (i := 6) rfl
  have q7 := HQ.out.cell (i := 7) rfl
  have q8 := HQ.out.cell (i := 8) rfl
  have q9 := HQ.out.cell (i := 9) rfl
  have qf0 := HQ.out.frozen 0
  have qf1 := HQ.out.frozen 1
  have qf2 := HQ.out.frozen 2
  have qf3 := HQ.out.frozen 3
  have qf4 := HQ.out.frozen 4
  have qf5 := HQ.out.frozen 5
  have qf6 := HQ.out.frozen 6
  have qf7 := HQ.out.frozen 7
  have qf8 := HQ.out.frozen 8
  have qf9 := HQ.out.frozen 9
  go_wp2
  refine bodyPost_ret (v := .tuple #[.agg #[.int .i64 T, .int .i64 S, .int .i64 N, .int .i64 C, .int .i64 R, .int .i64 F, .int .u64 K, .int .i64 fa, .int .i64 fb, .int .i64 fd], .pointer (some ⟨b, 0, none⟩), .int .i64 0]) ?_ rfl ?_
  · have hE := ((((((((((HQ.out.set 0 (.int .i64 T)).set 1 (.int .i64 S)).set 2 (.int .i64 N)).set 3 (.int .i64 C)).set 4 (.int .i64 R)).set 5 (.int .i64 F)).set 6 (.int .u64 K)).set 7 (.int .i64 fa)).set 8 (.int .i64 fb)).set 9 (.int .i64 fd))
    clear q0 q1 q2 q3 q4 q5 q6 q7 q8 q9 qf0 qf1 qf2 qf3 qf4 qf5 qf6 qf7 qf8 qf9
    clear x0 x1 x2 x3 x4 x5 x6 x7 x8 x9
    have q0 := hE.cell (i := 0) rfl
    have q1 := hE.cell (i := 1) rfl
    have q2 := hE.cell (i := 2) rfl
    have q3 := hE.cell (i := 3) rfl
    have q4 := hE.cell (i := 4) rfl
    have q5 := hE.cell (i := 5) rfl
    have q6 := hE.cell (i := 6) rfl
    have q7 := hE.cell (i := 7) rfl
    have q8 := hE.cell (i := 8) rfl
    have q9 := hE.cell (i := 9) rfl
    clear hE HQ HK HM HL
    simp [results, Try.results18, go_sem, q0, q1, q2, q3, q4, q5, q6, q7, q8, q9]
  · have hb : w.heap.size ≤ q := by have := HQQ.out; omega
    refine ⟨b, g, ?_, ?_, HBG.out.1, HBG.out.2, ?_⟩
    · rw [← HFA.out, ← HFB.out, ← HFD.out]
    · unfold startCells
      rw [← HM0.out, ← HFA.out]
      exact (((((((((HM.out.farq HNQ.out _ _).farq HNQ.out _ _).farq HNQ.out _ _).farq HNQ.out _ _).farq HNQ.out _ _).farq HNQ.out _ _).farq HNQ.out _ _).farq HNQ.out _ _).farq HNQ.out _ _).farq HNQ.out _ _
    · exact (((((((((HK.out.setNew hb _ _).setNew hb _ _).setNew hb _ _).setNew hb _ _).setNew hb _ _).setNew hb _ _).setNew hb _ _).setNew hb _ _).setNew hb _ _).setNew hb _ _

end Go.Proofs.Ytddjggckmmdicaa
