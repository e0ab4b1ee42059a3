/-
  What Start of package layout answers: for a configuration that is not valid ErrInvalid, and otherwise the layout and a memory of which three cells are not zero. Condition: none.
-/
import Derived.Test.YtfbfhlolnooipaaLayAwake
namespace Go.Proofs.Ytfbfhlolnooipaa
open Go.RowKit Go.Deep
set_option linter.unusedVariables false

set_option maxHeartbeats 1000000 in
theorem start_no (T S N C R F K : Int) (hng : ¬ Good T S N C R F K) (h0 : 0 ≤ K) (w : World) :
    Calls Try.prog 13 #[.agg #[.int .i64 T, .int .i64 S, .int .i64 N, .int .i64 C, .int .i64 R, .int .i64 F, .int .u64 K]] w fun e w' => e = .returned (.tuple #[.agg #[.int .i64 0, .int .i64 0, .int .i64 0, .int .i64 0, .int .i64 0, .int .i64 0, .int .u64 0, .int .i64 0, .int .i64 0, .int .i64 0], .pointer none, .int .i64 1]) ∧ Kept (fun _ => False) w w' := by
  go_enter Try.func13, Try.ntmps13
  go_wp2_with fail
  refine (new_no T S N C R F K hng h0 _).mono ?_; rintro e w1 ⟨rfl, hK1⟩
  have hQ : Blk w1 (w.heap.size + 1) 27 [.int .i64 0, .int .i64 0, .int .i64 0, .int .i64 0, .int .i64 0, .int .i64 0, .int .u64 0, .int .i64 0, .int .i64 0, .int .i64 0] := hK1.blk (by have := Blk.new (w.alloc (.cells #[.int .i64 T, .int .i64 S, .int .i64 N, .int .i64 C, .int .i64 R, .int .i64 F, .int .u64 K] 24)) [.int .i64 0, .int .i64 0, .int .i64 0, .int .i64 0, .int .i64 0, .int .i64 0, .int .u64 0, .int .i64 0, .int .i64 0, .int .i64 0] 27; rwa [nblk_alloc] at this) id
  have HK := Lib.hid (((Kept.refl (fun _ => False) w).alloc _).alloc _ |>.trans hK1 (fun _ _ h => h))
  have hz := hK1.size
  simp only [World.size_alloc] at hz
  have hz1 : w.heap.size + 1 < w1.heap.size := by omega
  clear hK1
  have HQ := Lib.hid hQ
  clear hQ
  have q0 := HQ.out.cell (i := 0) rfl
  have q1 := HQ.out.cell (i := 1) rfl
  have q2 := HQ.out.cell (i := 2) rfl
  have q3 := HQ.out.cell (i := 3) rfl
  have q4 := HQ.out.cell (i := 4) rfl
  have q5 := HQ.out.cell (i := 5) rfl
  have q6 := HQ.out.cell (i := 6) rfl
  have q7 := HQ.out.cell (i := 7) rfl
  have q8 := HQ.out.cell (i := 8) rfl
  have q9 := HQ.out.cell (i := 9) rfl
  have qf0 := HQ.out.frozen 0
  have qf1 := HQ.out.frozen 1
  have qf2 := HQ.out.frozen 2
  have qf3 := HQ.out.frozen 3
  have qf4 := HQ.out.frozen 4
  have qf5 := HQ.out.frozen 5
  have qf6 := HQ.out.frozen 6
  have qf7 := HQ.out.frozen 7
  have qf8 := HQ.out.frozen 8
  have qf9 := HQ.out.frozen 9
  go_wp2
  refine bodyPost_ret (v := .tuple #[.agg #[.int .i64 0, .int .i64 0, .int .i64 0, .int .i64 0, .int .i64 0, .int .i64 0, .int .u64 0, .int .i64 0, .int .i64 0, .int .i64 0], .pointer none, .int .i64 1]) ?_ rfl ⟨rfl, ?_⟩
  · have hE := (((((((((((HQ.out.set 0 (.int .i64 0)).set 1 (.int .i64 0)).set 2 (.int .i64 0)).set 3 (.int .i64 0)).set 4 (.int .i64 0)).set 5 (.int .i64 0)).set 6 (.int .u64 0)).set 7 (.int .i64 0)).set 8 (.int .i64 0)).set 9 (.int .i64 0))).alloc (.cells #[.int .i64 0, .int .i64 0, .int .i64 0, .int .i64 0, .int .i64 0, .int .i64 0, .int .u64 0, .int .i64 0, .int .i64 0, .int .i64 0] 27)
    clear q0 q1 q2 q3 q4 q5 q6 q7 q8 q9 qf0 qf1 qf2 qf3 qf4 qf5 qf6 qf7 qf8 qf9
    have q0 := hE.cell (i := 0) rfl
    have q1 := hE.cell (i := 1) rfl
    have q2 := hE.cell (i := 2) rfl
    have q3 := hE.cell (i := 3) rfl
    have q4 := hE.cell (i := 4) rfl
    have q5 := hE.cell (i := 5) rfl
    have q6 := hE.cell (i := 6) rfl
    have q7 := hE.cell (i := 7) rfl
    have q8 := hE.cell (i := 8) rfl
    have q9 := hE.cell (i := 9) rfl
    clear hE HQ HK
    simp [results, Try.results13, go_sem, q0, q1, q2, q3, q4, q5, q6, q7, q8, q9]
  · have hb : w.heap.size ≤ w.heap.size + 1 := Nat.le_succ _
    exact ((((((((((HK.out.setNew hb _ _).setNew hb _ _).setNew hb _ _).setNew hb _ _).setNew hb _ _).setNew hb _ _).setNew hb _ _).setNew hb _ _).setNew hb _ _).setNew hb _ _).alloc _

/-- The cells of an empty database: three are not zero. -/
def startCells (T S N C R F : Int) : List Cel := putAt (putAt (putAt (List.replicate (allCells T S N C R F).toNat cel0) 0 (1, ⟨#[]⟩, 0)) 4 (1, ⟨#[]⟩, 0)) (nodeAt N F (firstNode T S) 1 2) (0, ⟨#[]⟩, 1)
def StartOk (T S N C R F K : Int) (w : World) (e : Ending) (w' : World) : Prop :=
  ∃ b g : Nat, e = .returned (.tuple #[.agg #[.int .i64 T, .int .i64 S, .int .i64 N, .int .i64 C, .int .i64 R, .int .i64 F, .int .u64 K, .int .i64 (firstNode T S), .int .i64 (firstChain T S N F), .int .i64 (firstRecord T S N C F)], .pointer (some ⟨b, 0, none⟩), .int .i64 0]) ∧ Mem w' b g (startCells T S N C R F) 0 ∧ w.heap.size ≤ b ∧ w.heap.size ≤ g ∧ Kept (fun _ => False) w w'
theorem allCells_bd {T S N C R F : Int} (hl : Lim T S N C R F) : 1 ≤ allCells T S N C R F ∧ allCells T S N C R F ≤ 1048576 := by
  have := hl.reach; have a1 := this.d1; have := hl.nf; have := hl.ts; have := hl.n1; have := hl.n2; have := hl.c1; have := hl.c2; have := hl.r1; have := hl.r2
  unfold allCells firstRecord firstChain firstNode at *; omega
theorem Mem.farq {w : World} {b g : Nat} {l : List Cel} {k : Nat} (h : Mem w b g l k) {q : Nat} (hq : ¬ Own b g q) (i : Nat) (v : Value) : Mem (w.setCell ⟨q, i, none⟩ v) b g l k := by
  have h1 : b ≠ q := fun e => hq (.inl e.symm)
  have h2 : g ≠ q := fun e => hq (.inr e.symm)
  exact ⟨h.obj.other h1 _, h.row.other h2 _, h.ne⟩
set_option maxHeartbeats 2000000 in
theorem start_yes (T S N C R F K : Int) (hl : Lim T S N C R F) (hk1 : 1 ≤ K) (hk2 : K ≤ 1099511627776) (w : World) :
    Calls Try.prog 13 #[.agg #[.int .i64 T, .int .i64 S, .int .i64 N, .int .i64 C, .int .i64 R, .int .i64 F, .int .u64 K]] w (StartOk T S N C R F K w) := by
  go_enter Try.func13, Try.ntmps13
  go_wp2_with fail
  refine (new_yes T S N C R F K hl hk1 hk2 _).mono ?_; rintro e w1 ⟨rfl, hK1⟩
  have hQ : Blk w1 (w.heap.size + 1) 27 [.int .i64 0, .int .i64 0, .int .i64 0, .int .i64 0, .int .i64 0, .int .i64 0, .int .u64 0, .int .i64 0, .int .i64 0, .int .i64 0] := hK1.blk (by have := Blk.new (w.alloc (.cells #[.int .i64 T, .int .i64 S, .int .i64 N, .int .i64 C, .int .i64 R, .int .i64 F, .int .u64 K] 24)) [.int .i64 0, .int .i64 0, .int .i64 0, .int .i64 0, .int .i64 0, .int .i64 0, .int .u64 0, .int .i64 0, .int .i64 0, .int .i64 0] 27; rwa [nblk_alloc] at this) id
  have HK := Lib.hid (((Kept.refl (fun _ => False) w).alloc _).alloc _ |>.trans hK1 (fun _ _ h => h))
  have hz := hK1.size
  simp only [World.size_alloc] at hz
  have hz1 : w.heap.size + 1 < w1.heap.size := by omega
  clear hK1
  have hrc := hl.reach
  obtain ⟨fa, hfa⟩ : ∃ x, x = firstNode T S := ⟨_, rfl⟩
  obtain ⟨fb, hfb⟩ : ∃ x, x = firstChain T S N F := ⟨_, rfl⟩
  obtain ⟨fd, hfd⟩ : ∃ x, x = firstRecord T S N C F := ⟨_, rfl⟩
  rw [← hfa, ← hfb, ← hfd] at hrc
  have ⟨ac1, ac2⟩ := allCells_bd hl
  have hac : fd + R * 3 = ((allCells T S N C R F).toNat : Int) := by rw [hfd, Int.toNat_of_nonneg (by omega)]; rfl
  obtain ⟨M, hM⟩ : ∃ M : Nat, M = (allCells T S N C R F).toNat := ⟨_, rfl⟩
  rw [← hM] at hac
  have hM1 : 1 ≤ M := by omega
  have hM2 : M ≤ 1048576 := by omega
  rw [← hfa, ← hfb, ← hfd]
  have HFA := Lib.hid hfa
  have HFB := Lib.hid hfb
  have HFD := Lib.hid hfd
  have HM0 := Lib.hid hM
  have HAC := Lib.hid hac
  clear hfa hfb hfd hM hac ac1 ac2
  have HQ := Lib.hid hQ
  clear hQ
  go_wp2_with fail
  replace HQ := Lib.hid (HQ.out.alloc (.cells #[.int .i64 T, .int .i64 S, .int .i64 N, .int .i64 C, .int .i64 R, .int .i64 F, .int .u64 K, .int .i64 fa, .int .i64 fb, .int .i64 fd] 27))
  have HL := Lib.hid (Blk.new w1 [.int .i64 T, .int .i64 S, .int .i64 N, .int .i64 C, .int .i64 R, .int .i64 F, .int .u64 K, .int .i64 fa, .int .i64 fb, .int .i64 fd] 27)
  replace HK := Lib.hid (HK.out.alloc (.cells #[.int .i64 T, .int .i64 S, .int .i64 N, .int .i64 C, .int .i64 R, .int .i64 F, .int .u64 K, .int .i64 fa, .int .i64 fb, .int .i64 fd] 27))
  generalize w1.alloc (.cells #[.int .i64 T, .int .i64 S, .int .i64 N, .int .i64 C, .int .i64 R, .int .i64 F, .int .u64 K, .int .i64 fa, .int .i64 fb, .int .i64 fd] 27) = W1 at *
  generalize hss : w1.heap.size = s at *
  have HSS := Lib.hid hss
  clear hss
  generalize hqq : w.heap.size + 1 = q at *
  have HQQ := Lib.hid hqq
  clear hqq
  refine (cells_of T S N C R F K fa fb fd hl hrc _).mono ?_; rintro e w2 ⟨rfl, hk2⟩
  have hB : Blk w2 s 27 [.int .i64 T, .int .i64 S, .int .i64 N, .int .i64 C, .int .i64 R, .int .i64 F, .int .u64 K, .int .i64 fa, .int .i64 fb, .int .i64 fd] := hk2.blk HL.out id
  have hB2 : Blk w2 q 27 [.int .i64 0, .int .i64 0, .int .i64 0, .int .i64 0, .int .i64 0, .int .i64 0, .int .u64 0, .int .i64 0, .int .i64 0, .int .i64 0] := hk2.blk HQ.out id
  replace HL := Lib.hid hB
  replace HQ := Lib.hid hB2
  clear hB hB2
  replace HK : Hid (Kept (fun _ => False) w w2) := Lib.hid (HK.out.trans hk2 (fun _ _ h => h))
  clear hk2
  go_wp2_with fail
  refine (new_of (fd + R * 3) M _ HAC.out hM1 hM2).mono ?_; rintro e w3 ⟨rfl, hm, hk3⟩
  have hl2 := HL.out.lt
  have hq2 := HQ.out.lt
  have hw2 := HK.out.size
  have hB : Blk w3 s 27 [.int .i64 T, .int .i64 S, .int .i64 N, .int .i64 C, .int .i64 R, .int .i64 F, .int .u64 K, .int .i64 fa, .int .i64 fb, .int .i64 fd] := hk3.blk HL.out id
  have hB2 : Blk w3 q 27 [.int .i64 0, .int .i64 0, .int .i64 0, .int .i64 0, .int .i64 0, .int .i64 0, .int .u64 0, .int .i64 0, .int .i64 0, .int .i64 0] := hk3.blk HQ.out id
  replace HL := Lib.hid hB
  replace HQ := Lib.hid hB2
  clear hB hB2
  replace HK : Hid (Kept (fun _ => False) w w3) := Lib.hid (HK.out.trans hk3 (fun _ _ h => h))
  clear hk3
  generalize hbb : w2.heap.size + 1 = b at *
  have hgb : w2.heap.size < b := by omega
  generalize w2.heap.size = g at *
  clear hbb
  have HNS : Hid (¬ Own b g s) := Lib.hid (by unfold Own; omega)
  have HNQ : Hid (¬ Own b g q) := Lib.hid (by unfold Own; omega)
  have HNW : Hid (∀ i, i < w.heap.size → Own b g i → False) := Lib.hid (by intro i h1 h2; unfold Own at h2; omega)
  have HBG : Hid (w.heap.size ≤ b ∧ w.heap.size ≤ g) := Lib.hid (by omega)
  have HM := Lib.hid hm
  clear hm hl2 hq2 hw2 hgb
  have x0 := HL.out.cell (i := 0) rfl
  have x1 := HL.out.cell (i := 1) rfl
  have x2 := HL.out.cell (i := 2) rfl
  have x3 := HL.out.cell (i := 3) rfl
  have x4 := HL.out.cell (i := 4) rfl
  have x5 := HL.out.cell (i := 5) rfl
  have x6 := HL.out.cell (i := 6) rfl
  have x7 := HL.out.cell (i := 7) rfl
  have x8 := HL.out.cell (i := 8) rfl
  have x9 := HL.out.cell (i := 9) rfl
  go_wp2_with fail
  refine (root_any T S N C R F K fa fb fd _).mono ?_; rintro e w4 ⟨rfl, hk⟩
  have hB : Blk w4 s 27 [.int .i64 T, .int .i64 S, .int .i64 N, .int .i64 C, .int .i64 R, .int .i64 F, .int .u64 K, .int .i64 fa, .int .i64 fb, .int .i64 fd] := hk.blk HL.out id
  have hB2 : Blk w4 q 27 [.int .i64 0, .int .i64 0, .int .i64 0, .int .i64 0, .int .i64 0, .int .i64 0, .int .u64 0, .int .i64 0, .int .i64 0, .int .i64 0] := hk.blk HQ.out id
  replace HL := Lib.hid hB
  replace HQ := Lib.hid hB2
  clear hB hB2
  replace HK : Hid (Kept (fun _ => False) w w4) := Lib.hid (HK.out.trans hk (fun _ _ h => h))
  replace HM := Lib.hid (HM.out.kept hk id id)
  clear hk
  clear x0 x1 x2 x3 x4 x5 x6 x7 x8 x9
  go_wp2_with fail
  refine (poke_any b g _ 0 0 1 0 ⟨#[]⟩ _ HM.out).mono ?_; rintro e w5 ⟨rfl, hm, hk⟩
  have hB : Blk w5 s 27 [.int .i64 T, .int .i64 S, .int .i64 N, .int .i64 C, .int .i64 R, .int .i64 F, .int .u64 K, .int .i64 fa, .int .i64 fb, .int .i64 fd] := hk.blk HL.out HNS.out
  have hB2 : Blk w5 q 27 [.int .i64 0, .int .i64 0, .int .i64 0, .int .i64 0, .int .i64 0, .int .i64 0, .int .u64 0, .int .i64 0, .int .i64 0, .int .i64 0] := hk.blk HQ.out HNQ.out
  replace HL := Lib.hid hB
  replace HQ := Lib.hid hB2
  clear hB hB2
  replace HK : Hid (Kept (fun _ => False) w w5) := Lib.hid (HK.out.trans hk HNW.out)
  replace HM := Lib.hid hm
  clear hk hm
  have x0 := HL.out.cell (i := 0) rfl
  have x1 := HL.out.cell (i := 1) rfl
  have x2 := HL.out.cell (i := 2) rfl
  have x3 := HL.out.cell (i := 3) rfl
  have x4 := HL.out.cell (i := 4) rfl
  have x5 := HL.out.cell (i := 5) rfl
  have x6 := HL.out.cell (i := 6) rfl
  have x7 := HL.out.cell (i := 7) rfl
  have x8 := HL.out.cell (i := 8) rfl
  have x9 := HL.out.cell (i := 9) rfl
  go_wp2_with fail
  refine (nodes_any T S N C R F K fa fb fd _).mono ?_; rintro e w6 ⟨rfl, hk⟩
  have hB : Blk w6 s 27 [.int .i64 T, .int .i64 S, .int .i64 N, .int .i64 C, .int .i64 R, .int .i64 F, .int .u64 K, .int .i64 fa, .int .i64 fb, .int .i64 fd] := hk.blk HL.out id
  have hB2 : Blk w6 q 27 [.int .i64 0, .int .i64 0, .int .i64 0, .int .i64 0, .int .i64 0, .int .i64 0, .int .u64 0, .int .i64 0, .int .i64 0, .int .i64 0] := hk.blk HQ.out id
  replace HL := Lib.hid hB
  replace HQ := Lib.hid hB2
  clear hB hB2
  replace HK : Hid (Kept (fun _ => False) w w6) := Lib.hid (HK.out.trans hk (fun _ _ h => h))
  replace HM := Lib.hid (HM.out.kept hk id id)
  clear hk
  clear x0 x1 x2 x3 x4 x5 x6 x7 x8 x9
  go_wp2_with fail
  refine (poke_any b g _ 0 4 1 0 ⟨#[]⟩ _ HM.out).mono ?_; rintro e w7 ⟨rfl, hm, hk⟩
  have hB : Blk w7 s 27 [.int .i64 T, .int .i64 S, .int .i64 N, .int .i64 C, .int .i64 R, .int .i64 F, .int .u64 K, .int .i64 fa, .int .i64 fb, .int .i64 fd] := hk.blk HL.out HNS.out
  have hB2 : Blk w7 q 27 [.int .i64 0, .int .i64 0, .int .i64 0, .int .i64 0, .int .i64 0, .int .i64 0, .int .u64 0, .int .i64 0, .int .i64 0, .int .i64 0] := hk.blk HQ.out HNQ.out
  replace HL := Lib.hid hB
  replace HQ := Lib.hid hB2
  clear hB hB2
  replace HK : Hid (Kept (fun _ => False) w w7) := Lib.hid (HK.out.trans hk HNW.out)
  replace HM := Lib.hid hm
  clear hk hm
  have x0 := HL.out.cell (i := 0) rfl
  have x1 := HL.out.cell (i := 1) rfl
  have x2 := HL.out.cell (i := 2) rfl
  have x3 := HL.out.cell (i := 3) rfl
  have x4 := HL.out.cell (i := 4) rfl
  have x5 := HL.out.cell (i := 5) rfl
  have x6 := HL.out.cell (i := 6) rfl
  have x7 := HL.out.cell (i := 7) rfl
  have x8 := HL.out.cell (i := 8) rfl
  have x9 := HL.out.cell (i := 9) rfl
  go_wp2_with fail
  refine (high_any T S N C R F K fa fb fd 1 hl hrc _).mono ?_; rintro e w8 ⟨rfl, hk⟩
  have hB : Blk w8 s 27 [.int .i64 T, .int .i64 S, .int .i64 N, .int .i64 C, .int .i64 R, .int .i64 F, .int .u64 K, .int .i64 fa, .int .i64 fb, .int .i64 fd] := hk.blk HL.out id
  have hB2 : Blk w8 q 27 [.int .i64 0, .int .i64 0, .int .i64 0, .int .i64 0, .int .i64 0, .int .i64 0, .int .u64 0, .int .i64 0, .int .i64 0, .int .i64 0] := hk.blk HQ.out id
  replace HL := Lib.hid hB
  replace HQ := Lib.hid hB2
  clear hB hB2
  replace HK : Hid (Kept (fun _ => False) w w8) := Lib.hid (HK.out.trans hk (fun _ _ h => h))
  replace HM := Lib.hid (HM.out.kept hk id id)
  clear hk
  clear x0 x1 x2 x3 x4 x5 x6 x7 x8 x9
  go_wp2_with fail
  refine (poke_any b g _ 0 (nodeAt N F fa 1 2) 0 1 ⟨#[]⟩ _ HM.out).mono ?_; rintro e w9 ⟨rfl, hm, hk⟩
  have hB : Blk w9 s 27 [.int .i64 T, .int .i64 S, .int .i64 N, .int .i64 C, .int .i64 R, .int .i64 F, .int .u64 K, .int .i64 fa, .int .i64 fb, .int .i64 fd] := hk.blk HL.out HNS.out
  have hB2 : Blk w9 q 27 [.int .i64 0, .int .i64 0, .int .i64 0, .int .i64 0, .int .i64 0, .int .i64 0, .int .u64 0, .int .i64 0, .int .i64 0, .int .i64 0] := hk.blk HQ.out HNQ.out
  replace HL := Lib.hid hB
  replace HQ := Lib.hid hB2
  clear hB hB2
  replace HK : Hid (Kept (fun _ => False) w w9) := Lib.hid (HK.out.trans hk HNW.out)
  replace HM := Lib.hid hm
  clear hk hm
  have x0 := HL.out.cell (i := 0) rfl
  have x1 := HL.out.cell (i := 1) rfl
  have x2 := HL.out.cell (i := 2) rfl
  have x3 := HL.out.cell (i := 3) rfl
  have x4 := HL.out.cell (i := 4) rfl
  have x5 := HL.out.cell (i := 5) rfl
  have x6 := HL.out.cell (i := 6) rfl
  have x7 := HL.out.cell (i := 7) rfl
  have x8 := HL.out.cell (i := 8) rfl
  have x9 := HL.out.cell (i := 9) rfl
  have q0 := HQ.out.cell (i := 0) rfl
  have q1 := HQ.out.cell (i := 1) rfl
  have q2 := HQ.out.cell (i := 2) rfl
  have q3 := HQ.out.cell (i := 3) rfl
  have q4 := HQ.out.cell (i := 4) rfl
  have q5 := HQ.out.cell (i := 5) rfl
  have q6 := HQ.out.cell (i := 6) rfl
  have q7 := HQ.out.cell (i := 7) rfl
  have q8 := HQ.out.cell (i := 8) rfl
  have q9 := HQ.out.cell (i := 9) rfl
  have qf0 := HQ.out.frozen 0
  have qf1 := HQ.out.frozen 1
  have qf2 := HQ.out.frozen 2
  have qf3 := HQ.out.frozen 3
  have qf4 := HQ.out.frozen 4
  have qf5 := HQ.out.frozen 5
  have qf6 := HQ.out.frozen 6
  have qf7 := HQ.out.frozen 7
  have qf8 := HQ.out.frozen 8
  have qf9 := HQ.out.frozen 9
  go_wp2
  refine bodyPost_ret (v := .tuple #[.agg #[.int .i64 T, .int .i64 S, .int .i64 N, .int .i64 C, .int .i64 R, .int .i64 F, .int .u64 K, .int .i64 fa, .int .i64 fb, .int .i64 fd], .pointer (some ⟨b, 0, none⟩), .int .i64 0]) ?_ rfl ?_
  · have hE := ((((((((((HQ.out.set 0 (.int .i64 T)).set 1 (.int .i64 S)).set 2 (.int .i64 N)).set 3 (.int .i64 C)).set 4 (.int .i64 R)).set 5 (.int .i64 F)).set 6 (.int .u64 K)).set 7 (.int .i64 fa)).set 8 (.int .i64 fb)).set 9 (.int .i64 fd))
    clear q0 q1 q2 q3 q4 q5 q6 q7 q8 q9 qf0 qf1 qf2 qf3 qf4 qf5 qf6 qf7 qf8 qf9
    clear x0 x1 x2 x3 x4 x5 x6 x7 x8 x9
    have q0 := hE.cell (i := 0) rfl
    have q1 := hE.cell (i := 1) rfl
    have q2 := hE.cell (i := 2) rfl
    have q3 := hE.cell (i := 3) rfl
    have q4 := hE.cell (i := 4) rfl
    have q5 := hE.cell (i := 5) rfl
    have q6 := hE.cell (i := 6) rfl
    have q7 := hE.cell (i := 7) rfl
    have q8 := hE.cell (i := 8) rfl
    have q9 := hE.cell (i := 9) rfl
    clear hE HQ HK HM HL
    simp [results, Try.results13, go_sem, q0, q1, q2, q3, q4, q5, q6, q7, q8, q9]
  · have hb : w.heap.size ≤ q := by have := HQQ.out; omega
    refine ⟨b, g, ?_, ?_, HBG.out.1, HBG.out.2, ?_⟩
    · rw [← HFA.out, ← HFB.out, ← HFD.out]
    · unfold startCells
      rw [← HM0.out, ← HFA.out]
      exact (((((((((HM.out.farq HNQ.out _ _).farq HNQ.out _ _).farq HNQ.out _ _).farq HNQ.out _ _).farq HNQ.out _ _).farq HNQ.out _ _).farq HNQ.out _ _).farq HNQ.out _ _).farq HNQ.out _ _).farq HNQ.out _ _
    · exact (((((((((HK.out.setNew hb _ _).setNew hb _ _).setNew hb _ _).setNew hb _ _).setNew hb _ _).setNew hb _ _).setNew hb _ _).setNew hb _ _).setNew hb _ _).setNew hb _ _

end Go.Proofs.Ytfbfhlolnooipaa
