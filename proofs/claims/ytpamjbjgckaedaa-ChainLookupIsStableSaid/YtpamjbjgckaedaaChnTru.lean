/-
  What the machine Truncate of package chain does, a step at a time. Condition: a layout within its limits; fewer than 2^63 accesses so far.
-/
import Derived.Test.YtpamjbjgckaedaaChnSea
import Derived.Test.YtpamjbjgckaedaaChnCut
namespace Go.Proofs.Ytpamjbjgckaedaa
open Go.RowKit Go.Deep Plain
set_option linter.unusedVariables false

set_option maxHeartbeats 1000000 in
theorem newTruncate_any (T S N C R F K fa fb fd : Int) (c t : Nat) (w : World) :
    Calls Try.prog 12 #[.agg #[.int .i64 T, .int .i64 S, .int .i64 N, .int .i64 C, .int .i64 R, .int .i64 F, .int .u64 K, .int .i64 fa, .int .i64 fb, .int .i64 fd], .int .u64 (c : Int), .int .u64 (t : Int)] w fun e w' => ∃ q, e = .returned (.pointer (some ⟨q, 0, none⟩)) ∧ w.heap.size ≤ q ∧ Blk w' q 83 (srcv T S N C R F K fa fb fd c t 0 0 0 0 [.bool false, .int .i64 0]) ∧ Kept (fun _ => False) w w' := by
  go_enter Try.func12, Try.ntmps12
  go_wp2
  go_ret
  have h := Blk.new (w.alloc (.cells #[.int .i64 T, .int .i64 S, .int .i64 N, .int .i64 C, .int .i64 R, .int .i64 F, .int .u64 K, .int .i64 fa, .int .i64 fb, .int .i64 fd] 27)) (srcv T S N C R F K fa fb fd c t 0 0 0 0 [.bool false, .int .i64 0]) 83
  rw [nblk_alloc] at h
  exact ⟨_, rfl, Nat.le_succ _, h, ((Kept.refl _ _).alloc _).alloc _⟩

set_option maxHeartbeats 1000000 in
theorem onTop_any (T S N C R F K fa fb fd : Int) (q : Nat) (ty : TypeId) (c t nw rc st ph : Nat) (tl : List Value) (w : World) (h : Blk w q ty (srcv T S N C R F K fa fb fd c t nw rc st ph tl)) (f : Bool) (hf : (rc == nw) = f) :
    Calls Try.prog 64 #[.pointer (some ⟨q, 0, none⟩)] w fun e w' => e = .returned (.bool f) ∧ Kept (fun _ => False) w w' := by
  have h0 : ((rc : Int) == (nw : Int)) = f := by rw [← hf]; cases h : rc == nw <;> simp_all <;> omega
  have x12 := h.cell (i := 12) rfl
  have x13 := h.cell (i := 13) rfl
  clear h hf
  go_enter Try.func64, Try.ntmps64
  go_wp2_with fail
  go_quiet (fail)
  go_wp2
  go_ret
  exact ⟨rfl, (Kept.refl _ _).drewN _⟩

set_option maxHeartbeats 1000000 in
theorem empty_any (T S N C R F K fa fb fd : Int) (q : Nat) (ty : TypeId) (c t nw rc st ph : Nat) (tl : List Value) (w : World) (h : Blk w q ty (srcv T S N C R F K fa fb fd c t nw rc st ph tl)) (f : Bool) (hf : (nw == 0) = f) :
    Calls Try.prog 65 #[.pointer (some ⟨q, 0, none⟩)] w fun e w' => e = .returned (.bool f) ∧ w = w' := by
  have h0 : ((nw : Int) == 0) = f := by rw [← hf]; cases h : nw == 0 <;> simp_all <;> omega
  have x12 := h.cell (i := 12) rfl
  clear h hf
  go_enter Try.func65, Try.ntmps65
  go_wp2
  go_ret
  exact ⟨rfl, rfl⟩

set_option maxHeartbeats 2000000 in
theorem find_mid (T S N C R F K fa fb fd : Int) (q c t nw rc st ph p2 : Nat) (de : Bool) (w : World) (h : Blk w q 83 (srcv T S N C R F K fa fb fd c t nw rc st ph [.bool de, .int .i64 (p2 : Int)])) (b g : Nat) (l : List Cel) (k : Nat) (hqb : q ≠ b) (hqg : q ≠ g) (nw2 rc2 st2 ph2 : Nat) (hS : Calls Try.prog 55 #[.pointer (some ⟨q, 0, none⟩), .pointer (some ⟨b, 0, none⟩)] w fun e w' => e = .returned (.int .i64 (ph2 : Int)) ∧ Mem w' b g l (k + 1) ∧ Blk w' q 83 (srcv T S N C R F K fa fb fd c t nw2 rc2 st2 ph2 [.bool de, .int .i64 (p2 : Int)]) ∧ Kept (Own3 q b g) w w') (hp : ph2 < 3) :
    Calls Try.prog 37 #[.pointer (some ⟨q, 0, none⟩), .pointer (some ⟨b, 0, none⟩)] w fun e w' => e = .returned (.tuple #[]) ∧ Mem w' b g l (k + 1) ∧ Blk w' q 83 (srcv T S N C R F K fa fb fd c t nw2 rc2 st2 ph2 [.bool de, .int .i64 (p2 : Int)]) ∧ Kept (Own3 q b g) w w' := by
  have p3 : ((ph2 : Int) == 3) = false := by simp; omega
  have p4 : ((ph2 : Int) == 4) = false := by simp; omega
  have HB := Lib.hid h
  have HS := Lib.hid hS
  have hqo : ¬ Own b g q := by unfold Own; omega
  clear h hS
  go_enter Try.func37, Try.ntmps37
  go_wp2_with fail
  refine HS.out.mono ?_; rintro e w1 ⟨rfl, hM1, hQ1, hK1⟩
  have HM1 := Lib.hid hM1
  have HQ1 := Lib.hid hQ1
  have HK1 := Lib.hid hK1
  clear hM1 hQ1 hK1 HS HB
  go_wp2
  go_end0
  exact ⟨rfl, HM1.out, HQ1.out, HK1.out⟩

set_option maxHeartbeats 2000000 in
theorem find_top (T S N C R F K fa fb fd : Int) (q c t nw rc st ph p2 : Nat) (de : Bool) (w : World) (h : Blk w q 83 (srcv T S N C R F K fa fb fd c t nw rc st ph [.bool de, .int .i64 (p2 : Int)])) (b g : Nat) (l : List Cel) (k : Nat) (hqb : q ≠ b) (hqg : q ≠ g) (nw2 rc2 st2 ph2 : Nat) (hS : Calls Try.prog 55 #[.pointer (some ⟨q, 0, none⟩), .pointer (some ⟨b, 0, none⟩)] w fun e w' => e = .returned (.int .i64 (ph2 : Int)) ∧ Mem w' b g l (k + 1) ∧ Blk w' q 83 (srcv T S N C R F K fa fb fd c t nw2 rc2 st2 ph2 [.bool de, .int .i64 (p2 : Int)]) ∧ Kept (Own3 q b g) w w') (hp : ph2 = 3) (hf : (rc2 == nw2) = true) :
    Calls Try.prog 37 #[.pointer (some ⟨q, 0, none⟩), .pointer (some ⟨b, 0, none⟩)] w fun e w' => e = .returned (.tuple #[]) ∧ Mem w' b g l (k + 1) ∧ Blk w' q 83 (srcv T S N C R F K fa fb fd c t nw2 rc2 st2 ph2 [.bool de, .int .i64 1]) ∧ Kept (Own3 q b g) w w' := by
  have p3 : ((ph2 : Int) == 3) = true := by simp; omega
  have HB := Lib.hid h
  have HS := Lib.hid hS
  have hqo : ¬ Own b g q := by unfold Own; omega
  clear h hS
  go_enter Try.func37, Try.ntmps37
  go_wp2_with fail
  refine HS.out.mono ?_; rintro e w1 ⟨rfl, hM1, hQ1, hK1⟩
  have HM1 := Lib.hid hM1
  have HQ1 := Lib.hid hQ1
  have HK1 := Lib.hid hK1
  clear hM1 hQ1 hK1 HS HB
  have y17 := HQ1.out.cell (i := 17) rfl
  have u17 := HQ1.out.frozen 17
  have HQ2 := Lib.hid (HQ1.out.set 17 (.int .i64 2))
  have HM2 := Lib.hid (HM1.out.farq hqo 17 (.int .i64 2))
  have HK2 := Lib.hid (HK1.out.setCell (a := ⟨q, 17, none⟩) (fun _ => .inl rfl) (.int .i64 2))
  clear HQ1 HM1 HK1
  go_wp2_with fail
  refine (onTop_any T S N C R F K fa fb fd q 83 c t nw2 rc2 st2 ph2 _ _ HQ2.out true hf).mono ?_; rintro e w3 ⟨rfl, hK⟩
  have HM3 := Lib.hid (HM2.out.kept hK (fun h => h) (fun h => h))
  have HQ3 := Lib.hid (hK.blk HQ2.out (fun h => h))
  have HK3 := Lib.hid (keepBoth HK2.out hK)
  clear hK HM2 HQ2 HK2 y17 u17
  have y17 := HQ3.out.cell (i := 17) rfl
  have u17 := HQ3.out.frozen 17
  have HQ4 := Lib.hid (HQ3.out.set 17 (.int .i64 1))
  have HM4 := Lib.hid (HM3.out.farq hqo 17 (.int .i64 1))
  have HK4 := Lib.hid (HK3.out.setCell (a := ⟨q, 17, none⟩) (fun _ => .inl rfl) (.int .i64 1))
  clear HQ3 HM3 HK3
  go_wp2
  go_end0
  exact ⟨rfl, HM4.out, HQ4.out, HK4.out⟩

set_option maxHeartbeats 2000000 in
theorem find_old (T S N C R F K fa fb fd : Int) (q c t nw rc st ph p2 : Nat) (de : Bool) (w : World) (h : Blk w q 83 (srcv T S N C R F K fa fb fd c t nw rc st ph [.bool de, .int .i64 (p2 : Int)])) (b g : Nat) (l : List Cel) (k : Nat) (hqb : q ≠ b) (hqg : q ≠ g) (nw2 rc2 st2 ph2 : Nat) (hS : Calls Try.prog 55 #[.pointer (some ⟨q, 0, none⟩), .pointer (some ⟨b, 0, none⟩)] w fun e w' => e = .returned (.int .i64 (ph2 : Int)) ∧ Mem w' b g l (k + 1) ∧ Blk w' q 83 (srcv T S N C R F K fa fb fd c t nw2 rc2 st2 ph2 [.bool de, .int .i64 (p2 : Int)]) ∧ Kept (Own3 q b g) w w') (hp : ph2 = 3) (hf : (rc2 == nw2) = false) :
    Calls Try.prog 37 #[.pointer (some ⟨q, 0, none⟩), .pointer (some ⟨b, 0, none⟩)] w fun e w' => e = .returned (.tuple #[]) ∧ Mem w' b g l (k + 1) ∧ Blk w' q 83 (srcv T S N C R F K fa fb fd c t nw2 rc2 st2 ph2 [.bool de, .int .i64 2]) ∧ Kept (Own3 q b g) w w' := by
  have p3 : ((ph2 : Int) == 3) = true := by simp; omega
  have HB := Lib.hid h
  have HS := Lib.hid hS
  have hqo : ¬ Own b g q := by unfold Own; omega
  clear h hS
  go_enter Try.func37, Try.ntmps37
  go_wp2_with fail
  refine HS.out.mono ?_; rintro e w1 ⟨rfl, hM1, hQ1, hK1⟩
  have HM1 := Lib.hid hM1
  have HQ1 := Lib.hid hQ1
  have HK1 := Lib.hid hK1
  clear hM1 hQ1 hK1 HS HB
  have y17 := HQ1.out.cell (i := 17) rfl
  have u17 := HQ1.out.frozen 17
  have HQ2 := Lib.hid (HQ1.out.set 17 (.int .i64 2))
  have HM2 := Lib.hid (HM1.out.farq hqo 17 (.int .i64 2))
  have HK2 := Lib.hid (HK1.out.setCell (a := ⟨q, 17, none⟩) (fun _ => .inl rfl) (.int .i64 2))
  clear HQ1 HM1 HK1
  go_wp2_with fail
  refine (onTop_any T S N C R F K fa fb fd q 83 c t nw2 rc2 st2 ph2 _ _ HQ2.out false hf).mono ?_; rintro e w3 ⟨rfl, hK⟩
  have HM3 := Lib.hid (HM2.out.kept hK (fun h => h) (fun h => h))
  have HQ3 := Lib.hid (hK.blk HQ2.out (fun h => h))
  have HK3 := Lib.hid (keepBoth HK2.out hK)
  clear hK HM2 HQ2 HK2 y17 u17
  go_wp2
  go_end0
  exact ⟨rfl, HM3.out, HQ3.out, HK3.out⟩

set_option maxHeartbeats 2000000 in
theorem find_end (T S N C R F K fa fb fd : Int) (q c t nw rc st ph p2 : Nat) (de : Bool) (w : World) (h : Blk w q 83 (srcv T S N C R F K fa fb fd c t nw rc st ph [.bool de, .int .i64 (p2 : Int)])) (b g : Nat) (l : List Cel) (k : Nat) (hqb : q ≠ b) (hqg : q ≠ g) (nw2 rc2 st2 ph2 : Nat) (hS : Calls Try.prog 55 #[.pointer (some ⟨q, 0, none⟩), .pointer (some ⟨b, 0, none⟩)] w fun e w' => e = .returned (.int .i64 (ph2 : Int)) ∧ Mem w' b g l (k + 1) ∧ Blk w' q 83 (srcv T S N C R F K fa fb fd c t nw2 rc2 st2 ph2 [.bool de, .int .i64 (p2 : Int)]) ∧ Kept (Own3 q b g) w w') (hp : ph2 = 4) (f : Bool) (hf : (nw2 == 0) = f) :
    Calls Try.prog 37 #[.pointer (some ⟨q, 0, none⟩), .pointer (some ⟨b, 0, none⟩)] w fun e w' => e = .returned (.tuple #[]) ∧ Mem w' b g l (k + 1) ∧ Blk w' q 83 (srcv T S N C R F K fa fb fd c t nw2 rc2 st2 ph2 [.bool f, .int .i64 4]) ∧ Kept (Own3 q b g) w w' := by
  have p3 : ((ph2 : Int) == 3) = false := by simp; omega
  have p4 : ((ph2 : Int) == 4) = true := by simp; omega
  have HB := Lib.hid h
  have HS := Lib.hid hS
  have hqo : ¬ Own b g q := by unfold Own; omega
  clear h hS
  go_enter Try.func37, Try.ntmps37
  go_wp2_with fail
  refine HS.out.mono ?_; rintro e w1 ⟨rfl, hM1, hQ1, hK1⟩
  have HM1 := Lib.hid hM1
  have HQ1 := Lib.hid hQ1
  have HK1 := Lib.hid hK1
  clear hM1 hQ1 hK1 HS HB
  go_wp2_with fail
  refine (empty_any T S N C R F K fa fb fd q 83 c t nw2 rc2 st2 ph2 _ _ HQ1.out f hf).mono ?_; rintro e w3 ⟨rfl, rfl⟩
  have y16 := HQ1.out.cell (i := 16) rfl
  have u16 := HQ1.out.frozen 16
  have y17 := HQ1.out.cell (i := 17) rfl
  have u17 := HQ1.out.frozen 17
  have HQ2 := Lib.hid (HQ1.out.set 16 (.bool f))
  have HM2 := Lib.hid (HM1.out.farq hqo 16 (.bool f))
  have HK2 := Lib.hid (HK1.out.setCell (a := ⟨q, 16, none⟩) (fun _ => .inl rfl) (.bool f))
  clear HQ1 HM1 HK1
  have HQ3 := Lib.hid (HQ2.out.set 17 (.int .i64 4))
  have HM3 := Lib.hid (HM2.out.farq hqo 17 (.int .i64 4))
  have HK3 := Lib.hid (HK2.out.setCell (a := ⟨q, 17, none⟩) (fun _ => .inl rfl) (.int .i64 4))
  clear HQ2 HM2 HK2
  go_wp2
  go_end0
  exact ⟨rfl, HM3.out, HQ3.out, HK3.out⟩

/-- Where find leaves the phase and the answer. -/
def trp (nw rc ph p2 : Nat) : Nat := if ph = 3 then (if rc = nw then 1 else 2) else if ph = 4 then 4 else p2
def trd (nw ph : Nat) (de : Bool) : Bool := if ph = 4 then nw == 0 else de
theorem tfind_any (T S N C R F K fa fb fd : Int) (q c t nw rc st ph p2 : Nat) (de : Bool) (w : World) (h : Blk w q 83 (srcv T S N C R F K fa fb fd c t nw rc st ph [.bool de, .int .i64 (p2 : Int)])) (b g : Nat) (l : List Cel) (k : Nat) (hqb : q ≠ b) (hqg : q ≠ g) (nw2 rc2 st2 ph2 : Nat) (hS : Calls Try.prog 55 #[.pointer (some ⟨q, 0, none⟩), .pointer (some ⟨b, 0, none⟩)] w fun e w' => e = .returned (.int .i64 (ph2 : Int)) ∧ Mem w' b g l (k + 1) ∧ Blk w' q 83 (srcv T S N C R F K fa fb fd c t nw2 rc2 st2 ph2 [.bool de, .int .i64 (p2 : Int)]) ∧ Kept (Own3 q b g) w w') (hp : ph2 ≤ 4) (p3 : Nat) (hp3 : trp nw2 rc2 ph2 p2 = p3) (d3 : Bool) (hd3 : trd nw2 ph2 de = d3) :
    Calls Try.prog 37 #[.pointer (some ⟨q, 0, none⟩), .pointer (some ⟨b, 0, none⟩)] w fun e w' => e = .returned (.tuple #[]) ∧ Mem w' b g l (k + 1) ∧ Blk w' q 83 (srcv T S N C R F K fa fb fd c t nw2 rc2 st2 ph2 [.bool d3, .int .i64 (p3 : Int)]) ∧ Kept (Own3 q b g) w w' := by
  subst hp3 hd3
  rcases (by omega : ph2 < 3 ∨ ph2 = 3 ∨ ph2 = 4) with h3 | h3 | h3
  · have := find_mid T S N C R F K fa fb fd q c t nw rc st ph p2 de w h b g l k hqb hqg nw2 rc2 st2 ph2 hS h3
    rw [show trp nw2 rc2 ph2 p2 = p2 by unfold trp; rw [if_neg (by omega), if_neg (by omega)], show trd nw2 ph2 de = de by unfold trd; rw [if_neg (by omega)]]; exact this
  · rw [show trd nw2 ph2 de = de by unfold trd; rw [if_neg (by omega)]]
    by_cases hf : rc2 = nw2
    · rw [show trp nw2 rc2 ph2 p2 = 1 by unfold trp; rw [if_pos h3, if_pos hf]]
      exact find_top T S N C R F K fa fb fd q c t nw rc st ph p2 de w h b g l k hqb hqg nw2 rc2 st2 ph2 hS h3 (by simpa using hf)
    · rw [show trp nw2 rc2 ph2 p2 = 2 by unfold trp; rw [if_pos h3, if_neg hf]]
      exact find_old T S N C R F K fa fb fd q c t nw rc st ph p2 de w h b g l k hqb hqg nw2 rc2 st2 ph2 hS h3 (by simpa using hf)
  · rw [show trp nw2 rc2 ph2 p2 = 4 by unfold trp; rw [if_neg (by omega), if_pos h3], show trd nw2 ph2 de = (nw2 == 0) by unfold trd; rw [if_pos h3]]
    exact find_end T S N C R F K fa fb fd q c t nw rc st ph p2 de w h b g l k hqb hqg nw2 rc2 st2 ph2 hS h3 _ rfl

set_option maxHeartbeats 2000000 in
theorem trunext_any (T S N C R F K fa fb fd : Int) (hl : Lim T S N C R F) (hd : Reach3 fa fb fd) (q c t nw rc st ph p2 : Nat) (de : Bool) (w : World) (h : Blk w q 83 (srcv T S N C R F K fa fb fd c t nw rc st ph [.bool de, .int .i64 (p2 : Int)])) (ad : Int) (had : recAt R fd (rc : Int) 2 = ad) :
    Calls Try.prog 41 #[.pointer (some ⟨q, 0, none⟩)] w fun e w' => e = .returned (.int .i64 ad) ∧ Kept (fun _ => False) w w' := by
  have HB := Lib.hid h
  clear h
  go_enter Try.func41, Try.ntmps41
  go_wp2_with fail
  refine qregion (fun w' => Kept (fun _ => False) w w' ∧ Blk w' q 83 (srcv T S N C R F K fa fb fd c t nw rc st ph [.bool de, .int .i64 (p2 : Int)])) (by kernel_rfl) (by kernel_rfl) ⟨(Kept.refl _ _).drew, HB.out⟩ ?_
  refine qstep (o := ⟨some 3, _, _, _, _, _⟩) (v := ?_) (by rfl) (fun wq hSw => ?_) ?_
  rotate_left
  · (go_simp; try with_reducible rfl)
  try simp only [Act.put, List.setIfInBounds_toArray, List.set_cons_zero, List.set_cons_succ]
  refine qstep (o := ⟨some 4, _, _, _, _, _⟩) (v := ?_) (by rfl) (fun wq hSw => ?_) ?_
  rotate_left
  · (go_simp; try with_reducible rfl)
  try simp only [Act.put, List.setIfInBounds_toArray, List.set_cons_zero, List.set_cons_succ]
  refine qstep (o := ⟨some 5, _, _, _, _, _⟩) (v := ?_) (by rfl) (fun wq hSw => ?_) ?_
  rotate_left
  · (go_simp; try with_reducible rfl)
  try simp only [Act.put, List.setIfInBounds_toArray, List.set_cons_zero, List.set_cons_succ]
  refine qstep (o := ⟨some 6, _, _, _, _, _⟩) (v := ?_) (by rfl) (fun wq hSw => ?_) ?_
  rotate_left
  · (go_simp; try with_reducible rfl)
  try simp only [Act.put, List.setIfInBounds_toArray, List.set_cons_zero, List.set_cons_succ]
  refine qstep (o := ⟨some 7, _, _, _, _, _⟩) (v := ?_) (by rfl) (fun wq hSw => ?_) ?_
  rotate_left
  · (have hb9 := hSw.2; have x0 := hb9.cell (i := 0) rfl; have x1 := hb9.cell (i := 1) rfl; have x2 := hb9.cell (i := 2) rfl; have x3 := hb9.cell (i := 3) rfl; have x4 := hb9.cell (i := 4) rfl; have x5 := hb9.cell (i := 5) rfl; have x6 := hb9.cell (i := 6) rfl; have x7 := hb9.cell (i := 7) rfl; have x8 := hb9.cell (i := 8) rfl; have x9 := hb9.cell (i := 9) rfl; have x10 := hb9.cell (i := 10) rfl; have x11 := hb9.cell (i := 11) rfl; have x12 := hb9.cell (i := 12) rfl; have x13 := hb9.cell (i := 13) rfl; clear hb9; go_simp; try with_reducible rfl)
  try simp only [Act.put, List.setIfInBounds_toArray, List.set_cons_zero, List.set_cons_succ]
  refine qstep (o := ⟨some 8, _, _, _, _, _⟩) (v := ?_) (by rfl) (fun wq hSw => ?_) ?_
  rotate_left
  · (go_simp; try with_reducible rfl)
  try simp only [Act.put, List.setIfInBounds_toArray, List.set_cons_zero, List.set_cons_succ]
  refine qstep (o := ⟨some 9, _, _, _, _, _⟩) (v := ?_) (by rfl) (fun wq hSw => ?_) ?_
  rotate_left
  · (go_simp; try with_reducible rfl)
  try simp only [Act.put, List.setIfInBounds_toArray, List.set_cons_zero, List.set_cons_succ]
  refine qstep (o := ⟨some 10, _, _, _, _, _⟩) (v := ?_) (by rfl) (fun wq hSw => ?_) ?_
  rotate_left
  · (go_simp; try with_reducible rfl)
  try simp only [Act.put, List.setIfInBounds_toArray, List.set_cons_zero, List.set_cons_succ]
  refine qstep (o := ⟨some 11, _, _, _, _, _⟩) (v := ?_) (by rfl) (fun wq hSw => ?_) ?_
  rotate_left
  · (go_simp; try with_reducible rfl)
  try simp only [Act.put, List.setIfInBounds_toArray, List.set_cons_zero, List.set_cons_succ]
  refine qstep (o := ⟨some 12, _, _, _, _, _⟩) (v := ?_) (by rfl) (fun wq hSw => ?_) ?_
  rotate_left
  · (have hb9 := hSw.2; have x0 := hb9.cell (i := 0) rfl; have x1 := hb9.cell (i := 1) rfl; have x2 := hb9.cell (i := 2) rfl; have x3 := hb9.cell (i := 3) rfl; have x4 := hb9.cell (i := 4) rfl; have x5 := hb9.cell (i := 5) rfl; have x6 := hb9.cell (i := 6) rfl; have x7 := hb9.cell (i := 7) rfl; have x8 := hb9.cell (i := 8) rfl; have x9 := hb9.cell (i := 9) rfl; have x10 := hb9.cell (i := 10) rfl; have x11 := hb9.cell (i := 11) rfl; have x12 := hb9.cell (i := 12) rfl; have x13 := hb9.cell (i := 13) rfl; clear hb9; go_simp; try with_reducible rfl)
  try simp only [Act.put, List.setIfInBounds_toArray, List.set_cons_zero, List.set_cons_succ]
  refine qcall (o := ⟨some 13, _, _, _, _, _⟩) (v := .int .i64 ad) (by rfl) (fun wq hSw => ?_) (fun wq hSw => Calls.mono (next_to T S N C R F K fa fb fd hl hd (rc : Int) ad had _) ?_) ?_
  · (go_simp; try with_reducible rfl)
  · rintro e w9 ⟨rfl, hk⟩; exact ⟨rfl, hSw.1.trans hk (fun _ _ h => h), hk.blk hSw.2 (fun h => h)⟩
  try simp only [Act.put, List.setIfInBounds_toArray, List.set_cons_zero, List.set_cons_succ]
  refine qstep (o := ⟨some 2, _, _, _, _, _⟩) (v := ?_) (by rfl) (fun wq hSw => ?_) ?_
  rotate_left
  · (go_simp; try with_reducible rfl)
  try simp only [Act.put, List.setIfInBounds_toArray, List.set_cons_zero, List.set_cons_succ]
  refine wpQuiet_nil ?_
  intro wz hHeld
  obtain ⟨hK, hQ⟩ := hHeld
  have HK := Lib.hid hK
  have HQ := Lib.hid hQ
  clear hK hQ HB
  go_wp2
  go_ret
  exact ⟨rfl, HK.out⟩

set_option maxHeartbeats 2000000 in
theorem tstep_0 (T S N C R F K fa fb fd : Int) (q c t nw rc st ph p2 : Nat) (de : Bool) (w : World) (h : Blk w q 83 (srcv T S N C R F K fa fb fd c t nw rc st ph [.bool de, .int .i64 (p2 : Int)])) (b g : Nat) (l : List Cel) (k : Nat) (hqb : q ≠ b) (hqg : q ≠ g) (nw2 rc2 st2 ph2 : Nat) (hp2 : p2 = 0) (hS : Calls Try.prog 55 #[.pointer (some ⟨q, 0, none⟩), .pointer (some ⟨b, 0, none⟩)] w fun e w' => e = .returned (.int .i64 (ph2 : Int)) ∧ Mem w' b g l (k + 1) ∧ Blk w' q 83 (srcv T S N C R F K fa fb fd c t nw2 rc2 st2 ph2 [.bool de, .int .i64 (p2 : Int)]) ∧ Kept (Own3 q b g) w w') (hph2 : ph2 ≤ 4) (p3 : Nat) (hp3 : trp nw2 rc2 ph2 p2 = p3) (d3 : Bool) (hd3 : trd nw2 ph2 de = d3) (f : Bool) (hf : (p3 == 4) = f) :
    Calls Try.prog 13 #[.pointer (some ⟨q, 0, none⟩), .pointer (some ⟨b, 0, none⟩)] w fun e w' => e = .returned (.bool f) ∧ Mem w' b g l (k + 1) ∧ Blk w' q 83 (srcv T S N C R F K fa fb fd c t nw2 rc2 st2 ph2 [.bool d3, .int .i64 (p3 : Int)]) ∧ Kept (Own3 q b g) w w' := by
  have s0 : ((p2 : Int) == 0) = true := by simp; omega
  have r4 : ((p3 : Int) == 4) = f := by rw [← hf]; cases h : p3 == 4 <;> simp_all <;> omega
  have x17 := h.cell (i := 17) rfl
  have HB := Lib.hid h
  have HS := Lib.hid hS
  have HP3 := Lib.hid hp3
  have HD3 := Lib.hid hd3
  clear h hS hf hp3 hd3
  go_enter Try.func13, Try.ntmps13
  go_wp2_with fail
  refine (tfind_any T S N C R F K fa fb fd q c t nw rc st ph p2 de _ HB.out b g l k hqb hqg nw2 rc2 st2 ph2 HS.out hph2 p3 HP3.out d3 HD3.out).mono ?_; rintro e w1 ⟨rfl, hM1, hQ1, hK1⟩
  have y17 := hQ1.cell (i := 17) rfl
  have HM1 := Lib.hid hM1
  have HQ1 := Lib.hid hQ1
  have HK1 := Lib.hid hK1
  clear hM1 hQ1 hK1 HS HB x17
  go_wp2
  go_ret
  exact ⟨rfl, HM1.out, HQ1.out, HK1.out⟩

set_option maxHeartbeats 2000000 in
theorem tstep_1 (T S N C R F K fa fb fd : Int) (hl : Lim T S N C R F) (hd : Reach3 fa fb fd) (q c t nw rc st ph p2 : Nat) (de : Bool) (w : World) (h : Blk w q 83 (srcv T S N C R F K fa fb fd c t nw rc st ph [.bool de, .int .i64 (p2 : Int)])) (hp2 : p2 = 1) (b g : Nat) (l : List Cel) (k : Nat) (hm : Mem w b g l k) (hqb : q ≠ b) (hqg : q ≠ g) (hk : k < 9223372036854775808) (ad : Int) (had : recAt R fd (rc : Int) 1 = ad) (vN : Int) (vM : Nat) (vK : ByteArray) (hc : cellAt l ad = (vN, vK, (vM : Int))) (dd : Bool) (hdd : (vM == 1) = dd) (d3 : Bool) (hv : dead t [((st, vK, dd) : Ve)] = d3) :
    Calls Try.prog 13 #[.pointer (some ⟨q, 0, none⟩), .pointer (some ⟨b, 0, none⟩)] w fun e w' => e = .returned (.bool false) ∧ Mem w' b g l (k + 1) ∧ Blk w' q 83 (srcv T S N C R F K fa fb fd c t nw rc st ph [.bool d3, .int .i64 2]) ∧ Kept (Own3 q b g) w w' := by
  have s0 : ((p2 : Int) == 0) = false := by simp; omega
  have s1 : ((p2 : Int) == 1) = true := by simp; omega
  have x17 := h.cell (i := 17) rfl
  have HB := Lib.hid h
  have HM := Lib.hid hm
  have HC := Lib.hid hc
  have HV := Lib.hid hv
  have hqo : ¬ Own b g q := by unfold Own; omega
  clear h hm hc hv
  go_enter Try.func13, Try.ntmps13
  go_wp2_with fail
  clear x17
  have HQc := Lib.hid (HB.out.of (w' := w.drew) rfl)
  have HMc := Lib.hid HM.out.drew
  have HKc := Lib.hid ((Kept.refl (Own3 q b g) w).drew)
  clear HB HM
  refine wp_region_held_drew (S := (fun w' => w'.cell? ⟨q, 11, none⟩ = some (.int .u64 (t : Int)))) (by kernel_rfl) ?_ (fun hHeld => ?_)
  · exact HQc.out.cell (i := 11) rfl
  generalize w.drew = G at *
  refine wpAnyH_take (i := 0) (oi := ⟨some 16, _, _, _, _, _⟩) (v := ?_) rfl (by kernel_rfl) (by kernel_rfl) (by kernel_rfl) (fun _ _ _ h => h) (Or.inl ⟨by rfl, ?_⟩) hHeld ?_
  rotate_left
  · (intro wq hSw; go_simp; try with_reducible rfl)
  try simp only [Act.put, List.setIfInBounds_toArray, List.set_cons_zero, List.set_cons_succ]
  refine wpAnyH_take (i := 1) (oi := ⟨some 17, _, _, _, _, _⟩) (v := ?_) rfl (by kernel_rfl) (by kernel_rfl) (by kernel_rfl) (fun _ _ _ h => h) (Or.inl ⟨by rfl, ?_⟩) hHeld ?_
  rotate_left
  · (intro wq hSw; go_simp; try with_reducible rfl)
  try simp only [Act.put, List.setIfInBounds_toArray, List.set_cons_zero, List.set_cons_succ]
  refine wpAnyH_take (i := 2) (oi := ⟨some 18, _, _, _, _, _⟩) (v := ?_) rfl (by kernel_rfl) (by kernel_rfl) (by kernel_rfl) (fun _ _ _ h => h) (Or.inl ⟨by rfl, ?_⟩) hHeld ?_
  rotate_left
  · (intro wq hSw; go_simp; try with_reducible rfl)
  try simp only [Act.put, List.setIfInBounds_toArray, List.set_cons_zero, List.set_cons_succ]
  refine wpAnyH_take (i := 3) (oi := ⟨some 19, _, _, _, _, _⟩) (v := ?_) rfl (by kernel_rfl) (by kernel_rfl) (by kernel_rfl) (fun _ _ _ h => h) (Or.inl ⟨by rfl, ?_⟩) hHeld ?_
  rotate_left
  · (intro wq hSw; go_simp; try with_reducible rfl)
  try simp only [Act.put, List.setIfInBounds_toArray, List.set_cons_zero, List.set_cons_succ]
  refine wpAnyH_take (i := 4) (oi := ⟨some 20, _, _, _, _, _⟩) (v := ?_) rfl (by kernel_rfl) (by kernel_rfl) (by kernel_rfl) (fun _ _ _ h => h) (Or.inl ⟨by rfl, ?_⟩) hHeld ?_
  rotate_left
  · (intro wq hSw; go_simp; try with_reducible rfl)
  try simp only [Act.put, List.setIfInBounds_toArray, List.set_cons_zero, List.set_cons_succ]
  refine wpAnyH_take (i := 6) (oi := ⟨some 22, _, _, _, _, _⟩) (v := ?_) rfl (by kernel_rfl) (by kernel_rfl) (by kernel_rfl) (fun _ _ _ h => h) (Or.inl ⟨by rfl, ?_⟩) hHeld ?_
  rotate_left
  · (intro wq hSw; go_simp; try with_reducible rfl)
  try simp only [Act.put, List.setIfInBounds_toArray, List.set_cons_zero, List.set_cons_succ]
  refine wpAnyH_take (i := 7) (oi := ⟨some 23, _, _, _, _, _⟩) (v := ?_) rfl (by kernel_rfl) (by kernel_rfl) (by kernel_rfl) (fun _ _ _ h => h) (Or.inl ⟨by rfl, ?_⟩) hHeld ?_
  rotate_left
  · (intro wq hSw; go_simp; try with_reducible rfl)
  try simp only [Act.put, List.setIfInBounds_toArray, List.set_cons_zero, List.set_cons_succ]
  refine wpAnyH_take (i := 8) (oi := ⟨some 24, _, _, _, _, _⟩) (v := ?_) rfl (by kernel_rfl) (by kernel_rfl) (by kernel_rfl) (fun _ _ _ h => h) (Or.inl ⟨by rfl, ?_⟩) hHeld ?_
  rotate_left
  · (intro wq hSw; go_simp; try with_reducible rfl)
  try simp only [Act.put, List.setIfInBounds_toArray, List.set_cons_zero, List.set_cons_succ]
  refine wpAnyH_take (i := 9) (oi := ⟨some 25, _, _, _, _, _⟩) (v := ?_) rfl (by kernel_rfl) (by kernel_rfl) (by kernel_rfl) (fun _ _ _ h => h) (Or.inl ⟨by rfl, ?_⟩) hHeld ?_
  rotate_left
  · (intro wq hSw; go_simp; try with_reducible rfl)
  try simp only [Act.put, List.setIfInBounds_toArray, List.set_cons_zero, List.set_cons_succ]
  refine wpAnyH_take (i := 10) (oi := ⟨some 26, _, _, _, _, _⟩) (v := ?_) rfl (by kernel_rfl) (by kernel_rfl) (by kernel_rfl) (fun _ _ _ h => h) (Or.inl ⟨by rfl, ?_⟩) hHeld ?_
  rotate_left
  · (intro wq hSw; have x11 := hSw; go_simp; try with_reducible rfl)
  try simp only [Act.put, List.setIfInBounds_toArray, List.set_cons_zero, List.set_cons_succ]
  refine wpAnyH_ready (rs := [5]) (by kernel_rfl) (by simp) ?_
  refine AllReadyH.cons (o := ⟨some 21, _, _, _, _, _⟩) rfl (fun KK hK => ?_) AllReadyH.nil
  go_simp
  go_at_call 39
  refine (sload_any T S N C R F K fa fb fd hl hd q 83 c t nw rc st ph _ _ HQc.out b g l k HMc.out hqb hqg hk ad had vN vM vK HC.out dd hdd).mono ?_; rintro e w1 ⟨g2, rfl, hR1, hM1, hQ1, hK1⟩
  replace HQc := Lib.hid hQ1
  replace HMc := Lib.hid hM1
  replace HKc := Lib.hid (HKc.out.trans hK1 (fun _ _ h => .inr h))
  have HR := Lib.hid hR1
  clear hR1 hM1 hQ1 hK1
  refine hK.out _ _ ?_ (fun hHeld2 => ?_)
  · exact HQc.out.cell (i := 11) rfl
  clear hK KK hHeld
  have hHeld := hHeld2
  clear hHeld2
  try simp only [Act.put, List.setIfInBounds_toArray, List.set_cons_zero, List.set_cons_succ]
  refine wpAnyH_ready (rs := [11]) (by kernel_rfl) (by simp) ?_
  refine AllReadyH.cons (o := ⟨some 27, _, _, _, _, _⟩) rfl (fun KK hK => ?_) AllReadyH.nil
  go_simp
  go_at_call 38
  refine (dead_any _ 1 [((st, vK, dd) : Ve)] t _ 1 rfl (by omega) HR.out d3 HV.out).mono ?_; rintro e w2 ⟨rfl, hB2⟩
  have hK2 := keptNone hB2
  replace HQc := Lib.hid (hK2.blk HQc.out (fun h => h))
  replace HMc := Lib.hid (HMc.out.kept hK2 (fun h => h) (fun h => h))
  replace HKc := Lib.hid (keepBoth HKc.out hK2)
  have hQ2 := HQc.out
  have x16 := hQ2.cell (i := 16) rfl
  have z16 := hQ2.frozen 16
  have x17 := hQ2.cell (i := 17) rfl
  have z17 := hQ2.frozen 17
  clear hB2 hK2 hQ2
  refine hK.out _ _ ?_ (fun hHeld2 => ?_)
  · exact HQc.out.cell (i := 11) rfl
  clear hK KK hHeld
  have hHeld := hHeld2
  clear hHeld2
  try simp only [Act.put, List.setIfInBounds_toArray, List.set_cons_zero, List.set_cons_succ]
  refine wpAnyH_take (i := 12) (oi := ⟨some 28, _, _, _, _, _⟩) (v := ?_) rfl (by kernel_rfl) (by kernel_rfl) (by kernel_rfl) (fun _ _ _ h => h) (Or.inl ⟨by rfl, ?_⟩) hHeld ?_
  rotate_left
  · (intro wq hSw; go_simp; try with_reducible rfl)
  try simp only [Act.put, List.setIfInBounds_toArray, List.set_cons_zero, List.set_cons_succ]
  refine wpAnyH_take (i := 13) (oi := ⟨some 29, _, _, _, _, _⟩) (v := ?_) rfl (by kernel_rfl) (by kernel_rfl) (by kernel_rfl) (fun _ _ _ h => h) (Or.inl ⟨by rfl, ?_⟩) hHeld ?_
  rotate_left
  · (intro wq hSw; go_simp; try with_reducible rfl)
  try simp only [Act.put, List.setIfInBounds_toArray, List.set_cons_zero, List.set_cons_succ]
  refine wpAnyH_ready (rs := [14]) (by kernel_rfl) (by simp) ?_
  refine AllReadyH.cons (o := ⟨none, _, _, _, _, _⟩) rfl (fun KK hK => ?_) AllReadyH.nil
  go_simp
  replace HQc := Lib.hid (HQc.out.set 16 (.bool d3))
  replace HMc := Lib.hid (HMc.out.farq hqo 16 (.bool d3))
  replace HKc := Lib.hid (HKc.out.setCell (a := ⟨q, 16, none⟩) (fun _ => .inl rfl) (.bool d3))
  refine hK.out _ _ ?_ (fun hHeld2 => ?_)
  · exact HQc.out.cell (i := 11) rfl
  clear hK KK hHeld
  have hHeld := hHeld2
  clear hHeld2
  try simp only [Act.put, List.setIfInBounds_toArray, List.set_cons_zero, List.set_cons_succ]
  refine wpAnyH_done (by kernel_rfl) ?_ _
  clear hHeld
  have HQ3 := Lib.hid (HQc.out.set 17 (.int .i64 2))
  have HM3 := Lib.hid (HMc.out.farq hqo 17 (.int .i64 2))
  have HK3 := Lib.hid (HKc.out.setCell (a := ⟨q, 17, none⟩) (fun _ => .inl rfl) (.int .i64 2))
  clear HQc HMc HKc HR
  go_wp2
  go_ret
  exact ⟨rfl, HM3.out, HQ3.out, HK3.out⟩

set_option maxHeartbeats 2000000 in
theorem tstep_2end (T S N C R F K fa fb fd : Int) (hl : Lim T S N C R F) (hd : Reach3 fa fb fd) (q c t nw rc st ph p2 : Nat) (de : Bool) (w : World) (h : Blk w q 83 (srcv T S N C R F K fa fb fd c t nw rc st ph [.bool de, .int .i64 (p2 : Int)])) (hp2 : p2 = 2) (b g : Nat) (l : List Cel) (k : Nat) (hm : Mem w b g l k) (hqb : q ≠ b) (hqg : q ≠ g) (hk : k < 9223372036854775808) (ad : Int) (had : recAt R fd (rc : Int) 2 = ad) (n : Nat) (cK : ByteArray) (cM : Int) (hc : cellAt l ad = ((n : Int), cK, cM)) (hn : n = 0) :
    Calls Try.prog 13 #[.pointer (some ⟨q, 0, none⟩), .pointer (some ⟨b, 0, none⟩)] w fun e w' => e = .returned (.bool true) ∧ Mem w' b g l (k + 1) ∧ Blk w' q 83 (srcv T S N C R F K fa fb fd c t nw rc st ph [.bool de, .int .i64 4]) ∧ Kept (Own3 q b g) w w' := by
  have s0 : ((p2 : Int) == 0) = false := by simp; omega
  have s1 : ((p2 : Int) == 1) = false := by simp; omega
  have s2 : ((p2 : Int) == 2) = true := by simp; omega
  have x17 := h.cell (i := 17) rfl
  have z17 := h.frozen 17
  have n0 : ((n : Int) != 0) = false := by simp; omega
  have hfd := field0 (n : Int) cM cK
  have HC := Lib.hid hc
  have hqo : ¬ Own b g q := by unfold Own; omega
  clear hc hn
  have HQ2 := Lib.hid (h.set 17 (.int .i64 (4 : Nat)))
  have HM2 := Lib.hid (hm.farq hqo 17 (.int .i64 (4 : Nat)))
  have HK2 := Lib.hid ((Kept.refl (Own3 q b g) w).setCell (a := ⟨q, 17, none⟩) (fun _ => .inl rfl) (.int .i64 (4 : Nat)))
  clear h hm
  go_enter Try.func13, Try.ntmps13
  go_wp2_with fail
  refine (trunext_any T S N C R F K fa fb fd hl hd q c t nw rc st ph 4 de _ HQ2.out ad had).mono ?_; rintro e w3 ⟨rfl, hK⟩
  have HM3 := Lib.hid (HM2.out.kept hK (fun h => h) (fun h => h))
  have HQ3 := Lib.hid (hK.blk HQ2.out (fun h => h))
  have HK3 := Lib.hid (keepBoth HK2.out hK)
  clear hK HM2 HQ2 HK2
  go_wp2_with fail
  refine (load_any b g l k ad (n : Int) cM cK _ HM3.out hk HC.out).mono ?_; rintro e w4 ⟨rfl, hM4, hK4⟩
  have HM4 := Lib.hid hM4
  have HQ4 := Lib.hid (hK4.blk HQ3.out hqo)
  have HK4 := Lib.hid (HK3.out.trans hK4 (fun _ _ h => .inr h))
  clear hM4 hK4 HM3 HQ3 HK3 x17 z17
  have y17 := HQ4.out.cell (i := 17) rfl
  have u17 := HQ4.out.frozen 17
  go_wp2
  go_ret
  exact ⟨rfl, HM4.out, HQ4.out, HK4.out⟩

set_option maxHeartbeats 2000000 in
theorem tstep_2on (T S N C R F K fa fb fd : Int) (hl : Lim T S N C R F) (hd : Reach3 fa fb fd) (q c t nw rc st ph p2 : Nat) (de : Bool) (w : World) (h : Blk w q 83 (srcv T S N C R F K fa fb fd c t nw rc st ph [.bool de, .int .i64 (p2 : Int)])) (hp2 : p2 = 2) (b g : Nat) (l : List Cel) (k : Nat) (hm : Mem w b g l k) (hqb : q ≠ b) (hqg : q ≠ g) (hk : k < 9223372036854775808) (ad : Int) (had : recAt R fd (rc : Int) 2 = ad) (n : Nat) (cK : ByteArray) (cM : Int) (hc : cellAt l ad = ((n : Int), cK, cM)) (hn : n ≠ 0) :
    Calls Try.prog 13 #[.pointer (some ⟨q, 0, none⟩), .pointer (some ⟨b, 0, none⟩)] w fun e w' => e = .returned (.bool false) ∧ Mem w' b g l (k + 1) ∧ Blk w' q 83 (srcv T S N C R F K fa fb fd c t nw rc st ph [.bool de, .int .i64 3]) ∧ Kept (Own3 q b g) w w' := by
  have s0 : ((p2 : Int) == 0) = false := by simp; omega
  have s1 : ((p2 : Int) == 1) = false := by simp; omega
  have s2 : ((p2 : Int) == 2) = true := by simp; omega
  have x17 := h.cell (i := 17) rfl
  have z17 := h.frozen 17
  have n0 : ((n : Int) != 0) = true := by simp; omega
  have hfd := field0 (n : Int) cM cK
  have HC := Lib.hid hc
  have hqo : ¬ Own b g q := by unfold Own; omega
  clear hc hn
  have HQ2 := Lib.hid (h.set 17 (.int .i64 (4 : Nat)))
  have HM2 := Lib.hid (hm.farq hqo 17 (.int .i64 (4 : Nat)))
  have HK2 := Lib.hid ((Kept.refl (Own3 q b g) w).setCell (a := ⟨q, 17, none⟩) (fun _ => .inl rfl) (.int .i64 (4 : Nat)))
  clear h hm
  go_enter Try.func13, Try.ntmps13
  go_wp2_with fail
  refine (trunext_any T S N C R F K fa fb fd hl hd q c t nw rc st ph 4 de _ HQ2.out ad had).mono ?_; rintro e w3 ⟨rfl, hK⟩
  have HM3 := Lib.hid (HM2.out.kept hK (fun h => h) (fun h => h))
  have HQ3 := Lib.hid (hK.blk HQ2.out (fun h => h))
  have HK3 := Lib.hid (keepBoth HK2.out hK)
  clear hK HM2 HQ2 HK2
  go_wp2_with fail
  refine (load_any b g l k ad (n : Int) cM cK _ HM3.out hk HC.out).mono ?_; rintro e w4 ⟨rfl, hM4, hK4⟩
  have HM4 := Lib.hid hM4
  have HQ4 := Lib.hid (hK4.blk HQ3.out hqo)
  have HK4 := Lib.hid (HK3.out.trans hK4 (fun _ _ h => .inr h))
  clear hM4 hK4 HM3 HQ3 HK3 x17 z17
  have y17 := HQ4.out.cell (i := 17) rfl
  have u17 := HQ4.out.frozen 17
  have HQ5 := Lib.hid (HQ4.out.set 17 (.int .i64 3))
  have HM5 := Lib.hid (HM4.out.farq hqo 17 (.int .i64 3))
  have HK5 := Lib.hid (HK4.out.setCell (a := ⟨q, 17, none⟩) (fun _ => .inl rfl) (.int .i64 3))
  clear HQ4 HM4 HK4
  go_wp2
  go_ret
  exact ⟨rfl, HM5.out, HQ5.out, HK5.out⟩

set_option maxHeartbeats 2000000 in
theorem tstep_3 (T S N C R F K fa fb fd : Int) (hl : Lim T S N C R F) (hd : Reach3 fa fb fd) (q c t nw rc st ph p2 : Nat) (de : Bool) (w : World) (h : Blk w q 83 (srcv T S N C R F K fa fb fd c t nw rc st ph [.bool de, .int .i64 (p2 : Int)])) (hp2 : p2 = 3) (b g : Nat) (l : List Cel) (k : Nat) (hm : Mem w b g l k) (hqb : q ≠ b) (hqg : q ≠ g) (hk : k < 9223372036854775808) (ad : Int) (had : recAt R fd (rc : Int) 2 = ad) :
    Calls Try.prog 13 #[.pointer (some ⟨q, 0, none⟩), .pointer (some ⟨b, 0, none⟩)] w fun e w' => e = .returned (.bool true) ∧ Mem w' b g (putAt l ad (0, ⟨#[]⟩, 0)) (k + 1) ∧ Blk w' q 83 (srcv T S N C R F K fa fb fd c t nw rc st ph [.bool de, .int .i64 4]) ∧ Kept (Own3 q b g) w w' := by
  have s0 : ((p2 : Int) == 0) = false := by simp; omega
  have s1 : ((p2 : Int) == 1) = false := by simp; omega
  have s2 : ((p2 : Int) == 2) = false := by simp; omega
  have s3 : ((p2 : Int) == 3) = true := by simp; omega
  have x17 := h.cell (i := 17) rfl
  have hqo : ¬ Own b g q := by unfold Own; omega
  have HQ2 := Lib.hid h
  have HM2 := Lib.hid hm
  have HK2 := Lib.hid (Kept.refl (Own3 q b g) w)
  clear h hm
  go_enter Try.func13, Try.ntmps13
  go_wp2_with fail
  refine (trunext_any T S N C R F K fa fb fd hl hd q c t nw rc st ph p2 de _ HQ2.out ad had).mono ?_; rintro e w3 ⟨rfl, hK⟩
  have HM3 := Lib.hid (HM2.out.kept hK (fun h => h) (fun h => h))
  have HQ3 := Lib.hid (hK.blk HQ2.out (fun h => h))
  have HK3 := Lib.hid (keepBoth HK2.out hK)
  clear hK HM2 HQ2 HK2
  go_wp2_with fail
  refine (store_any b g l k ad 0 0 ⟨#[]⟩ _ HM3.out hk).mono ?_; rintro e w4 ⟨rfl, hM4, hK4⟩
  have HM4 := Lib.hid hM4
  have HQ4 := Lib.hid (hK4.blk HQ3.out hqo)
  have HK4 := Lib.hid (HK3.out.trans hK4 (fun _ _ h => .inr h))
  clear hM4 hK4 HM3 HQ3 HK3 x17
  have y17 := HQ4.out.cell (i := 17) rfl
  have u17 := HQ4.out.frozen 17
  have HQ5 := Lib.hid (HQ4.out.set 17 (.int .i64 4))
  have HM5 := Lib.hid (HM4.out.farq hqo 17 (.int .i64 4))
  have HK5 := Lib.hid (HK4.out.setCell (a := ⟨q, 17, none⟩) (fun _ => .inl rfl) (.int .i64 4))
  clear HQ4 HM4 HK4
  go_wp2
  go_ret
  exact ⟨rfl, HM5.out, HQ5.out, HK5.out⟩

set_option maxHeartbeats 2000000 in
theorem tstep_4 (T S N C R F K fa fb fd : Int) (q c t nw rc st ph p2 : Nat) (de : Bool) (m : Nat) (w : World) (h : Blk w q 83 (srcv T S N C R F K fa fb fd c t nw rc st ph [.bool de, .int .i64 (p2 : Int)])) (hp2 : p2 = 4) :
    Calls Try.prog 13 #[.pointer (some ⟨q, 0, none⟩), .pointer (some ⟨m, 0, none⟩)] w fun e w' => e = .returned (.bool true) ∧ w = w' := by
  have s0 : ((p2 : Int) == 0) = false := by simp; omega
  have s1 : ((p2 : Int) == 1) = false := by simp; omega
  have s2 : ((p2 : Int) == 2) = false := by simp; omega
  have s3 : ((p2 : Int) == 3) = false := by simp; omega
  have s4 : ((p2 : Int) == 4) = true := by simp; omega
  have x17 := h.cell (i := 17) rfl
  clear h
  go_enter Try.func13, Try.ntmps13
  go_wp2
  go_ret
  exact ⟨rfl, rfl⟩

set_option maxHeartbeats 2000000 in
theorem trudead_any (T S N C R F K fa fb fd : Int) (q c t nw rc st ph p2 : Nat) (de : Bool) (w : World) (h : Blk w q 83 (srcv T S N C R F K fa fb fd c t nw rc st ph [.bool de, .int .i64 (p2 : Int)])) (hp2 : p2 = 4) :
    Calls Try.prog 15 #[.pointer (some ⟨q, 0, none⟩)] w fun e w' => e = .returned (.bool de) ∧ w = w' := by
  have s4 : ((p2 : Int) == 4) = true := by simp; omega
  have x16 := h.cell (i := 16) rfl
  have x17 := h.cell (i := 17) rfl
  clear h
  go_enter Try.func15, Try.ntmps15
  go_wp2
  go_ret
  exact ⟨rfl, rfl⟩

end Go.Proofs.Ytpamjbjgckaedaa
