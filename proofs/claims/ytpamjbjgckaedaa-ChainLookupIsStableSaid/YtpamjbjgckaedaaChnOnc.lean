/-
  What the machines Stamp and Restore of package chain do in their only step. Condition: a layout within its limits; fewer than 2^63 accesses so far.
-/
import Derived.Test.YtpamjbjgckaedaaChnSea
namespace Go.Proofs.Ytpamjbjgckaedaa
open Go.RowKit Go.Deep Plain
set_option linter.unusedVariables false

/-- The cells of a store that is made once: its address, its number, whether it has been made. -/
def oncv (a : Int) (n : Nat) (m : Bool) : List Value := [.int .i64 a, .int .u64 (n : Int), .bool m]

set_option maxHeartbeats 2000000 in
theorem ostep_any (q : Nat) (ty : TypeId) (a : Int) (n : Nat) (w : World) (h : Blk w q ty (oncv a n false)) (b g : Nat) (l : List Cel) (k : Nat) (hm : Mem w b g l k) (hqb : q ≠ b) (hqg : q ≠ g) (hk : k < 9223372036854775808) :
    Calls Try.prog 52 #[.pointer (some ⟨q, 0, none⟩), .pointer (some ⟨b, 0, none⟩)] w fun e w' => e = .returned (.bool true) ∧ Mem w' b g (putAt l a ((n : Int), ⟨#[]⟩, 0)) (k + 1) ∧ Blk w' q ty (oncv a n true) ∧ Kept (Own3 q b g) w w' := by
  have x2 := h.cell (i := 2) rfl
  have z2 := h.frozen 2
  have HB := Lib.hid h
  have HM := Lib.hid hm
  clear h hm
  go_enter Try.func52, Try.ntmps52
  go_wp2_with fail
  refine qtail 10 (fun w' => Kept (fun _ => False) w w' ∧ Blk w' q ty (oncv a n false)) (by kernel_rfl) (by kernel_rfl) ⟨(Kept.refl _ _).drew, HB.out⟩ ?_
  simp only [List.take_succ_cons, List.take_zero, List.drop_succ_cons, List.drop_zero]
  refine qstep (o := ⟨some 10, _, _, _, _, _⟩) (v := ?_) (by rfl) (fun wq hSw => ?_) ?_
  rotate_left
  · (go_simp; try with_reducible rfl)
  try simp only [Act.put, List.setIfInBounds_toArray, List.set_cons_zero, List.set_cons_succ]
  refine qstep (o := ⟨some 11, _, _, _, _, _⟩) (v := ?_) (by rfl) (fun wq hSw => ?_) ?_
  rotate_left
  · (go_simp; try with_reducible rfl)
  try simp only [Act.put, List.setIfInBounds_toArray, List.set_cons_zero, List.set_cons_succ]
  refine qstep (o := ⟨some 12, _, _, _, _, _⟩) (v := ?_) (by rfl) (fun wq hSw => ?_) ?_
  rotate_left
  · (go_simp; try with_reducible rfl)
  try simp only [Act.put, List.setIfInBounds_toArray, List.set_cons_zero, List.set_cons_succ]
  refine qstep (o := ⟨some 13, _, _, _, _, _⟩) (v := ?_) (by rfl) (fun wq hSw => ?_) ?_
  rotate_left
  · (go_simp; try with_reducible rfl)
  try simp only [Act.put, List.setIfInBounds_toArray, List.set_cons_zero, List.set_cons_succ]
  refine qstep (o := ⟨some 14, _, _, _, _, _⟩) (v := ?_) (by rfl) (fun wq hSw => ?_) ?_
  rotate_left
  · (have hb9 := hSw.2; have x0 := hb9.cell (i := 0) rfl; have x1 := hb9.cell (i := 1) rfl; have x2 := hb9.cell (i := 2) rfl; clear hb9; go_simp; try with_reducible rfl)
  try simp only [Act.put, List.setIfInBounds_toArray, List.set_cons_zero, List.set_cons_succ]
  refine qstep (o := ⟨some 15, _, _, _, _, _⟩) (v := ?_) (by rfl) (fun wq hSw => ?_) ?_
  rotate_left
  · (go_simp; try with_reducible rfl)
  try simp only [Act.put, List.setIfInBounds_toArray, List.set_cons_zero, List.set_cons_succ]
  refine qstep (o := ⟨some 16, _, _, _, _, _⟩) (v := ?_) (by rfl) (fun wq hSw => ?_) ?_
  rotate_left
  · (go_simp; try with_reducible rfl)
  try simp only [Act.put, List.setIfInBounds_toArray, List.set_cons_zero, List.set_cons_succ]
  refine qstep (o := ⟨some 17, _, _, _, _, _⟩) (v := ?_) (by rfl) (fun wq hSw => ?_) ?_
  rotate_left
  · (go_simp; try with_reducible rfl)
  try simp only [Act.put, List.setIfInBounds_toArray, List.set_cons_zero, List.set_cons_succ]
  refine qstep (o := ⟨some 18, _, _, _, _, _⟩) (v := ?_) (by rfl) (fun wq hSw => ?_) ?_
  rotate_left
  · (have hb9 := hSw.2; have x0 := hb9.cell (i := 0) rfl; have x1 := hb9.cell (i := 1) rfl; have x2 := hb9.cell (i := 2) rfl; clear hb9; go_simp; try with_reducible rfl)
  try simp only [Act.put, List.setIfInBounds_toArray, List.set_cons_zero, List.set_cons_succ]
  refine qstep (o := ⟨some 19, _, _, _, _, _⟩) (v := ?_) (by rfl) (fun wq hSw => ?_) ?_
  rotate_left
  · (go_simp; try with_reducible rfl)
  try simp only [Act.put, List.setIfInBounds_toArray, List.set_cons_zero, List.set_cons_succ]
  refine wpQuiet_nil ?_
  intro wz hHeld
  obtain ⟨hK, hQ⟩ := hHeld
  have HM1 := Lib.hid (HM.out.kept hK (fun h => h) (fun h => h))
  have HQ1 := Lib.hid hQ
  have HK1 := Lib.hid hK
  clear hK hQ HM HB
  go_wp2_with fail
  refine (store_any b g l k a (n : Int) 0 ⟨#[]⟩ _ HM1.out hk).mono ?_; rintro e w2 ⟨rfl, hM2, hK2⟩
  have hqo : ¬ Own b g q := by unfold Own; omega
  have hQ2 := hK2.blk HQ1.out hqo
  have y2 := hQ2.cell (i := 2) rfl
  have u2 := hQ2.frozen 2
  have HQ2 := Lib.hid (hQ2.set 2 (.bool true))
  have HM2 := Lib.hid (hM2.farq hqo 2 (.bool true))
  have HK2 := Lib.hid (((HK1.out.mono (T := Own3 q b g) (fun _ h => h.elim)).trans hK2 (fun _ _ h => .inr h)).setCell (a := ⟨q, 2, none⟩) (fun _ => .inl rfl) (.bool true))
  clear hQ2 hM2 hK2 HM1 HQ1 HK1 x2 z2
  go_wp2
  go_ret
  exact ⟨rfl, HM2.out, HQ2.out, HK2.out⟩

set_option maxHeartbeats 1000000 in
theorem newStamp_any (T S N C R F K fa fb fd : Int) (hl : Lim T S N C R F) (hd : Reach3 fa fb fd) (r n : Nat) (ad : Int) (had : recAt R fd (r : Int) 0 = ad) (w : World) :
    Calls Try.prog 25 #[.agg #[.int .i64 T, .int .i64 S, .int .i64 N, .int .i64 C, .int .i64 R, .int .i64 F, .int .u64 K, .int .i64 fa, .int .i64 fb, .int .i64 fd], .int .u64 (r : Int), .int .u64 (n : Int)] w fun e w' => ∃ q, e = .returned (.pointer (some ⟨q, 0, none⟩)) ∧ w.heap.size ≤ q ∧ Blk w' q 101 (oncv ad n false) ∧ Kept (fun _ => False) w w' := by
  go_enter Try.func25, Try.ntmps25
  go_wp2_with fail
  refine (stamp_to T S N C R F K fa fb fd hl hd (r : Int) ad had _).mono ?_; rintro e w1 ⟨rfl, hK1⟩
  have HK := Lib.hid (((Kept.refl (fun _ => False) w).alloc (.cells #[.int .i64 T, .int .i64 S, .int .i64 N, .int .i64 C, .int .i64 R, .int .i64 F, .int .u64 K, .int .i64 fa, .int .i64 fb, .int .i64 fd] 27)).trans hK1 (fun _ _ h => h))
  have hs := HK.out.size
  clear hK1
  go_wp2
  go_ret
  exact ⟨_, rfl, hs, Blk.new w1 (oncv ad n false) 101, HK.out.alloc _⟩

set_option maxHeartbeats 1000000 in
theorem stepStamp_any (q : Nat) (a : Int) (n : Nat) (w : World) (h : Blk w q 101 (oncv a n false)) (b g : Nat) (l : List Cel) (k : Nat) (hm : Mem w b g l k) (hqb : q ≠ b) (hqg : q ≠ g) (hk : k < 9223372036854775808) :
    Calls Try.prog 26 #[.pointer (some ⟨q, 0, none⟩), .pointer (some ⟨b, 0, none⟩)] w fun e w' => e = .returned (.bool true) ∧ Mem w' b g (putAt l a ((n : Int), ⟨#[]⟩, 0)) (k + 1) ∧ Blk w' q 101 (oncv a n true) ∧ Kept (Own3 q b g) w w' := by
  have HB := Lib.hid h
  have HM := Lib.hid hm
  clear h hm
  go_enter Try.func26, Try.ntmps26
  go_wp2_with fail
  refine (ostep_any q 101 a n _ HB.out b g l k HM.out hqb hqg hk).mono ?_; rintro e w1 ⟨rfl, hM1, hQ1, hK1⟩
  have HM1 := Lib.hid hM1
  have HQ1 := Lib.hid hQ1
  have HK1 := Lib.hid hK1
  clear hM1 hQ1 hK1
  go_wp2
  go_ret
  exact ⟨rfl, HM1.out, HQ1.out, HK1.out⟩

set_option maxHeartbeats 1000000 in
theorem newRestore_any (T S N C R F K fa fb fd : Int) (hl : Lim T S N C R F) (hd : Reach3 fa fb fd) (r n : Nat) (ad : Int) (had : chainAt C fb (r : Int) = ad) (w : World) :
    Calls Try.prog 23 #[.agg #[.int .i64 T, .int .i64 S, .int .i64 N, .int .i64 C, .int .i64 R, .int .i64 F, .int .u64 K, .int .i64 fa, .int .i64 fb, .int .i64 fd], .int .u64 (r : Int), .int .u64 (n : Int)] w fun e w' => ∃ q, e = .returned (.pointer (some ⟨q, 0, none⟩)) ∧ w.heap.size ≤ q ∧ Blk w' q 100 (oncv ad n false) ∧ Kept (fun _ => False) w w' := by
  go_enter Try.func23, Try.ntmps23
  go_wp2_with fail
  refine (chain_to T S N C R F K fa fb fd hl hd (r : Int) ad had _).mono ?_; rintro e w1 ⟨rfl, hK1⟩
  have HK := Lib.hid (((Kept.refl (fun _ => False) w).alloc (.cells #[.int .i64 T, .int .i64 S, .int .i64 N, .int .i64 C, .int .i64 R, .int .i64 F, .int .u64 K, .int .i64 fa, .int .i64 fb, .int .i64 fd] 27)).trans hK1 (fun _ _ h => h))
  have hs := HK.out.size
  clear hK1
  go_wp2
  go_ret
  exact ⟨_, rfl, hs, Blk.new w1 (oncv ad n false) 100, HK.out.alloc _⟩

set_option maxHeartbeats 1000000 in
theorem stepRestore_any (q : Nat) (a : Int) (n : Nat) (w : World) (h : Blk w q 100 (oncv a n false)) (b g : Nat) (l : List Cel) (k : Nat) (hm : Mem w b g l k) (hqb : q ≠ b) (hqg : q ≠ g) (hk : k < 9223372036854775808) :
    Calls Try.prog 24 #[.pointer (some ⟨q, 0, none⟩), .pointer (some ⟨b, 0, none⟩)] w fun e w' => e = .returned (.bool true) ∧ Mem w' b g (putAt l a ((n : Int), ⟨#[]⟩, 0)) (k + 1) ∧ Blk w' q 100 (oncv a n true) ∧ Kept (Own3 q b g) w w' := by
  have HB := Lib.hid h
  have HM := Lib.hid hm
  clear h hm
  go_enter Try.func24, Try.ntmps24
  go_wp2_with fail
  refine (ostep_any q 100 a n _ HB.out b g l k HM.out hqb hqg hk).mono ?_; rintro e w1 ⟨rfl, hM1, hQ1, hK1⟩
  have HM1 := Lib.hid hM1
  have HQ1 := Lib.hid hQ1
  have HK1 := Lib.hid hK1
  clear hM1 hQ1 hK1
  go_wp2
  go_ret
  exact ⟨rfl, HM1.out, HQ1.out, HK1.out⟩

end Go.Proofs.Ytpamjbjgckaedaa
