/-
  NewRead, NewOwn, a Read's Page, the machine Own. Condition: a layout within its limits; fewer than 2^63 accesses so far.
-/
import Derived.Test.YtlehpcbhfdnkdaaNodRead
import Derived.Test.YtlehpcbhfdnkdaaNodCopy
namespace Go.Proofs.Ytlehpcbhfdnkdaa
open Go.RowKit Go.Deep Plain
set_option linter.unusedVariables false

theorem bkept {w w' : World} (h : Below w.heap.size w w') : Kept (fun _ => False) w w' := ⟨h.os, h.tape, h.output, h.size, fun i hi _ => h.block i hi⟩

set_option maxHeartbeats 1000000 in
theorem newRead_any (T S N C R : Int) (F : Nat) (K fa fb fd : Int) (hl : Lim T S N C R (F : Int)) (hd : Reach3 fa fb fd) (nid : Nat)  (w : World) :
    Calls Try.prog 26 #[.agg #[.int .i64 T, .int .i64 S, .int .i64 N, .int .i64 C, .int .i64 R, .int .i64 (F : Int), .int .u64 K, .int .i64 fa, .int .i64 fb, .int .i64 fd], .int .u64 (nid : Int)] w fun e w' => ∃ q : Nat, e = .returned (.pointer (some ⟨q, 0, none⟩)) ∧ Con (fun i => i = q) w' T S N C R F K fa fb fd q 98 nid cs0 [.int .u64 0, .int .i64 0] ∧ w.heap.size ≤ q ∧ Kept (fun _ => False) w w' := by
  go_enter Try.func26, Try.ntmps26
  go_wp2
  go_ret
  have hB : Blk ((w.alloc (.cells #[.int .i64 T, .int .i64 S, .int .i64 N, .int .i64 C, .int .i64 R, .int .i64 (F : Int), .int .u64 K, .int .i64 fa, .int .i64 fb, .int .i64 fd] 30)).alloc (.cells ⟨(conv T S N C R F K fa fb fd nid 0 0 0 (.slice none 0 0) ⟨#[]⟩ false 0 [.int .u64 0, .int .i64 0])⟩ 98)) (w.heap.size + 1) 98 (conv T S N C R F K fa fb fd nid 0 0 0 (.slice none 0 0) ⟨#[]⟩ false 0 [.int .u64 0, .int .i64 0]) := by have := Blk.new (w.alloc (.cells #[.int .i64 T, .int .i64 S, .int .i64 N, .int .i64 C, .int .i64 R, .int .i64 (F : Int), .int .u64 K, .int .i64 fa, .int .i64 fb, .int .i64 fd] 30)) (conv T S N C R F K fa fb fd nid 0 0 0 (.slice none 0 0) ⟨#[]⟩ false 0 [.int .u64 0, .int .i64 0]) 98; rwa [nblk_alloc] at this
  exact ⟨w.heap.size + 1, rfl, ⟨fun i hi => by subst hi; exact hB.lt, rfl, _, hB, World.ownsRow_nil _ _ _ _, fun i hi => by cases hi⟩, Nat.le_succ _, ((Kept.refl _ _).alloc _).alloc _⟩

set_option maxHeartbeats 1000000 in
theorem newOwn_any (T S N C R : Int) (F : Nat) (K fa fb fd : Int) (hl : Lim T S N C R (F : Int)) (hd : Reach3 fa fb fd) (nid : Nat) (wd : Nat) (w : World) :
    Calls Try.prog 25 #[.agg #[.int .i64 T, .int .i64 S, .int .i64 N, .int .i64 C, .int .i64 R, .int .i64 (F : Int), .int .u64 K, .int .i64 fa, .int .i64 fb, .int .i64 fd], .int .u64 (nid : Int), .int .u64 (wd : Int)] w fun e w' => ∃ q : Nat, e = .returned (.pointer (some ⟨q, 0, none⟩)) ∧ Con (fun i => i = q) w' T S N C R F K fa fb fd q 96 nid cs0 [.int .u64 (wd : Int), .bool false] ∧ w.heap.size ≤ q ∧ Kept (fun _ => False) w w' := by
  go_enter Try.func25, Try.ntmps25
  go_wp2
  go_ret
  have hB : Blk ((w.alloc (.cells #[.int .i64 T, .int .i64 S, .int .i64 N, .int .i64 C, .int .i64 R, .int .i64 (F : Int), .int .u64 K, .int .i64 fa, .int .i64 fb, .int .i64 fd] 30)).alloc (.cells ⟨(conv T S N C R F K fa fb fd nid 0 0 0 (.slice none 0 0) ⟨#[]⟩ false 0 [.int .u64 (wd : Int), .bool false])⟩ 96)) (w.heap.size + 1) 96 (conv T S N C R F K fa fb fd nid 0 0 0 (.slice none 0 0) ⟨#[]⟩ false 0 [.int .u64 (wd : Int), .bool false]) := by have := Blk.new (w.alloc (.cells #[.int .i64 T, .int .i64 S, .int .i64 N, .int .i64 C, .int .i64 R, .int .i64 (F : Int), .int .u64 K, .int .i64 fa, .int .i64 fb, .int .i64 fd] 30)) (conv T S N C R F K fa fb fd nid 0 0 0 (.slice none 0 0) ⟨#[]⟩ false 0 [.int .u64 (wd : Int), .bool false]) 96; rwa [nblk_alloc] at this
  exact ⟨w.heap.size + 1, rfl, ⟨fun i hi => by subst hi; exact hB.lt, rfl, _, hB, World.ownsRow_nil _ _ _ _, fun i hi => by cases hi⟩, Nat.le_succ _, ((Kept.refl _ _).alloc _).alloc _⟩

set_option maxHeartbeats 2000000 in
theorem rpage_any (Z : Nat → Prop) (T S N C R : Int) (F : Nat) (K fa fb fd : Int) (q nid : Nat) (y : Rst) (w : World) (h : Con Z w T S N C R F K fa fb fd q 98 nid y.s (rtl y)) (hph : y.ph = 3) (h40 : y.s.xs.length ≤ 1099511627776) :
    Calls Try.prog 30 #[.pointer (some ⟨q, 0, none⟩)] w fun e w' => ∃ A c, e = .returned (.agg #[.int .i64 (y.s.lv : Int), .slice A y.s.xs.length c, .string y.s.hi, .bool y.s.la, .int .u64 (y.s.rt : Int)]) ∧ Rs w' A c y.s.xs ∧ (∀ a, A = some a → w.heap.size ≤ a.block) ∧ Kept (fun _ => False) w w' := by
  obtain ⟨v, h1, h2, h3⟩ := h.ex
  obtain ⟨A, c, rfl, _, hR, _⟩ := Rs.own h2
  obtain ⟨S0, B0, Z0⟩ := box_one w [.int .i64 0, .slice none 0 0, .string ⟨#[]⟩, .bool false, .int .u64 0] 25
  have x19 : w.cell? ⟨q, 19, none⟩ = some (.int .i64 (y.ph : Int)) := h1.cell (i := 19) rfl
  have p3 : ((y.ph : Int) == 3) = true := by simp; omega
  have HR := Lib.hid (hR.below B0 (Nat.le_refl _))
  have hqlt := h1.lt
  have x13 := h1.cell (i := 13) rfl
  have x14 := h1.cell (i := 14) rfl
  have x15 := h1.cell (i := 15) rfl
  have x16 := h1.cell (i := 16) rfl
  have x17 := h1.cell (i := 17) rfl
  clear h h1 h2 h3 hR
  go_enter Try.func30, Try.ntmps30
  go_wp2_with fail
  refine (copied_any y.s.lv A c y.s.hi y.s.la y.s.rt y.s.xs _ _ rfl (by omega) HR.out).mono ?_; rintro e w1 ⟨A1, c1, rfl, hO1, hB1⟩
  rw [Z0] at hO1 hB1
  have S1 := S0.below hB1 (by omega)
  have HB := Lib.hid (B0.trans (hB1.mono (by omega)))
  have HO := Lib.hid hO1
  have y0 := S1.cell (i := 0) rfl
  have z0 := S1.frozen 0
  have y1 := S1.cell (i := 1) rfl
  have z1 := S1.frozen 1
  have y2 := S1.cell (i := 2) rfl
  have z2 := S1.frozen 2
  have y3 := S1.cell (i := 3) rfl
  have z3 := S1.frozen 3
  have y4 := S1.cell (i := 4) rfl
  have z4 := S1.frozen 4
  clear hB1 hO1 S0 B0 Z0 S1 HR
  clear x13 x14 x15 x16 x17
  go_wp2
  refine bodyPost_ret (v := .agg #[.int .i64 (y.s.lv : Int), .slice A1 y.s.xs.length c1, .string y.s.hi, .bool y.s.la, .int .u64 (y.s.rt : Int)]) (by first | (simp [results, Try.results30, go_sem]; done) | (simp [results, Try.results30, go_sem, *]; done)) rfl ?_
  have hO := own_res (own_less HO.out (by omega : w.heap.size + 1 ≤ w.heap.size + 1)) (show w.heap.size < w.heap.size + 1 by omega) (.int .i64 (y.s.lv : Int)) (.slice A1 y.s.xs.length c1) (.string y.s.hi) (.bool y.s.la) (.int .u64 (y.s.rt : Int))
  obtain ⟨A2, c2, e2, _, hR2, hA2⟩ := Rs.own hO
  cases e2
  exact ⟨_, _, rfl, hR2, fun a ha => Nat.le_trans (Nat.le_succ _) (hA2 a ha), bkept (below_res HB.out (Nat.le_refl _) _ _ _ _ _)⟩

set_option maxHeartbeats 2000000 in
theorem ostep_any (Z : Nat → Prop) (T S N C R : Int) (F : Nat) (K fa fb fd : Int) (hl : Lim T S N C R (F : Int)) (hd : Reach3 fa fb fd) (q nid : Nat) (s s' : Cs) (wd : Nat) (w : World) (h : Con Z w T S N C R F K fa fb fd q 96 nid s [.int .u64 (wd : Int), .bool false]) (b g : Nat) (l : List Cel) (k : Nat) (hm : Mem w b g l k) (hb : ¬ Z b) (hg : ¬ Z g) (hk : k < 9223372036854775808) (hok : Oks F s) (hlt : s.rd = 0 ∨ s.rd < s.en) (a0 : Int) (had : adr N F fa nid s.rd = a0)
    (nN mM : Nat) (kK : ByteArray) (hc : cellAt l a0 = ((nN : Int), kK, (mM : Int))) (hN : nN < 18446744073709551616) (hM : mM < 9223372036854775808) (hs : tk F s nN kK mM = s') (r : Bool) (hr : (s'.rd == s'.en) = r) :
    Calls Try.prog 27 #[.pointer (some ⟨q, 0, none⟩), .pointer (some ⟨b, 0, none⟩)] w fun e w' => e = .returned (.bool r) ∧ Mem w' b g l (k + 1) ∧ ∃ Z', Con Z' w' T S N C R F K fa fb fd q 96 nid s' [.int .u64 (wd : Int), .bool r] ∧ Kept (fun i => Z i ∨ i = b ∨ i = g) w w' ∧ (∀ i, Z' i → Z i ∨ w.heap.size ≤ i) := by
  obtain ⟨v0, h10, h20, h30⟩ := h.ex
  have x19 : w.cell? ⟨q, 19, none⟩ = some (.bool false) := h10.cell (i := 19) rfl
  have hqb : q ≠ b := fun e => hb (e ▸ h.own)
  have hqg : q ≠ g := fun e => hg (e ▸ h.own)
  have HH := Lib.hid h
  have HM := Lib.hid hm
  have HC := Lib.hid hc
  have HOK := Lib.hid hok
  have HLT := Lib.hid hlt
  have HS := Lib.hid hs
  have HR := Lib.hid hr
  have HAD := Lib.hid had
  clear h hm hc hok hs hr had h10 h20 h30 hlt
  go_enter Try.func27, Try.ntmps27
  go_wp2_with fail
  refine (cload_any Z T S N C R F K fa fb fd hl hd q 96 nid s s' _ _ HH.out (by decide) b g l k HM.out hb hg hk HOK.out HLT.out a0 HAD.out nN mM kK HC.out hN hM HS.out r HR.out).mono ?_; rintro e w1 ⟨rfl, hM1, Z1, hC1, hK1, hn1⟩
  obtain ⟨v1, h11, h21, h31⟩ := hC1.ex
  have y19 : w1.cell? ⟨q, 19, none⟩ = some (.bool false) := h11.cell (i := 19) rfl
  have z19 := h11.frozen 19
  have HT := Lib.hid (show Con Z1 (w1.setCell ⟨q, 19, none⟩ (.bool r)) T S N C R F K fa fb fd q 96 nid s' [.int .u64 (wd : Int), .bool r] from hC1.setTail (by decide) 1 (.bool r))
  have HM2 := Lib.hid (hM1.farq (q := q) (by unfold Own; omega) 19 (.bool r))
  have HK2 := Lib.hid (hK1.setCell (a := ⟨q, 19, none⟩) (fun _ => .inl HH.out.own) (.bool r))
  have HN1 := Lib.hid hn1
  clear hM1 hC1 hK1 hn1 h11 h21 h31 x19 HH HM HC
  go_wp2
  go_ret
  exact ⟨rfl, HM2.out, Z1, HT.out, HK2.out, HN1.out⟩

set_option maxHeartbeats 2000000 in
theorem oheld_any (Z : Nat → Prop) (T S N C R : Int) (F : Nat) (K fa fb fd : Int) (q nid : Nat) (s : Cs) (wd : Nat) (w : World) (h : Con Z w T S N C R F K fa fb fd q 96 nid s [.int .u64 (wd : Int), .bool true]) (h40 : s.xs.length ≤ 1099511627776) :
    Calls Try.prog 31 #[.pointer (some ⟨q, 0, none⟩)] w fun e w' => ∃ A c, e = .returned (.agg #[.int .u64 (nid : Int), .int .u64 (wd : Int), .int .i64 (s.lv : Int), .slice A s.xs.length c, .string s.hi, .bool s.la, .int .u64 (s.rt : Int)]) ∧ Rs w' A c s.xs ∧ (∀ a, A = some a → w.heap.size ≤ a.block) ∧ Kept (fun _ => False) w w' := by
  obtain ⟨v, h1, h2, h3⟩ := h.ex
  obtain ⟨A, c, rfl, _, hR, _⟩ := Rs.own h2
  obtain ⟨S0, B0, Z0⟩ := box_one w [.int .u64 0, .int .u64 0, .int .i64 0, .slice none 0 0, .string ⟨#[]⟩, .bool false, .int .u64 0] 48
  have x19 : w.cell? ⟨q, 19, none⟩ = some (.bool true) := h1.cell (i := 19) rfl
  have hqlt := h1.lt
  have HR := Lib.hid (hR.below (B0.trans (Below.refl _ _).drew) (Nat.le_refl _))
  have HB := Lib.hid (h1.alloc (.cells #[.int .u64 0, .int .u64 0, .int .i64 0, .slice none 0 0, .string ⟨#[]⟩, .bool false, .int .u64 0] 48))
  clear h h1 h2 h3 hR
  go_enter Try.func31, Try.ntmps31
  go_upto_region 3 with fail
  clear x19
  have HS0 := Lib.hid S0
  have HB0 := Lib.hid B0.drew
  generalize w.alloc (.cells #[.int .u64 0, .int .u64 0, .int .i64 0, .slice none 0 0, .string ⟨#[]⟩, .bool false, .int .u64 0] 48) = W at *
  replace HS0 := Lib.hid (show Blk W.drew w.heap.size 48 [.int .u64 0, .int .u64 0, .int .i64 0, .slice none 0 0, .string ⟨#[]⟩, .bool false, .int .u64 0] from HS0.out)
  replace HB := Lib.hid (HB.out.of (w' := W.drew) rfl)
  replace Z0 : W.drew.heap.size = w.heap.size + 1 := Z0
  clear S0 B0
  refine wp_region_held_drew (S := (fun w' => Blk w' q 96 (conv T S N C R F K fa fb fd nid s.rd s.en s.lv (.slice A s.xs.length c) s.hi s.la s.rt [.int .u64 (wd : Int), .bool true]))) (by kernel_rfl) ?_ (fun hHeld => ?_)
  · exact HB.out
  generalize W.drew = G at *
  refine wpAnyH_take (i := 0) (oi := ⟨some 9, _, _, _, _, _⟩) (v := ?_) rfl (by kernel_rfl) (by kernel_rfl) (by kernel_rfl) (fun _ _ _ h => h) (Or.inl ⟨by rfl, ?_⟩) hHeld ?_
  rotate_left
  · (intro wq hSw; go_simp; try with_reducible rfl)
  try simp only [Act.put, List.setIfInBounds_toArray, List.set_cons_zero, List.set_cons_succ]
  refine wpAnyH_take (i := 1) (oi := ⟨some 10, _, _, _, _, _⟩) (v := ?_) rfl (by kernel_rfl) (by kernel_rfl) (by kernel_rfl) (fun _ _ _ h => h) (Or.inl ⟨by rfl, ?_⟩) hHeld ?_
  rotate_left
  · (intro wq hSw; go_simp; try with_reducible rfl)
  try simp only [Act.put, List.setIfInBounds_toArray, List.set_cons_zero, List.set_cons_succ]
  refine wpAnyH_take (i := 2) (oi := ⟨some 11, _, _, _, _, _⟩) (v := ?_) rfl (by kernel_rfl) (by kernel_rfl) (by kernel_rfl) (fun _ _ _ h => h) (Or.inl ⟨by rfl, ?_⟩) hHeld ?_
  rotate_left
  · (intro wq hSw; go_simp; try with_reducible rfl)
  try simp only [Act.put, List.setIfInBounds_toArray, List.set_cons_zero, List.set_cons_succ]
  refine wpAnyH_take (i := 3) (oi := ⟨some 12, _, _, _, _, _⟩) (v := ?_) rfl (by kernel_rfl) (by kernel_rfl) (by kernel_rfl) (fun _ _ _ h => h) (Or.inl ⟨by rfl, ?_⟩) hHeld ?_
  rotate_left
  · (intro wq hSw; go_simp; try with_reducible rfl)
  try simp only [Act.put, List.setIfInBounds_toArray, List.set_cons_zero, List.set_cons_succ]
  refine wpAnyH_take (i := 4) (oi := ⟨some 13, _, _, _, _, _⟩) (v := ?_) rfl (by kernel_rfl) (by kernel_rfl) (by kernel_rfl) (fun _ _ _ h => h) (Or.inl ⟨by rfl, ?_⟩) hHeld ?_
  rotate_left
  · (intro wq hSw; have x10 := hSw.cell (i := 10) rfl; have x13 := hSw.cell (i := 13) rfl; have x14 := hSw.cell (i := 14) rfl; have x15 := hSw.cell (i := 15) rfl; have x16 := hSw.cell (i := 16) rfl; have x17 := hSw.cell (i := 17) rfl; have x18 := hSw.cell (i := 18) rfl; go_simp; try with_reducible rfl)
  try simp only [Act.put, List.setIfInBounds_toArray, List.set_cons_zero, List.set_cons_succ]
  refine wpAnyH_take (i := 5) (oi := ⟨some 14, _, _, _, _, _⟩) (v := ?_) rfl (by kernel_rfl) (by kernel_rfl) (by kernel_rfl) (fun _ _ _ h => h) (Or.inl ⟨by rfl, ?_⟩) hHeld ?_
  rotate_left
  · (intro wq hSw; go_simp; try with_reducible rfl)
  try simp only [Act.put, List.setIfInBounds_toArray, List.set_cons_zero, List.set_cons_succ]
  refine wpAnyH_take (i := 6) (oi := ⟨some 15, _, _, _, _, _⟩) (v := ?_) rfl (by kernel_rfl) (by kernel_rfl) (by kernel_rfl) (fun _ _ _ h => h) (Or.inl ⟨by rfl, ?_⟩) hHeld ?_
  rotate_left
  · (intro wq hSw; go_simp; try with_reducible rfl)
  try simp only [Act.put, List.setIfInBounds_toArray, List.set_cons_zero, List.set_cons_succ]
  refine wpAnyH_take (i := 7) (oi := ⟨some 16, _, _, _, _, _⟩) (v := ?_) rfl (by kernel_rfl) (by kernel_rfl) (by kernel_rfl) (fun _ _ _ h => h) (Or.inl ⟨by rfl, ?_⟩) hHeld ?_
  rotate_left
  · (intro wq hSw; go_simp; try with_reducible rfl)
  try simp only [Act.put, List.setIfInBounds_toArray, List.set_cons_zero, List.set_cons_succ]
  refine wpAnyH_take (i := 8) (oi := ⟨some 17, _, _, _, _, _⟩) (v := ?_) rfl (by kernel_rfl) (by kernel_rfl) (by kernel_rfl) (fun _ _ _ h => h) (Or.inl ⟨by rfl, ?_⟩) hHeld ?_
  rotate_left
  · (intro wq hSw; have x10 := hSw.cell (i := 10) rfl; have x13 := hSw.cell (i := 13) rfl; have x14 := hSw.cell (i := 14) rfl; have x15 := hSw.cell (i := 15) rfl; have x16 := hSw.cell (i := 16) rfl; have x17 := hSw.cell (i := 17) rfl; have x18 := hSw.cell (i := 18) rfl; go_simp; try with_reducible rfl)
  try simp only [Act.put, List.setIfInBounds_toArray, List.set_cons_zero, List.set_cons_succ]
  refine wpAnyH_take (i := 9) (oi := ⟨some 18, _, _, _, _, _⟩) (v := ?_) rfl (by kernel_rfl) (by kernel_rfl) (by kernel_rfl) (fun _ _ _ h => h) (Or.inl ⟨by rfl, ?_⟩) hHeld ?_
  rotate_left
  · (intro wq hSw; go_simp; try with_reducible rfl)
  try simp only [Act.put, List.setIfInBounds_toArray, List.set_cons_zero, List.set_cons_succ]
  refine wpAnyH_take (i := 10) (oi := ⟨some 19, _, _, _, _, _⟩) (v := ?_) rfl (by kernel_rfl) (by kernel_rfl) (by kernel_rfl) (fun _ _ _ h => h) (Or.inl ⟨by rfl, ?_⟩) hHeld ?_
  rotate_left
  · (intro wq hSw; go_simp; try with_reducible rfl)
  try simp only [Act.put, List.setIfInBounds_toArray, List.set_cons_zero, List.set_cons_succ]
  refine wpAnyH_take (i := 11) (oi := ⟨some 20, _, _, _, _, _⟩) (v := ?_) rfl (by kernel_rfl) (by kernel_rfl) (by kernel_rfl) (fun _ _ _ h => h) (Or.inl ⟨by rfl, ?_⟩) hHeld ?_
  rotate_left
  · (intro wq hSw; go_simp; try with_reducible rfl)
  try simp only [Act.put, List.setIfInBounds_toArray, List.set_cons_zero, List.set_cons_succ]
  refine wpAnyH_take (i := 12) (oi := ⟨some 21, _, _, _, _, _⟩) (v := ?_) rfl (by kernel_rfl) (by kernel_rfl) (by kernel_rfl) (fun _ _ _ h => h) (Or.inl ⟨by rfl, ?_⟩) hHeld ?_
  rotate_left
  · (intro wq hSw; go_simp; try with_reducible rfl)
  try simp only [Act.put, List.setIfInBounds_toArray, List.set_cons_zero, List.set_cons_succ]
  refine wpAnyH_take (i := 13) (oi := ⟨some 22, _, _, _, _, _⟩) (v := ?_) rfl (by kernel_rfl) (by kernel_rfl) (by kernel_rfl) (fun _ _ _ h => h) (Or.inl ⟨by rfl, ?_⟩) hHeld ?_
  rotate_left
  · (intro wq hSw; have x10 := hSw.cell (i := 10) rfl; have x13 := hSw.cell (i := 13) rfl; have x14 := hSw.cell (i := 14) rfl; have x15 := hSw.cell (i := 15) rfl; have x16 := hSw.cell (i := 16) rfl; have x17 := hSw.cell (i := 17) rfl; have x18 := hSw.cell (i := 18) rfl; go_simp; try with_reducible rfl)
  try simp only [Act.put, List.setIfInBounds_toArray, List.set_cons_zero, List.set_cons_succ]
  refine wpAnyH_ready (rs := [14]) (by kernel_rfl) (by simp) ?_
  refine AllReadyH.cons (o := ⟨some 23, _, _, _, _, _⟩) rfl (fun KK hK => ?_) AllReadyH.nil
  go_simp
  go_at_call 40
  refine (copied_any s.lv A c s.hi s.la s.rt s.xs _ _ rfl (by omega) HR.out).mono ?_; rintro e w1 ⟨A1, c1, rfl, hO1, hB1⟩
  rw [Z0] at hO1 hB1
  have S1 := HS0.out.below hB1 (by omega)
  replace HB := Lib.hid (HB.out.below hB1 (by omega))
  have HK := Lib.hid (HB0.out.trans (hB1.mono (by omega)))
  have HO := Lib.hid hO1
  have y0 := S1.cell (i := 0) rfl
  have z0 := S1.frozen 0
  have y1 := S1.cell (i := 1) rfl
  have z1 := S1.frozen 1
  have y2 := S1.cell (i := 2) rfl
  have z2 := S1.frozen 2
  have y3 := S1.cell (i := 3) rfl
  have z3 := S1.frozen 3
  have y4 := S1.cell (i := 4) rfl
  have z4 := S1.frozen 4
  have y5 := S1.cell (i := 5) rfl
  have z5 := S1.frozen 5
  have y6 := S1.cell (i := 6) rfl
  have z6 := S1.frozen 6
  clear hB1 hO1 S1 HR HS0 HB0
  refine hK.out _ _ ?_ (fun hHeld2 => ?_)
  · exact HB.out
  clear hK KK hHeld
  have hHeld := hHeld2
  clear hHeld2
  try simp only [Act.put, List.setIfInBounds_toArray, List.set_cons_zero, List.set_cons_succ]
  refine wpAnyH_take (i := 15) (oi := ⟨some 24, _, _, _, _, _⟩) (v := ?_) rfl (by kernel_rfl) (by kernel_rfl) (by kernel_rfl) (fun _ _ _ h => h) (Or.inl ⟨by rfl, ?_⟩) hHeld ?_
  rotate_left
  · (intro wq hSw; go_simp; try with_reducible rfl)
  try simp only [Act.put, List.setIfInBounds_toArray, List.set_cons_zero, List.set_cons_succ]
  refine wpAnyH_ready (rs := [16]) (by kernel_rfl) (by simp) ?_
  refine AllReadyH.cons (o := ⟨none, _, _, _, _, _⟩) rfl (fun KK hK => ?_) AllReadyH.nil
  go_simp
  replace HB := Lib.hid (((((((HB.out.other (a := ⟨w.heap.size, 0, none⟩) (by simp; omega) (.int .u64 (nid : Int))).other (a := ⟨w.heap.size, 1, none⟩) (by simp; omega) (.int .u64 (wd : Int))).other (a := ⟨w.heap.size, 2, none⟩) (by simp; omega) (.int .i64 (s.lv : Int))).other (a := ⟨w.heap.size, 3, none⟩) (by simp; omega) (.slice A1 s.xs.length c1)).other (a := ⟨w.heap.size, 4, none⟩) (by simp; omega) (.string s.hi)).other (a := ⟨w.heap.size, 5, none⟩) (by simp; omega) (.bool s.la)).other (a := ⟨w.heap.size, 6, none⟩) (by simp; omega) (.int .u64 (s.rt : Int)))
  refine hK.out _ _ ?_ (fun hHeld2 => ?_)
  · exact HB.out
  clear hK KK hHeld
  have hHeld := hHeld2
  clear hHeld2
  try simp only [Act.put, List.setIfInBounds_toArray, List.set_cons_zero, List.set_cons_succ]
  refine wpAnyH_done (by kernel_rfl) ?_ _
  clear hHeld
  go_wp2
  refine bodyPost_ret (v := .agg #[.int .u64 (nid : Int), .int .u64 (wd : Int), .int .i64 (s.lv : Int), .slice A1 s.xs.length c1, .string s.hi, .bool s.la, .int .u64 (s.rt : Int)]) (by first | (simp [results, Try.results31, go_sem]; done) | (simp [results, Try.results31, go_sem, *]; done)) rfl ?_
  have hO := ownsRow_setCell_below (ownsRow_setCell_below (own_res HO.out (show w.heap.size < w.heap.size + 1 by omega) (.int .u64 (nid : Int)) (.int .u64 (wd : Int)) (.int .i64 (s.lv : Int)) (.slice A1 s.xs.length c1) (.string s.hi)) (a := ⟨w.heap.size, 5, none⟩) (show w.heap.size < w.heap.size + 1 by omega) (.bool s.la)) (a := ⟨w.heap.size, 6, none⟩) (show w.heap.size < w.heap.size + 1 by omega) (.int .u64 (s.rt : Int))
  obtain ⟨A2, c2, e2, _, hR2, hA2⟩ := Rs.own hO
  cases e2
  exact ⟨_, _, rfl, hR2, fun a ha => Nat.le_trans (Nat.le_succ _) (hA2 a ha), bkept (((below_res HK.out (Nat.le_refl _) _ _ _ _ _).setCell (p := ⟨w.heap.size, 5, none⟩) (Nat.le_refl _) _).setCell (p := ⟨w.heap.size, 6, none⟩) (Nat.le_refl _) _)⟩

/-- What is read of a node, cell by cell, while nothing changes. -/
def rdn (F : Nat) (l : List Cel) (ad : Nat → Int) : Nat → Cs
  | 0 => cs0
  | r + 1 => tk F (rdn F l ad r) (cellAt l (ad (rdn F l ad r).rd)).1.toNat (cellAt l (ad (rdn F l ad r).rd)).2.1 (cellAt l (ad (rdn F l ad r).rd)).2.2.toNat
theorem rdn_rd (F : Nat) (l : List Cel) (ad : Nat → Int) : ∀ r, (rdn F l ad r).rd = r
  | 0 => rfl
  | r + 1 => by simp only [rdn]; rw [tk_rd, rdn_rd F l ad r]
theorem rdn_oks (F : Nat) (l : List Cel) (ad : Nat → Int) : ∀ r, (∀ m, 0 < m → m < r → (rdn F l ad m).rd ≠ (rdn F l ad m).en) → Oks F (rdn F l ad r)
  | 0, _ => oks0 F
  | r + 1, h => by
    have ho := rdn_oks F l ad r (fun m h0 hm => h m h0 (by omega))
    refine tk_oks ho ?_ _ _ _
    by_cases h0 : r = 0
    · left; rw [rdn_rd]; exact h0
    · right
      have h1 := h r (by omega) (by omega)
      have h2 := ho.en (by rw [rdn_rd]; omega)
      omega
theorem nat_toNat {c : Cel} (h : NatCell c) : c = ((c.1.toNat : Int), c.2.1, (c.2.2.toNat : Int)) ∧ c.1.toNat < 18446744073709551616 ∧ c.2.2.toNat < 9223372036854775808 := by
  obtain ⟨N, M, K, rfl, h1, h2⟩ := h
  refine ⟨rfl, ?_, ?_⟩ <;> simp <;> omega
theorem rdn_holds {F : Nat} {l : List Cel} {ad : Nat → Int} {P : Pg} (hn : Nats l) (hP : Holds ad l P) (hw : Wf P) (hF : P.xs.length ≤ F) : ∀ r, r ≤ P.xs.length + 3 → rdn F l ad r = got P r
  | 0, _ => (got_zero P).symm
  | r + 1, hr => by
    have ih := rdn_holds hn hP hw hF r (by omega)
    simp only [rdn]
    rw [ih, show (got P r).rd = r from rfl, hP r (by omega)]
    have hc := hP r (by omega)
    have := nat_toNat (hn (ad r))
    rw [hc] at this
    exact tk_got hw hF (by omega) this.1

/-- How many cells have been read, as the block says. -/
def rdOf (w : World) (q : Nat) : Nat := match w.cell? ⟨q, 11, none⟩ with
  | some (.int _ n) => n.toNat
  | _ => 0
theorem rdOf_eq {w : World} {q n : Nat} (h : w.cell? ⟨q, 11, none⟩ = some (.int .i64 (n : Int))) : rdOf w q = n := by unfold rdOf; rw [h]; simp

theorem Rs.keptF {Y : Nat → Prop} {w w' : World} {A : Option Addr} {c : Nat} {xs : List Sl} (h : Rs w A c xs) (hk : Kept Y w w') (hA : ∀ a, A = some a → ¬ Y a.block) : Rs w' A c xs :=
  ⟨h.le, h.max, h.none', fun hp => by
    obtain ⟨g, off, e, hg, hc⟩ := h.some' hp
    exact ⟨g, off, e, Nat.lt_of_lt_of_le hg hk.size, fun j u hu => (hk.cell (p := ⟨g, off + j, none⟩) hg (show ¬ Y g from hA _ e)).trans (hc j u hu)⟩⟩

set_option maxHeartbeats 4000000 in
theorem nodepeek_any (T S N C R : Int) (F : Nat) (K fa fb fd : Int) (hl : Lim T S N C R (F : Int)) (hd : Reach3 fa fb fd) (nid b g : Nat) (l : List Cel) (k : Nat) (w : World) (hm : Mem w b g l k) (hn : Nats l) :
    Calls Try.prog 15 #[.agg #[.int .i64 T, .int .i64 S, .int .i64 N, .int .i64 C, .int .i64 R, .int .i64 (F : Int), .int .u64 K, .int .i64 fa, .int .i64 fb, .int .i64 fd], .pointer (some ⟨b, 0, none⟩), .int .u64 (nid : Int)] w fun e w' => ∃ m, 0 < m ∧ (rdn F l (adr N F fa nid) m).rd = (rdn F l (adr N F fa nid) m).en ∧ (∀ i, 0 < i → i < m → (rdn F l (adr N F fa nid) i).rd ≠ (rdn F l (adr N F fa nid) i).en) ∧ ∃ A c, e = .returned (.agg #[.int .i64 ((rdn F l (adr N F fa nid) m).lv : Int), .slice A (rdn F l (adr N F fa nid) m).xs.length c, .string (rdn F l (adr N F fa nid) m).hi, .bool (rdn F l (adr N F fa nid) m).la, .int .u64 ((rdn F l (adr N F fa nid) m).rt : Int)]) ∧ Rs w' A c (rdn F l (adr N F fa nid) m).xs ∧ (∀ a, A = some a → w.heap.size ≤ a.block) ∧ Kept (fun _ => False) w w' := by
  have HQB := Lib.hid (show b < w.heap.size ∧ g < w.heap.size from ⟨hm.obj.lt, hm.row.lt⟩)
  have hB : Blk (((w.alloc (.cells #[.int .i64 T, .int .i64 S, .int .i64 N, .int .i64 C, .int .i64 R, .int .i64 (F : Int), .int .u64 K, .int .i64 fa, .int .i64 fb, .int .i64 fd] 30)).alloc (.cells #[.int .i64 0, .slice none 0 0, .string ⟨#[]⟩, .bool false, .int .u64 0] 25)).alloc (.cells #[.int .i64 T, .int .i64 S, .int .i64 N, .int .i64 C, .int .i64 R, .int .i64 (F : Int), .int .u64 K, .int .i64 fa, .int .i64 fb, .int .i64 fd, .int .u64 (nid : Int), .int .i64 0, .int .i64 0, .int .i64 0, .slice none 0 0, .string ⟨#[]⟩, .bool false, .int .u64 0] 88)) (w.heap.size + 1 + 1) 88 (conv T S N C R F K fa fb fd nid 0 0 0 (.slice none 0 0) ⟨#[]⟩ false 0 []) := by have := Blk.new ((w.alloc (.cells #[.int .i64 T, .int .i64 S, .int .i64 N, .int .i64 C, .int .i64 R, .int .i64 (F : Int), .int .u64 K, .int .i64 fa, .int .i64 fb, .int .i64 fd] 30)).alloc (.cells #[.int .i64 0, .slice none 0 0, .string ⟨#[]⟩, .bool false, .int .u64 0] 25)) [.int .i64 T, .int .i64 S, .int .i64 N, .int .i64 C, .int .i64 R, .int .i64 (F : Int), .int .u64 K, .int .i64 fa, .int .i64 fb, .int .i64 fd, .int .u64 (nid : Int), .int .i64 0, .int .i64 0, .int .i64 0, .slice none 0 0, .string ⟨#[]⟩, .bool false, .int .u64 0] 88; rw [nblk_alloc, nblk_alloc] at this; exact this
  have hS : Blk (((w.alloc (.cells #[.int .i64 T, .int .i64 S, .int .i64 N, .int .i64 C, .int .i64 R, .int .i64 (F : Int), .int .u64 K, .int .i64 fa, .int .i64 fb, .int .i64 fd] 30)).alloc (.cells #[.int .i64 0, .slice none 0 0, .string ⟨#[]⟩, .bool false, .int .u64 0] 25)).alloc (.cells #[.int .i64 T, .int .i64 S, .int .i64 N, .int .i64 C, .int .i64 R, .int .i64 (F : Int), .int .u64 K, .int .i64 fa, .int .i64 fb, .int .i64 fd, .int .u64 (nid : Int), .int .i64 0, .int .i64 0, .int .i64 0, .slice none 0 0, .string ⟨#[]⟩, .bool false, .int .u64 0] 88)) (w.heap.size + 1) 25 [.int .i64 0, .slice none 0 0, .string ⟨#[]⟩, .bool false, .int .u64 0] := by have := (Blk.new (w.alloc (.cells #[.int .i64 T, .int .i64 S, .int .i64 N, .int .i64 C, .int .i64 R, .int .i64 (F : Int), .int .u64 K, .int .i64 fa, .int .i64 fb, .int .i64 fd] 30)) [.int .i64 0, .slice none 0 0, .string ⟨#[]⟩, .bool false, .int .u64 0] 25).alloc (.cells #[.int .i64 T, .int .i64 S, .int .i64 N, .int .i64 C, .int .i64 R, .int .i64 (F : Int), .int .u64 K, .int .i64 fa, .int .i64 fb, .int .i64 fd, .int .u64 (nid : Int), .int .i64 0, .int .i64 0, .int .i64 0, .slice none 0 0, .string ⟨#[]⟩, .bool false, .int .u64 0] 88); rwa [nblk_alloc] at this
  have HM := Lib.hid (((hm.alloc (.cells #[.int .i64 T, .int .i64 S, .int .i64 N, .int .i64 C, .int .i64 R, .int .i64 (F : Int), .int .u64 K, .int .i64 fa, .int .i64 fb, .int .i64 fd] 30)).alloc (.cells #[.int .i64 0, .slice none 0 0, .string ⟨#[]⟩, .bool false, .int .u64 0] 25)).alloc (.cells #[.int .i64 T, .int .i64 S, .int .i64 N, .int .i64 C, .int .i64 R, .int .i64 (F : Int), .int .u64 K, .int .i64 fa, .int .i64 fb, .int .i64 fd, .int .u64 (nid : Int), .int .i64 0, .int .i64 0, .int .i64 0, .slice none 0 0, .string ⟨#[]⟩, .bool false, .int .u64 0] 88))
  have HK := Lib.hid ((((Kept.refl (fun _ => False) w).alloc (.cells #[.int .i64 T, .int .i64 S, .int .i64 N, .int .i64 C, .int .i64 R, .int .i64 (F : Int), .int .u64 K, .int .i64 fa, .int .i64 fb, .int .i64 fd] 30)).alloc (.cells #[.int .i64 0, .slice none 0 0, .string ⟨#[]⟩, .bool false, .int .u64 0] 25)).alloc (.cells #[.int .i64 T, .int .i64 S, .int .i64 N, .int .i64 C, .int .i64 R, .int .i64 (F : Int), .int .u64 K, .int .i64 fa, .int .i64 fb, .int .i64 fd, .int .u64 (nid : Int), .int .i64 0, .int .i64 0, .int .i64 0, .slice none 0 0, .string ⟨#[]⟩, .bool false, .int .u64 0] 88))
  have HC := Lib.hid (show Con (fun i => i = w.heap.size + 1 + 1) _ T S N C R F K fa fb fd (w.heap.size + 1 + 1) 88 nid cs0 [] from ⟨fun i hi => by subst hi; exact hB.lt, rfl, _, hB, World.ownsRow_nil _ _ _ _, fun i hi => by cases hi⟩)
  have HS := Lib.hid hS
  have HN := Lib.hid hn
  clear hB hS hm hn
  go_enter Try.func15, Try.ntmps15
  go_wp2_with fail
  generalize ((w.alloc (.cells #[.int .i64 T, .int .i64 S, .int .i64 N, .int .i64 C, .int .i64 R, .int .i64 (F : Int), .int .u64 K, .int .i64 fa, .int .i64 fb, .int .i64 fd] 30)).alloc (.cells #[.int .i64 0, .slice none 0 0, .string ⟨#[]⟩, .bool false, .int .u64 0] 25)).alloc (.cells #[.int .i64 T, .int .i64 S, .int .i64 N, .int .i64 C, .int .i64 R, .int .i64 (F : Int), .int .u64 K, .int .i64 fa, .int .i64 fb, .int .i64 fd, .int .u64 (nid : Int), .int .i64 0, .int .i64 0, .int .i64 0, .slice none 0 0, .string ⟨#[]⟩, .bool false, .int .u64 0] 88) = W at *
  generalize hq : w.heap.size + 1 + 1 = q at *
  have hqw : w.heap.size + 1 < q := by omega
  have HQ := Lib.hid hq
  clear hq
  go_loopw [15] (fun _ wr => ∃ (m : Nat) (Z : Nat → Prop), (∀ i, 0 < i → i ≤ m → (rdn F l (adr N F fa nid) i).rd ≠ (rdn F l (adr N F fa nid) i).en) ∧ Con Z wr T S N C R F K fa fb fd q 88 nid (rdn F l (adr N F fa nid) m) [] ∧ (∀ i, Z i → q ≤ i) ∧ Mem wr b g l k ∧ Blk wr (w.heap.size + 1) 25 [.int .i64 0, .slice none 0 0, .string ⟨#[]⟩, .bool false, .int .u64 0] ∧ Kept (fun _ => False) w wr) (fun _ wr => 40 - rdOf wr q)
  case atStart => exact ⟨0, _, fun i h0 h1 => by omega, HC.out, fun i hi => by omega, HM.out, HS.out, HK.out⟩
  case round =>
    obtain ⟨m, Z, hne, hC, hZ, hM, hS, hK⟩ := hrel
    clear HC HM HS HK
    rename World => wr
    have hok := rdn_oks F l (adr N F fa nid) m (fun i h0 h1 => hne i h0 (by omega))
    have hrd := rdn_rd F l (adr N F fa nid) m
    have hrl := hok.lt
    have hF := hl.f2
    obtain ⟨v, h1, h2, h3⟩ := hC.ex
    have hc11 : wr.cell? ⟨q, 11, none⟩ = some (.int .i64 ((rdn F l (adr N F fa nid) m).rd : Int)) := h1.cell (i := 11) rfl
    have HB := Lib.hid h1
    have HC := Lib.hid hC
    have HM := Lib.hid hM
    have HS := Lib.hid hS
    have HK := Lib.hid hK
    have HZ := Lib.hid hZ
    have HNE := Lib.hid hne
    have HOK := Lib.hid hok
    have hcn := nat_toNat (HN.out (adr N F fa nid (rdn F l (adr N F fa nid) m).rd))
    obtain ⟨cN, hcN⟩ : ∃ x, (cellAt l (adr N F fa nid (rdn F l (adr N F fa nid) m).rd)).1.toNat = x := ⟨_, rfl⟩
    obtain ⟨cK, hcK⟩ : ∃ x, (cellAt l (adr N F fa nid (rdn F l (adr N F fa nid) m).rd)).2.1 = x := ⟨_, rfl⟩
    obtain ⟨cM, hcM⟩ : ∃ x, (cellAt l (adr N F fa nid (rdn F l (adr N F fa nid) m).rd)).2.2.toNat = x := ⟨_, rfl⟩
    have hnx : tk F (rdn F l (adr N F fa nid) m) cN cK cM = rdn F l (adr N F fa nid) (m + 1) := by simp only [rdn]; rw [hcN, hcK, hcM]
    rw [hcN, hcK, hcM] at hcn
    have HNX := Lib.hid hnx
    have HCN := Lib.hid hcn
    have HRD := Lib.hid hrd
    have hzb : ¬ Z b ∧ ¬ Z g := ⟨fun h => absurd (hZ b h) (by have := HQB.out.1; omega), fun h => absurd (hZ g h) (by have := HQB.out.2; omega)⟩
    clear hcn hcN hcK hcM hnx hC hM hS hK hZ hne hok h1 h2 h3 hrd
    go_wp2_with fail
    refine (address_any T S N C R F K fa fb fd hl hd q 88 nid _ _ _ v _ _ _ [] _ HB.out (by have := HRD.out; omega) _ rfl).mono ?_; rintro e w1 ⟨rfl, hK1⟩
    have HM1 := Lib.hid (HM.out.kept hK1 (fun h => h) (fun h => h))
    have HC1 := Lib.hid (HC.out.kept hK1 (fun _ _ h => h))
    have HS1 := Lib.hid (hK1.blk HS.out (fun h => h))
    have HK1 := Lib.hid (HK.out.trans hK1 (fun _ _ h => h))
    clear hK1 HM HC HS HK HB
    go_wp2_with fail
    refine (peek_any b g l k _ (cN : Int) (cM : Int) cK _ HM1.out HCN.out.1).mono ?_; rintro e w2 ⟨rfl, hK2⟩
    have HM2 := Lib.hid (HM1.out.kept hK2 (fun h => h) (fun h => h))
    have HC2 := Lib.hid (HC1.out.kept hK2 (fun _ _ h => h))
    have HS2 := Lib.hid (hK2.blk HS1.out (fun h => h))
    have HK2 := Lib.hid (HK1.out.trans hK2 (fun _ _ h => h))
    clear hK2 HM1 HC1 HS1 HK1
    by_cases hfin : (rdn F l (adr N F fa nid) (m + 1)).rd = (rdn F l (adr N F fa nid) (m + 1)).en
    · go_wp2_with fail
      refine (take_any Z T S N C R F K fa fb fd hl hd q 88 nid _ _ [] _ HC2.out (by decide) HOK.out (by have h0 := HRD.out; by_cases hz : m = 0; exact .inl (by omega); exact .inr (by have := HOK.out.en (by omega); have := HNE.out m (by omega) (Nat.le_refl _); omega)) cN cM cK HCN.out.2.1 HCN.out.2.2 HNX.out true (by simpa using hfin)).mono ?_; rintro e w3 ⟨rfl, Z3, hC3, hK3, hZ3⟩
      have hz3 : ∀ i, Z3 i → q ≤ i := fun i hi => by rcases hZ3 i hi with h | h; exact HZ.out i h; exact Nat.le_trans (Nat.le_of_lt (HC2.out.lt q HC2.out.own)) h
      have HZ3 := Lib.hid hz3
      have HM3 := Lib.hid (HM2.out.kept hK3 hzb.1 hzb.2)
      have HS3 := Lib.hid (hK3.blk HS2.out (fun h => by have := HZ.out _ h; omega))
      have HK3 := Lib.hid (HK2.out.trans hK3 (fun i hi h => by have := HZ.out _ h; omega))
      have HC3 := Lib.hid hC3
      clear hC3 hK3 hZ3 hz3 HM2 HC2 HS2 HK2
      obtain ⟨v3, h13, h23, h33⟩ := HC3.out.ex
      obtain ⟨A, c, rfl, _, hR, _⟩ := Rs.own h23
      have hA : ∀ a, A = some a → q ≤ a.block := fun a ha => by subst ha; exact HZ3.out _ (h33 _ rfl)
      have x13 := h13.cell (i := 13) rfl
      have x14 := h13.cell (i := 14) rfl
      have x15 := h13.cell (i := 15) rfl
      have x16 := h13.cell (i := 16) rfl
      have x17 := h13.cell (i := 17) rfl
      have y0 := HS3.out.cell (i := 0) rfl
      have z0 := HS3.out.frozen 0
      have y1 := HS3.out.cell (i := 1) rfl
      have z1 := HS3.out.frozen 1
      have y2 := HS3.out.cell (i := 2) rfl
      have z2 := HS3.out.frozen 2
      have y3 := HS3.out.cell (i := 3) rfl
      have z3 := HS3.out.frozen 3
      have y4 := HS3.out.cell (i := 4) rfl
      have z4 := HS3.out.frozen 4
      have HR := Lib.hid hR
      have HA := Lib.hid hA
      clear h13 h23 h33 hR hA HM3 HC3
      go_wp2
      refine bodyPost_ret (v := .agg #[.int .i64 ((rdn F l (adr N F fa nid) (m + 1)).lv : Int), .slice A (rdn F l (adr N F fa nid) (m + 1)).xs.length c, .string (rdn F l (adr N F fa nid) (m + 1)).hi, .bool (rdn F l (adr N F fa nid) (m + 1)).la, .int .u64 ((rdn F l (adr N F fa nid) (m + 1)).rt : Int)]) (by first | (simp [results, Try.results15, go_sem]; done) | (simp [results, Try.results15, go_sem, *]; done)) rfl ?_
      refine ⟨m + 1, Nat.succ_pos _, hfin, fun i h0 hi => HNE.out i h0 (by omega), A, c, rfl, ?_, fun a ha => by have := HA.out a ha; omega, ?_⟩
      · have hk5 := (((((Kept.refl (fun i => i = w.heap.size + 1) w3).setCell (a := ⟨w.heap.size + 1, 0, none⟩) (fun _ => rfl) (.int .i64 ((rdn F l (adr N F fa nid) (m + 1)).lv : Int))).setCell (a := ⟨w.heap.size + 1, 1, none⟩) (fun _ => rfl) (.slice A (rdn F l (adr N F fa nid) (m + 1)).xs.length c)).setCell (a := ⟨w.heap.size + 1, 2, none⟩) (fun _ => rfl) (.string (rdn F l (adr N F fa nid) (m + 1)).hi)).setCell (a := ⟨w.heap.size + 1, 3, none⟩) (fun _ => rfl) (.bool (rdn F l (adr N F fa nid) (m + 1)).la)).setCell (a := ⟨w.heap.size + 1, 4, none⟩) (fun _ => rfl) (.int .u64 ((rdn F l (adr N F fa nid) (m + 1)).rt : Int))
        exact HR.out.keptF hk5 (fun a ha e => by have := HA.out a ha; omega)
      · exact ((((HK3.out.setNew (b := w.heap.size + 1) (Nat.le_succ _) 0 _).setNew (b := w.heap.size + 1) (Nat.le_succ _) 1 _).setNew (b := w.heap.size + 1) (Nat.le_succ _) 2 _).setNew (b := w.heap.size + 1) (Nat.le_succ _) 3 _).setNew (b := w.heap.size + 1) (Nat.le_succ _) 4 _
    · go_wp2_with fail
      refine (take_any Z T S N C R F K fa fb fd hl hd q 88 nid _ _ [] _ HC2.out (by decide) HOK.out (by have h0 := HRD.out; by_cases hz : m = 0; exact .inl (by omega); exact .inr (by have := HOK.out.en (by omega); have := HNE.out m (by omega) (Nat.le_refl _); omega)) cN cM cK HCN.out.2.1 HCN.out.2.2 HNX.out false (by simpa using hfin)).mono ?_; rintro e w3 ⟨rfl, Z3, hC3, hK3, hZ3⟩
      have hz3 : ∀ i, Z3 i → q ≤ i := fun i hi => by rcases hZ3 i hi with h | h; exact HZ.out i h; exact Nat.le_trans (Nat.le_of_lt (HC2.out.lt q HC2.out.own)) h
      have HZ3 := Lib.hid hz3
      have HM3 := Lib.hid (HM2.out.kept hK3 hzb.1 hzb.2)
      have HS3 := Lib.hid (hK3.blk HS2.out (fun h => by have := HZ.out _ h; omega))
      have HK3 := Lib.hid (HK2.out.trans hK3 (fun i hi h => by have := HZ.out _ h; omega))
      have HC3 := Lib.hid hC3
      clear hC3 hK3 hZ3 hz3 HM2 HC2 HS2 HK2
      have hm40 : m < 37 := by
        have ho := rdn_oks F l (adr N F fa nid) (m + 1) (fun i h0 hi => HNE.out i h0 (by omega))
        have := rdn_rd F l (adr N F fa nid) (m + 1)
        have := ho.en (by omega)
        have := hl.f2
        omega
      have hms0 : rdOf wr q = m := by have := rdOf_eq hc11; rw [HRD.out] at this; exact this
      have hms1 : rdOf w3 q = m + 1 := by
        obtain ⟨v3, h13, _, _⟩ := HC3.out.ex
        have h11 : w3.cell? ⟨q, 11, none⟩ = some (.int .i64 ((rdn F l (adr N F fa nid) (m + 1)).rd : Int)) := h13.cell (i := 11) rfl
        have := rdOf_eq h11
        rw [rdn_rd] at this; exact this
      have HMS := Lib.hid (And.intro hms0 hms1)
      clear hms0 hms1
      go_wp2
      go_roundw
      case rel => exact ⟨m + 1, Z3, fun i h0 hi => by rcases (by omega : i ≤ m ∨ i = m + 1) with h | h; exact HNE.out i h0 h; subst h; exact hfin, HC3.out, HZ3.out, HM3.out, HS3.out, HK3.out⟩
      case measure => rw [HMS.out.1, HMS.out.2]; omega

end Go.Proofs.Ytlehpcbhfdnkdaa
