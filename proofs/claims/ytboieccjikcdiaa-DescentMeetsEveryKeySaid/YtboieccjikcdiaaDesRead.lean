/-
  What the machine Read does, a step at a time. Condition: a layout within its limits; fewer than 2^63 accesses so far.
-/
import Derived.Test.YtboieccjikcdiaaDesCon
import Derived.Test.YtboieccjikcdiaaDesWords
namespace Go.Proofs.Ytboieccjikcdiaa
open Go.RowKit Go.Deep Plain
set_option linter.unusedVariables false

theorem latch_to (T S N C R : Int) (F : Nat) (K fa fb fd : Int) (hl : Lim T S N C R (F : Int)) (hd : Reach3 fa fb fd) (n v : Int) (hv : nodeAt N (F : Int) fa n 0 = v) (w : World) :
    Calls Try.prog 93 #[.agg #[.int .i64 T, .int .i64 S, .int .i64 N, .int .i64 C, .int .i64 R, .int .i64 (F : Int), .int .u64 K, .int .i64 fa, .int .i64 fb, .int .i64 fd], .int .u64 n] w fun e w' => e = .returned (.int .i64 v) ∧ Kept (fun _ => False) w w' := by
  have := latch_any T S N C R (F : Int) K fa fb fd n hl hd w; rwa [hv] at this
theorem keepOwn {Z : Nat → Prop} {b g : Nat} (hb : ¬ Z b) (hg : ¬ Z g) : ∀ i, Z i → ¬ Own b g i := fun i hi e => by
  rcases e with rfl | rfl
  · exact hb hi
  · exact hg hi

set_option maxHeartbeats 2000000 in
theorem loadLatch_any (T S N C R : Int) (F : Nat) (K fa fb fd : Int) (hl : Lim T S N C R (F : Int)) (hd : Reach3 fa fb fd) (q nid rd en lv : Nat) (v : Value) (hi : ByteArray) (la : Bool) (rt : Nat) (tl : List Value) (w : World) (h : Blk w q 121 (conv T S N C R F K fa fb fd nid rd en lv v hi la rt tl)) (b g : Nat) (l : List Cel) (k : Nat) (hm : Mem w b g l k) (hk : k < 9223372036854775808) (ad : Int) (had : nodeAt N (F : Int) fa (nid : Int) 0 = ad) (nN mM : Nat) (kK : ByteArray) (hc : cellAt l ad = ((nN : Int), kK, (mM : Int))) (hN : nN < 18446744073709551616) :
    Calls Try.prog 83 #[.pointer (some ⟨q, 0, none⟩), .pointer (some ⟨b, 0, none⟩)] w fun e w' => e = .returned (.int .u64 (nN : Int)) ∧ Mem w' b g l (k + 1) ∧ Kept (Own b g) w w' := by
  have HB := Lib.hid h
  have HM := Lib.hid hm
  have HC := Lib.hid hc
  have hfd := field0 (nN : Int) (mM : Int) kK
  clear h hm hc
  go_enter Try.func83, Try.ntmps83
  go_wp2_with fail
  refine qtail 12 (fun w' => Kept (fun _ => False) w w' ∧ Blk w' q 121 (conv T S N C R F K fa fb fd nid rd en lv v hi la rt tl)) (by kernel_rfl) (by kernel_rfl) ⟨(Kept.refl _ _).drew, HB.out⟩ ?_
  simp only [List.take_succ_cons, List.take_zero, List.drop_succ_cons, List.drop_zero]
  refine qstep (o := ⟨some 5, _, _, _, _, _⟩) (v := ?_) (by rfl) (fun wq hSw => ?_) ?_
  rotate_left
  · (go_simp; try with_reducible rfl)
  try simp only [Act.put, List.setIfInBounds_toArray, List.set_cons_zero, List.set_cons_succ]
  refine qstep (o := ⟨some 6, _, _, _, _, _⟩) (v := ?_) (by rfl) (fun wq hSw => ?_) ?_
  rotate_left
  · (go_simp; try with_reducible rfl)
  try simp only [Act.put, List.setIfInBounds_toArray, List.set_cons_zero, List.set_cons_succ]
  refine qstep (o := ⟨some 7, _, _, _, _, _⟩) (v := ?_) (by rfl) (fun wq hSw => ?_) ?_
  rotate_left
  · (go_simp; try with_reducible rfl)
  try simp only [Act.put, List.setIfInBounds_toArray, List.set_cons_zero, List.set_cons_succ]
  refine qstep (o := ⟨some 8, _, _, _, _, _⟩) (v := ?_) (by rfl) (fun wq hSw => ?_) ?_
  rotate_left
  · (go_simp; try with_reducible rfl)
  try simp only [Act.put, List.setIfInBounds_toArray, List.set_cons_zero, List.set_cons_succ]
  refine qstep (o := ⟨some 9, _, _, _, _, _⟩) (v := ?_) (by rfl) (fun wq hSw => ?_) ?_
  rotate_left
  · (go_simp; try with_reducible rfl)
  try simp only [Act.put, List.setIfInBounds_toArray, List.set_cons_zero, List.set_cons_succ]
  refine qstep (o := ⟨some 10, _, _, _, _, _⟩) (v := ?_) (by rfl) (fun wq hSw => ?_) ?_
  rotate_left
  · (have hb9 := hSw.2; have x0 := hb9.cell (i := 0) rfl; have x1 := hb9.cell (i := 1) rfl; have x2 := hb9.cell (i := 2) rfl; have x3 := hb9.cell (i := 3) rfl; have x4 := hb9.cell (i := 4) rfl; have x5 := hb9.cell (i := 5) rfl; have x6 := hb9.cell (i := 6) rfl; have x7 := hb9.cell (i := 7) rfl; have x8 := hb9.cell (i := 8) rfl; have x9 := hb9.cell (i := 9) rfl; have x10 := hb9.cell (i := 10) rfl; clear hb9; go_simp; try with_reducible rfl)
  try simp only [Act.put, List.setIfInBounds_toArray, List.set_cons_zero, List.set_cons_succ]
  refine qstep (o := ⟨some 11, _, _, _, _, _⟩) (v := ?_) (by rfl) (fun wq hSw => ?_) ?_
  rotate_left
  · (go_simp; try with_reducible rfl)
  try simp only [Act.put, List.setIfInBounds_toArray, List.set_cons_zero, List.set_cons_succ]
  refine qstep (o := ⟨some 12, _, _, _, _, _⟩) (v := ?_) (by rfl) (fun wq hSw => ?_) ?_
  rotate_left
  · (go_simp; try with_reducible rfl)
  try simp only [Act.put, List.setIfInBounds_toArray, List.set_cons_zero, List.set_cons_succ]
  refine qstep (o := ⟨some 13, _, _, _, _, _⟩) (v := ?_) (by rfl) (fun wq hSw => ?_) ?_
  rotate_left
  · (go_simp; try with_reducible rfl)
  try simp only [Act.put, List.setIfInBounds_toArray, List.set_cons_zero, List.set_cons_succ]
  refine qstep (o := ⟨some 14, _, _, _, _, _⟩) (v := ?_) (by rfl) (fun wq hSw => ?_) ?_
  rotate_left
  · (go_simp; try with_reducible rfl)
  try simp only [Act.put, List.setIfInBounds_toArray, List.set_cons_zero, List.set_cons_succ]
  refine qstep (o := ⟨some 15, _, _, _, _, _⟩) (v := ?_) (by rfl) (fun wq hSw => ?_) ?_
  rotate_left
  · (have hb9 := hSw.2; have x0 := hb9.cell (i := 0) rfl; have x1 := hb9.cell (i := 1) rfl; have x2 := hb9.cell (i := 2) rfl; have x3 := hb9.cell (i := 3) rfl; have x4 := hb9.cell (i := 4) rfl; have x5 := hb9.cell (i := 5) rfl; have x6 := hb9.cell (i := 6) rfl; have x7 := hb9.cell (i := 7) rfl; have x8 := hb9.cell (i := 8) rfl; have x9 := hb9.cell (i := 9) rfl; have x10 := hb9.cell (i := 10) rfl; clear hb9; go_simp; try with_reducible rfl)
  try simp only [Act.put, List.setIfInBounds_toArray, List.set_cons_zero, List.set_cons_succ]
  refine qcall (o := ⟨some 16, _, _, _, _, _⟩) (v := .int .i64 ad) (by rfl) (fun wq hSw => ?_) (fun wq hSw => Calls.mono (latch_to T S N C R F K fa fb fd hl hd (nid : Int) ad had _) ?_) ?_
  · (go_simp; try with_reducible rfl)
  · rintro e w9 ⟨rfl, hk⟩; exact ⟨rfl, hSw.1.trans hk (fun _ _ h => h), hk.blk hSw.2 (fun h => h)⟩
  try simp only [Act.put, List.setIfInBounds_toArray, List.set_cons_zero, List.set_cons_succ]
  refine wpQuiet_nil ?_
  intro wz hHeld
  obtain ⟨hK, -⟩ := hHeld
  have HM1 := Lib.hid (HM.out.kept hK (fun h => h) (fun h => h))
  have HK1 := Lib.hid hK
  clear hK HM HB
  go_wp2_with fail
  refine (load_any b g l k ad (nN : Int) (mM : Int) kK _ HM1.out hk HC.out).mono ?_; rintro e w2 ⟨rfl, hM2, hK2⟩
  have HM2 := Lib.hid hM2
  have HK2 := Lib.hid ((HK1.out.mono (T := Own b g) (fun _ h => h.elim)).trans hK2 (fun _ _ h => h))
  clear hM2 hK2 HM1 HK1 HC
  go_wp2
  go_ret
  exact ⟨rfl, HM2.out, HK2.out⟩

set_option maxHeartbeats 2000000 in
theorem begin_true (Z : Nat → Prop) (T S N C R : Int) (F : Nat) (K fa fb fd : Int) (hl : Lim T S N C R (F : Int)) (hd : Reach3 fa fb fd) (q nid : Nat) (s : Cs) (wd ph : Nat) (w : World) (h : Con Z w T S N C R F K fa fb fd q 121 nid s [.int .u64 (wd : Int), .int .i64 (ph : Int)]) (b g : Nat) (l : List Cel) (k : Nat) (hm : Mem w b g l k) (hb : ¬ Z b) (hg : ¬ Z g) (hk : k < 9223372036854775808) (ad : Int) (had : nodeAt N (F : Int) fa (nid : Int) 0 = ad) (nN mM : Nat) (kK : ByteArray) (hc : cellAt l ad = ((nN : Int), kK, (mM : Int))) (hN : nN < 18446744073709551616) (hch : (nN / 2 % 2 == 1) = true) :
    Calls Try.prog 71 #[.pointer (some ⟨q, 0, none⟩), .pointer (some ⟨b, 0, none⟩)] w fun e w' => e = .returned (.tuple #[]) ∧ Mem w' b g l (k + 1) ∧ Con Z w' T S N C R F K fa fb fd q 121 nid s [.int .u64 (nN : Int), .int .i64 (ph : Int)] ∧ Kept (fun i => Z i ∨ i = b ∨ i = g) w w' := by
  obtain ⟨v, h1, h2, h3⟩ := h.ex
  have HH := Lib.hid h
  have HM := Lib.hid hm
  have HC := Lib.hid hc
  have HB := Lib.hid h1
  have HCH := Lib.hid hch
  clear h hm hc h1 h2 h3 hch
  go_enter Try.func71, Try.ntmps71
  go_wp2_with fail
  refine (loadLatch_any T S N C R F K fa fb fd hl hd q nid s.rd s.en s.lv v s.hi s.la s.rt _ _ HB.out b g l k HM.out hk ad had nN mM kK HC.out hN).mono ?_; rintro e w1 ⟨rfl, hM1, hK1⟩
  have hH1 := HH.out.kept hK1 (keepOwn hb hg)
  obtain ⟨v1, h11, h21, h31⟩ := hH1.ex
  have x18 := h11.cell (i := 18) rfl
  have z18 := h11.frozen 18
  have hqb : q ≠ b := fun e => hb (e ▸ HH.out.own)
  have hqg : q ≠ g := fun e => hg (e ▸ HH.out.own)
  have HT := Lib.hid (show Con Z (w1.setCell ⟨q, 18, none⟩ (.int .u64 (nN : Int))) T S N C R F K fa fb fd q 121 nid s [.int .u64 (nN : Int), .int .i64 (ph : Int)] from hH1.setTail (by decide) 0 (.int .u64 (nN : Int)))
  have HM2 := Lib.hid (hM1.farq (q := q) (by unfold Own; omega) 18 (.int .u64 (nN : Int)))
  have HK2 := Lib.hid ((hK1.mono (T := fun i => Z i ∨ i = b ∨ i = g) (fun i e => .inr e)).setCell (a := ⟨q, 18, none⟩) (fun _ => .inl HH.out.own) (.int .u64 (nN : Int)))
  clear hM1 hK1 hH1 h11 h21 h31 HM HC HB HH
  go_wp2_with fail
  refine (changing_of nN true hN HCH.out _).mono ?_; rintro e w2 ⟨rfl, rfl⟩
  go_wp2
  go_end0
  exact ⟨rfl, HM2.out, HT.out, HK2.out⟩

set_option maxHeartbeats 2000000 in
theorem begin_false (Z : Nat → Prop) (T S N C R : Int) (F : Nat) (K fa fb fd : Int) (hl : Lim T S N C R (F : Int)) (hd : Reach3 fa fb fd) (q nid : Nat) (s : Cs) (wd ph : Nat) (w : World) (h : Con Z w T S N C R F K fa fb fd q 121 nid s [.int .u64 (wd : Int), .int .i64 (ph : Int)]) (b g : Nat) (l : List Cel) (k : Nat) (hm : Mem w b g l k) (hb : ¬ Z b) (hg : ¬ Z g) (hk : k < 9223372036854775808) (ad : Int) (had : nodeAt N (F : Int) fa (nid : Int) 0 = ad) (nN mM : Nat) (kK : ByteArray) (hc : cellAt l ad = ((nN : Int), kK, (mM : Int))) (hN : nN < 18446744073709551616) (hch : (nN / 2 % 2 == 1) = false) :
    Calls Try.prog 71 #[.pointer (some ⟨q, 0, none⟩), .pointer (some ⟨b, 0, none⟩)] w fun e w' => e = .returned (.tuple #[]) ∧ Mem w' b g l (k + 1) ∧ Con Z w' T S N C R F K fa fb fd q 121 nid cs0 [.int .u64 (nN : Int), .int .i64 1] ∧ Kept (fun i => Z i ∨ i = b ∨ i = g) w w' := by
  obtain ⟨v, h1, h2, h3⟩ := h.ex
  have HH := Lib.hid h
  have HM := Lib.hid hm
  have HC := Lib.hid hc
  have HB := Lib.hid h1
  have HCH := Lib.hid hch
  clear h hm hc h1 h2 h3 hch
  go_enter Try.func71, Try.ntmps71
  go_wp2_with fail
  refine (loadLatch_any T S N C R F K fa fb fd hl hd q nid s.rd s.en s.lv v s.hi s.la s.rt _ _ HB.out b g l k HM.out hk ad had nN mM kK HC.out hN).mono ?_; rintro e w1 ⟨rfl, hM1, hK1⟩
  have hH1 := HH.out.kept hK1 (keepOwn hb hg)
  obtain ⟨v1, h11, h21, h31⟩ := hH1.ex
  have x18 := h11.cell (i := 18) rfl
  have z18 := h11.frozen 18
  have hqb : q ≠ b := fun e => hb (e ▸ HH.out.own)
  have hqg : q ≠ g := fun e => hg (e ▸ HH.out.own)
  have HT := Lib.hid (show Con Z (w1.setCell ⟨q, 18, none⟩ (.int .u64 (nN : Int))) T S N C R F K fa fb fd q 121 nid s [.int .u64 (nN : Int), .int .i64 (ph : Int)] from hH1.setTail (by decide) 0 (.int .u64 (nN : Int)))
  have HM2 := Lib.hid (hM1.farq (q := q) (by unfold Own; omega) 18 (.int .u64 (nN : Int)))
  have HK2 := Lib.hid ((hK1.mono (T := fun i => Z i ∨ i = b ∨ i = g) (fun i e => .inr e)).setCell (a := ⟨q, 18, none⟩) (fun _ => .inl HH.out.own) (.int .u64 (nN : Int)))
  clear hM1 hK1 hH1 h11 h21 h31 HM HC HB HH
  go_wp2_with fail
  refine (changing_of nN false hN HCH.out _).mono ?_; rintro e w2 ⟨rfl, rfl⟩
  clear x18 z18
  generalize w1.setCell ⟨q, 18, none⟩ (.int .u64 (nN : Int)) = W at *
  have hT := HT.out
  obtain ⟨v2, h12, h22, h32⟩ := hT.ex
  have HB2 := Lib.hid h12
  clear h12 h22 h32 hT
  go_wp2_with fail
  refine (restart_any T S N C R F K fa fb fd hl hd q 121 nid s.rd s.en s.lv v2 s.hi s.la s.rt _ _ HB2.out).mono ?_; rintro e w3 ⟨rfl, hB3, hK3⟩
  have x19 := hB3.cell (i := 19) rfl
  have z19 := hB3.frozen 19
  have hC3 : Con Z w3 T S N C R F K fa fb fd q 121 nid cs0 [.int .u64 (nN : Int), .int .i64 (ph : Int)] := ⟨fun i hi => Nat.lt_of_lt_of_le (HT.out.lt i hi) hK3.size, HT.out.own, _, hB3, World.ownsRow_nil _ _ _ _, fun i hi => by cases hi⟩
  have HT3 := Lib.hid (show Con Z (w3.setCell ⟨q, 19, none⟩ (.int .i64 1)) T S N C R F K fa fb fd q 121 nid cs0 [.int .u64 (nN : Int), .int .i64 1] from hC3.setTail (by decide) 1 (.int .i64 1))
  have HM3 := Lib.hid ((HM2.out.kept hK3 (fun e => hqb e.symm) (fun e => hqg e.symm)).farq (q := q) (by unfold Own; omega) 19 (.int .i64 1))
  have HK3 := Lib.hid ((HK2.out.trans hK3 (fun i _ e => .inl (by subst e; exact HT.out.own))).setCell (a := ⟨q, 19, none⟩) (fun _ => .inl HT.out.own) (.int .i64 1))
  clear hB3 hK3 hC3 HB2 HT HM2 HK2
  go_wp2
  go_end0
  exact ⟨rfl, HM3.out, HT3.out, HK3.out⟩

set_option maxHeartbeats 2000000 in
theorem validate_true (Z : Nat → Prop) (T S N C R : Int) (F : Nat) (K fa fb fd : Int) (hl : Lim T S N C R (F : Int)) (hd : Reach3 fa fb fd) (q nid : Nat) (s : Cs) (wd ph : Nat) (w : World) (h : Con Z w T S N C R F K fa fb fd q 121 nid s [.int .u64 (wd : Int), .int .i64 (ph : Int)]) (hwd : wd < 18446744073709551616) (b g : Nat) (l : List Cel) (k : Nat) (hm : Mem w b g l k) (hb : ¬ Z b) (hg : ¬ Z g) (hk : k < 9223372036854775808) (ad : Int) (had : nodeAt N (F : Int) fa (nid : Int) 0 = ad) (nN mM : Nat) (kK : ByteArray) (hc : cellAt l ad = ((nN : Int), kK, (mM : Int))) (hN : nN < 18446744073709551616) (hr : (wd / 2 == nN / 2) = true) :
    Calls Try.prog 73 #[.pointer (some ⟨q, 0, none⟩), .pointer (some ⟨b, 0, none⟩)] w fun e w' => e = .returned (.tuple #[]) ∧ Mem w' b g l (k + 1) ∧ Con Z w' T S N C R F K fa fb fd q 121 nid s [.int .u64 (wd : Int), .int .i64 3] ∧ Kept (fun i => Z i ∨ i = b ∨ i = g) w w' := by
  obtain ⟨v, h1, h2, h3⟩ := h.ex
  have HH := Lib.hid h
  have HM := Lib.hid hm
  have HC := Lib.hid hc
  have x18 := h1.cell (i := 18) rfl
  have HB := Lib.hid h1
  have HR := Lib.hid hr
  have hqb : q ≠ b := fun e => hb (e ▸ h.own)
  have hqg : q ≠ g := fun e => hg (e ▸ h.own)
  have HX := Lib.hid x18
  clear h hm hc h1 h2 h3 hr x18
  go_enter Try.func73, Try.ntmps73
  go_wp2_with fail
  have HM := Lib.hid HM.out.drew
  have HH0 := Lib.hid (HH.out.kept ((Kept.refl (fun _ => False) _).drew) (fun _ _ h => h))
  have HB0 := Lib.hid (HB.out.of (w' := w.drew) rfl)
  have HX0 := Lib.hid (show w.drew.cell? ⟨q, 18, none⟩ = some (.int .u64 (wd : Int)) from HX.out)
  have HK0 := Lib.hid ((Kept.refl (fun i => Z i ∨ i = b ∨ i = g) w).drew)
  clear HX HB HH
  refine wp_region_held_drew (S := (fun w' => w'.cell? ⟨q, 18, none⟩ = some (.int .u64 (wd : Int)))) (by kernel_rfl) ?_ (fun hHeld => ?_)
  · exact HX0.out
  generalize w.drew = G at *
  refine wpAnyH_take (i := 0) (oi := ⟨some 4, _, _, _, _, _⟩) (v := ?_) rfl (by kernel_rfl) (by kernel_rfl) (by kernel_rfl) (fun _ _ _ h => h) (Or.inl ⟨by rfl, ?_⟩) hHeld ?_
  rotate_left
  · (intro wq hSw; go_simp; try with_reducible rfl)
  try simp only [Act.put, List.setIfInBounds_toArray, List.set_cons_zero, List.set_cons_succ]
  refine wpAnyH_take (i := 1) (oi := ⟨some 5, _, _, _, _, _⟩) (v := ?_) rfl (by kernel_rfl) (by kernel_rfl) (by kernel_rfl) (fun _ _ _ h => h) (Or.inl ⟨by rfl, ?_⟩) hHeld ?_
  rotate_left
  · (intro wq hSw; go_simp; try with_reducible rfl)
  try simp only [Act.put, List.setIfInBounds_toArray, List.set_cons_zero, List.set_cons_succ]
  refine wpAnyH_take (i := 2) (oi := ⟨some 6, _, _, _, _, _⟩) (v := ?_) rfl (by kernel_rfl) (by kernel_rfl) (by kernel_rfl) (fun _ _ _ h => h) (Or.inl ⟨by rfl, ?_⟩) hHeld ?_
  rotate_left
  · (intro wq hSw; go_simp; try with_reducible rfl)
  try simp only [Act.put, List.setIfInBounds_toArray, List.set_cons_zero, List.set_cons_succ]
  refine wpAnyH_take (i := 3) (oi := ⟨some 7, _, _, _, _, _⟩) (v := ?_) rfl (by kernel_rfl) (by kernel_rfl) (by kernel_rfl) (fun _ _ _ h => h) (Or.inl ⟨by rfl, ?_⟩) hHeld ?_
  rotate_left
  · (intro wq hSw; have x18 := hSw; go_simp; try with_reducible rfl)
  try simp only [Act.put, List.setIfInBounds_toArray, List.set_cons_zero, List.set_cons_succ]
  refine wpAnyH_take (i := 4) (oi := ⟨some 8, _, _, _, _, _⟩) (v := ?_) rfl (by kernel_rfl) (by kernel_rfl) (by kernel_rfl) (fun _ _ _ h => h) (Or.inl ⟨by rfl, ?_⟩) hHeld ?_
  rotate_left
  · (intro wq hSw; go_simp; try with_reducible rfl)
  try simp only [Act.put, List.setIfInBounds_toArray, List.set_cons_zero, List.set_cons_succ]
  refine wpAnyH_take (i := 5) (oi := ⟨some 9, _, _, _, _, _⟩) (v := ?_) rfl (by kernel_rfl) (by kernel_rfl) (by kernel_rfl) (fun _ _ _ h => h) (Or.inl ⟨by rfl, ?_⟩) hHeld ?_
  rotate_left
  · (intro wq hSw; go_simp; try with_reducible rfl)
  try simp only [Act.put, List.setIfInBounds_toArray, List.set_cons_zero, List.set_cons_succ]
  refine wpAnyH_ready (rs := [6]) (by kernel_rfl) (by simp) ?_
  refine AllReadyH.cons (o := ⟨some 10, _, _, _, _, _⟩) rfl (fun KK hK => ?_) AllReadyH.nil
  go_simp
  go_at_call 83
  refine (loadLatch_any T S N C R F K fa fb fd hl hd q nid s.rd s.en s.lv v s.hi s.la s.rt _ _ HB0.out b g l k HM.out hk ad had nN mM kK HC.out hN).mono ?_; rintro e w1 ⟨rfl, hM1, hK1⟩
  replace HX0 := Lib.hid ((hK1.cell (p := ⟨q, 18, none⟩) HB0.out.lt (fun e => by rcases e with e | e; exact hqb e; exact hqg e)).trans HX0.out)
  replace HH0 := Lib.hid (HH0.out.kept hK1 (keepOwn hb hg))
  replace HM := Lib.hid hM1
  replace HK0 := Lib.hid (HK0.out.trans hK1 (fun i _ e => .inr e))
  clear hM1 hK1 HB0
  refine hK.out _ _ ?_ (fun hHeld2 => ?_)
  · exact HX0.out
  clear hK KK hHeld
  have hHeld := hHeld2
  clear hHeld2
  try simp only [Act.put, List.setIfInBounds_toArray, List.set_cons_zero, List.set_cons_succ]
  refine wpAnyH_ready (rs := [7]) (by kernel_rfl) (by simp) ?_
  refine AllReadyH.cons (o := ⟨some 11, _, _, _, _, _⟩) rfl (fun KK hK => ?_) AllReadyH.nil
  go_simp
  go_at_call 88
  refine (same_of wd nN true hwd hN HR.out _).mono ?_; rintro e w2 ⟨rfl, rfl⟩
  refine hK.out _ _ ?_ (fun hHeld2 => ?_)
  · exact HX0.out
  clear hK KK hHeld
  have hHeld := hHeld2
  clear hHeld2
  try simp only [Act.put, List.setIfInBounds_toArray, List.set_cons_zero, List.set_cons_succ]
  refine wpAnyH_done (by kernel_rfl) ?_ _
  clear hHeld
  have hH1 := HH0.out
  obtain ⟨v1, h11, h21, h31⟩ := hH1.ex
  have x19 := h11.cell (i := 19) rfl
  have z19 := h11.frozen 19
  have HT := Lib.hid (show Con Z (w1.setCell ⟨q, 19, none⟩ (.int .i64 3)) T S N C R F K fa fb fd q 121 nid s [.int .u64 (wd : Int), .int .i64 3] from hH1.setTail (by decide) 1 (.int .i64 3))
  have HM2 := Lib.hid (HM.out.farq (q := q) (by unfold Own; omega) 19 (.int .i64 3))
  have HK2 := Lib.hid (HK0.out.setCell (a := ⟨q, 19, none⟩) (fun _ => .inl hH1.own) (.int .i64 3))
  clear hH1 h11 h21 h31 HM HC HH0 HK0 HX0
  go_wp2
  go_end0
  exact ⟨rfl, HM2.out, HT.out, HK2.out⟩

set_option maxHeartbeats 2000000 in
theorem validate_false (Z : Nat → Prop) (T S N C R : Int) (F : Nat) (K fa fb fd : Int) (hl : Lim T S N C R (F : Int)) (hd : Reach3 fa fb fd) (q nid : Nat) (s : Cs) (wd ph : Nat) (w : World) (h : Con Z w T S N C R F K fa fb fd q 121 nid s [.int .u64 (wd : Int), .int .i64 (ph : Int)]) (hwd : wd < 18446744073709551616) (b g : Nat) (l : List Cel) (k : Nat) (hm : Mem w b g l k) (hb : ¬ Z b) (hg : ¬ Z g) (hk : k < 9223372036854775808) (ad : Int) (had : nodeAt N (F : Int) fa (nid : Int) 0 = ad) (nN mM : Nat) (kK : ByteArray) (hc : cellAt l ad = ((nN : Int), kK, (mM : Int))) (hN : nN < 18446744073709551616) (hr : (wd / 2 == nN / 2) = false) :
    Calls Try.prog 73 #[.pointer (some ⟨q, 0, none⟩), .pointer (some ⟨b, 0, none⟩)] w fun e w' => e = .returned (.tuple #[]) ∧ Mem w' b g l (k + 1) ∧ Con Z w' T S N C R F K fa fb fd q 121 nid s [.int .u64 (wd : Int), .int .i64 0] ∧ Kept (fun i => Z i ∨ i = b ∨ i = g) w w' := by
  obtain ⟨v, h1, h2, h3⟩ := h.ex
  have HH := Lib.hid h
  have HM := Lib.hid hm
  have HC := Lib.hid hc
  have x18 := h1.cell (i := 18) rfl
  have HB := Lib.hid h1
  have HR := Lib.hid hr
  have hqb : q ≠ b := fun e => hb (e ▸ h.own)
  have hqg : q ≠ g := fun e => hg (e ▸ h.own)
  have HX := Lib.hid x18
  clear h hm hc h1 h2 h3 hr x18
  go_enter Try.func73, Try.ntmps73
  go_wp2_with fail
  have HM := Lib.hid HM.out.drew
  have HH0 := Lib.hid (HH.out.kept ((Kept.refl (fun _ => False) _).drew) (fun _ _ h => h))
  have HB0 := Lib.hid (HB.out.of (w' := w.drew) rfl)
  have HX0 := Lib.hid (show w.drew.cell? ⟨q, 18, none⟩ = some (.int .u64 (wd : Int)) from HX.out)
  have HK0 := Lib.hid ((Kept.refl (fun i => Z i ∨ i = b ∨ i = g) w).drew)
  clear HX HB HH
  refine wp_region_held_drew (S := (fun w' => w'.cell? ⟨q, 18, none⟩ = some (.int .u64 (wd : Int)))) (by kernel_rfl) ?_ (fun hHeld => ?_)
  · exact HX0.out
  generalize w.drew = G at *
  refine wpAnyH_take (i := 0) (oi := ⟨some 4, _, _, _, _, _⟩) (v := ?_) rfl (by kernel_rfl) (by kernel_rfl) (by kernel_rfl) (fun _ _ _ h => h) (Or.inl ⟨by rfl, ?_⟩) hHeld ?_
  rotate_left
  · (intro wq hSw; go_simp; try with_reducible rfl)
  try simp only [Act.put, List.setIfInBounds_toArray, List.set_cons_zero, List.set_cons_succ]
  refine wpAnyH_take (i := 1) (oi := ⟨some 5, _, _, _, _, _⟩) (v := ?_) rfl (by kernel_rfl) (by kernel_rfl) (by kernel_rfl) (fun _ _ _ h => h) (Or.inl ⟨by rfl, ?_⟩) hHeld ?_
  rotate_left
  · (intro wq hSw; go_simp; try with_reducible rfl)
  try simp only [Act.put, List.setIfInBounds_toArray, List.set_cons_zero, List.set_cons_succ]
  refine wpAnyH_take (i := 2) (oi := ⟨some 6, _, _, _, _, _⟩) (v := ?_) rfl (by kernel_rfl) (by kernel_rfl) (by kernel_rfl) (fun _ _ _ h => h) (Or.inl ⟨by rfl, ?_⟩) hHeld ?_
  rotate_left
  · (intro wq hSw; go_simp; try with_reducible rfl)
  try simp only [Act.put, List.setIfInBounds_toArray, List.set_cons_zero, List.set_cons_succ]
  refine wpAnyH_take (i := 3) (oi := ⟨some 7, _, _, _, _, _⟩) (v := ?_) rfl (by kernel_rfl) (by kernel_rfl) (by kernel_rfl) (fun _ _ _ h => h) (Or.inl ⟨by rfl, ?_⟩) hHeld ?_
  rotate_left
  · (intro wq hSw; have x18 := hSw; go_simp; try with_reducible rfl)
  try simp only [Act.put, List.setIfInBounds_toArray, List.set_cons_zero, List.set_cons_succ]
  refine wpAnyH_take (i := 4) (oi := ⟨some 8, _, _, _, _, _⟩) (v := ?_) rfl (by kernel_rfl) (by kernel_rfl) (by kernel_rfl) (fun _ _ _ h => h) (Or.inl ⟨by rfl, ?_⟩) hHeld ?_
  rotate_left
  · (intro wq hSw; go_simp; try with_reducible rfl)
  try simp only [Act.put, List.setIfInBounds_toArray, List.set_cons_zero, List.set_cons_succ]
  refine wpAnyH_take (i := 5) (oi := ⟨some 9, _, _, _, _, _⟩) (v := ?_) rfl (by kernel_rfl) (by kernel_rfl) (by kernel_rfl) (fun _ _ _ h => h) (Or.inl ⟨by rfl, ?_⟩) hHeld ?_
  rotate_left
  · (intro wq hSw; go_simp; try with_reducible rfl)
  try simp only [Act.put, List.setIfInBounds_toArray, List.set_cons_zero, List.set_cons_succ]
  refine wpAnyH_ready (rs := [6]) (by kernel_rfl) (by simp) ?_
  refine AllReadyH.cons (o := ⟨some 10, _, _, _, _, _⟩) rfl (fun KK hK => ?_) AllReadyH.nil
  go_simp
  go_at_call 83
  refine (loadLatch_any T S N C R F K fa fb fd hl hd q nid s.rd s.en s.lv v s.hi s.la s.rt _ _ HB0.out b g l k HM.out hk ad had nN mM kK HC.out hN).mono ?_; rintro e w1 ⟨rfl, hM1, hK1⟩
  replace HX0 := Lib.hid ((hK1.cell (p := ⟨q, 18, none⟩) HB0.out.lt (fun e => by rcases e with e | e; exact hqb e; exact hqg e)).trans HX0.out)
  replace HH0 := Lib.hid (HH0.out.kept hK1 (keepOwn hb hg))
  replace HM := Lib.hid hM1
  replace HK0 := Lib.hid (HK0.out.trans hK1 (fun i _ e => .inr e))
  clear hM1 hK1 HB0
  refine hK.out _ _ ?_ (fun hHeld2 => ?_)
  · exact HX0.out
  clear hK KK hHeld
  have hHeld := hHeld2
  clear hHeld2
  try simp only [Act.put, List.setIfInBounds_toArray, List.set_cons_zero, List.set_cons_succ]
  refine wpAnyH_ready (rs := [7]) (by kernel_rfl) (by simp) ?_
  refine AllReadyH.cons (o := ⟨some 11, _, _, _, _, _⟩) rfl (fun KK hK => ?_) AllReadyH.nil
  go_simp
  go_at_call 88
  refine (same_of wd nN false hwd hN HR.out _).mono ?_; rintro e w2 ⟨rfl, rfl⟩
  refine hK.out _ _ ?_ (fun hHeld2 => ?_)
  · exact HX0.out
  clear hK KK hHeld
  have hHeld := hHeld2
  clear hHeld2
  try simp only [Act.put, List.setIfInBounds_toArray, List.set_cons_zero, List.set_cons_succ]
  refine wpAnyH_done (by kernel_rfl) ?_ _
  clear hHeld
  have hH1 := HH0.out
  obtain ⟨v1, h11, h21, h31⟩ := hH1.ex
  have x19 := h11.cell (i := 19) rfl
  have z19 := h11.frozen 19
  have HT := Lib.hid (show Con Z (w1.setCell ⟨q, 19, none⟩ (.int .i64 0)) T S N C R F K fa fb fd q 121 nid s [.int .u64 (wd : Int), .int .i64 0] from hH1.setTail (by decide) 1 (.int .i64 0))
  have HM2 := Lib.hid (HM.out.farq (q := q) (by unfold Own; omega) 19 (.int .i64 0))
  have HK2 := Lib.hid (HK0.out.setCell (a := ⟨q, 19, none⟩) (fun _ => .inl hH1.own) (.int .i64 0))
  clear hH1 h11 h21 h31 HM HC HH0 HK0 HX0
  go_wp2
  go_end0
  exact ⟨rfl, HM2.out, HT.out, HK2.out⟩

/-- The state of a Read: its phase, its word, what it has read. -/
structure Rst where
  ph : Nat
  wd : Nat
  s : Cs
def rst0 : Rst := ⟨0, 0, cs0⟩
def rtl (y : Rst) : List Value := [.int .u64 (y.wd : Int), .int .i64 (y.ph : Int)]
/-- The next state, where this has been loaded. -/
def rnext (F : Nat) (y : Rst) (nN : Nat) (kK : ByteArray) (mM : Nat) : Rst :=
  if y.ph = 0 then (if nN / 2 % 2 = 1 then ⟨0, nN, y.s⟩ else ⟨1, nN, cs0⟩)
  else if y.ph = 1 then ⟨if (tk F y.s nN kK mM).rd = (tk F y.s nN kK mM).en then 2 else 1, y.wd, tk F y.s nN kK mM⟩
  else if y.wd / 2 = nN / 2 then ⟨3, y.wd, y.s⟩ else ⟨0, y.wd, y.s⟩
/-- The address of the cell that is loaded next. -/
def raddr (la0 : Int) (ad : Nat → Int) (y : Rst) : Int := if y.ph = 1 then ad y.s.rd else la0
/-- What is known of a Read on its way. -/
structure Okr (F : Nat) (y : Rst) : Prop where
  ph : y.ph ≤ 3
  wd : y.wd < 18446744073709551616
  s : Oks F y.s
  mid : y.ph = 1 → y.s.rd = 0 ∨ y.s.rd < y.s.en
theorem okr0 (F : Nat) : Okr F rst0 := ⟨by simp [rst0], by simp [rst0], oks0 F, fun h => by simp [rst0] at h⟩
theorem rnext_ok {F : Nat} {y : Rst} (h : Okr F y) (hp : y.ph < 3) {nN mM : Nat} {kK : ByteArray} (hN : nN < 18446744073709551616) : Okr F (rnext F y nN kK mM) := by
  unfold rnext
  split
  · split
    · exact ⟨by simp, hN, h.s, fun e => by simp at e⟩
    · exact ⟨by simp, hN, oks0 F, fun _ => .inl rfl⟩
  · split
    · rename_i h0 h1
      have ht := tk_oks h.s (h.mid h1) nN kK mM
      refine ⟨by simp only; split <;> omega, h.wd, ht, fun e => ?_⟩
      simp only at e ⊢
      split at e
      · omega
      · rename_i hne
        have := ht.en (by rw [tk_rd]; omega)
        omega
    · split
      · exact ⟨by simp, h.wd, h.s, fun e => by simp at e⟩
      · exact ⟨by simp, h.wd, h.s, fun e => by simp at e⟩

set_option maxHeartbeats 2000000 in
theorem rstep_0 (Z : Nat → Prop) (T S N C R : Int) (F : Nat) (K fa fb fd : Int) (hl : Lim T S N C R (F : Int)) (hd : Reach3 fa fb fd) (q nid : Nat) (y y' : Rst) (w : World) (h : Con Z w T S N C R F K fa fb fd q 121 nid y.s (rtl y)) (hok : Okr F y) (b g : Nat) (l : List Cel) (k : Nat) (hm : Mem w b g l k) (hb : ¬ Z b) (hg : ¬ Z g) (hk : k < 9223372036854775808) (a0 : Int) (had : (if y.ph = 1 then adr N F fa nid y.s.rd else nodeAt N (F : Int) fa (nid : Int) 0) = a0)
    (nN mM : Nat) (kK : ByteArray) (hc : cellAt l a0 = ((nN : Int), kK, (mM : Int))) (hN : nN < 18446744073709551616) (hM : mM < 9223372036854775808) (hph : y.ph = 0) (hy : rnext F y nN kK mM = y') (r : Bool) (hr : (y'.ph == 3) = r) :
    Calls Try.prog 54 #[.pointer (some ⟨q, 0, none⟩), .pointer (some ⟨b, 0, none⟩)] w fun e w' => e = .returned (.bool r) ∧ Mem w' b g l (k + 1) ∧ ∃ Z', Con Z' w' T S N C R F K fa fb fd q 121 nid y'.s (rtl y') ∧ Kept (fun i => Z i ∨ i = b ∨ i = g) w w' ∧ (∀ i, Z' i → Z i ∨ w.heap.size ≤ i) := by
  have hp : y.ph = 0 := hph
  obtain ⟨v0, h10, h20, h30⟩ := h.ex
  have x19 : w.cell? ⟨q, 19, none⟩ = some (.int .i64 (y.ph : Int)) := h10.cell (i := 19) rfl
  have hqb : q ≠ b := fun e => hb (e ▸ h.own)
  have hqg : q ≠ g := fun e => hg (e ▸ h.own)
  have p0 : ((y.ph : Int) == 0) = true := by simp; omega
  have HH := Lib.hid h
  have HM := Lib.hid hm
  have HC := Lib.hid hc
  have HOK := Lib.hid hok
  have HY := Lib.hid hy
  have HR := Lib.hid hr
  have HAD := Lib.hid had
  have HP := Lib.hid hp
  clear h hm hc hok hy hr had h10 h20 h30 hp
  by_cases hch : nN / 2 % 2 = 1
  · have HCH := Lib.hid (show (nN / 2 % 2 == 1) = true by simpa using hch)
    have hphz : y.ph = 0 := HP.out
    have e : y' = ⟨0, nN, y.s⟩ := by rw [← HY.out]; unfold rnext; rw [if_pos hphz, if_pos hch]
    have hrr : r = false := by rw [← HR.out, e]; rfl
    subst e hrr
    clear hch hphz HY HR HOK
    go_enter Try.func54, Try.ntmps54
    go_wp2_with fail
    refine (begin_true Z T S N C R F K fa fb fd hl hd q nid y.s y.wd y.ph _ HH.out b g l k HM.out hb hg hk a0 (by rw [← HAD.out, if_neg (by have := HP.out; omega)]) nN mM kK HC.out hN HCH.out).mono ?_; rintro e w1 ⟨rfl, hM1, hC1, hK1⟩
    obtain ⟨v1, h11, h21, h31⟩ := hC1.ex
    have y19 : w1.cell? ⟨q, 19, none⟩ = some (.int .i64 (y.ph : Int)) := h11.cell (i := 19) rfl
    have q3 : ((y.ph : Int) == 3) = false := by have := HP.out; simp; omega
    have HM1 := Lib.hid hM1
    have HC1 := Lib.hid (show Con Z w1 T S N C R F K fa fb fd q 121 nid (⟨0, nN, y.s⟩ : Rst).s (rtl (⟨0, nN, y.s⟩ : Rst)) from by have hz := HP.out; have := hC1; rw [hz] at this; exact this)
    have HK1 := Lib.hid hK1
    clear hM1 hC1 hK1 h11 h21 h31 x19 HH HM HC
    go_wp2
    go_ret
    exact ⟨rfl, HM1.out, Z, HC1.out, HK1.out, fun i hi => .inl hi⟩
  · have HCH := Lib.hid (show (nN / 2 % 2 == 1) = false by simpa using hch)
    have hphz : y.ph = 0 := HP.out
    have e : y' = ⟨1, nN, cs0⟩ := by rw [← HY.out]; unfold rnext; rw [if_pos hphz, if_neg hch]
    have hrr : r = false := by rw [← HR.out, e]; rfl
    subst e hrr
    clear hch hphz HY HR HOK
    go_enter Try.func54, Try.ntmps54
    go_wp2_with fail
    refine (begin_false Z T S N C R F K fa fb fd hl hd q nid y.s y.wd y.ph _ HH.out b g l k HM.out hb hg hk a0 (by rw [← HAD.out, if_neg (by have := HP.out; omega)]) nN mM kK HC.out hN HCH.out).mono ?_; rintro e w1 ⟨rfl, hM1, hC1, hK1⟩
    obtain ⟨v1, h11, h21, h31⟩ := hC1.ex
    have y19 : w1.cell? ⟨q, 19, none⟩ = some (.int .i64 1) := h11.cell (i := 19) rfl
    have HM1 := Lib.hid hM1
    have HC1 := Lib.hid (show Con Z w1 T S N C R F K fa fb fd q 121 nid (⟨1, nN, cs0⟩ : Rst).s (rtl (⟨1, nN, cs0⟩ : Rst)) from hC1)
    have HK1 := Lib.hid hK1
    clear hM1 hC1 hK1 h11 h21 h31 x19 HH HM HC
    go_wp2
    go_ret
    exact ⟨rfl, HM1.out, Z, HC1.out, HK1.out, fun i hi => .inl hi⟩

set_option maxHeartbeats 2000000 in
theorem rstep_1 (Z : Nat → Prop) (T S N C R : Int) (F : Nat) (K fa fb fd : Int) (hl : Lim T S N C R (F : Int)) (hd : Reach3 fa fb fd) (q nid : Nat) (y y' : Rst) (w : World) (h : Con Z w T S N C R F K fa fb fd q 121 nid y.s (rtl y)) (hok : Okr F y) (b g : Nat) (l : List Cel) (k : Nat) (hm : Mem w b g l k) (hb : ¬ Z b) (hg : ¬ Z g) (hk : k < 9223372036854775808) (a0 : Int) (had : (if y.ph = 1 then adr N F fa nid y.s.rd else nodeAt N (F : Int) fa (nid : Int) 0) = a0)
    (nN mM : Nat) (kK : ByteArray) (hc : cellAt l a0 = ((nN : Int), kK, (mM : Int))) (hN : nN < 18446744073709551616) (hM : mM < 9223372036854775808) (hph : y.ph = 1) (hy : rnext F y nN kK mM = y') (r : Bool) (hr : (y'.ph == 3) = r) :
    Calls Try.prog 54 #[.pointer (some ⟨q, 0, none⟩), .pointer (some ⟨b, 0, none⟩)] w fun e w' => e = .returned (.bool r) ∧ Mem w' b g l (k + 1) ∧ ∃ Z', Con Z' w' T S N C R F K fa fb fd q 121 nid y'.s (rtl y') ∧ Kept (fun i => Z i ∨ i = b ∨ i = g) w w' ∧ (∀ i, Z' i → Z i ∨ w.heap.size ≤ i) := by
  have hp : y.ph = 1 := hph
  obtain ⟨v0, h10, h20, h30⟩ := h.ex
  have x19 : w.cell? ⟨q, 19, none⟩ = some (.int .i64 (y.ph : Int)) := h10.cell (i := 19) rfl
  have hqb : q ≠ b := fun e => hb (e ▸ h.own)
  have hqg : q ≠ g := fun e => hg (e ▸ h.own)
  have p0 : ((y.ph : Int) == 0) = false := by simp; omega
  have p1 : ((y.ph : Int) == 1) = true := by simp; omega
  have HH := Lib.hid h
  have HM := Lib.hid hm
  have HC := Lib.hid hc
  have HOK := Lib.hid hok
  have HY := Lib.hid hy
  have HR := Lib.hid hr
  have HAD := Lib.hid had
  have HP := Lib.hid hp
  clear h hm hc hok hy hr had h10 h20 h30 hp
  by_cases hrd : (tk F y.s nN kK mM).rd = (tk F y.s nN kK mM).en
  · have HRD := Lib.hid (show ((tk F y.s nN kK mM).rd == (tk F y.s nN kK mM).en) = true by simpa using hrd)
    have hphz : y.ph = 1 := HP.out
    have e : y' = ⟨2, y.wd, tk F y.s nN kK mM⟩ := by rw [← HY.out]; unfold rnext; rw [if_neg (by omega), if_pos hphz, if_pos hrd]
    have hrr : r = false := by rw [← HR.out, e]; rfl
    subst e hrr
    clear hrd hphz HY HR
    go_enter Try.func54, Try.ntmps54
    go_wp2_with fail
    refine (cload_any Z T S N C R F K fa fb fd hl hd q 121 nid y.s _ _ _ HH.out (by decide) b g l k HM.out hb hg hk HOK.out.s (HOK.out.mid HP.out) a0 (by rw [← HAD.out, if_pos HP.out]) nN mM kK HC.out hN hM rfl true HRD.out).mono ?_; rintro e w1 ⟨rfl, hM1, Z1, hC1, hK1, hn1⟩
    obtain ⟨v1, h11, h21, h31⟩ := hC1.ex
    have y19 : w1.cell? ⟨q, 19, none⟩ = some (.int .i64 (y.ph : Int)) := h11.cell (i := 19) rfl
    have z19 := h11.frozen 19
    have hz1 : ∀ i, Z1 i → ¬ (i = b ∨ i = g) := fun i hi e => by
      rcases hn1 i hi with h | h
      · rcases e with rfl | rfl
        · exact hb h
        · exact hg h
      · have := HM.out.obj.lt; have := HM.out.row.lt; omega
    have HT := Lib.hid (show Con Z1 (w1.setCell ⟨q, 19, none⟩ (.int .i64 2)) T S N C R F K fa fb fd q 121 nid (⟨2, y.wd, tk F y.s nN kK mM⟩ : Rst).s (rtl (⟨2, y.wd, tk F y.s nN kK mM⟩ : Rst)) from hC1.setTail (by decide) 1 (.int .i64 2))
    have HM2 := Lib.hid (hM1.farq (q := q) (by unfold Own; omega) 19 (.int .i64 2))
    have HK2 := Lib.hid (hK1.setCell (a := ⟨q, 19, none⟩) (fun _ => .inl HH.out.own) (.int .i64 2))
    have HN1 := Lib.hid hn1
    clear hM1 hC1 hK1 hn1 h11 h21 h31 x19 HH HM HC hz1
    go_wp2
    go_ret
    exact ⟨rfl, HM2.out, Z1, HT.out, HK2.out, HN1.out⟩
  · have HRD := Lib.hid (show ((tk F y.s nN kK mM).rd == (tk F y.s nN kK mM).en) = false by simpa using hrd)
    have hphz : y.ph = 1 := HP.out
    have e : y' = ⟨1, y.wd, tk F y.s nN kK mM⟩ := by rw [← HY.out]; unfold rnext; rw [if_neg (by omega), if_pos hphz, if_neg hrd]
    have hrr : r = false := by rw [← HR.out, e]; rfl
    subst e hrr
    clear hrd hphz HY HR
    go_enter Try.func54, Try.ntmps54
    go_wp2_with fail
    refine (cload_any Z T S N C R F K fa fb fd hl hd q 121 nid y.s _ _ _ HH.out (by decide) b g l k HM.out hb hg hk HOK.out.s (HOK.out.mid HP.out) a0 (by rw [← HAD.out, if_pos HP.out]) nN mM kK HC.out hN hM rfl false HRD.out).mono ?_; rintro e w1 ⟨rfl, hM1, Z1, hC1, hK1, hn1⟩
    obtain ⟨v1, h11, h21, h31⟩ := hC1.ex
    have y19 : w1.cell? ⟨q, 19, none⟩ = some (.int .i64 (y.ph : Int)) := h11.cell (i := 19) rfl
    have q3 : ((y.ph : Int) == 3) = false := by have := HP.out; simp; omega
    have HM1 := Lib.hid hM1
    have HC1 := Lib.hid (show Con Z1 w1 T S N C R F K fa fb fd q 121 nid (⟨1, y.wd, tk F y.s nN kK mM⟩ : Rst).s (rtl (⟨1, y.wd, tk F y.s nN kK mM⟩ : Rst)) from by have hz := HP.out; have := hC1; unfold rtl at this; rw [hz] at this; exact this)
    have HK1 := Lib.hid hK1
    have HN1 := Lib.hid hn1
    clear hM1 hC1 hK1 hn1 h11 h21 h31 x19 HH HM HC
    go_wp2
    go_ret
    exact ⟨rfl, HM1.out, Z1, HC1.out, HK1.out, HN1.out⟩

set_option maxHeartbeats 2000000 in
theorem rstep_2 (Z : Nat → Prop) (T S N C R : Int) (F : Nat) (K fa fb fd : Int) (hl : Lim T S N C R (F : Int)) (hd : Reach3 fa fb fd) (q nid : Nat) (y y' : Rst) (w : World) (h : Con Z w T S N C R F K fa fb fd q 121 nid y.s (rtl y)) (hok : Okr F y) (b g : Nat) (l : List Cel) (k : Nat) (hm : Mem w b g l k) (hb : ¬ Z b) (hg : ¬ Z g) (hk : k < 9223372036854775808) (a0 : Int) (had : (if y.ph = 1 then adr N F fa nid y.s.rd else nodeAt N (F : Int) fa (nid : Int) 0) = a0)
    (nN mM : Nat) (kK : ByteArray) (hc : cellAt l a0 = ((nN : Int), kK, (mM : Int))) (hN : nN < 18446744073709551616) (hM : mM < 9223372036854775808) (hph : y.ph = 2) (hy : rnext F y nN kK mM = y') (r : Bool) (hr : (y'.ph == 3) = r) :
    Calls Try.prog 54 #[.pointer (some ⟨q, 0, none⟩), .pointer (some ⟨b, 0, none⟩)] w fun e w' => e = .returned (.bool r) ∧ Mem w' b g l (k + 1) ∧ ∃ Z', Con Z' w' T S N C R F K fa fb fd q 121 nid y'.s (rtl y') ∧ Kept (fun i => Z i ∨ i = b ∨ i = g) w w' ∧ (∀ i, Z' i → Z i ∨ w.heap.size ≤ i) := by
  have hp : y.ph = 2 := hph
  obtain ⟨v0, h10, h20, h30⟩ := h.ex
  have x19 : w.cell? ⟨q, 19, none⟩ = some (.int .i64 (y.ph : Int)) := h10.cell (i := 19) rfl
  have hqb : q ≠ b := fun e => hb (e ▸ h.own)
  have hqg : q ≠ g := fun e => hg (e ▸ h.own)
  have p0 : ((y.ph : Int) == 0) = false := by simp; omega
  have p1 : ((y.ph : Int) == 1) = false := by simp; omega
  have p2 : ((y.ph : Int) == 2) = true := by simp; omega
  have HH := Lib.hid h
  have HM := Lib.hid hm
  have HC := Lib.hid hc
  have HOK := Lib.hid hok
  have HY := Lib.hid hy
  have HR := Lib.hid hr
  have HAD := Lib.hid had
  have HP := Lib.hid hp
  clear h hm hc hok hy hr had h10 h20 h30 hp
  by_cases hsm : y.wd / 2 = nN / 2
  · have HSM := Lib.hid (show (y.wd / 2 == nN / 2) = true by simpa using hsm)
    have hphz : y.ph = 2 := HP.out
    have e : y' = ⟨3, y.wd, y.s⟩ := by rw [← HY.out]; unfold rnext; rw [if_neg (by omega), if_neg (by omega), if_pos hsm]
    have hrr : r = true := by rw [← HR.out, e]; rfl
    subst e hrr
    clear hsm hphz HY HR
    go_enter Try.func54, Try.ntmps54
    go_wp2_with fail
    refine (validate_true Z T S N C R F K fa fb fd hl hd q nid y.s y.wd y.ph _ HH.out HOK.out.wd b g l k HM.out hb hg hk a0 (by rw [← HAD.out, if_neg (by have := HP.out; omega)]) nN mM kK HC.out hN HSM.out).mono ?_; rintro e w1 ⟨rfl, hM1, hC1, hK1⟩
    obtain ⟨v1, h11, h21, h31⟩ := hC1.ex
    have y19 : w1.cell? ⟨q, 19, none⟩ = some (.int .i64 3) := h11.cell (i := 19) rfl
    have HM1 := Lib.hid hM1
    have HC1 := Lib.hid (show Con Z w1 T S N C R F K fa fb fd q 121 nid (⟨3, y.wd, y.s⟩ : Rst).s (rtl (⟨3, y.wd, y.s⟩ : Rst)) from hC1)
    have HK1 := Lib.hid hK1
    clear hM1 hC1 hK1 h11 h21 h31 x19 HH HM HC
    go_wp2
    go_ret
    exact ⟨rfl, HM1.out, Z, HC1.out, HK1.out, fun i hi => .inl hi⟩
  · have HSM := Lib.hid (show (y.wd / 2 == nN / 2) = false by simpa using hsm)
    have hphz : y.ph = 2 := HP.out
    have e : y' = ⟨0, y.wd, y.s⟩ := by rw [← HY.out]; unfold rnext; rw [if_neg (by omega), if_neg (by omega), if_neg hsm]
    have hrr : r = false := by rw [← HR.out, e]; rfl
    subst e hrr
    clear hsm hphz HY HR
    go_enter Try.func54, Try.ntmps54
    go_wp2_with fail
    refine (validate_false Z T S N C R F K fa fb fd hl hd q nid y.s y.wd y.ph _ HH.out HOK.out.wd b g l k HM.out hb hg hk a0 (by rw [← HAD.out, if_neg (by have := HP.out; omega)]) nN mM kK HC.out hN HSM.out).mono ?_; rintro e w1 ⟨rfl, hM1, hC1, hK1⟩
    obtain ⟨v1, h11, h21, h31⟩ := hC1.ex
    have y19 : w1.cell? ⟨q, 19, none⟩ = some (.int .i64 0) := h11.cell (i := 19) rfl
    have HM1 := Lib.hid hM1
    have HC1 := Lib.hid (show Con Z w1 T S N C R F K fa fb fd q 121 nid (⟨0, y.wd, y.s⟩ : Rst).s (rtl (⟨0, y.wd, y.s⟩ : Rst)) from hC1)
    have HK1 := Lib.hid hK1
    clear hM1 hC1 hK1 h11 h21 h31 x19 HH HM HC
    go_wp2
    go_ret
    exact ⟨rfl, HM1.out, Z, HC1.out, HK1.out, fun i hi => .inl hi⟩

theorem rstep_any (Z : Nat → Prop) (T S N C R : Int) (F : Nat) (K fa fb fd : Int) (hl : Lim T S N C R (F : Int)) (hd : Reach3 fa fb fd) (q nid : Nat) (y y' : Rst) (w : World) (h : Con Z w T S N C R F K fa fb fd q 121 nid y.s (rtl y)) (hok : Okr F y) (b g : Nat) (l : List Cel) (k : Nat) (hm : Mem w b g l k) (hb : ¬ Z b) (hg : ¬ Z g) (hk : k < 9223372036854775808) (a0 : Int) (had : (if y.ph = 1 then adr N F fa nid y.s.rd else nodeAt N (F : Int) fa (nid : Int) 0) = a0)
    (nN mM : Nat) (kK : ByteArray) (hc : cellAt l a0 = ((nN : Int), kK, (mM : Int))) (hN : nN < 18446744073709551616) (hM : mM < 9223372036854775808) (hph : y.ph < 3) (hy : rnext F y nN kK mM = y') (r : Bool) (hr : (y'.ph == 3) = r) :
    Calls Try.prog 54 #[.pointer (some ⟨q, 0, none⟩), .pointer (some ⟨b, 0, none⟩)] w fun e w' => e = .returned (.bool r) ∧ Mem w' b g l (k + 1) ∧ ∃ Z', Con Z' w' T S N C R F K fa fb fd q 121 nid y'.s (rtl y') ∧ Kept (fun i => Z i ∨ i = b ∨ i = g) w w' ∧ (∀ i, Z' i → Z i ∨ w.heap.size ≤ i) := by
  rcases (by omega : y.ph = 0 ∨ y.ph = 1 ∨ y.ph = 2) with h0 | h0 | h0
  · exact rstep_0 Z T S N C R F K fa fb fd hl hd q nid y y' w h hok b g l k hm hb hg hk a0 had nN mM kK hc hN hM h0 hy r hr
  · exact rstep_1 Z T S N C R F K fa fb fd hl hd q nid y y' w h hok b g l k hm hb hg hk a0 had nN mM kK hc hN hM h0 hy r hr
  · exact rstep_2 Z T S N C R F K fa fb fd hl hd q nid y y' w h hok b g l k hm hb hg hk a0 had nN mM kK hc hN hM h0 hy r hr

set_option maxHeartbeats 1000000 in
theorem rstep_done (Z : Nat → Prop) (T S N C R : Int) (F : Nat) (K fa fb fd : Int) (q nid m : Nat) (y : Rst) (w : World) (h : Con Z w T S N C R F K fa fb fd q 121 nid y.s (rtl y)) (hph : y.ph = 3) :
    Calls Try.prog 54 #[.pointer (some ⟨q, 0, none⟩), .pointer (some ⟨m, 0, none⟩)] w fun e w' => e = .returned (.bool true) ∧ w = w' := by
  obtain ⟨v0, h10, h20, h30⟩ := h.ex
  have x19 : w.cell? ⟨q, 19, none⟩ = some (.int .i64 (y.ph : Int)) := h10.cell (i := 19) rfl
  have p0 : ((y.ph : Int) == 0) = false := by simp; omega
  have p1 : ((y.ph : Int) == 1) = false := by simp; omega
  have p2 : ((y.ph : Int) == 2) = false := by simp; omega
  have p3 : ((y.ph : Int) == 3) = true := by simp; omega
  clear h10 h20 h30 h
  go_enter Try.func54, Try.ntmps54
  go_wp2
  go_ret
  exact ⟨rfl, rfl⟩

end Go.Proofs.Ytboieccjikcdiaa
