/-
  What the machine Install of package chain does, a step at a time. Condition: a layout within its limits; fewer than 2^63 accesses so far.
-/
import Derived.Test.YtpamjbjgckaedaaChnSea
namespace Go.Proofs.Ytpamjbjgckaedaa
open Go.RowKit Go.Deep Plain
set_option linter.unusedVariables false

/-- The cells of an Install: the layout, the chain, the record, the cell of the value, the record that was the newest one, the phase. -/
def insv (T S N C R F K fa fb fd : Int) (c r : Nat) (vK : ByteArray) (vM old ph : Nat) : List Value :=
  [.int .i64 T, .int .i64 S, .int .i64 N, .int .i64 C, .int .i64 R, .int .i64 F, .int .u64 K, .int .i64 fa, .int .i64 fb, .int .i64 fd, .int .u64 (c : Int), .int .u64 (r : Int), .int .u64 0, .string vK, .int .u64 (vM : Int), .int .u64 (old : Int), .int .i64 (ph : Int)]

set_option maxHeartbeats 1000000 in
theorem valueOf_any (key s : ByteArray) (dl : Bool) (vK : ByteArray) (vM : Nat) (hK : (if dl = true then ⟨#[]⟩ else s) = vK) (hM : (if dl = true then 1 else 0) = vM) (w : World) :
    Calls Try.prog 44 #[.agg #[.string key, .string s, .bool dl]] w fun e w' => e = .returned (.agg #[.int .u64 0, .string vK, .int .u64 (vM : Int)]) ∧ Kept (fun _ => False) w w' := by
  cases dl
  · obtain ⟨rfl, rfl⟩ : vK = s ∧ vM = 0 := ⟨hK.symm, hM.symm⟩
    clear hK hM
    go_enter Try.func44, Try.ntmps44
    go_wp2
    refine bodyPost_ret (v := .agg #[.int .u64 0, .string vK, .int .u64 ((0 : Nat) : Int)]) (by first | (simp [results, Try.results44, go_sem]; done) | (simp [results, Try.results44, go_sem, *]; done)) rfl ⟨rfl, ?_⟩
    exact ((Kept.refl _ _).alloc _).alloc _
  · obtain ⟨rfl, rfl⟩ : vK = ⟨#[]⟩ ∧ vM = 1 := ⟨hK.symm, hM.symm⟩
    clear hK hM
    go_enter Try.func44, Try.ntmps44
    go_wp2
    refine bodyPost_ret (v := .agg #[.int .u64 0, .string ⟨#[]⟩, .int .u64 ((1 : Nat) : Int)]) (by first | (simp [results, Try.results44, go_sem]; done) | (simp [results, Try.results44, go_sem, *]; done)) rfl ⟨rfl, ?_⟩
    exact ((Kept.refl _ _).alloc _).alloc _

set_option maxHeartbeats 2000000 in
theorem newInstall_any (T S N C R F K fa fb fd : Int) (c r : Nat) (key s : ByteArray) (dl : Bool) (vK : ByteArray) (vM : Nat) (hK : (if dl = true then ⟨#[]⟩ else s) = vK) (hM : (if dl = true then 1 else 0) = vM) (w : World) :
    Calls Try.prog 18 #[.agg #[.int .i64 T, .int .i64 S, .int .i64 N, .int .i64 C, .int .i64 R, .int .i64 F, .int .u64 K, .int .i64 fa, .int .i64 fb, .int .i64 fd], .int .u64 (c : Int), .int .u64 (r : Int), .agg #[.string key, .string s, .bool dl]] w fun e w' => ∃ q, e = .returned (.pointer (some ⟨q, 0, none⟩)) ∧ w.heap.size ≤ q ∧ Blk w' q 93 (insv T S N C R F K fa fb fd c r vK vM 0 0) ∧ Kept (fun _ => False) w w' := by
  have hz : ((w.alloc (.cells #[.int .i64 T, .int .i64 S, .int .i64 N, .int .i64 C, .int .i64 R, .int .i64 F, .int .u64 K, .int .i64 fa, .int .i64 fb, .int .i64 fd] 27)).alloc (.cells #[.string key, .string s, .bool dl] 45)).heap.size = w.heap.size + 1 + 1 := by rw [nblk_alloc, nblk_alloc]
  have HL := Lib.hid (show Blk ((w.alloc (.cells #[.int .i64 T, .int .i64 S, .int .i64 N, .int .i64 C, .int .i64 R, .int .i64 F, .int .u64 K, .int .i64 fa, .int .i64 fb, .int .i64 fd] 27)).alloc (.cells #[.string key, .string s, .bool dl] 45)) w.heap.size 27 [.int .i64 T, .int .i64 S, .int .i64 N, .int .i64 C, .int .i64 R, .int .i64 F, .int .u64 K, .int .i64 fa, .int .i64 fb, .int .i64 fd] from (Blk.new w [.int .i64 T, .int .i64 S, .int .i64 N, .int .i64 C, .int .i64 R, .int .i64 F, .int .u64 K, .int .i64 fa, .int .i64 fb, .int .i64 fd] 27).alloc _)
  have HW := Lib.hid (show Blk ((w.alloc (.cells #[.int .i64 T, .int .i64 S, .int .i64 N, .int .i64 C, .int .i64 R, .int .i64 F, .int .u64 K, .int .i64 fa, .int .i64 fb, .int .i64 fd] 27)).alloc (.cells #[.string key, .string s, .bool dl] 45)) (w.heap.size + 1) 45 [.string key, .string s, .bool dl] from by have h := Blk.new (w.alloc (.cells #[.int .i64 T, .int .i64 S, .int .i64 N, .int .i64 C, .int .i64 R, .int .i64 F, .int .u64 K, .int .i64 fa, .int .i64 fb, .int .i64 fd] 27)) [.string key, .string s, .bool dl] 45; rwa [nblk_alloc] at h)
  have HK := Lib.hid (show Kept (fun _ => False) w ((w.alloc (.cells #[.int .i64 T, .int .i64 S, .int .i64 N, .int .i64 C, .int .i64 R, .int .i64 F, .int .u64 K, .int .i64 fa, .int .i64 fb, .int .i64 fd] 27)).alloc (.cells #[.string key, .string s, .bool dl] 45)) from ((Kept.refl _ w).alloc _).alloc _)
  go_enter Try.func18, Try.ntmps18
  go_wp2_with fail
  generalize ((w.alloc (.cells #[.int .i64 T, .int .i64 S, .int .i64 N, .int .i64 C, .int .i64 R, .int .i64 F, .int .u64 K, .int .i64 fa, .int .i64 fb, .int .i64 fd] 27)).alloc (.cells #[.string key, .string s, .bool dl] 45)) = W at *
  refine qtail 6 (fun w' => Kept (fun _ => False) W w' ∧ Blk w' w.heap.size 27 [.int .i64 T, .int .i64 S, .int .i64 N, .int .i64 C, .int .i64 R, .int .i64 F, .int .u64 K, .int .i64 fa, .int .i64 fb, .int .i64 fd] ∧ Blk w' (w.heap.size + 1) 45 [.string key, .string s, .bool dl]) (by kernel_rfl) (by kernel_rfl) ⟨(Kept.refl _ _).drew, HL.out, HW.out⟩ ?_
  simp only [List.take_succ_cons, List.take_zero, List.drop_succ_cons, List.drop_zero]
  refine qstep (o := ⟨some 9, _, _, _, _, _⟩) (v := ?_) (by rfl) (fun wq hSw => ?_) ?_
  rotate_left
  · (have hb9 := hSw.2.1; have x0 := hb9.cell (i := 0) rfl; have x1 := hb9.cell (i := 1) rfl; have x2 := hb9.cell (i := 2) rfl; have x3 := hb9.cell (i := 3) rfl; have x4 := hb9.cell (i := 4) rfl; have x5 := hb9.cell (i := 5) rfl; have x6 := hb9.cell (i := 6) rfl; have x7 := hb9.cell (i := 7) rfl; have x8 := hb9.cell (i := 8) rfl; have x9 := hb9.cell (i := 9) rfl; clear hb9; go_simp; try with_reducible rfl)
  try simp only [Act.put, List.setIfInBounds_toArray, List.set_cons_zero, List.set_cons_succ]
  refine qstep (o := ⟨some 10, _, _, _, _, _⟩) (v := ?_) (by rfl) (fun wq hSw => ?_) ?_
  rotate_left
  · (go_simp; try with_reducible rfl)
  try simp only [Act.put, List.setIfInBounds_toArray, List.set_cons_zero, List.set_cons_succ]
  refine qstep (o := ⟨some 11, _, _, _, _, _⟩) (v := ?_) (by rfl) (fun wq hSw => ?_) ?_
  rotate_left
  · (go_simp; try with_reducible rfl)
  try simp only [Act.put, List.setIfInBounds_toArray, List.set_cons_zero, List.set_cons_succ]
  refine qstep (o := ⟨some 12, _, _, _, _, _⟩) (v := ?_) (by rfl) (fun wq hSw => ?_) ?_
  rotate_left
  · (have hb9 := hSw.2.2; have x0 := hb9.cell (i := 0) rfl; have x1 := hb9.cell (i := 1) rfl; have x2 := hb9.cell (i := 2) rfl; clear hb9; go_simp; try with_reducible rfl)
  try simp only [Act.put, List.setIfInBounds_toArray, List.set_cons_zero, List.set_cons_succ]
  refine qcall (o := ⟨some 13, _, _, _, _, _⟩) (v := .agg #[.int .u64 0, .string vK, .int .u64 (vM : Int)]) (by rfl) (fun wq hSw => ?_) (fun wq hSw => Calls.mono (valueOf_any key s dl vK vM hK hM _) ?_) ?_
  · (go_simp; try with_reducible rfl)
  · rintro e w9 ⟨rfl, hk⟩; exact ⟨rfl, hSw.1.trans hk (fun _ _ h => h), hk.blk hSw.2.1 (fun h => h), hk.blk hSw.2.2 (fun h => h)⟩
  try simp only [Act.put, List.setIfInBounds_toArray, List.set_cons_zero, List.set_cons_succ]
  refine qstep (o := ⟨some 14, _, _, _, _, _⟩) (v := ?_) (by rfl) (fun wq hSw => ?_) ?_
  rotate_left
  · (go_simp; try with_reducible rfl)
  try simp only [Act.put, List.setIfInBounds_toArray, List.set_cons_zero, List.set_cons_succ]
  refine wpQuiet_nil ?_
  intro wz hHeld
  obtain ⟨hK2, -, -⟩ := hHeld
  have HK2 := Lib.hid (HK.out.trans hK2 (fun _ _ h => h))
  have hs := HK2.out.size
  clear hK2 HK HL HW
  go_wp2
  go_ret
  exact ⟨_, rfl, hs, Blk.new wz (insv T S N C R F K fa fb fd c r vK vM 0 0) 93, HK2.out.alloc _⟩

set_option maxHeartbeats 1000000 in
theorem old_yes (T S N C R F K fa fb fd : Int) (q c r : Nat) (vK : ByteArray) (vM old ph : Nat) (w : World) (h : Blk w q 93 (insv T S N C R F K fa fb fd c r vK vM old ph)) (hph : ph = 4) :
    Calls Try.prog 21 #[.pointer (some ⟨q, 0, none⟩)] w fun e w' => e = .returned (.int .u64 (old : Int)) ∧ w = w' := by
  have p4 : ((ph : Int) != 4) = false := by simp; omega
  have x15 := h.cell (i := 15) rfl
  have x16 := h.cell (i := 16) rfl
  clear h
  go_enter Try.func21, Try.ntmps21
  go_wp2
  go_ret
  exact ⟨rfl, rfl⟩

set_option maxHeartbeats 1000000 in
theorem istep_4 (T S N C R F K fa fb fd : Int) (q c r : Nat) (vK : ByteArray) (vM old ph : Nat) (m : Nat) (w : World) (h : Blk w q 93 (insv T S N C R F K fa fb fd c r vK vM old ph)) (hph : ph = 4) :
    Calls Try.prog 19 #[.pointer (some ⟨q, 0, none⟩), .pointer (some ⟨m, 0, none⟩)] w fun e w' => e = .returned (.bool true) ∧ w = w' := by
  have p0 : ((ph : Int) == 0) = false := by simp; omega
  have p1 : ((ph : Int) == 1) = false := by simp; omega
  have p2 : ((ph : Int) == 2) = false := by simp; omega
  have p3 : ((ph : Int) == 3) = false := by simp; omega
  have p4 : ((ph : Int) == 4) = true := by simp; omega
  have x16 := h.cell (i := 16) rfl
  clear h
  go_enter Try.func19, Try.ntmps19
  go_wp2
  go_ret
  exact ⟨rfl, rfl⟩

set_option maxHeartbeats 2000000 in
theorem istep_0 (T S N C R F K fa fb fd : Int) (hl : Lim T S N C R F) (hd : Reach3 fa fb fd) (q c r : Nat) (vK : ByteArray) (vM old ph : Nat) (w : World) (h : Blk w q 93 (insv T S N C R F K fa fb fd c r vK vM old ph)) (hph : ph = 0) (b g : Nat) (l : List Cel) (k : Nat) (hm : Mem w b g l k) (hqb : q ≠ b) (hqg : q ≠ g) (hk : k < 9223372036854775808) (ad : Int) (had : chainAt C fb (c : Int) = ad) (n : Nat) (cK : ByteArray) (cM : Int) (hc : cellAt l ad = ((n : Int), cK, cM)) :
    Calls Try.prog 19 #[.pointer (some ⟨q, 0, none⟩), .pointer (some ⟨b, 0, none⟩)] w fun e w' => e = .returned (.bool false) ∧ Mem w' b g l (k + 1) ∧ Blk w' q 93 (insv T S N C R F K fa fb fd c r vK vM n 1) ∧ Kept (Own3 q b g) w w' := by
  have hp : ph = 0 := hph
  subst hp
  have x16 := h.cell (i := 16) rfl
  have HB := Lib.hid h
  have HM := Lib.hid hm
  have HC := Lib.hid hc
  have hfd := field0 (n : Int) cM cK
  clear hc
  have hqw := h.lt
  clear h hm
  go_enter Try.func19, Try.ntmps19
  go_wp2_with fail
  clear x16
  have hqo : ¬ Own b g q := by unfold Own; omega
  have HQc := Lib.hid (HB.out.of (w' := w.drew) rfl)
  have HMc := Lib.hid HM.out.drew
  have HKc := Lib.hid ((Kept.refl (Own3 q b g) w).drew)
  clear HB HM
  refine region_E 15 (fun w' => Blk w' q 93 (insv T S N C R F K fa fb fd c r vK vM old 0)) (by kernel_rfl) ?_ (fun hHeld => ?_)
  · exact HQc.out
  generalize w.drew = G at *
  refine anyU_take (i := 0) (oi := ⟨some 11, _, _, _, _, _⟩) (v := ?_) rfl (by kernel_rfl) (by kernel_rfl) (by kernel_rfl) 16 (by kernel_rfl) (by kernel_rfl) (fun _ _ _ h => h) (Or.inl ⟨by rfl, ?_⟩) hHeld ?_
  rotate_left
  · (intro wq hSw; go_simp; try with_reducible rfl)
  try simp only [Act.put, List.setIfInBounds_toArray, List.set_cons_zero, List.set_cons_succ]
  refine anyU_take (i := 1) (oi := ⟨some 12, _, _, _, _, _⟩) (v := ?_) rfl (by kernel_rfl) (by kernel_rfl) (by kernel_rfl) 16 (by kernel_rfl) (by kernel_rfl) (fun _ _ _ h => h) (Or.inl ⟨by rfl, ?_⟩) hHeld ?_
  rotate_left
  · (intro wq hSw; go_simp; try with_reducible rfl)
  try simp only [Act.put, List.setIfInBounds_toArray, List.set_cons_zero, List.set_cons_succ]
  refine anyU_take (i := 2) (oi := ⟨some 13, _, _, _, _, _⟩) (v := ?_) rfl (by kernel_rfl) (by kernel_rfl) (by kernel_rfl) 16 (by kernel_rfl) (by kernel_rfl) (fun _ _ _ h => h) (Or.inl ⟨by rfl, ?_⟩) hHeld ?_
  rotate_left
  · (intro wq hSw; go_simp; try with_reducible rfl)
  try simp only [Act.put, List.setIfInBounds_toArray, List.set_cons_zero, List.set_cons_succ]
  refine anyU_take (i := 3) (oi := ⟨some 14, _, _, _, _, _⟩) (v := ?_) rfl (by kernel_rfl) (by kernel_rfl) (by kernel_rfl) 16 (by kernel_rfl) (by kernel_rfl) (fun _ _ _ h => h) (Or.inl ⟨by rfl, ?_⟩) hHeld ?_
  rotate_left
  · (intro wq hSw; go_simp; try with_reducible rfl)
  try simp only [Act.put, List.setIfInBounds_toArray, List.set_cons_zero, List.set_cons_succ]
  refine anyU_take (i := 4) (oi := ⟨some 15, _, _, _, _, _⟩) (v := ?_) rfl (by kernel_rfl) (by kernel_rfl) (by kernel_rfl) 16 (by kernel_rfl) (by kernel_rfl) (fun _ _ _ h => h) (Or.inl ⟨by rfl, ?_⟩) hHeld ?_
  rotate_left
  · (intro wq hSw; go_simp; try with_reducible rfl)
  try simp only [Act.put, List.setIfInBounds_toArray, List.set_cons_zero, List.set_cons_succ]
  refine anyU_take (i := 5) (oi := ⟨some 16, _, _, _, _, _⟩) (v := ?_) rfl (by kernel_rfl) (by kernel_rfl) (by kernel_rfl) 16 (by kernel_rfl) (by kernel_rfl) (fun _ _ _ h => h) (Or.inl ⟨by rfl, ?_⟩) hHeld ?_
  rotate_left
  · (intro wq hSw; have hb9 := hSw; have x0 := hb9.cell (i := 0) rfl; have x1 := hb9.cell (i := 1) rfl; have x2 := hb9.cell (i := 2) rfl; have x3 := hb9.cell (i := 3) rfl; have x4 := hb9.cell (i := 4) rfl; have x5 := hb9.cell (i := 5) rfl; have x6 := hb9.cell (i := 6) rfl; have x7 := hb9.cell (i := 7) rfl; have x8 := hb9.cell (i := 8) rfl; have x9 := hb9.cell (i := 9) rfl; have x10 := hb9.cell (i := 10) rfl; have x11 := hb9.cell (i := 11) rfl; clear hb9; go_simp; try with_reducible rfl)
  try simp only [Act.put, List.setIfInBounds_toArray, List.set_cons_zero, List.set_cons_succ]
  refine anyU_take (i := 6) (oi := ⟨some 17, _, _, _, _, _⟩) (v := ?_) rfl (by kernel_rfl) (by kernel_rfl) (by kernel_rfl) 16 (by kernel_rfl) (by kernel_rfl) (fun _ _ _ h => h) (Or.inl ⟨by rfl, ?_⟩) hHeld ?_
  rotate_left
  · (intro wq hSw; go_simp; try with_reducible rfl)
  try simp only [Act.put, List.setIfInBounds_toArray, List.set_cons_zero, List.set_cons_succ]
  refine anyU_take (i := 7) (oi := ⟨some 18, _, _, _, _, _⟩) (v := ?_) rfl (by kernel_rfl) (by kernel_rfl) (by kernel_rfl) 16 (by kernel_rfl) (by kernel_rfl) (fun _ _ _ h => h) (Or.inl ⟨by rfl, ?_⟩) hHeld ?_
  rotate_left
  · (intro wq hSw; go_simp; try with_reducible rfl)
  try simp only [Act.put, List.setIfInBounds_toArray, List.set_cons_zero, List.set_cons_succ]
  refine anyU_take (i := 8) (oi := ⟨some 19, _, _, _, _, _⟩) (v := ?_) rfl (by kernel_rfl) (by kernel_rfl) (by kernel_rfl) 16 (by kernel_rfl) (by kernel_rfl) (fun _ _ _ h => h) (Or.inl ⟨by rfl, ?_⟩) hHeld ?_
  rotate_left
  · (intro wq hSw; go_simp; try with_reducible rfl)
  try simp only [Act.put, List.setIfInBounds_toArray, List.set_cons_zero, List.set_cons_succ]
  refine anyU_take (i := 9) (oi := ⟨some 20, _, _, _, _, _⟩) (v := ?_) rfl (by kernel_rfl) (by kernel_rfl) (by kernel_rfl) 16 (by kernel_rfl) (by kernel_rfl) (fun _ _ _ h => h) (Or.inl ⟨by rfl, ?_⟩) hHeld ?_
  rotate_left
  · (intro wq hSw; have hb9 := hSw; have x0 := hb9.cell (i := 0) rfl; have x1 := hb9.cell (i := 1) rfl; have x2 := hb9.cell (i := 2) rfl; have x3 := hb9.cell (i := 3) rfl; have x4 := hb9.cell (i := 4) rfl; have x5 := hb9.cell (i := 5) rfl; have x6 := hb9.cell (i := 6) rfl; have x7 := hb9.cell (i := 7) rfl; have x8 := hb9.cell (i := 8) rfl; have x9 := hb9.cell (i := 9) rfl; have x10 := hb9.cell (i := 10) rfl; have x11 := hb9.cell (i := 11) rfl; clear hb9; go_simp; try with_reducible rfl)
  try simp only [Act.put, List.setIfInBounds_toArray, List.set_cons_zero, List.set_cons_succ]
  refine anyE_ready (i := 10) (o := ⟨some 21, _, _, _, _, _⟩) (by kernel_rfl) rfl (fun KK hK => ?_)
  go_simp
  go_at_call 45
  refine (chain_to T S N C R F K fa fb fd hl hd (c : Int) ad had _).mono ?_; rintro e w1 ⟨rfl, hK1⟩
  replace HQc := Lib.hid (hK1.blk HQc.out (fun h => h))
  replace HMc := Lib.hid (HMc.out.kept hK1 (fun h => h) (fun h => h))
  replace HKc := Lib.hid (keepBoth HKc.out hK1)
  clear hK1
  refine hK.out _ _ (fun _ => ?_) (fun hHeld2 => ?_)
  · exact HQc.out
  clear hK KK hHeld
  have hHeld := hHeld2 (by decide)
  clear hHeld2
  try simp only [Act.put, List.setIfInBounds_toArray, List.set_cons_zero, List.set_cons_succ]
  refine anyE_ready (i := 11) (o := ⟨some 22, _, _, _, _, _⟩) (by kernel_rfl) rfl (fun KK hK => ?_)
  go_simp
  go_at_call 40
  refine (load_any b g l k ad (n : Int) cM cK _ HMc.out hk HC.out).mono ?_; rintro e w2 ⟨rfl, hM2, hK2⟩
  replace HQc := Lib.hid (hK2.blk HQc.out hqo)
  replace HMc := Lib.hid hM2
  replace HKc := Lib.hid (HKc.out.trans hK2 (fun _ _ h => .inr h))
  clear hK2 hM2
  have hQ2 := HQc.out
  have x15 := hQ2.cell (i := 15) rfl
  have z15 := hQ2.frozen 15
  clear hQ2
  refine hK.out _ _ (fun _ => ?_) (fun hHeld2 => ?_)
  · exact HQc.out
  clear hK KK hHeld
  have hHeld := hHeld2 (by decide)
  clear hHeld2
  try simp only [Act.put, List.setIfInBounds_toArray, List.set_cons_zero, List.set_cons_succ]
  refine anyU_take (i := 12) (oi := ⟨some 23, _, _, _, _, _⟩) (v := ?_) rfl (by kernel_rfl) (by kernel_rfl) (by kernel_rfl) 16 (by kernel_rfl) (by kernel_rfl) (fun _ _ _ h => h) (Or.inl ⟨by rfl, ?_⟩) hHeld ?_
  rotate_left
  · (intro wq hSw; go_simp; try with_reducible rfl)
  try simp only [Act.put, List.setIfInBounds_toArray, List.set_cons_zero, List.set_cons_succ]
  refine anyU_take (i := 13) (oi := ⟨some 24, _, _, _, _, _⟩) (v := ?_) rfl (by kernel_rfl) (by kernel_rfl) (by kernel_rfl) 16 (by kernel_rfl) (by kernel_rfl) (fun _ _ _ h => h) (Or.inl ⟨by rfl, ?_⟩) hHeld ?_
  rotate_left
  · (intro wq hSw; go_simp; try with_reducible rfl)
  try simp only [Act.put, List.setIfInBounds_toArray, List.set_cons_zero, List.set_cons_succ]
  refine anyU_take (i := 14) (oi := ⟨some 25, _, _, _, _, _⟩) (v := ?_) rfl (by kernel_rfl) (by kernel_rfl) (by kernel_rfl) 16 (by kernel_rfl) (by kernel_rfl) (fun _ _ _ h => h) (Or.inl ⟨by rfl, ?_⟩) hHeld ?_
  rotate_left
  · (intro wq hSw; go_simp; try with_reducible rfl)
  try simp only [Act.put, List.setIfInBounds_toArray, List.set_cons_zero, List.set_cons_succ]
  refine anyE_ready (i := 15) (o := ⟨none, _, _, _, _, _⟩) (by kernel_rfl) rfl (fun KK hK => ?_)
  go_simp
  replace HQc := Lib.hid (HQc.out.set 15 (.int .u64 (n : Int)))
  replace HMc := Lib.hid (HMc.out.farq hqo 15 (.int .u64 (n : Int)))
  replace HKc := Lib.hid (HKc.out.setCell (a := ⟨q, 15, none⟩) (fun _ => .inl rfl) (.int .u64 (n : Int)))
  refine hK.out _ _ (fun h => absurd rfl h) (fun _ => ?_)
  clear hK KK hHeld
  try simp only [Act.put, List.setIfInBounds_toArray, List.set_cons_zero, List.set_cons_succ]
  refine anyE_done (by kernel_rfl) ?_ _
  clear x15 z15
  have HQ2 := HQc
  have HM2 := HMc
  have HK2 := HKc
  clear HQc HMc HKc
  have y16 := HQ2.out.cell (i := 16) rfl
  have u16 := HQ2.out.frozen 16
  have HQ3 := Lib.hid (HQ2.out.set 16 (.int .i64 1))
  have HM3 := Lib.hid (HM2.out.farq hqo 16 (.int .i64 1))
  have HK3 := Lib.hid (HK2.out.setCell (a := ⟨q, 16, none⟩) (fun _ => .inl rfl) (.int .i64 1))
  clear HQ2 HM2 HK2
  go_wp2
  go_ret
  exact ⟨rfl, HM3.out, HQ3.out, HK3.out⟩

set_option maxHeartbeats 2000000 in
theorem istep_1 (T S N C R F K fa fb fd : Int) (hl : Lim T S N C R F) (hd : Reach3 fa fb fd) (q c r : Nat) (vK : ByteArray) (vM old ph : Nat) (w : World) (h : Blk w q 93 (insv T S N C R F K fa fb fd c r vK vM old ph)) (hph : ph = 1) (b g : Nat) (l : List Cel) (k : Nat) (hm : Mem w b g l k) (hqb : q ≠ b) (hqg : q ≠ g) (hk : k < 9223372036854775808) (ad : Int) (had : recAt R fd (r : Int) 1 = ad) :
    Calls Try.prog 19 #[.pointer (some ⟨q, 0, none⟩), .pointer (some ⟨b, 0, none⟩)] w fun e w' => e = .returned (.bool false) ∧ Mem w' b g (putAt l ad (0, vK, (vM : Int))) (k + 1) ∧ Blk w' q 93 (insv T S N C R F K fa fb fd c r vK vM old 2) ∧ Kept (Own3 q b g) w w' := by
  have hp : ph = 1 := hph
  subst hp
  have x16 := h.cell (i := 16) rfl
  have HB := Lib.hid h
  have HM := Lib.hid hm
  have hqw := h.lt
  clear h hm
  go_enter Try.func19, Try.ntmps19
  go_wp2_with fail
  clear x16
  have hqo : ¬ Own b g q := by unfold Own; omega
  refine qtail 14 (fun w' => Kept (fun _ => False) w w' ∧ Blk w' q 93 (insv T S N C R F K fa fb fd c r vK vM old 1)) (by kernel_rfl) (by kernel_rfl) ⟨(Kept.refl _ _).drew, HB.out⟩ ?_
  simp only [List.take_succ_cons, List.take_zero, List.drop_succ_cons, List.drop_zero]
  refine qstep (o := ⟨some 28, _, _, _, _, _⟩) (v := ?_) (by rfl) (fun wq hSw => ?_) ?_
  rotate_left
  · (go_simp; try with_reducible rfl)
  try simp only [Act.put, List.setIfInBounds_toArray, List.set_cons_zero, List.set_cons_succ]
  refine qstep (o := ⟨some 29, _, _, _, _, _⟩) (v := ?_) (by rfl) (fun wq hSw => ?_) ?_
  rotate_left
  · (go_simp; try with_reducible rfl)
  try simp only [Act.put, List.setIfInBounds_toArray, List.set_cons_zero, List.set_cons_succ]
  refine qstep (o := ⟨some 30, _, _, _, _, _⟩) (v := ?_) (by rfl) (fun wq hSw => ?_) ?_
  rotate_left
  · (go_simp; try with_reducible rfl)
  try simp only [Act.put, List.setIfInBounds_toArray, List.set_cons_zero, List.set_cons_succ]
  refine qstep (o := ⟨some 31, _, _, _, _, _⟩) (v := ?_) (by rfl) (fun wq hSw => ?_) ?_
  rotate_left
  · (go_simp; try with_reducible rfl)
  try simp only [Act.put, List.setIfInBounds_toArray, List.set_cons_zero, List.set_cons_succ]
  refine qstep (o := ⟨some 32, _, _, _, _, _⟩) (v := ?_) (by rfl) (fun wq hSw => ?_) ?_
  rotate_left
  · (have hb9 := hSw.2; have x0 := hb9.cell (i := 0) rfl; have x1 := hb9.cell (i := 1) rfl; have x2 := hb9.cell (i := 2) rfl; have x3 := hb9.cell (i := 3) rfl; have x4 := hb9.cell (i := 4) rfl; have x5 := hb9.cell (i := 5) rfl; have x6 := hb9.cell (i := 6) rfl; have x7 := hb9.cell (i := 7) rfl; have x8 := hb9.cell (i := 8) rfl; have x9 := hb9.cell (i := 9) rfl; have x10 := hb9.cell (i := 10) rfl; have x11 := hb9.cell (i := 11) rfl; have x12 := hb9.cell (i := 12) rfl; have x13 := hb9.cell (i := 13) rfl; have x14 := hb9.cell (i := 14) rfl; have x15 := hb9.cell (i := 15) rfl; clear hb9; go_simp; try with_reducible rfl)
  try simp only [Act.put, List.setIfInBounds_toArray, List.set_cons_zero, List.set_cons_succ]
  refine qstep (o := ⟨some 33, _, _, _, _, _⟩) (v := ?_) (by rfl) (fun wq hSw => ?_) ?_
  rotate_left
  · (go_simp; try with_reducible rfl)
  try simp only [Act.put, List.setIfInBounds_toArray, List.set_cons_zero, List.set_cons_succ]
  refine qstep (o := ⟨some 34, _, _, _, _, _⟩) (v := ?_) (by rfl) (fun wq hSw => ?_) ?_
  rotate_left
  · (go_simp; try with_reducible rfl)
  try simp only [Act.put, List.setIfInBounds_toArray, List.set_cons_zero, List.set_cons_succ]
  refine qstep (o := ⟨some 35, _, _, _, _, _⟩) (v := ?_) (by rfl) (fun wq hSw => ?_) ?_
  rotate_left
  · (go_simp; try with_reducible rfl)
  try simp only [Act.put, List.setIfInBounds_toArray, List.set_cons_zero, List.set_cons_succ]
  refine qstep (o := ⟨some 36, _, _, _, _, _⟩) (v := ?_) (by rfl) (fun wq hSw => ?_) ?_
  rotate_left
  · (have hb9 := hSw.2; have x0 := hb9.cell (i := 0) rfl; have x1 := hb9.cell (i := 1) rfl; have x2 := hb9.cell (i := 2) rfl; have x3 := hb9.cell (i := 3) rfl; have x4 := hb9.cell (i := 4) rfl; have x5 := hb9.cell (i := 5) rfl; have x6 := hb9.cell (i := 6) rfl; have x7 := hb9.cell (i := 7) rfl; have x8 := hb9.cell (i := 8) rfl; have x9 := hb9.cell (i := 9) rfl; have x10 := hb9.cell (i := 10) rfl; have x11 := hb9.cell (i := 11) rfl; have x12 := hb9.cell (i := 12) rfl; have x13 := hb9.cell (i := 13) rfl; have x14 := hb9.cell (i := 14) rfl; have x15 := hb9.cell (i := 15) rfl; clear hb9; go_simp; try with_reducible rfl)
  try simp only [Act.put, List.setIfInBounds_toArray, List.set_cons_zero, List.set_cons_succ]
  refine qcall (o := ⟨some 37, _, _, _, _, _⟩) (v := .int .i64 ad) (by rfl) (fun wq hSw => ?_) (fun wq hSw => Calls.mono (val_to T S N C R F K fa fb fd hl hd (r : Int) ad had _) ?_) ?_
  · (go_simp; try with_reducible rfl)
  · rintro e w9 ⟨rfl, hk⟩; exact ⟨rfl, hSw.1.trans hk (fun _ _ h => h), hk.blk hSw.2 (fun h => h)⟩
  try simp only [Act.put, List.setIfInBounds_toArray, List.set_cons_zero, List.set_cons_succ]
  refine qstep (o := ⟨some 38, _, _, _, _, _⟩) (v := ?_) (by rfl) (fun wq hSw => ?_) ?_
  rotate_left
  · (go_simp; try with_reducible rfl)
  try simp only [Act.put, List.setIfInBounds_toArray, List.set_cons_zero, List.set_cons_succ]
  refine qstep (o := ⟨some 39, _, _, _, _, _⟩) (v := ?_) (by rfl) (fun wq hSw => ?_) ?_
  rotate_left
  · (go_simp; try with_reducible rfl)
  try simp only [Act.put, List.setIfInBounds_toArray, List.set_cons_zero, List.set_cons_succ]
  refine qstep (o := ⟨some 40, _, _, _, _, _⟩) (v := ?_) (by rfl) (fun wq hSw => ?_) ?_
  rotate_left
  · (go_simp; try with_reducible rfl)
  try simp only [Act.put, List.setIfInBounds_toArray, List.set_cons_zero, List.set_cons_succ]
  refine qstep (o := ⟨some 41, _, _, _, _, _⟩) (v := ?_) (by rfl) (fun wq hSw => ?_) ?_
  rotate_left
  · (have hb9 := hSw.2; have x0 := hb9.cell (i := 0) rfl; have x1 := hb9.cell (i := 1) rfl; have x2 := hb9.cell (i := 2) rfl; have x3 := hb9.cell (i := 3) rfl; have x4 := hb9.cell (i := 4) rfl; have x5 := hb9.cell (i := 5) rfl; have x6 := hb9.cell (i := 6) rfl; have x7 := hb9.cell (i := 7) rfl; have x8 := hb9.cell (i := 8) rfl; have x9 := hb9.cell (i := 9) rfl; have x10 := hb9.cell (i := 10) rfl; have x11 := hb9.cell (i := 11) rfl; have x12 := hb9.cell (i := 12) rfl; have x13 := hb9.cell (i := 13) rfl; have x14 := hb9.cell (i := 14) rfl; have x15 := hb9.cell (i := 15) rfl; clear hb9; go_simp; try with_reducible rfl)
  try simp only [Act.put, List.setIfInBounds_toArray, List.set_cons_zero, List.set_cons_succ]
  refine wpQuiet_nil ?_
  intro wz hHeld
  obtain ⟨hK, hQ⟩ := hHeld
  have HM1 := Lib.hid (HM.out.kept hK (fun h => h) (fun h => h))
  have HQ1 := Lib.hid hQ
  have HK1 := Lib.hid hK
  clear hK hQ HM HB
  go_wp2_with fail
  refine (store_any b g l k ad 0 (vM : Int) vK _ HM1.out hk).mono ?_; rintro e w2 ⟨rfl, hM2, hK2⟩
  have HQ2 := Lib.hid (hK2.blk HQ1.out hqo)
  have HM2 := Lib.hid hM2
  have HK2 := Lib.hid ((HK1.out.mono (T := Own3 q b g) (fun _ h => h.elim)).trans hK2 (fun _ _ h => .inr h))
  clear hM2 hK2 HM1 HQ1 HK1
  have y16 := HQ2.out.cell (i := 16) rfl
  have u16 := HQ2.out.frozen 16
  have HQ3 := Lib.hid (HQ2.out.set 16 (.int .i64 2))
  have HM3 := Lib.hid (HM2.out.farq hqo 16 (.int .i64 2))
  have HK3 := Lib.hid (HK2.out.setCell (a := ⟨q, 16, none⟩) (fun _ => .inl rfl) (.int .i64 2))
  clear HQ2 HM2 HK2
  go_wp2
  go_ret
  exact ⟨rfl, HM3.out, HQ3.out, HK3.out⟩

set_option maxHeartbeats 2000000 in
theorem istep_2 (T S N C R F K fa fb fd : Int) (hl : Lim T S N C R F) (hd : Reach3 fa fb fd) (q c r : Nat) (vK : ByteArray) (vM old ph : Nat) (w : World) (h : Blk w q 93 (insv T S N C R F K fa fb fd c r vK vM old ph)) (hph : ph = 2) (b g : Nat) (l : List Cel) (k : Nat) (hm : Mem w b g l k) (hqb : q ≠ b) (hqg : q ≠ g) (hk : k < 9223372036854775808) (ad : Int) (had : recAt R fd (r : Int) 2 = ad) :
    Calls Try.prog 19 #[.pointer (some ⟨q, 0, none⟩), .pointer (some ⟨b, 0, none⟩)] w fun e w' => e = .returned (.bool false) ∧ Mem w' b g (putAt l ad ((old : Int), ⟨#[]⟩, 0)) (k + 1) ∧ Blk w' q 93 (insv T S N C R F K fa fb fd c r vK vM old 3) ∧ Kept (Own3 q b g) w w' := by
  have hp : ph = 2 := hph
  subst hp
  have x16 := h.cell (i := 16) rfl
  have HB := Lib.hid h
  have HM := Lib.hid hm
  have hqw := h.lt
  clear h hm
  go_enter Try.func19, Try.ntmps19
  go_wp2_with fail
  clear x16
  have hqo : ¬ Own b g q := by unfold Own; omega
  refine qtail 15 (fun w' => Kept (fun _ => False) w w' ∧ Blk w' q 93 (insv T S N C R F K fa fb fd c r vK vM old 2)) (by kernel_rfl) (by kernel_rfl) ⟨(Kept.refl _ _).drew, HB.out⟩ ?_
  simp only [List.take_succ_cons, List.take_zero, List.drop_succ_cons, List.drop_zero]
  refine qstep (o := ⟨some 45, _, _, _, _, _⟩) (v := ?_) (by rfl) (fun wq hSw => ?_) ?_
  rotate_left
  · (go_simp; try with_reducible rfl)
  try simp only [Act.put, List.setIfInBounds_toArray, List.set_cons_zero, List.set_cons_succ]
  refine qstep (o := ⟨some 46, _, _, _, _, _⟩) (v := ?_) (by rfl) (fun wq hSw => ?_) ?_
  rotate_left
  · (go_simp; try with_reducible rfl)
  try simp only [Act.put, List.setIfInBounds_toArray, List.set_cons_zero, List.set_cons_succ]
  refine qstep (o := ⟨some 47, _, _, _, _, _⟩) (v := ?_) (by rfl) (fun wq hSw => ?_) ?_
  rotate_left
  · (go_simp; try with_reducible rfl)
  try simp only [Act.put, List.setIfInBounds_toArray, List.set_cons_zero, List.set_cons_succ]
  refine qstep (o := ⟨some 48, _, _, _, _, _⟩) (v := ?_) (by rfl) (fun wq hSw => ?_) ?_
  rotate_left
  · (go_simp; try with_reducible rfl)
  try simp only [Act.put, List.setIfInBounds_toArray, List.set_cons_zero, List.set_cons_succ]
  refine qstep (o := ⟨some 49, _, _, _, _, _⟩) (v := ?_) (by rfl) (fun wq hSw => ?_) ?_
  rotate_left
  · (have hb9 := hSw.2; have x0 := hb9.cell (i := 0) rfl; have x1 := hb9.cell (i := 1) rfl; have x2 := hb9.cell (i := 2) rfl; have x3 := hb9.cell (i := 3) rfl; have x4 := hb9.cell (i := 4) rfl; have x5 := hb9.cell (i := 5) rfl; have x6 := hb9.cell (i := 6) rfl; have x7 := hb9.cell (i := 7) rfl; have x8 := hb9.cell (i := 8) rfl; have x9 := hb9.cell (i := 9) rfl; have x10 := hb9.cell (i := 10) rfl; have x11 := hb9.cell (i := 11) rfl; have x12 := hb9.cell (i := 12) rfl; have x13 := hb9.cell (i := 13) rfl; have x14 := hb9.cell (i := 14) rfl; have x15 := hb9.cell (i := 15) rfl; clear hb9; go_simp; try with_reducible rfl)
  try simp only [Act.put, List.setIfInBounds_toArray, List.set_cons_zero, List.set_cons_succ]
  refine qstep (o := ⟨some 50, _, _, _, _, _⟩) (v := ?_) (by rfl) (fun wq hSw => ?_) ?_
  rotate_left
  · (go_simp; try with_reducible rfl)
  try simp only [Act.put, List.setIfInBounds_toArray, List.set_cons_zero, List.set_cons_succ]
  refine qstep (o := ⟨some 51, _, _, _, _, _⟩) (v := ?_) (by rfl) (fun wq hSw => ?_) ?_
  rotate_left
  · (go_simp; try with_reducible rfl)
  try simp only [Act.put, List.setIfInBounds_toArray, List.set_cons_zero, List.set_cons_succ]
  refine qstep (o := ⟨some 52, _, _, _, _, _⟩) (v := ?_) (by rfl) (fun wq hSw => ?_) ?_
  rotate_left
  · (go_simp; try with_reducible rfl)
  try simp only [Act.put, List.setIfInBounds_toArray, List.set_cons_zero, List.set_cons_succ]
  refine qstep (o := ⟨some 53, _, _, _, _, _⟩) (v := ?_) (by rfl) (fun wq hSw => ?_) ?_
  rotate_left
  · (have hb9 := hSw.2; have x0 := hb9.cell (i := 0) rfl; have x1 := hb9.cell (i := 1) rfl; have x2 := hb9.cell (i := 2) rfl; have x3 := hb9.cell (i := 3) rfl; have x4 := hb9.cell (i := 4) rfl; have x5 := hb9.cell (i := 5) rfl; have x6 := hb9.cell (i := 6) rfl; have x7 := hb9.cell (i := 7) rfl; have x8 := hb9.cell (i := 8) rfl; have x9 := hb9.cell (i := 9) rfl; have x10 := hb9.cell (i := 10) rfl; have x11 := hb9.cell (i := 11) rfl; have x12 := hb9.cell (i := 12) rfl; have x13 := hb9.cell (i := 13) rfl; have x14 := hb9.cell (i := 14) rfl; have x15 := hb9.cell (i := 15) rfl; clear hb9; go_simp; try with_reducible rfl)
  try simp only [Act.put, List.setIfInBounds_toArray, List.set_cons_zero, List.set_cons_succ]
  refine qcall (o := ⟨some 54, _, _, _, _, _⟩) (v := .int .i64 ad) (by rfl) (fun wq hSw => ?_) (fun wq hSw => Calls.mono (next_to T S N C R F K fa fb fd hl hd (r : Int) ad had _) ?_) ?_
  · (go_simp; try with_reducible rfl)
  · rintro e w9 ⟨rfl, hk⟩; exact ⟨rfl, hSw.1.trans hk (fun _ _ h => h), hk.blk hSw.2 (fun h => h)⟩
  try simp only [Act.put, List.setIfInBounds_toArray, List.set_cons_zero, List.set_cons_succ]
  refine qstep (o := ⟨some 55, _, _, _, _, _⟩) (v := ?_) (by rfl) (fun wq hSw => ?_) ?_
  rotate_left
  · (go_simp; try with_reducible rfl)
  try simp only [Act.put, List.setIfInBounds_toArray, List.set_cons_zero, List.set_cons_succ]
  refine qstep (o := ⟨some 56, _, _, _, _, _⟩) (v := ?_) (by rfl) (fun wq hSw => ?_) ?_
  rotate_left
  · (go_simp; try with_reducible rfl)
  try simp only [Act.put, List.setIfInBounds_toArray, List.set_cons_zero, List.set_cons_succ]
  refine qstep (o := ⟨some 57, _, _, _, _, _⟩) (v := ?_) (by rfl) (fun wq hSw => ?_) ?_
  rotate_left
  · (go_simp; try with_reducible rfl)
  try simp only [Act.put, List.setIfInBounds_toArray, List.set_cons_zero, List.set_cons_succ]
  refine qstep (o := ⟨some 58, _, _, _, _, _⟩) (v := ?_) (by rfl) (fun wq hSw => ?_) ?_
  rotate_left
  · (have hb9 := hSw.2; have x0 := hb9.cell (i := 0) rfl; have x1 := hb9.cell (i := 1) rfl; have x2 := hb9.cell (i := 2) rfl; have x3 := hb9.cell (i := 3) rfl; have x4 := hb9.cell (i := 4) rfl; have x5 := hb9.cell (i := 5) rfl; have x6 := hb9.cell (i := 6) rfl; have x7 := hb9.cell (i := 7) rfl; have x8 := hb9.cell (i := 8) rfl; have x9 := hb9.cell (i := 9) rfl; have x10 := hb9.cell (i := 10) rfl; have x11 := hb9.cell (i := 11) rfl; have x12 := hb9.cell (i := 12) rfl; have x13 := hb9.cell (i := 13) rfl; have x14 := hb9.cell (i := 14) rfl; have x15 := hb9.cell (i := 15) rfl; clear hb9; go_simp; try with_reducible rfl)
  try simp only [Act.put, List.setIfInBounds_toArray, List.set_cons_zero, List.set_cons_succ]
  refine qstep (o := ⟨some 59, _, _, _, _, _⟩) (v := ?_) (by rfl) (fun wq hSw => ?_) ?_
  rotate_left
  · (go_simp; try with_reducible rfl)
  try simp only [Act.put, List.setIfInBounds_toArray, List.set_cons_zero, List.set_cons_succ]
  refine wpQuiet_nil ?_
  intro wz hHeld
  obtain ⟨hK, hQ⟩ := hHeld
  have HM1 := Lib.hid (HM.out.kept hK (fun h => h) (fun h => h))
  have HQ1 := Lib.hid hQ
  have HK1 := Lib.hid hK
  clear hK hQ HM HB
  go_wp2_with fail
  refine (store_any b g l k ad (old : Int) 0 ⟨#[]⟩ _ HM1.out hk).mono ?_; rintro e w2 ⟨rfl, hM2, hK2⟩
  have HQ2 := Lib.hid (hK2.blk HQ1.out hqo)
  have HM2 := Lib.hid hM2
  have HK2 := Lib.hid ((HK1.out.mono (T := Own3 q b g) (fun _ h => h.elim)).trans hK2 (fun _ _ h => .inr h))
  clear hM2 hK2 HM1 HQ1 HK1
  have y16 := HQ2.out.cell (i := 16) rfl
  have u16 := HQ2.out.frozen 16
  have HQ3 := Lib.hid (HQ2.out.set 16 (.int .i64 3))
  have HM3 := Lib.hid (HM2.out.farq hqo 16 (.int .i64 3))
  have HK3 := Lib.hid (HK2.out.setCell (a := ⟨q, 16, none⟩) (fun _ => .inl rfl) (.int .i64 3))
  clear HQ2 HM2 HK2
  go_wp2
  go_ret
  exact ⟨rfl, HM3.out, HQ3.out, HK3.out⟩

set_option maxHeartbeats 2000000 in
theorem istep_3 (T S N C R F K fa fb fd : Int) (hl : Lim T S N C R F) (hd : Reach3 fa fb fd) (q c r : Nat) (vK : ByteArray) (vM old ph : Nat) (w : World) (h : Blk w q 93 (insv T S N C R F K fa fb fd c r vK vM old ph)) (hph : ph = 3) (b g : Nat) (l : List Cel) (k : Nat) (hm : Mem w b g l k) (hqb : q ≠ b) (hqg : q ≠ g) (hk : k < 9223372036854775808) (ad : Int) (had : chainAt C fb (c : Int) = ad) :
    Calls Try.prog 19 #[.pointer (some ⟨q, 0, none⟩), .pointer (some ⟨b, 0, none⟩)] w fun e w' => e = .returned (.bool true) ∧ Mem w' b g (putAt l ad ((r : Int), ⟨#[]⟩, 0)) (k + 1) ∧ Blk w' q 93 (insv T S N C R F K fa fb fd c r vK vM old 4) ∧ Kept (Own3 q b g) w w' := by
  have hp : ph = 3 := hph
  subst hp
  have x16 := h.cell (i := 16) rfl
  have HB := Lib.hid h
  have HM := Lib.hid hm
  have hqw := h.lt
  clear h hm
  go_enter Try.func19, Try.ntmps19
  go_wp2_with fail
  clear x16
  have hqo : ¬ Own b g q := by unfold Own; omega
  refine qtail 15 (fun w' => Kept (fun _ => False) w w' ∧ Blk w' q 93 (insv T S N C R F K fa fb fd c r vK vM old 3)) (by kernel_rfl) (by kernel_rfl) ⟨(Kept.refl _ _).drew, HB.out⟩ ?_
  simp only [List.take_succ_cons, List.take_zero, List.drop_succ_cons, List.drop_zero]
  refine qstep (o := ⟨some 63, _, _, _, _, _⟩) (v := ?_) (by rfl) (fun wq hSw => ?_) ?_
  rotate_left
  · (go_simp; try with_reducible rfl)
  try simp only [Act.put, List.setIfInBounds_toArray, List.set_cons_zero, List.set_cons_succ]
  refine qstep (o := ⟨some 64, _, _, _, _, _⟩) (v := ?_) (by rfl) (fun wq hSw => ?_) ?_
  rotate_left
  · (go_simp; try with_reducible rfl)
  try simp only [Act.put, List.setIfInBounds_toArray, List.set_cons_zero, List.set_cons_succ]
  refine qstep (o := ⟨some 65, _, _, _, _, _⟩) (v := ?_) (by rfl) (fun wq hSw => ?_) ?_
  rotate_left
  · (go_simp; try with_reducible rfl)
  try simp only [Act.put, List.setIfInBounds_toArray, List.set_cons_zero, List.set_cons_succ]
  refine qstep (o := ⟨some 66, _, _, _, _, _⟩) (v := ?_) (by rfl) (fun wq hSw => ?_) ?_
  rotate_left
  · (go_simp; try with_reducible rfl)
  try simp only [Act.put, List.setIfInBounds_toArray, List.set_cons_zero, List.set_cons_succ]
  refine qstep (o := ⟨some 67, _, _, _, _, _⟩) (v := ?_) (by rfl) (fun wq hSw => ?_) ?_
  rotate_left
  · (have hb9 := hSw.2; have x0 := hb9.cell (i := 0) rfl; have x1 := hb9.cell (i := 1) rfl; have x2 := hb9.cell (i := 2) rfl; have x3 := hb9.cell (i := 3) rfl; have x4 := hb9.cell (i := 4) rfl; have x5 := hb9.cell (i := 5) rfl; have x6 := hb9.cell (i := 6) rfl; have x7 := hb9.cell (i := 7) rfl; have x8 := hb9.cell (i := 8) rfl; have x9 := hb9.cell (i := 9) rfl; have x10 := hb9.cell (i := 10) rfl; have x11 := hb9.cell (i := 11) rfl; have x12 := hb9.cell (i := 12) rfl; have x13 := hb9.cell (i := 13) rfl; have x14 := hb9.cell (i := 14) rfl; have x15 := hb9.cell (i := 15) rfl; clear hb9; go_simp; try with_reducible rfl)
  try simp only [Act.put, List.setIfInBounds_toArray, List.set_cons_zero, List.set_cons_succ]
  refine qstep (o := ⟨some 68, _, _, _, _, _⟩) (v := ?_) (by rfl) (fun wq hSw => ?_) ?_
  rotate_left
  · (go_simp; try with_reducible rfl)
  try simp only [Act.put, List.setIfInBounds_toArray, List.set_cons_zero, List.set_cons_succ]
  refine qstep (o := ⟨some 69, _, _, _, _, _⟩) (v := ?_) (by rfl) (fun wq hSw => ?_) ?_
  rotate_left
  · (go_simp; try with_reducible rfl)
  try simp only [Act.put, List.setIfInBounds_toArray, List.set_cons_zero, List.set_cons_succ]
  refine qstep (o := ⟨some 70, _, _, _, _, _⟩) (v := ?_) (by rfl) (fun wq hSw => ?_) ?_
  rotate_left
  · (go_simp; try with_reducible rfl)
  try simp only [Act.put, List.setIfInBounds_toArray, List.set_cons_zero, List.set_cons_succ]
  refine qstep (o := ⟨some 71, _, _, _, _, _⟩) (v := ?_) (by rfl) (fun wq hSw => ?_) ?_
  rotate_left
  · (have hb9 := hSw.2; have x0 := hb9.cell (i := 0) rfl; have x1 := hb9.cell (i := 1) rfl; have x2 := hb9.cell (i := 2) rfl; have x3 := hb9.cell (i := 3) rfl; have x4 := hb9.cell (i := 4) rfl; have x5 := hb9.cell (i := 5) rfl; have x6 := hb9.cell (i := 6) rfl; have x7 := hb9.cell (i := 7) rfl; have x8 := hb9.cell (i := 8) rfl; have x9 := hb9.cell (i := 9) rfl; have x10 := hb9.cell (i := 10) rfl; have x11 := hb9.cell (i := 11) rfl; have x12 := hb9.cell (i := 12) rfl; have x13 := hb9.cell (i := 13) rfl; have x14 := hb9.cell (i := 14) rfl; have x15 := hb9.cell (i := 15) rfl; clear hb9; go_simp; try with_reducible rfl)
  try simp only [Act.put, List.setIfInBounds_toArray, List.set_cons_zero, List.set_cons_succ]
  refine qcall (o := ⟨some 72, _, _, _, _, _⟩) (v := .int .i64 ad) (by rfl) (fun wq hSw => ?_) (fun wq hSw => Calls.mono (chain_to T S N C R F K fa fb fd hl hd (c : Int) ad had _) ?_) ?_
  · (go_simp; try with_reducible rfl)
  · rintro e w9 ⟨rfl, hk⟩; exact ⟨rfl, hSw.1.trans hk (fun _ _ h => h), hk.blk hSw.2 (fun h => h)⟩
  try simp only [Act.put, List.setIfInBounds_toArray, List.set_cons_zero, List.set_cons_succ]
  refine qstep (o := ⟨some 73, _, _, _, _, _⟩) (v := ?_) (by rfl) (fun wq hSw => ?_) ?_
  rotate_left
  · (go_simp; try with_reducible rfl)
  try simp only [Act.put, List.setIfInBounds_toArray, List.set_cons_zero, List.set_cons_succ]
  refine qstep (o := ⟨some 74, _, _, _, _, _⟩) (v := ?_) (by rfl) (fun wq hSw => ?_) ?_
  rotate_left
  · (go_simp; try with_reducible rfl)
  try simp only [Act.put, List.setIfInBounds_toArray, List.set_cons_zero, List.set_cons_succ]
  refine qstep (o := ⟨some 75, _, _, _, _, _⟩) (v := ?_) (by rfl) (fun wq hSw => ?_) ?_
  rotate_left
  · (go_simp; try with_reducible rfl)
  try simp only [Act.put, List.setIfInBounds_toArray, List.set_cons_zero, List.set_cons_succ]
  refine qstep (o := ⟨some 76, _, _, _, _, _⟩) (v := ?_) (by rfl) (fun wq hSw => ?_) ?_
  rotate_left
  · (have hb9 := hSw.2; have x0 := hb9.cell (i := 0) rfl; have x1 := hb9.cell (i := 1) rfl; have x2 := hb9.cell (i := 2) rfl; have x3 := hb9.cell (i := 3) rfl; have x4 := hb9.cell (i := 4) rfl; have x5 := hb9.cell (i := 5) rfl; have x6 := hb9.cell (i := 6) rfl; have x7 := hb9.cell (i := 7) rfl; have x8 := hb9.cell (i := 8) rfl; have x9 := hb9.cell (i := 9) rfl; have x10 := hb9.cell (i := 10) rfl; have x11 := hb9.cell (i := 11) rfl; have x12 := hb9.cell (i := 12) rfl; have x13 := hb9.cell (i := 13) rfl; have x14 := hb9.cell (i := 14) rfl; have x15 := hb9.cell (i := 15) rfl; clear hb9; go_simp; try with_reducible rfl)
  try simp only [Act.put, List.setIfInBounds_toArray, List.set_cons_zero, List.set_cons_succ]
  refine qstep (o := ⟨some 77, _, _, _, _, _⟩) (v := ?_) (by rfl) (fun wq hSw => ?_) ?_
  rotate_left
  · (go_simp; try with_reducible rfl)
  try simp only [Act.put, List.setIfInBounds_toArray, List.set_cons_zero, List.set_cons_succ]
  refine wpQuiet_nil ?_
  intro wz hHeld
  obtain ⟨hK, hQ⟩ := hHeld
  have HM1 := Lib.hid (HM.out.kept hK (fun h => h) (fun h => h))
  have HQ1 := Lib.hid hQ
  have HK1 := Lib.hid hK
  clear hK hQ HM HB
  go_wp2_with fail
  refine (store_any b g l k ad (r : Int) 0 ⟨#[]⟩ _ HM1.out hk).mono ?_; rintro e w2 ⟨rfl, hM2, hK2⟩
  have HQ2 := Lib.hid (hK2.blk HQ1.out hqo)
  have HM2 := Lib.hid hM2
  have HK2 := Lib.hid ((HK1.out.mono (T := Own3 q b g) (fun _ h => h.elim)).trans hK2 (fun _ _ h => .inr h))
  clear hM2 hK2 HM1 HQ1 HK1
  have y16 := HQ2.out.cell (i := 16) rfl
  have u16 := HQ2.out.frozen 16
  have HQ3 := Lib.hid (HQ2.out.set 16 (.int .i64 4))
  have HM3 := Lib.hid (HM2.out.farq hqo 16 (.int .i64 4))
  have HK3 := Lib.hid (HK2.out.setCell (a := ⟨q, 16, none⟩) (fun _ => .inl rfl) (.int .i64 4))
  clear HQ2 HM2 HK2
  go_wp2
  go_ret
  exact ⟨rfl, HM3.out, HQ3.out, HK3.out⟩

end Go.Proofs.Ytpamjbjgckaedaa
