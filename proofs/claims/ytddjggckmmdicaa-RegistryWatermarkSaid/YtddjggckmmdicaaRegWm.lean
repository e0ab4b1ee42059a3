/-
  Package registry: the machine Watermark, step by step, and what makes it. Condition: sizes within their limits; fewer than 2^63 accesses so far.
-/
import Derived.Test.YtddjggckmmdicaaRegOpen
namespace Go.Proofs.Ytddjggckmmdicaa
open Go.RowKit Go.Deep
set_option linter.unusedVariables false

/-- The cells of a Watermark: the Now inside, whether it has made its step, the addresses that are left, the least so far. -/
def wmv (q : Nat) (ld : Bool) (A : Option Addr) (n c : Nat) (least : Nat) : List Value := [.pointer (some ⟨q, 0, none⟩), .bool ld, .slice A n c, .int .u64 (least : Int)]
/-- The least behind a cell. -/
def low (least N : Nat) : Nat := if N = 0 then least else min least (N - 1)

set_option maxHeartbeats 400000 in
theorem fin_any (o q : Nat) (ld : Bool) (A : Option Addr) (n c least : Nat) (r : Bool) (hr : decide (n = 0) = r) (w : World) (ho : Blk w o 61 (wmv q ld A n c least)) :
    Calls Try.prog 27 #[.pointer (some ⟨o, 0, none⟩)] w fun e w' => e = .returned (.bool r) ∧ w = w' := by
  have c2 := ho.cell (i := 2) rfl
  have hr2 : ((n : Int) == 0) = r := by rw [← hr]; by_cases h : n = 0 <;> simp [h] <;> omega
  go_enter Try.func27, Try.ntmps27
  go_wp2
  go_ret
  exact ⟨by first | rfl | (rw [← hr2]; rfl), rfl⟩

set_option maxHeartbeats 400000 in
theorem wmTime_done (o q : Nat) (ld : Bool) (A : Option Addr) (c least : Nat) (w : World) (ho : Blk w o 61 (wmv q ld A 0 c least)) :
    Calls Try.prog 14 #[.pointer (some ⟨o, 0, none⟩)] w fun e w' => e = .returned (.int .u64 (least : Int)) ∧ w = w' := by
  have c3 := ho.cell (i := 3) rfl
  go_enter Try.func14, Try.ntmps14
  go_wp2_with fail
  refine (fin_any o q ld A 0 c least true rfl _ ho).mono ?_; rintro e w1 ⟨rfl, rfl⟩
  go_wp2
  go_ret
  exact ⟨rfl, rfl⟩

set_option maxHeartbeats 1000000 in
theorem include_no (o q : Nat) (ld : Bool) (A : Option Addr) (n c least : Nat) (K : ByteArray) (M : Int) (w : World) (ho : Blk w o 61 (wmv q ld A n c least)) :
    Calls Try.prog 28 #[.pointer (some ⟨o, 0, none⟩), .agg #[.int .u64 0, .string K, .int .u64 M]] w fun e w' => e = .returned (.tuple #[]) ∧ Blk w' o 61 (wmv q ld A n c least) ∧ Kept (fun k => k = o) w w' := by
  have HO := Lib.hid (ho.alloc (.cells #[.int .u64 0, .string K, .int .u64 M] 36))
  have HK := Lib.hid ((Kept.refl (fun k => k = o) w).alloc (.cells #[.int .u64 0, .string K, .int .u64 M] 36))
  clear ho
  go_enter Try.func28, Try.ntmps28
  go_wp2_with fail
  refine (timeOf_no M K _).mono ?_; rintro e w1 ⟨rfl, hK1⟩
  have HB := Lib.hid (hK1.blk HO.out id)
  have HKK := Lib.hid (HK.out.trans hK1 (T := fun _ => False) (fun _ _ h => h.elim))
  clear hK1 HO HK
  go_wp2
  go_end0
  exact ⟨rfl, HB.out, HKK.out⟩

set_option maxHeartbeats 1000000 in
theorem include_yes (o q : Nat) (ld : Bool) (A : Option Addr) (n c least : Nat) (x y : Nat) (K : ByteArray) (M : Int) (hx : x + 1 < 18446744073709551616) (hy : min least x = y) (w : World) (ho : Blk w o 61 (wmv q ld A n c least)) :
    Calls Try.prog 28 #[.pointer (some ⟨o, 0, none⟩), .agg #[.int .u64 ((x : Int) + 1), .string K, .int .u64 M]] w fun e w' => e = .returned (.tuple #[]) ∧ Blk w' o 61 (wmv q ld A n c y) ∧ Kept (fun k => k = o) w w' := by
  have HO := Lib.hid (ho.alloc (.cells #[.int .u64 ((x : Int) + 1), .string K, .int .u64 M] 36))
  have HK := Lib.hid ((Kept.refl (fun k => k = o) w).alloc (.cells #[.int .u64 ((x : Int) + 1), .string K, .int .u64 M] 36))
  have HY := Lib.hid hy
  clear ho hy
  go_enter Try.func28, Try.ntmps28
  go_wp2_with fail
  have ht := timeOf_yes ((x : Int) + 1) M K (by omega) (by omega) (w.alloc (.cells #[.int .u64 ((x : Int) + 1), .string K, .int .u64 M] 36))
  rw [show (x : Int) + 1 - 1 = x by omega] at ht
  refine ht.mono ?_; rintro e w1 ⟨rfl, hK1⟩
  have hB := hK1.blk HO.out id
  have c3 := hB.cell (i := 3) rfl
  have z3 := hB.frozen 3
  have HB := Lib.hid hB
  have HKK := Lib.hid (HK.out.trans hK1 (T := fun _ => False) (fun _ _ h => h.elim))
  clear ht hK1 hB HO HK
  go_wp2
  · obtain rfl : x = y := by have := HY.out; omega
    go_end0
    exact ⟨rfl, HB.out.set 3 _, HKK.out.setCell (fun _ => rfl) _⟩
  · obtain rfl : least = y := by have := HY.out; omega
    go_end0
    exact ⟨rfl, HB.out.set 3 _, HKK.out.setCell (fun _ => rfl) _⟩

theorem include_any (o q : Nat) (ld : Bool) (A : Option Addr) (n c least : Nat) (N y : Nat) (K : ByteArray) (M : Int) (hN : N < 18446744073709551616) (hy : low least N = y) (w : World) (ho : Blk w o 61 (wmv q ld A n c least)) :
    Calls Try.prog 28 #[.pointer (some ⟨o, 0, none⟩), .agg #[.int .u64 (N : Int), .string K, .int .u64 M]] w fun e w' => e = .returned (.tuple #[]) ∧ Blk w' o 61 (wmv q ld A n c y) ∧ Kept (fun k => k = o) w w' := by
  by_cases h0 : N = 0
  · subst h0; obtain rfl : least = y := by rw [← hy]; rfl
    exact include_no o q ld A n c least K M w ho
  · obtain ⟨x, rfl⟩ : ∃ x, N = x + 1 := ⟨N - 1, by omega⟩
    have : min least x = y := by rw [← hy]; unfold low; rw [if_neg h0]; simp
    exact include_yes o q ld A n c least x y K M hN this w ho

set_option maxHeartbeats 2000000 in
theorem wmStep0 (o q b g : Nat) (A : Option Addr) (n c least x V : Nat) (K : ByteArray) (M : Int) (l : List Cel) (k : Nat) (r : Bool) (hr : decide (n = 0) = r) (w : World) (ho : Blk w o 61 (wmv q false A n c least)) (hq : Blk w q 72 (nowv 2 x false)) (h : Mem w b g l k)
    (hob : o ≠ b) (hog : o ≠ g) (hqb : q ≠ b) (hqg : q ≠ g) (hoq : o ≠ q) (hk : k < 9223372036854775808) (hc : cellAt l 2 = ((V : Int), K, M)) :
    Calls Try.prog 12 #[.pointer (some ⟨o, 0, none⟩), .pointer (some ⟨b, 0, none⟩)] w fun e w' => e = .returned (.bool r) ∧ Mem w' b g l (k + 1) ∧ Blk w' o 61 (wmv q true A n c V) ∧ Blk w' q 72 (nowv 2 V true) ∧ Kept (fun i => i = o ∨ i = q ∨ i = b ∨ i = g) w w' := by
  have c0 := ho.cell (i := 0) rfl
  have c1 := ho.cell (i := 1) rfl
  have HO := Lib.hid ho
  clear ho
  go_enter Try.func12, Try.ntmps12
  go_wp2_with fail
  refine (nowStep_load q b g l k 2 V K M x _ hq h hqb hqg hk hc).mono ?_; rintro e w1 ⟨rfl, hM, hQ, hK⟩
  have hB := hK.blk HO.out (by unfold Own3; omega)
  have y0 := hB.cell (i := 0) rfl
  have y1 := hB.cell (i := 1) rfl
  have y3 := hB.cell (i := 3) rfl
  have z1 := hB.frozen 1
  have z3 := hB.frozen 3
  have HB := Lib.hid hB
  have HM := Lib.hid hM
  have HQ := Lib.hid hQ
  have HK := Lib.hid (hK.mono (T := fun i => i = o ∨ i = q ∨ i = b ∨ i = g) (fun _ h => .inr h))
  clear hM hQ hK hB HO c0 c1
  go_wp2_with fail
  refine (nowTime_any q 2 V true _ HQ.out).mono ?_; rintro e w2 ⟨rfl, rfl⟩
  have HQ1 := Lib.hid ((HQ.out.other (a := ⟨o, 3, none⟩) (fun e => hoq e.symm) (.int .u64 (V : Int))).other (a := ⟨o, 1, none⟩) (fun e => hoq e.symm) (.bool true))
  go_wp2_with fail
  have hB2 := (HB.out.set 3 (.int .u64 (V : Int))).set 1 (.bool true)
  refine (fin_any o q true A n c V r hr _ hB2).mono ?_; rintro e w3 ⟨rfl, rfl⟩
  go_wp2
  go_ret
  exact ⟨rfl, (HM.out.setFar hob hog _ _).setFar hob hog _ _, hB2, HQ1.out, (HK.out.setCell (fun _ => .inl rfl) _).setCell (fun _ => .inl rfl) _⟩

set_option maxHeartbeats 400000 in
theorem wmStep_done (o q m : Nat) (A : Option Addr) (c least : Nat) (w : World) (ho : Blk w o 61 (wmv q true A 0 c least)) :
    Calls Try.prog 12 #[.pointer (some ⟨o, 0, none⟩), .pointer (some ⟨m, 0, none⟩)] w fun e w' => e = .returned (.bool true) ∧ w = w' := by
  have c1 := ho.cell (i := 1) rfl
  go_enter Try.func12, Try.ntmps12
  go_wp2_with fail
  refine (fin_any o q true A 0 c least true rfl _ ho).mono ?_; rintro e w1 ⟨rfl, rfl⟩
  go_wp2_with fail
  refine (fin_any o q true A 0 c least true rfl _ ho).mono ?_; rintro e w2 ⟨rfl, rfl⟩
  go_wp2
  go_ret
  exact ⟨rfl, rfl⟩

set_option maxHeartbeats 2000000 in
theorem wmStep1 (o q b g rg off : Nat) (n c least N y ad : Nat) (K : ByteArray) (M : Int) (l : List Cel) (k : Nat) (r : Bool) (hr : decide (n = 0) = r) (hnc : n + 1 ≤ c) (hcm : c ≤ maxLen) (w : World) (ho : Blk w o 61 (wmv q true (some ⟨rg, off, none⟩) (n + 1) c least)) (h : Mem w b g l k)
    (hrow : w.cell? ⟨rg, off, none⟩ = some (.int .i64 (ad : Int))) (hob : o ≠ b) (hog : o ≠ g) (hk : k < 9223372036854775808) (hc : cellAt l (ad : Int) = ((N : Int), K, M)) (hN : N < 18446744073709551616) (hy : low least N = y) :
    Calls Try.prog 12 #[.pointer (some ⟨o, 0, none⟩), .pointer (some ⟨b, 0, none⟩)] w fun e w' => e = .returned (.bool r) ∧ Mem w' b g l (k + 1) ∧ (∃ A2, (0 < n → A2 = some ⟨rg, off + 1, none⟩) ∧ Blk w' o 61 (wmv q true A2 n (c - 1) y)) ∧ Kept (fun i => i = o ∨ i = b ∨ i = g) w w' := by
  have c1 := ho.cell (i := 1) rfl
  have c2 := ho.cell (i := 2) rfl
  have HO := Lib.hid ho
  clear ho
  go_enter Try.func12, Try.ntmps12
  go_wp2_with fail
  refine (fin_any o q true _ (n + 1) c least false (by simp) _ HO.out).mono ?_; rintro e w1 ⟨rfl, rfl⟩
  go_wp2_with fail
  refine (load_any b g l k (ad : Int) (N : Int) M K _ h hk hc).mono ?_; rintro e w2 ⟨rfl, hM, hK⟩
  have HB := Lib.hid (hK.blk HO.out (by unfold Own; omega))
  have HM := Lib.hid hM
  have HK := Lib.hid (hK.mono (T := fun i => i = o ∨ i = b ∨ i = g) (fun _ h => .inr h))
  clear hM hK HO c1 c2
  go_wp2_with fail
  refine (include_any o q true _ (n + 1) c least N y K M hN hy _ HB.out).mono ?_; rintro e w3 ⟨rfl, hB3, hK3⟩
  have c2 := hB3.cell (i := 2) rfl
  have z2 := hB3.frozen 2
  have HB3 := Lib.hid hB3
  have HM3 := Lib.hid (HM.out.kept hK3 (fun e => hob e.symm) (fun e => hog e.symm))
  have HK3 := Lib.hid (HK.out.trans hK3 (fun i _ h => .inl h))
  clear hB3 hK3 HB HM HK
  unfold maxLen at hcm
  go_wp2_with fail
  · have hB4 := HB3.out.set 2 (.slice (some ⟨rg, off, none⟩) n 0)
    refine (fin_any o q true _ n 0 y r hr _ hB4).mono ?_; rintro e w4 ⟨rfl, rfl⟩
    go_wp2
    go_ret
    exact ⟨rfl, HM3.out.setFar hob hog _ _, ⟨some ⟨rg, off, none⟩, fun h => by omega, by rw [show c - 1 = 0 by omega]; exact hB4⟩, HK3.out.setCell (fun _ => .inl rfl) _⟩
  · have hB4 := HB3.out.set 2 (.slice (some ⟨rg, off + 1, none⟩) n (c - 1))
    refine (fin_any o q true _ n (c - 1) y r hr _ hB4).mono ?_; rintro e w4 ⟨rfl, rfl⟩
    go_wp2
    go_ret
    exact ⟨rfl, HM3.out.setFar hob hog _ _, ⟨_, fun _ => rfl, hB4⟩, HK3.out.setCell (fun _ => .inl rfl) _⟩

/-- A Watermark at block o that has loaded j of n cells: the addresses lie in block g. -/
structure Wm (w : World) (o q g : Nat) (ld : Bool) (n j least : Nat) : Prop where
  obj : ∃ A c, Blk w o 61 (wmv q ld A (n - j) c least) ∧ n - j ≤ c ∧ c ≤ maxLen ∧ (j < n → A = some ⟨g, j, none⟩)
  now : ∃ x, Blk w q 72 (nowv 2 x ld)
  row : ∀ k, k < n → w.cell? ⟨g, k, none⟩ = some (.int .i64 ((8 + k : Nat) : Int))
  lt : g < w.heap.size
  oq : o ≠ q
  og : o ≠ g
  qg : q ≠ g
theorem Wm.kept {S : Nat → Prop} {w w' : World} {o q g n j least : Nat} {ld : Bool} (h : Wm w o q g ld n j least) (hk : Kept S w w') (ho : ¬ S o) (hq : ¬ S q) (hg : ¬ S g) : Wm w' o q g ld n j least := by
  obtain ⟨A, c, h1, h2⟩ := h.obj
  obtain ⟨x, hx⟩ := h.now
  exact ⟨⟨A, c, hk.blk h1 ho, h2⟩, ⟨x, hk.blk hx hq⟩, fun k hl => (hk.cell (p := ⟨g, k, none⟩) h.lt hg).trans (h.row k hl), Nat.lt_of_lt_of_le h.lt hk.size, h.oq, h.og, h.qg⟩
theorem Wm.lto {w : World} {o q g n j least : Nat} {ld : Bool} (h : Wm w o q g ld n j least) : o < w.heap.size ∧ q < w.heap.size ∧ g < w.heap.size := by
  obtain ⟨A, c, h1, _⟩ := h.obj
  obtain ⟨x, hx⟩ := h.now
  exact ⟨h1.lt, hx.lt, h.lt⟩
/-- What a step of a Watermark may write. -/
def Ownw (o q b m : Nat) : Nat → Prop := fun i => i = o ∨ i = q ∨ i = b ∨ i = m

theorem wm_first {w : World} {o q g b m n least k V : Nat} {l : List Cel} {K : ByteArray} {M : Int} (hw : Wm w o q g false n 0 least) (h : Mem w b m l k) (hn : 0 < n) (hs : ∀ i, i = b ∨ i = m → o ≠ i ∧ q ≠ i ∧ g ≠ i) (hk : k < 9223372036854775808) (hc : cellAt l 2 = ((V : Int), K, M)) :
    Calls Try.prog 12 #[.pointer (some ⟨o, 0, none⟩), .pointer (some ⟨b, 0, none⟩)] w fun e w' => e = .returned (.bool false) ∧ Mem w' b m l (k + 1) ∧ Wm w' o q g true n 0 V ∧ Kept (Ownw o q b m) w w' := by
  obtain ⟨A, c, h1, h2, h3, h4⟩ := hw.obj
  obtain ⟨x, hx⟩ := hw.now
  obtain ⟨b1, b2, b3⟩ := hs b (.inl rfl)
  obtain ⟨m1, m2, m3⟩ := hs m (.inr rfl)
  refine (wmStep0 o q b m A (n - 0) c least x V K M l k false (by simp; omega) w h1 hx h b1 m1 b2 m2 hw.oq hk hc).mono ?_
  rintro e w' ⟨he, hM, hO, hQ, hK⟩
  have hng : ¬ Ownw o q b m g := by have := hw.og; have := hw.qg; unfold Ownw; omega
  exact ⟨he, hM, ⟨⟨A, c, hO, h2, h3, h4⟩, ⟨V, hQ⟩, fun k hl => (hK.cell (p := ⟨g, k, none⟩) hw.lt hng).trans (hw.row k hl), Nat.lt_of_lt_of_le hw.lt hK.size, hw.oq, hw.og, hw.qg⟩, hK⟩

theorem wm_next {w : World} {o q g b m n j least k N y : Nat} {l : List Cel} {K : ByteArray} {M : Int} {r : Bool} (hw : Wm w o q g true n j least) (h : Mem w b m l k) (hj : j < n) (hs : ∀ i, i = b ∨ i = m → o ≠ i ∧ q ≠ i ∧ g ≠ i) (hk : k < 9223372036854775808) (hc : cellAt l ((8 + j : Nat) : Int) = ((N : Int), K, M))
    (hN : N < 18446744073709551616) (hy : low least N = y) (hr : decide (j + 1 = n) = r) :
    Calls Try.prog 12 #[.pointer (some ⟨o, 0, none⟩), .pointer (some ⟨b, 0, none⟩)] w fun e w' => e = .returned (.bool r) ∧ Mem w' b m l (k + 1) ∧ Wm w' o q g true n (j + 1) y ∧ Kept (Ownw o q b m) w w' := by
  obtain ⟨A, c, h1, h2, h3, h4⟩ := hw.obj
  obtain ⟨x, hx⟩ := hw.now
  obtain ⟨b1, b2, b3⟩ := hs b (.inl rfl)
  obtain ⟨m1, m2, m3⟩ := hs m (.inr rfl)
  obtain rfl := h4 hj
  have hnj : n - j = n - (j + 1) + 1 := by omega
  rw [hnj] at h1
  refine (wmStep1 o q b m g j (n - (j + 1)) c least N y (8 + j) K M l k r (by rw [← hr]; congr 1; simp; omega) (by omega) h3 w h1 h (hw.row j hj) b1 m1 hk hc hN hy).mono ?_
  rintro e w' ⟨he, hM, ⟨A2, hA2, hO⟩, hK⟩
  have hng : ¬ (g = o ∨ g = b ∨ g = m) := by have := hw.og; omega
  have hnq : ¬ (q = o ∨ q = b ∨ q = m) := by have := hw.oq; omega
  exact ⟨he, hM, ⟨⟨A2, c - 1, hO, by omega, by omega, fun h => hA2 (by omega)⟩, ⟨x, hK.blk hx hnq⟩, fun k hl => (hK.cell (p := ⟨g, k, none⟩) hw.lt hng).trans (hw.row k hl), Nat.lt_of_lt_of_le hw.lt hK.size, hw.oq, hw.og, hw.qg⟩, hK.mono (fun i h => by unfold Ownw; omega)⟩

theorem wm_done {w : World} {o q g n least m : Nat} (hw : Wm w o q g true n n least) :
    Calls Try.prog 12 #[.pointer (some ⟨o, 0, none⟩), .pointer (some ⟨m, 0, none⟩)] w fun e w' => e = .returned (.bool true) ∧ w = w' := by
  obtain ⟨A, c, h1, h2, h3, h4⟩ := hw.obj
  rw [Nat.sub_self] at h1
  exact wmStep_done o q m A c least w h1
theorem wm_time {w : World} {o q g n least : Nat} {ld : Bool} (hw : Wm w o q g ld n n least) :
    Calls Try.prog 14 #[.pointer (some ⟨o, 0, none⟩)] w fun e w' => e = .returned (.int .u64 (least : Int)) ∧ w = w' := by
  obtain ⟨A, c, h1, h2, h3, h4⟩ := hw.obj
  rw [Nat.sub_self] at h1
  exact wmTime_done o q ld A c least w h1



set_option maxHeartbeats 2000000 in
theorem newWatermark_any (T S : Nat) (N C R F a b d : Int) (lim : Nat) (hl : Lim (T : Int) (S : Int) N C R F) (w : World) :
    Calls Try.prog 11 #[.agg #[.int .i64 (T : Int), .int .i64 (S : Int), .int .i64 N, .int .i64 C, .int .i64 R, .int .i64 F, .int .u64 (lim : Int), .int .i64 a, .int .i64 b, .int .i64 d]] w fun e w' => ∃ o q g, e = .returned (.pointer (some ⟨o, 0, none⟩)) ∧ Wm w' o q g false (T * S) 0 0 ∧ w.heap.size ≤ o ∧ w.heap.size ≤ q ∧ w.heap.size ≤ g ∧ Kept (fun _ => False) w w' := by
  go_enter Try.func11, Try.ntmps11
  go_wp2_with fail
  have hN0 := Blk.new w [.int .i64 (T : Int), .int .i64 (S : Int), .int .i64 N, .int .i64 C, .int .i64 R, .int .i64 F, .int .u64 (lim : Int), .int .i64 a, .int .i64 b, .int .i64 d] 29
  have x0 := hN0.cell (i := 0) rfl
  have x1 := hN0.cell (i := 1) rfl
  have x2 := hN0.cell (i := 2) rfl
  have x3 := hN0.cell (i := 3) rfl
  have x4 := hN0.cell (i := 4) rfl
  have x5 := hN0.cell (i := 5) rfl
  have x6 := hN0.cell (i := 6) rfl
  have x7 := hN0.cell (i := 7) rfl
  have x8 := hN0.cell (i := 8) rfl
  have x9 := hN0.cell (i := 9) rfl
  have hr : w.heap.size < (w.alloc (.cells #[.int .i64 (T : Int), .int .i64 (S : Int), .int .i64 N, .int .i64 C, .int .i64 R, .int .i64 F, .int .u64 (lim : Int), .int .i64 a, .int .i64 b, .int .i64 d] 29)).heap.size := hN0.lt
  have HK := Lib.hid ((Kept.refl (fun _ => False) w).alloc (.cells #[.int .i64 (T : Int), .int .i64 (S : Int), .int .i64 N, .int .i64 C, .int .i64 R, .int .i64 F, .int .u64 (lim : Int), .int .i64 a, .int .i64 b, .int .i64 d] 29))
  clear hN0
  generalize w.alloc (.cells #[.int .i64 (T : Int), .int .i64 (S : Int), .int .i64 N, .int .i64 C, .int .i64 R, .int .i64 F, .int .u64 (lim : Int), .int .i64 a, .int .i64 b, .int .i64 d] 29) = W at *
  generalize hrw : w.heap.size = r at *
  have HRW := Lib.hid hrw
  clear hrw
  go_region_held3 (fun w' => Kept (fun _ => False) W w' ∧ w'.cell? ⟨r, 0, none⟩ = some (.int .i64 (T : Int)) ∧ w'.cell? ⟨r, 1, none⟩ = some (.int .i64 (S : Int)) ∧ w'.cell? ⟨r, 2, none⟩ = some (.int .i64 N) ∧ w'.cell? ⟨r, 3, none⟩ = some (.int .i64 C) ∧ w'.cell? ⟨r, 4, none⟩ = some (.int .i64 R) ∧ w'.cell? ⟨r, 5, none⟩ = some (.int .i64 F) ∧ w'.cell? ⟨r, 6, none⟩ = some (.int .u64 (lim : Int)) ∧ w'.cell? ⟨r, 7, none⟩ = some (.int .i64 a) ∧ w'.cell? ⟨r, 8, none⟩ = some (.int .i64 b) ∧ w'.cell? ⟨r, 9, none⟩ = some (.int .i64 d))
    (first | exact ⟨(Kept.refl _ _).drew, x0, x1, x2, x3, x4, x5, x6, x7, x8, x9⟩ | exact keep10 (by assumption) hr (by assumption) | exact keep10 (Kept.ofDrew (by assumption)) hr (by assumption) | exact keep10 ((Kept.refl _ _).alloc _) hr (by assumption))
    (first | (go_at_call 23; refine (newNow_any (T : Int) (S : Int) N C R F a b d lim _).mono ?_; rintro e w9 ⟨p, rfl, hQ9, hp9, hz9, hK9⟩)
           | (go_at_call 24; refine (snapCells_any T S N C R F (lim : Int) a b d hl _).mono ?_; rintro e w8 ⟨g, c, rfl, hc1, hc2, hg1, hg2, hrow, hK8⟩))
  have hB := Blk.new w8 (wmv p false (some ⟨g, 0, none⟩) (T * S) c 0) 61
  have h1 := HK.out.size
  have h2 := hK9.ofDrew.size
  have h3 := hK8.size
  have hQ8 := hK8.blk hQ9 id
  have HB := Lib.hid hB
  have HQ := Lib.hid (hQ8.alloc (.cells #[.pointer (some ⟨p, 0, none⟩), .bool false, .slice (some ⟨g, 0, none⟩) (T * S) c, .int .u64 0] 61))
  have HKK := Lib.hid (((HK.out.trans hK9.ofDrew (fun _ _ h => h)).trans hK8 (fun _ _ h => h)).alloc (.cells #[.pointer (some ⟨p, 0, none⟩), .bool false, .slice (some ⟨g, 0, none⟩) (T * S) c, .int .u64 0] 61))
  have hkr := (Kept.refl (fun _ => False) w8).alloc (.cells #[.pointer (some ⟨p, 0, none⟩), .bool false, .slice (some ⟨g, 0, none⟩) (T * S) c, .int .u64 0] 61)
  have HR := Lib.hid (fun k hk => (hkr.cell (p := ⟨g, k, none⟩) hg2 id).trans (hrow k hk))
  have hp8 := hQ8.lt
  have hs8 := hkr.size
  have hW : w.heap.size ≤ W.heap.size := h1
  have hd : W.drew.heap.size = W.heap.size := rfl
  have hle : w.heap.size ≤ p ∧ w.heap.size ≤ w8.heap.size ∧ w.heap.size ≤ g ∧ p < g := by omega
  clear hB hQ8 hK8 hK9 h1 h2 h3 hkr hrow x0 x1 x2 x3 x4 x5 x6 x7 x8 x9
  go_wp2
  go_ret
  exact ⟨w8.heap.size, p, g, rfl, ⟨⟨_, c, HB.out, hc1, hc2, fun _ => rfl⟩, ⟨0, HQ.out⟩, HR.out, by omega, by omega, by omega, by omega⟩, by omega, by omega, by omega, HKK.out⟩

end Go.Proofs.Ytddjggckmmdicaa
