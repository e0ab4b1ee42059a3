/-
  Package registry: the machines Open and Release, step by step, and what makes them. Condition: sizes within their limits; fewer than 2^63 accesses so far.
-/
import Derived.Test.YtcmcgjdbopnbbaaRegRow
namespace Go.Proofs.Ytcmcgjdbopnbbaa
open Go.RowKit Go.Deep
set_option linter.unusedVariables false

/-- The cells of an Open: its phase, its cell, the Now inside. -/
def openv (p : Nat) (i : Int) (q : Nat) : List Value := [.int .i64 (p : Int), .int .i64 i, .pointer (some ⟨q, 0, none⟩)]
def relv (i : Int) (r : Bool) : List Value := [.int .i64 i, .bool r]
theorem keepOpen {b g o : Nat} {W w' : World} {v0 v1 v2 : Value} (hK : Kept (Own b g) W.drew w') (ho : ¬ Own b g o) (hol : o < W.heap.size) (c0 : W.cell? ⟨o, 0, none⟩ = some v0) (c1 : W.cell? ⟨o, 1, none⟩ = some v1) (c2 : W.cell? ⟨o, 2, none⟩ = some v2) :
    w'.cell? ⟨o, 0, none⟩ = some v0 ∧ w'.cell? ⟨o, 1, none⟩ = some v1 ∧ w'.cell? ⟨o, 2, none⟩ = some v2 :=
  ⟨(hK.ofDrew.cell (p := ⟨o, 0, none⟩) hol ho).trans c0, (hK.ofDrew.cell (p := ⟨o, 1, none⟩) hol ho).trans c1, (hK.ofDrew.cell (p := ⟨o, 2, none⟩) hol ho).trans c2⟩

set_option maxHeartbeats 2000000 in
theorem newOpen_any (T S N C R F a b d t j : Int) (lim : Nat) (hl : Lim T S N C R F) (h1 : 0 ≤ t) (h2 : t < T) (h3 : 0 ≤ j) (h4 : j < S) (w : World) :
    Calls Try.prog 14 #[.agg #[.int .i64 T, .int .i64 S, .int .i64 N, .int .i64 C, .int .i64 R, .int .i64 F, .int .u64 (lim : Int), .int .i64 a, .int .i64 b, .int .i64 d], .int .i64 t, .int .i64 j] w fun e w' => ∃ o q, e = .returned (.pointer (some ⟨o, 0, none⟩)) ∧ Blk w' o 69 (openv 0 (snapAt T S t j) q) ∧ Blk w' q 91 (nowv 2 0 false) ∧ w.heap.size ≤ q ∧ q < o ∧ Kept (fun _ => False) w w' := by
  go_enter Try.func14, Try.ntmps14
  go_wp2_with fail
  have hN0 := Blk.new w [.int .i64 T, .int .i64 S, .int .i64 N, .int .i64 C, .int .i64 R, .int .i64 F, .int .u64 (lim : Int), .int .i64 a, .int .i64 b, .int .i64 d] 29
  have x0 := hN0.cell (i := 0) rfl
  have x1 := hN0.cell (i := 1) rfl
  have x2 := hN0.cell (i := 2) rfl
  have x3 := hN0.cell (i := 3) rfl
  have x4 := hN0.cell (i := 4) rfl
  have x5 := hN0.cell (i := 5) rfl
  have x6 := hN0.cell (i := 6) rfl
  have x7 := hN0.cell (i := 7) rfl
  have x8 := hN0.cell (i := 8) rfl
  have x9 := hN0.cell (i := 9) rfl
  have hr : w.heap.size < (w.alloc (.cells #[.int .i64 T, .int .i64 S, .int .i64 N, .int .i64 C, .int .i64 R, .int .i64 F, .int .u64 (lim : Int), .int .i64 a, .int .i64 b, .int .i64 d] 29)).heap.size := hN0.lt
  have HK := Lib.hid ((Kept.refl (fun _ => False) w).alloc (.cells #[.int .i64 T, .int .i64 S, .int .i64 N, .int .i64 C, .int .i64 R, .int .i64 F, .int .u64 (lim : Int), .int .i64 a, .int .i64 b, .int .i64 d] 29))
  clear hN0
  generalize w.alloc (.cells #[.int .i64 T, .int .i64 S, .int .i64 N, .int .i64 C, .int .i64 R, .int .i64 F, .int .u64 (lim : Int), .int .i64 a, .int .i64 b, .int .i64 d] 29) = W at *
  generalize hrw : w.heap.size = r at *
  have HRW := Lib.hid hrw
  clear hrw
  go_region_held3 (fun w' => Kept (fun _ => False) W w' ∧ w'.cell? ⟨r, 0, none⟩ = some (.int .i64 T) ∧ w'.cell? ⟨r, 1, none⟩ = some (.int .i64 S) ∧ w'.cell? ⟨r, 2, none⟩ = some (.int .i64 N) ∧ w'.cell? ⟨r, 3, none⟩ = some (.int .i64 C) ∧ w'.cell? ⟨r, 4, none⟩ = some (.int .i64 R) ∧ w'.cell? ⟨r, 5, none⟩ = some (.int .i64 F) ∧ w'.cell? ⟨r, 6, none⟩ = some (.int .u64 (lim : Int)) ∧ w'.cell? ⟨r, 7, none⟩ = some (.int .i64 a) ∧ w'.cell? ⟨r, 8, none⟩ = some (.int .i64 b) ∧ w'.cell? ⟨r, 9, none⟩ = some (.int .i64 d))
    (first | exact ⟨(Kept.refl _ _).drew, x0, x1, x2, x3, x4, x5, x6, x7, x8, x9⟩ | exact keep10 (by assumption) hr (by assumption) | exact keep10 (Kept.ofDrew (by assumption)) hr (by assumption) | exact keep10 ((Kept.refl _ _).alloc _) hr (by assumption))
    (first | (go_at_call 33; refine (snap_yes T S N C R F (lim : Int) a b d t j hl h1 h2 h3 h4 _).mono ?_; rintro e w9 ⟨rfl, hK9⟩)
           | (go_at_call 34; refine (newNow_any T S N C R F a b d lim _).mono ?_; rintro e w8 ⟨p, rfl, hQ8, hp8, hz8, hK8⟩))
  have hB := Blk.new w8 (openv 0 (snapAt T S t j) p) 69
  rw [hz8] at hB
  have h1 := HK.out.size
  have h2 := hK9.ofDrew.size
  have HB := Lib.hid hB
  have HQ := Lib.hid (hQ8.alloc (.cells #[.int .i64 0, .int .i64 (snapAt T S t j), .pointer (some ⟨p, 0, none⟩)] 69))
  have HKK := Lib.hid (((HK.out.trans hK9.ofDrew (fun _ _ h => h)).trans hK8 (fun _ _ h => h)).alloc (.cells #[.int .i64 0, .int .i64 (snapAt T S t j), .pointer (some ⟨p, 0, none⟩)] 69))
  have hle : w.heap.size ≤ p := by omega
  clear hB hQ8 hK8 hK9 h1 h2 x0 x1 x2 x3 x4 x5 x6 x7 x8 x9
  go_wp2
  go_ret
  exact ⟨p + 1, p, rfl, HB.out, HQ.out, hle, by omega, HKK.out⟩

set_option maxHeartbeats 1000000 in
theorem newRelease_any (T S N C R F a b d t j : Int) (lim : Nat) (hl : Lim T S N C R F) (h1 : 0 ≤ t) (h2 : t < T) (h3 : 0 ≤ j) (h4 : j < S) (w : World) :
    Calls Try.prog 23 #[.agg #[.int .i64 T, .int .i64 S, .int .i64 N, .int .i64 C, .int .i64 R, .int .i64 F, .int .u64 (lim : Int), .int .i64 a, .int .i64 b, .int .i64 d], .int .i64 t, .int .i64 j] w fun e w' => ∃ o, e = .returned (.pointer (some ⟨o, 0, none⟩)) ∧ Blk w' o 80 (relv (snapAt T S t j) false) ∧ w.heap.size ≤ o ∧ Kept (fun _ => False) w w' := by
  go_enter Try.func23, Try.ntmps23
  go_wp2_with fail
  refine (snap_yes T S N C R F (lim : Int) a b d t j hl h1 h2 h3 h4 _).mono ?_; rintro e w1 ⟨rfl, hK1⟩
  have hz := hK1.size
  simp only [World.size_alloc] at hz
  have HK := Lib.hid (((Kept.refl (fun _ => False) w).alloc (.cells #[.int .i64 T, .int .i64 S, .int .i64 N, .int .i64 C, .int .i64 R, .int .i64 F, .int .u64 (lim : Int), .int .i64 a, .int .i64 b, .int .i64 d] 29)).trans hK1 (fun _ _ h => h))
  clear hK1
  go_wp2
  go_ret
  exact ⟨w1.heap.size, rfl, Blk.new w1 (relv (snapAt T S t j) false) 80, by omega, HK.out.alloc _⟩

set_option maxHeartbeats 1000000 in
theorem release_any (o b g : Nat) (l : List Cel) (k : Nat) (i : Int) (w : World) (ho : Blk w o 80 (relv i false)) (h : Mem w b g l k) (hob : o ≠ b) (hog : o ≠ g) (hk : k < 9223372036854775808) :
    Calls Try.prog 24 #[.pointer (some ⟨o, 0, none⟩), .pointer (some ⟨b, 0, none⟩)] w fun e w' => e = .returned (.bool true) ∧ Mem w' b g (putAt l i (0, ⟨#[]⟩, 0)) (k + 1) ∧ Kept (Own3 o b g) w w' := by
  have c0 := ho.cell (i := 0) rfl
  have c1 := ho.cell (i := 1) rfl
  have HO := Lib.hid ho
  clear ho
  go_enter Try.func24, Try.ntmps24
  go_wp2_with fail
  refine (store_any b g l k i 0 0 ⟨#[]⟩ _ h hk).mono ?_; rintro e w1 ⟨rfl, hM, hK⟩
  have hB := hK.blk HO.out (by unfold Own; omega)
  have y1 := hB.cell (i := 1) rfl
  have z1 := hB.frozen 1
  have HM := Lib.hid hM
  have HK := Lib.hid hK
  clear hM hK hB HO c0 c1
  go_wp2
  go_ret
  exact ⟨rfl, HM.out.setFar hob hog _ _, (HK.out.mono (fun _ h => .inr h)).setCell (fun _ => .inl rfl) _⟩

set_option maxHeartbeats 1000000 in
theorem openStep0 (o q b g : Nat) (l : List Cel) (k : Nat) (i : Int) (w : World) (h : Mem w b g l k) (hob : o ≠ b) (hog : o ≠ g) (hqb : q ≠ b) (hqg : q ≠ g) (hoq : o ≠ q) (hk : k < 9223372036854775808) (x : Nat) (ld : Bool) (ho : Blk w o 69 (openv 0 i q)) (hq : Blk w q 91 (nowv 2 x ld)) :
    Calls Try.prog 17 #[.pointer (some ⟨o, 0, none⟩), .pointer (some ⟨b, 0, none⟩)] w fun e w' => e = .returned (.bool false) ∧ Mem w' b g (putAt l i (((0 + 1 : Nat) : Int), ⟨#[]⟩, 0)) (k + 1) ∧ Blk w' o 69 (openv 1 i q) ∧ Blk w' q 91 (nowv 2 x ld) ∧ Kept (fun k => k = o ∨ k = q ∨ k = b ∨ k = g) w w' := by
  have c0 := ho.cell (i := 0) rfl
  have c1 := ho.cell (i := 1) rfl
  have c2 := ho.cell (i := 2) rfl
  have HO := Lib.hid ho
  have HQ := Lib.hid hq
  clear ho hq
  go_enter Try.func17, Try.ntmps17
  go_wp2_with fail
  refine (storeTime_any b g l k i 0 _ h hk (by omega)).mono ?_; rintro e w1 ⟨rfl, hM, hK⟩
  have hB := hK.blk HO.out (by unfold Own; omega)
  have hQ1 := hK.blk HQ.out (by unfold Own; omega)
  have y0 := hB.cell (i := 0) rfl
  have z0 := hB.frozen 0
  have HB := Lib.hid hB
  have HQ1 := Lib.hid (hQ1.other (a := ⟨o, 0, none⟩) (fun e => hoq e.symm) (.int .i64 1))
  have HM := Lib.hid hM
  have HK := Lib.hid hK
  clear hM hK hB hQ1 HO HQ c0 c1 c2
  go_wp2
  go_ret
  exact ⟨rfl, HM.out.setFar hob hog _ _, HB.out.set 0 _, HQ1.out, (HK.out.mono (fun _ h => .inr (.inr h))).setCell (fun _ => .inl rfl) _⟩

set_option maxHeartbeats 1000000 in
theorem openStep2 (o q b g : Nat) (l : List Cel) (k : Nat) (i : Int) (w : World) (h : Mem w b g l k) (hob : o ≠ b) (hog : o ≠ g) (hqb : q ≠ b) (hqg : q ≠ g) (hoq : o ≠ q) (hk : k < 9223372036854775808) (x : Nat) (hx : x + 1 < 18446744073709551616) (ho : Blk w o 69 (openv 2 i q)) (hq : Blk w q 91 (nowv 2 x true)) :
    Calls Try.prog 17 #[.pointer (some ⟨o, 0, none⟩), .pointer (some ⟨b, 0, none⟩)] w fun e w' => e = .returned (.bool true) ∧ Mem w' b g (putAt l i (((x + 1 : Nat) : Int), ⟨#[]⟩, 0)) (k + 1) ∧ Blk w' o 69 (openv 3 i q) ∧ Blk w' q 91 (nowv 2 x true) ∧ Kept (fun k => k = o ∨ k = q ∨ k = b ∨ k = g) w w' := by
  have c0 := ho.cell (i := 0) rfl
  have c1 := ho.cell (i := 1) rfl
  have c2 := ho.cell (i := 2) rfl
  have HO := Lib.hid ho
  have HQ := Lib.hid hq
  clear ho hq
  go_enter Try.func17, Try.ntmps17
  go_wp2_with fail
  have hz : Blk w.drew q 91 (nowv 2 x true) := HQ.out
  have hmd : Mem w.drew b g l k := h.drew
  have hol := HO.out.lt
  have hon : ¬ Own b g o := by unfold Own; omega
  go_region_held3 (fun w' => w'.cell? ⟨o, 0, none⟩ = some (.int .i64 2) ∧ w'.cell? ⟨o, 1, none⟩ = some (.int .i64 i) ∧ w'.cell? ⟨o, 2, none⟩ = some (.pointer (some ⟨q, 0, none⟩)))
    (first | exact ⟨c0, c1, c2⟩ | exact keepOpen hK hon hol c0 c1 c2)
    (first | (go_at_call 38; refine (nowTime_any q 2 x true _ hz).mono ?_; rintro e w9 ⟨rfl, rfl⟩)
           | (go_at_call 36; refine (storeTime_any b g l k i x _ hmd hk (by omega)).mono ?_; rintro e w1 ⟨rfl, hM, hK⟩))
  replace hK := hK.ofDrew
  clear hz hmd
  have hB := hK.blk HO.out (by unfold Own; omega)
  have hQ1 := hK.blk HQ.out (by unfold Own; omega)
  have y0 := hB.cell (i := 0) rfl
  have z0 := hB.frozen 0
  have HB := Lib.hid hB
  have HQ1 := Lib.hid (hQ1.other (a := ⟨o, 0, none⟩) (fun e => hoq e.symm) (.int .i64 3))
  have HM := Lib.hid hM
  have HK := Lib.hid hK
  clear hM hK hB hQ1 HO HQ c0 c1 c2
  go_wp2
  go_ret
  exact ⟨rfl, HM.out.setFar hob hog _ _, HB.out.set 0 _, HQ1.out, (HK.out.mono (fun _ h => .inr (.inr h))).setCell (fun _ => .inl rfl) _⟩

set_option maxHeartbeats 1000000 in
theorem openStep1 (o q b g : Nat) (l : List Cel) (k : Nat) (i : Int) (w : World) (h : Mem w b g l k) (hob : o ≠ b) (hog : o ≠ g) (hqb : q ≠ b) (hqg : q ≠ g) (hoq : o ≠ q) (hk : k < 9223372036854775808) (x V : Nat) (K : ByteArray) (M : Int) (hc : cellAt l 2 = ((V : Int), K, M)) (ho : Blk w o 69 (openv 1 i q)) (hq : Blk w q 91 (nowv 2 x false)) :
    Calls Try.prog 17 #[.pointer (some ⟨o, 0, none⟩), .pointer (some ⟨b, 0, none⟩)] w fun e w' => e = .returned (.bool false) ∧ Mem w' b g l (k + 1) ∧ Blk w' o 69 (openv 2 i q) ∧ Blk w' q 91 (nowv 2 V true) ∧ Kept (fun k => k = o ∨ k = q ∨ k = b ∨ k = g) w w' := by
  have c0 := ho.cell (i := 0) rfl
  have c1 := ho.cell (i := 1) rfl
  have c2 := ho.cell (i := 2) rfl
  have HO := Lib.hid ho
  have HQ := Lib.hid hq
  clear ho hq
  go_enter Try.func17, Try.ntmps17
  go_wp2_with fail
  refine (nowStep_load q b g l k 2 V K M x _ HQ.out h hqb hqg hk hc).mono ?_; rintro e w1 ⟨rfl, hM, hQ, hK⟩
  have hB := hK.blk HO.out (by unfold Own3; omega)
  have y0 := hB.cell (i := 0) rfl
  have z0 := hB.frozen 0
  have HB := Lib.hid hB
  have HQ1 := Lib.hid (hQ.other (a := ⟨o, 0, none⟩) (fun e => hoq e.symm) (.int .i64 2))
  have HM := Lib.hid hM
  have HK := Lib.hid hK
  clear hM hK hB hQ HO HQ c0 c1 c2
  go_wp2
  go_ret
  exact ⟨rfl, HM.out.setFar hob hog _ _, HB.out.set 0 _, HQ1.out, (HK.out.mono (fun _ h => .inr h)).setCell (fun _ => .inl rfl) _⟩

set_option maxHeartbeats 400000 in
theorem openStep3 (o q m : Nat) (i : Int) (w : World) (ho : Blk w o 69 (openv 3 i q)) :
    Calls Try.prog 17 #[.pointer (some ⟨o, 0, none⟩), .pointer (some ⟨m, 0, none⟩)] w fun e w' => e = .returned (.bool true) ∧ w = w' := by
  have c0 := ho.cell (i := 0) rfl
  go_enter Try.func17, Try.ntmps17
  go_wp2
  go_ret
  exact ⟨rfl, rfl⟩

set_option maxHeartbeats 400000 in
theorem marks_any (o q p : Nat) (i : Int) (hp : p ≤ 3) (w : World) (ho : Blk w o 69 (openv p i q)) :
    Calls Try.prog 16 #[.pointer (some ⟨o, 0, none⟩)] w fun e w' => e = .returned (.int .i64 ((if p ≤ 1 then 0 else 1 : Nat) : Int)) ∧ w = w' := by
  have c0 := ho.cell (i := 0) rfl
  by_cases h1 : p ≤ 1
  · rw [if_pos h1]
    go_enter Try.func16, Try.ntmps16
    go_wp2
    go_ret
    exact ⟨rfl, rfl⟩
  · rw [if_neg h1]
    go_enter Try.func16, Try.ntmps16
    go_wp2
    go_ret
    exact ⟨rfl, rfl⟩

set_option maxHeartbeats 400000 in
theorem openTime_done (o q x : Nat) (i : Int) (w : World) (ho : Blk w o 69 (openv 3 i q)) (hq : Blk w q 91 (nowv 2 x true)) :
    Calls Try.prog 20 #[.pointer (some ⟨o, 0, none⟩)] w fun e w' => e = .returned (.int .u64 (x : Int)) ∧ w = w' := by
  have c0 := ho.cell (i := 0) rfl
  have c2 := ho.cell (i := 2) rfl
  go_enter Try.func20, Try.ntmps20
  go_wp2_with fail
  refine (nowTime_any q 2 x true _ hq).mono ?_; rintro e w1 ⟨rfl, rfl⟩
  go_wp2
  go_ret
  exact ⟨rfl, rfl⟩

end Go.Proofs.Ytcmcgjdbopnbbaa
