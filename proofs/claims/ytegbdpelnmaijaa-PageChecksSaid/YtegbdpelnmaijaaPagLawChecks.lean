/-
  The statement of layer 7 'Check returns the reference's result': it returns true. Condition: strings and rows within the model's reach.
-/
import Derived.Test.YtegbdpelnmaijaaPagAw
import Derived.Test.YtegbdpelnmaijaaPagValid
import Derived.Test.YtegbdpelnmaijaaPagRefChk
import Derived.Test.YtegbdpelnmaijaaKeptRegion
import Derived.Deep.DeepCutAuto
import Derived.Deep.CutBlock
namespace Go.Proofs.Ytegbdpelnmaijaa
open Go.RowKit Go.Deep Plain
set_option linter.unusedVariables false

/-- Five cells of a block stay where they are. -/
theorem keepP {W wq w9 : World} {b : Nat} {u0 u1 u2 u3 u4 : Value} (hk : Below wq.heap.size wq w9) (hb : b < W.heap.size) (h : Below W.heap.size W wq ∧ wq.cell? ⟨b, 0, none⟩ = some u0 ∧ wq.cell? ⟨b, 1, none⟩ = some u1 ∧ wq.cell? ⟨b, 2, none⟩ = some u2 ∧ wq.cell? ⟨b, 3, none⟩ = some u3 ∧ wq.cell? ⟨b, 4, none⟩ = some u4) :
    Below W.heap.size W w9 ∧ w9.cell? ⟨b, 0, none⟩ = some u0 ∧ w9.cell? ⟨b, 1, none⟩ = some u1 ∧ w9.cell? ⟨b, 2, none⟩ = some u2 ∧ w9.cell? ⟨b, 3, none⟩ = some u3 ∧ w9.cell? ⟨b, 4, none⟩ = some u4 :=
  have hk2 := hk.mono h.1.size
  ⟨h.1.trans hk2, (hk2.cell (p := ⟨b, 0, none⟩) hb).trans h.2.1, (hk2.cell (p := ⟨b, 1, none⟩) hb).trans h.2.2.1, (hk2.cell (p := ⟨b, 2, none⟩) hb).trans h.2.2.2.1, (hk2.cell (p := ⟨b, 3, none⟩) hb).trans h.2.2.2.2.1, (hk2.cell (p := ⟨b, 4, none⟩) hb).trans h.2.2.2.2.2⟩
theorem rs_far {w : World} {b : Nat} {t : TypeId} {l0 : Int} {A : Option Addr} {c : Nat} {xs : List Sl} {u1 : Value} {s : ByteArray} {la : Bool} {r : Int} (hR : Rs w A c xs) (hp : 0 < xs.length) (hB : Blk w b t [.int .i64 l0, u1, .string s, .bool la, .int .u64 r]) (hu : ∀ s, u1 ≠ .string s) : ∀ a, A = some a → a.block ≠ b := by
  intro a ha hb
  obtain ⟨g, off, e, _, hc⟩ := hR.at hp
  rw [e] at ha; cases ha
  have hb : g = b := hb
  subst hb
  obtain ⟨x, hx⟩ : ∃ x, xs[0]? = some x := ⟨_, List.getElem?_eq_getElem hp⟩
  obtain ⟨h0, h1⟩ := hc 0 x hx
  simp only [Nat.zero_mul, Nat.add_zero] at h0 h1
  unfold Blk at hB
  match off with
  | 0 => rw [World.cell?] at h0; simp [hB] at h0
  | 1 => rw [World.cell?] at h0; simp [hB] at h0; exact hu _ h0
  | 2 => rw [World.cell?] at h1; simp [hB] at h1
  | 3 => rw [World.cell?] at h0; simp [hB] at h0
  | 4 => rw [World.cell?] at h0; simp [hB] at h0
  | k + 5 => rw [World.cell?] at h0; simp [hB] at h0
theorem Rs.store {w : World} {A : Option Addr} {c : Nat} {xs : List Sl} (h : Rs w A c xs) {p : Addr} (hne : ∀ a, A = some a → a.block ≠ p.block) (v : Value) : Rs (w.setCell p v) A c xs :=
  ⟨h.le, h.max, h.none', fun hp => by
    obtain ⟨g, off, e, hg, hc⟩ := h.some' hp
    exact ⟨g, off, e, by simp [World.setCell]; exact hg, fun j u hu => (World.cell?_of_block (w := w) (a := ⟨g, off + j, none⟩) (blk_setCell_other _ _ _ _ (show g ≠ p.block from hne _ e))).trans (hc j u hu)⟩⟩
theorem rs_stores {w : World} {A : Option Addr} {c : Nat} {xs : List Sl} (h : Rs w A c xs) {b : Nat} (hne : ∀ a, A = some a → a.block ≠ b) (u0 u1 u2 u3 u4 : Value) :
    Rs (((((w.setCell ⟨b, 0, none⟩ u0).setCell ⟨b, 1, none⟩ u1).setCell ⟨b, 2, none⟩ u2).setCell ⟨b, 3, none⟩ u3).setCell ⟨b, 4, none⟩ u4) A c xs :=
  ((((h.store (p := ⟨b, 0, none⟩) hne u0).store (p := ⟨b, 1, none⟩) hne u1).store (p := ⟨b, 2, none⟩) hne u2).store (p := ⟨b, 3, none⟩) hne u3).store (p := ⟨b, 4, none⟩) hne u4
theorem blk_stores {w : World} {b : Nat} {t : TypeId} {v0 v1 v2 v3 v4 : Value} (h : Blk w b t [v0, v1, v2, v3, v4]) (u0 u1 u2 u3 u4 : Value) :
    Blk (((((w.setCell ⟨b, 0, none⟩ u0).setCell ⟨b, 1, none⟩ u1).setCell ⟨b, 2, none⟩ u2).setCell ⟨b, 3, none⟩ u3).setCell ⟨b, 4, none⟩ u4) b t [u0, u1, u2, u3, u4] :=
  ((((h.set 0 u0).set 1 u1).set 2 u2).set 3 u3).set 4 u4
theorem good_val {ys : List Sl} {l4 : Nat} {hi : ByteArray} {la : Bool} {rt : Nat} (h : Val ys l4 hi la rt) (f : Int) : Good (l4 : Int) ys.length ys hi la rt f ↔ (ys.length : Int) ≤ f :=
  ⟨fun g => g.1.2.1, fun g => ⟨⟨by omega, g, .inr h.pos⟩, h.asc, h.ref, h.ends⟩⟩

set_option maxRecDepth 100000 in
set_option maxHeartbeats 8000000 in
theorem lawChecks (lv : Int) (A : Option Addr) (c : Nat) (hi : ByteArray) (la : Bool) (rt : Nat) (xs : List Sl) (fan : Int) (w : World) (n : Nat) (hn : xs.length = n) (h47 : n ≤ maxLen) (hR : Rs w A c xs) (hks : ∀ y ∈ xs, y.1.size < maxLen) :
    Calls Try.prog 3 #[.agg #[.int .i64 lv, .slice A n c, .string hi, .bool la, .int .u64 (rt : Int)], .int .i64 fan] w fun e w' => e = .returned (.bool true) ∧ Below w.heap.size w w' := by
  by_cases h60 : 60 < n
  · have h60' : decide ((60 : Int) < (n : Int)) = true := by simp; omega
    go_enter Try.func3, Try.ntmps3
    go_wp2_with fail
    refine (awake_any _).mono ?_; rintro e w2 ⟨rfl, hB9⟩
    have hB2 := ((Below.refl w.heap.size w).alloc (Nat.le_refl _) (.cells #[.int .i64 lv, .slice A n c, .string hi, .bool la, .int .u64 (rt : Int)] 25)).trans (hB9.mono (by rw [nblk_alloc]; omega))
    have HB := Lib.hid hB2
    clear hB9 hB2
    go_wp2
    go_ret
    exact ⟨rfl, HB.out⟩
  have h60' : decide ((60 : Int) < (n : Int)) = false := by simp; omega
  obtain ⟨P0, B0, Z0⟩ := box_one w [.int .i64 lv, .slice A n c, .string hi, .bool la, .int .u64 (rt : Int)] 25
  have HP0 := Lib.hid P0
  have HB00 := Lib.hid B0
  have HR0 := Lib.hid (hR.below B0 (Nat.le_refl _))
  have HKS := Lib.hid hks
  have hz0 : w.heap.size + 1 ≤ (w.alloc (.cells #[.int .i64 lv, .slice A n c, .string hi, .bool la, .int .u64 (rt : Int)] 25)).heap.size := by rw [nblk_alloc]; exact Nat.le_refl _
  clear P0 B0 Z0 hR hks
  go_enter Try.func3, Try.ntmps3
  go_wp2_with fail
  generalize w.alloc (.cells #[.int .i64 lv, .slice A n c, .string hi, .bool la, .int .u64 (rt : Int)] 25) = W0 at *
  go_loopw [1, 5] (fun f i wr => ∃ (k : Nat) (l2 : Int) (A2 : Option Addr) (m2 c2 : Nat) (hi2 : ByteArray) (rt2 : Nat) (ys : List Sl) (f2 : Int), k ≤ 3 ∧ i = .int .i64 k ∧ f = .int .i64 f2 ∧ ys.length = m2 ∧ m2 ≤ 60 ∧ Rs wr A2 c2 ys ∧ (∀ y ∈ ys, y.1.size < maxLen) ∧
      Blk wr w.heap.size 25 [.int .i64 l2, .slice A2 m2 c2, .string hi2, .bool la, .int .u64 (rt2 : Int)] ∧ (0 < k → ∃ l4 : Nat, l2 = (l4 : Int) ∧ Val ys l4 hi2 la rt2) ∧ Below w.heap.size w wr ∧ w.heap.size < wr.heap.size) (fun _ i _ => 3 - (intOf i).toNat)
  case atStart => exact ⟨0, lv, A, n, c, hi, rt, xs, fan, by omega, rfl, rfl, hn, by omega, HR0.out, HKS.out, HP0.out, fun h => absurd h (by omega), HB00.out, by omega⟩
  case round =>
    obtain ⟨k, l2, A2, m2, c2, hi2, rt2, ys, f2, hk3, rfl, rfl, hY, hm60, hRs, hky, hP, hV, hB, hlt0⟩ := hrel
    have HY := Lib.hid hY
    have HR := Lib.hid hRs
    have HK := Lib.hid hky
    have HP := Lib.hid hP
    have HV := Lib.hid hV
    have HB := Lib.hid hB
    have x0 := hP.cell (i := 0) rfl
    have x1 := hP.cell (i := 1) rfl
    have x2 := hP.cell (i := 2) rfl
    have x3 := hP.cell (i := 3) rfl
    have x4 := hP.cell (i := 4) rfl
    clear hRs hky hP hV hB HP0 HB00 HR0 HKS hz0
    by_cases hk : k < 3
    · obtain ⟨b0, hb0⟩ := bool_ex (Good l2 m2 ys hi2 la rt2 f2)
      have HB0 := Lib.hid hb0
      clear hb0
      go_upto_region 6 with fail
      refine qregion (fun w' => Below wr.heap.size wr w' ∧ w'.cell? ⟨w.heap.size, 0, none⟩ = some (.int .i64 l2) ∧ w'.cell? ⟨w.heap.size, 1, none⟩ = some (.slice A2 m2 c2) ∧ w'.cell? ⟨w.heap.size, 2, none⟩ = some (.string hi2) ∧ w'.cell? ⟨w.heap.size, 3, none⟩ = some (.bool la) ∧ w'.cell? ⟨w.heap.size, 4, none⟩ = some (.int .u64 (rt2 : Int))) (by kernel_rfl) (by kernel_rfl) ⟨(Below.refl _ _).drew, x0, x1, x2, x3, x4⟩ ?_
      refine qstep (o := ⟨some 15, _, _, _, _, _⟩) (v := ?_) (by rfl) (fun wq hSw => ?_) ?_
      rotate_left
      · (try dsimp only at hSw); go_simp; try with_reducible rfl
      try simp only [Act.put, List.setIfInBounds_toArray, List.set_cons_zero, List.set_cons_succ]
      refine qstep (o := ⟨some 16, _, _, _, _, _⟩) (v := ?_) (by rfl) (fun wq hSw => ?_) ?_
      rotate_left
      · (try dsimp only at hSw); go_simp; try with_reducible rfl
      try simp only [Act.put, List.setIfInBounds_toArray, List.set_cons_zero, List.set_cons_succ]
      refine qcall (o := ⟨some 17, _, _, _, _, _⟩) (v := .bool b0) (by rfl) (fun wq hSw => ?_) (fun wq hSw => Calls.mono (check_any l2 A2 c2 hi2 la rt2 ys f2 _ m2 HY.out (by omega) (HR.out.below hSw.1 (Nat.le_refl _)) b0 HB0.out) ?_) ?_
      · (try dsimp only at hSw); go_simp; try with_reducible rfl
      · rintro e w9 ⟨rfl, hk⟩; exact ⟨rfl, keepP hk hlt0 hSw⟩
      try simp only [Act.put, List.setIfInBounds_toArray, List.set_cons_zero, List.set_cons_succ]
      refine qstep (o := ⟨some 18, _, _, _, _, _⟩) (v := ?_) (by rfl) (fun wq hSw => ?_) ?_
      rotate_left
      · (try dsimp only at hSw); go_simp; try with_reducible rfl
      try simp only [Act.put, List.setIfInBounds_toArray, List.set_cons_zero, List.set_cons_succ]
      refine qstep (o := ⟨some 19, _, _, _, _, _⟩) (v := ?_) (by rfl) (fun wq hSw => ?_) ?_
      rotate_left
      · (try dsimp only at hSw); go_simp; try with_reducible rfl
      try simp only [Act.put, List.setIfInBounds_toArray, List.set_cons_zero, List.set_cons_succ]
      refine qcall (o := ⟨some 20, _, _, _, _, _⟩) (v := .bool b0) (by rfl) (fun wq hSw => ?_) (fun wq hSw => Calls.mono (refCheck_any l2 A2 c2 hi2 la rt2 ys f2 _ m2 HY.out (by omega) (HR.out.below hSw.1 (Nat.le_refl _)) b0 HB0.out) ?_) ?_
      · (try dsimp only at hSw); go_simp; try with_reducible rfl
      · rintro e w9 ⟨rfl, hk⟩; exact ⟨rfl, keepP hk hlt0 hSw⟩
      try simp only [Act.put, List.setIfInBounds_toArray, List.set_cons_zero, List.set_cons_succ]
      refine qstep (o := ⟨some 21, _, _, _, _, _⟩) (v := .bool false) (by rfl) (fun wq hSw => ?_) ?_
      · (try dsimp only at hSw); go_simp; try first | (with_reducible rfl) | (simp; omega) | (intros; omega) | simp [*]
      try simp only [Act.put, List.setIfInBounds_toArray, List.set_cons_zero, List.set_cons_succ]
      refine wpQuiet_nil ?_
      intro wz hHeld
      obtain ⟨hB9, -⟩ := hHeld
      have hs9 := hB9.size
      replace HP := Lib.hid (HP.out.below hB9 hlt0)
      replace HR := Lib.hid (HR.out.below hB9 (Nat.le_refl _))
      replace HB := Lib.hid (HB.out.trans (hB9.mono (Nat.le_of_lt hlt0)))
      replace hlt0 := Nat.lt_of_lt_of_le hlt0 hs9
      clear x0 x1 x2 x3 x4 hB9 hs9 HB0
      have x0 := HP.out.cell (i := 0) rfl
      have x1 := HP.out.cell (i := 1) rfl
      have x2 := HP.out.cell (i := 2) rfl
      have x3 := HP.out.cell (i := 3) rfl
      have x4 := HP.out.cell (i := 4) rfl
      go_wp2_with fail
      refine (valid_any l2 A2 c2 hi2 la rt2 ys _ m2 HY.out (Nat.le_trans hm60 (by unfold maxLen; decide)) HR.out HK.out).mono ?_; rintro e w3 ⟨l4, A4, m4, c4, hi4, rt4, zs, rfl, hz1, hz2, hz3, hB9⟩
      have hs9 := hB9.size
      replace HP := Lib.hid (HP.out.below hB9 hlt0)
      replace HB := Lib.hid (HB.out.trans (hB9.mono (Nat.le_of_lt hlt0)))
      replace hlt0 := Nat.lt_of_lt_of_le hlt0 hs9
      clear x0 x1 x2 x3 x4 hB9 hs9 HR HK HY HV
      have hm40 : m4 ≤ 40 := by rw [← hz1]; exact hz3.small
      have hm0 : 0 < zs.length := hz3.pos
      have hfar := rs_far hz2 hm0 HP.out (fun s h => by cases h)
      have HP2 := Lib.hid (blk_stores HP.out (.int .i64 (l4 : Int)) (.slice A4 m4 c4) (.string hi4) (.bool la) (.int .u64 (rt4 : Int)))
      have HR2 := Lib.hid (rs_stores hz2 hfar (.int .i64 (l4 : Int)) (.slice A4 m4 c4) (.string hi4) (.bool la) (.int .u64 (rt4 : Int)))
      have HB2 := Lib.hid (below_res HB.out (Nat.le_refl _) (.int .i64 (l4 : Int)) (.slice A4 m4 c4) (.string hi4) (.bool la) (.int .u64 (rt4 : Int)))
      have HZ2 := Lib.hid (show w.heap.size < (((((w3.setCell ⟨w.heap.size, 0, none⟩ (.int .i64 (l4 : Int))).setCell ⟨w.heap.size, 1, none⟩ (.slice A4 m4 c4)).setCell ⟨w.heap.size, 2, none⟩ (.string hi4)).setCell ⟨w.heap.size, 3, none⟩ (.bool la)).setCell ⟨w.heap.size, 4, none⟩ (.int .u64 (rt4 : Int))).heap.size by simp [World.setCell]; exact hlt0)
      have HV := Lib.hid hz3
      have HY := Lib.hid hz1
      have x0 := HP.out.cell (i := 0) rfl
      have x1 := HP.out.cell (i := 1) rfl
      have x2 := HP.out.cell (i := 2) rfl
      have x3 := HP.out.cell (i := 3) rfl
      have x4 := HP.out.cell (i := 4) rfl
      have xf0 := HP.out.frozen 0
      have xf1 := HP.out.frozen 1
      have xf2 := HP.out.frozen 2
      have xf3 := HP.out.frozen 3
      have xf4 := HP.out.frozen 4
      clear hz1 hz2 hz3 hfar HB hm0
      go_wp2_with fail
      refine (mod_any f2 40 (f2 % 40) _ (by omega) (by omega) rfl).mono ?_; rintro e w2 ⟨rfl, rfl⟩
      go_upto_if 27 with fail
      generalize (((((w3.setCell ⟨w.heap.size, 0, none⟩ (.int .i64 (l4 : Int))).setCell ⟨w.heap.size, 1, none⟩ (.slice A4 m4 c4)).setCell ⟨w.heap.size, 2, none⟩ (.string hi4)).setCell ⟨w.heap.size, 3, none⟩ (.bool la)).setCell ⟨w.heap.size, 4, none⟩ (.int .u64 (rt4 : Int))) = W3 at *
      have hlt3 := HZ2.out
      have hY := HY.out
      have x1' := HP2.out.cell (i := 1) rfl
      clear x0 x1 x2 x3 x4 xf0 xf1 xf2 xf3 xf4 HP HZ2
      by_cases hk1 : k = 1
      · have hk1' : ((k : Int) == 1) = true := by simp; omega
        go_wp2
        go_roundw
        case rel => exact ⟨k + 1, _, _, _, _, _, _, _, _, by omega, by go_num, rfl, HY.out, by omega, HR2.out, HV.out.keys, HP2.out, fun _ => ⟨l4, rfl, HV.out⟩, HB2.out, hlt3⟩
        case measure => simp [intOf]; omega
      · have hk1' : ((k : Int) == 1) = false := by simp; omega
        go_wp2
        go_roundw
        case rel => exact ⟨k + 1, _, _, _, _, _, _, _, _, by omega, by go_num, rfl, HY.out, by omega, HR2.out, HV.out.keys, HP2.out, fun _ => ⟨l4, rfl, HV.out⟩, HB2.out, hlt3⟩
        case measure => simp [intOf]; omega
    · obtain ⟨l4, rfl, hv⟩ := HV.out (by omega)
      clear HV HK
      have HV := Lib.hid hv
      have hm40 : m2 ≤ 40 := by have := hv.small; have := HY.out; omega
      clear hv x0 x1 x2 x3 x4
      go_wp2_with fail
      refine (awake_any _).mono ?_; rintro e w2 ⟨rfl, hB9⟩
      have hs9 := hB9.size
      replace HP := Lib.hid (HP.out.below hB9 hlt0)
      replace HR := Lib.hid (HR.out.below hB9 (Nat.le_refl _))
      replace HB := Lib.hid (HB.out.trans (hB9.mono (Nat.le_of_lt hlt0)))
      replace hlt0 := Nat.lt_of_lt_of_le hlt0 hs9
      clear hB9 hs9
      have x0 := HP.out.cell (i := 0) rfl
      have x1 := HP.out.cell (i := 1) rfl
      have x2 := HP.out.cell (i := 2) rfl
      have x3 := HP.out.cell (i := 3) rfl
      have x4 := HP.out.cell (i := 4) rfl
      go_wp2_with fail
      refine (check_any (l4 : Int) A2 c2 hi2 la rt2 ys 60 _ m2 HY.out (by omega) HR.out true (by have hv := HV.out; have e := HY.out; subst e; rw [good_val hv]; simp; omega)).mono ?_; rintro e w5 ⟨rfl, hB9⟩
      clear x0 x1 x2 x3 x4
      have hs9 := hB9.size
      replace HP := Lib.hid (HP.out.below hB9 hlt0)
      replace HR := Lib.hid (HR.out.below hB9 (Nat.le_refl _))
      replace HB := Lib.hid (HB.out.trans (hB9.mono (Nat.le_of_lt hlt0)))
      replace hlt0 := Nat.lt_of_lt_of_le hlt0 hs9
      clear hB9 hs9
      have x0 := HP.out.cell (i := 0) rfl
      have x1 := HP.out.cell (i := 1) rfl
      have x2 := HP.out.cell (i := 2) rfl
      have x3 := HP.out.cell (i := 3) rfl
      have x4 := HP.out.cell (i := 4) rfl
      go_wp2_with fail
      refine (check_any (l4 : Int) A2 c2 hi2 la rt2 ys (m2 : Int) _ m2 HY.out (by omega) HR.out true (by have hv := HV.out; have e := HY.out; subst e; rw [good_val hv]; simp)).mono ?_; rintro e w6 ⟨rfl, hB9⟩
      clear x0 x1 x2 x3 x4
      have hs9 := hB9.size
      replace HP := Lib.hid (HP.out.below hB9 hlt0)
      replace HR := Lib.hid (HR.out.below hB9 (Nat.le_refl _))
      replace HB := Lib.hid (HB.out.trans (hB9.mono (Nat.le_of_lt hlt0)))
      replace hlt0 := Nat.lt_of_lt_of_le hlt0 hs9
      clear hB9 hs9
      have x0 := HP.out.cell (i := 0) rfl
      have x1 := HP.out.cell (i := 1) rfl
      have x2 := HP.out.cell (i := 2) rfl
      have x3 := HP.out.cell (i := 3) rfl
      have x4 := HP.out.cell (i := 4) rfl
      go_wp2_with fail
      refine (check_any (l4 : Int) A2 c2 hi2 la rt2 ys ((m2 : Int) - 1) _ m2 HY.out (by omega) HR.out false (by have hv := HV.out; have e := HY.out; subst e; rw [good_val hv]; simp; omega)).mono ?_; rintro e w7 ⟨rfl, hB9⟩
      clear x0 x1 x2 x3 x4
      have hs9 := hB9.size
      replace HP := Lib.hid (HP.out.below hB9 hlt0)
      replace HR := Lib.hid (HR.out.below hB9 (Nat.le_refl _))
      replace HB := Lib.hid (HB.out.trans (hB9.mono (Nat.le_of_lt hlt0)))
      replace hlt0 := Nat.lt_of_lt_of_le hlt0 hs9
      clear hB9 hs9
      have x0 := HP.out.cell (i := 0) rfl
      have x1 := HP.out.cell (i := 1) rfl
      have x2 := HP.out.cell (i := 2) rfl
      have x3 := HP.out.cell (i := 3) rfl
      have x4 := HP.out.cell (i := 4) rfl
      go_wp2_with fail
      go_ret
      exact ⟨by simp, HB.out⟩
end Go.Proofs.Ytegbdpelnmaijaa
