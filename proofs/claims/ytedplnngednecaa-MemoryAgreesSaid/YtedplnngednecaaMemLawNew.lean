/-
  The statement of layer 2 'New accepts just the specified numbers of cells, and all cells are zero': it returns true for every three numbers; nothing that was there is written. Condition: none.
-/
import Derived.Test.YtedplnngednecaaMemKit
namespace Go.Proofs.Ytedplnngednecaa
open Go.RowKit Go.Deep

theorem mod_of (k n : Int) (r : Nat) (w : World) (hn : 0 < n) (hn2 : n ≤ 9223372036854775807) (h : k % n = r) :
    Calls Try.prog 8 #[.int .i64 k, .int .i64 n] w fun e w' => e = .returned (.int .i64 r) ∧ w = w' := by
  have := mod_any k n w hn hn2; rwa [h] at this
theorem new_of (n : Int) (N : Nat) (w : World) (h : n = N) (h1 : 1 ≤ N) (h2 : N ≤ 1048576) :
    Calls Try.prog 7 #[.int .i64 n] w fun e w' => e = .returned (.tuple #[.pointer (some ⟨w.heap.size + 1, 0, none⟩), .int .i64 0]) ∧ Mem w' (w.heap.size + 1) w.heap.size (List.replicate N cel0) 0 ∧ Kept (fun _ => False) w w' := by
  subst h; exact new_ok N h1 h2 w
theorem cellAt_zero (n : Nat) (i : Int) : cellAt (List.replicate n cel0) i = (0, ⟨#[]⟩, 0) := by
  unfold cellAt; split
  · rw [List.getD_eq_getElem?_getD, List.getElem?_replicate]; split <;> rfl
  · rfl
theorem mod_ex (k n : Int) (hn : 0 < n) : ∃ r : Nat, k % n = r ∧ (r : Int) < n := ⟨(k % n).toNat, by have := Int.emod_nonneg k (by omega : n ≠ 0); omega, by have := Int.emod_lt_of_pos k hn; have := Int.emod_nonneg k (by omega : n ≠ 0); omega⟩

set_option maxHeartbeats 1000000 in
theorem lawNew (n small at_ : Int) (w : World) :
    Calls Try.prog 3 #[.int .i64 n, .int .i64 small, .int .i64 at_] w fun e w' => e = .returned (.bool true) ∧ Below w.heap.size w w' := by
  obtain ⟨r, hr, hr2⟩ := mod_ex small 100 (by omega)
  have hr3 : r < 100 := by omega
  clear hr2
  obtain ⟨q, hq, hq2⟩ := mod_ex at_ ((1 : Int) + r) (by omega)
  have hq3 : q < 1 + r := by omega
  clear hq2
  have HR := Lib.hid hr
  have HQ := Lib.hid hq
  clear hr hq
  have heq : (((1 + r : Nat) : Int) == (1 : Int) + r) = true := by simp
  have hc : n < 1 ∨ 1048576 < n ∨ (1 ≤ n ∧ n ≤ 1048576) := by omega
  rcases hc with h1 | h1 | ⟨h1, h2⟩
  · go_enter Try.func3, Try.ntmps3
    go_wp2_with fail
    refine (new_bad n (by omega) _).mono ?_; rintro e w1 ⟨rfl, rfl⟩
    have HK1 := Lib.hid (Kept.refl (fun _ => False) w)
    go_wp2_with fail
    refine (mod_of _ _ r _ (by omega) (by omega) HR.out).mono ?_; rintro e w2 ⟨rfl, rfl⟩
    go_wp2_with fail
    refine (new_of _ (1 + r) _ (by omega) (by omega) (by omega)).mono ?_; rintro e w3 ⟨rfl, hM3, hK3⟩
    have HM3 := Lib.hid hM3
    have HK3 := Lib.hid (HK1.out.trans hK3 (fun _ _ h => h))
    have hz3 : Hid (w.heap.size ≤ w.heap.size) := Lib.hid HK1.out.size
    clear hM3 hK3 HK1
    go_wp2_with fail
    refine (awake_any _).mono ?_; rintro e w4 ⟨rfl, hK4⟩
    have HM4 := Lib.hid (HM3.out.kept hK4 id id)
    have HK4 := Lib.hid (HK3.out.trans hK4 (fun _ _ h => h))
    clear hK4 HM3 HK3
    go_wp2_with fail
    refine (cells_any _ _ _ _ _ HM4.out).mono ?_; rw [List.length_replicate]; rintro e w5 ⟨rfl, rfl⟩
    go_wp2_with fail
    refine (accesses_any _ _ _ _ _ HM4.out).mono ?_; rintro e w6 ⟨rfl, rfl⟩
    go_wp2_with fail
    refine (mod_of _ _ q _ (by omega) (by omega) HQ.out).mono ?_; rintro e w7 ⟨rfl, rfl⟩
    go_wp2_with fail
    refine (load_any _ _ _ 0 _ _ _ _ _ HM4.out (by omega) (cellAt_zero _ _)).mono ?_; rintro e w8 ⟨rfl, hM8, hK8⟩
    have HM8 := Lib.hid hM8
    have HK8 : Hid (Kept (fun _ => False) w w8) := Lib.hid (HK4.out.trans hK8 (fun i hi h => by have := hz3.out; unfold Own at h; omega))
    clear hM8 hK8 HM4 HK4
    go_wp2_with fail
    refine (peek_any _ _ _ _ _ _ _ _ _ HM8.out (cellAt_zero _ _)).mono ?_; rintro e w9 ⟨rfl, hK9⟩
    have HK9 : Hid (Below w.heap.size w w9) := Lib.hid ((HK8.out.trans hK9 (fun _ _ h => h)).below (Nat.le_refl _) (fun _ h => h.elim))
    clear hK9 HK8 HM8
    go_wp2
    go_ret
    exact ⟨rfl, HK9.out⟩
  · have h0 : decide (n < 1) = false := by simp; omega
    have h3 : (1 : Int) ≤ n := by omega
    have h4 : ¬ n ≤ 1048576 := by omega
    go_enter Try.func3, Try.ntmps3
    go_wp2_with fail
    refine (new_bad n (by omega) _).mono ?_; rintro e w1 ⟨rfl, rfl⟩
    have HK1 := Lib.hid (Kept.refl (fun _ => False) w)
    go_wp2_with fail
    refine (mod_of _ _ r _ (by omega) (by omega) HR.out).mono ?_; rintro e w2 ⟨rfl, rfl⟩
    go_wp2_with fail
    refine (new_of _ (1 + r) _ (by omega) (by omega) (by omega)).mono ?_; rintro e w3 ⟨rfl, hM3, hK3⟩
    have HM3 := Lib.hid hM3
    have HK3 := Lib.hid (HK1.out.trans hK3 (fun _ _ h => h))
    have hz3 : Hid (w.heap.size ≤ w.heap.size) := Lib.hid HK1.out.size
    clear hM3 hK3 HK1
    go_wp2_with fail
    refine (awake_any _).mono ?_; rintro e w4 ⟨rfl, hK4⟩
    have HM4 := Lib.hid (HM3.out.kept hK4 id id)
    have HK4 := Lib.hid (HK3.out.trans hK4 (fun _ _ h => h))
    clear hK4 HM3 HK3
    go_wp2_with fail
    refine (cells_any _ _ _ _ _ HM4.out).mono ?_; rw [List.length_replicate]; rintro e w5 ⟨rfl, rfl⟩
    go_wp2_with fail
    refine (accesses_any _ _ _ _ _ HM4.out).mono ?_; rintro e w6 ⟨rfl, rfl⟩
    go_wp2_with fail
    refine (mod_of _ _ q _ (by omega) (by omega) HQ.out).mono ?_; rintro e w7 ⟨rfl, rfl⟩
    go_wp2_with fail
    refine (load_any _ _ _ 0 _ _ _ _ _ HM4.out (by omega) (cellAt_zero _ _)).mono ?_; rintro e w8 ⟨rfl, hM8, hK8⟩
    have HM8 := Lib.hid hM8
    have HK8 : Hid (Kept (fun _ => False) w w8) := Lib.hid (HK4.out.trans hK8 (fun i hi h => by have := hz3.out; unfold Own at h; omega))
    clear hM8 hK8 HM4 HK4
    go_wp2_with fail
    refine (peek_any _ _ _ _ _ _ _ _ _ HM8.out (cellAt_zero _ _)).mono ?_; rintro e w9 ⟨rfl, hK9⟩
    have HK9 : Hid (Below w.heap.size w w9) := Lib.hid ((HK8.out.trans hK9 (fun _ _ h => h)).below (Nat.le_refl _) (fun _ h => h.elim))
    clear hK9 HK8 HM8
    go_wp2
    go_ret
    exact ⟨rfl, HK9.out⟩
  · go_enter Try.func3, Try.ntmps3
    go_wp2_with fail
    refine (new_of n n.toNat _ (by omega) (by omega) (by omega)).mono ?_; rintro e w1 ⟨rfl, hM1, hK1⟩
    have HK1 := Lib.hid hK1
    clear hM1 hK1
    go_wp2_with fail
    refine (mod_of _ _ r _ (by omega) (by omega) HR.out).mono ?_; rintro e w2 ⟨rfl, rfl⟩
    go_wp2_with fail
    refine (new_of _ (1 + r) _ (by omega) (by omega) (by omega)).mono ?_; rintro e w3 ⟨rfl, hM3, hK3⟩
    have HM3 := Lib.hid hM3
    have HK3 := Lib.hid (HK1.out.trans hK3 (fun _ _ h => h))
    have hz3 : Hid (w.heap.size ≤ w1.heap.size) := Lib.hid HK1.out.size
    clear hM3 hK3 HK1
    go_wp2_with fail
    refine (awake_any _).mono ?_; rintro e w4 ⟨rfl, hK4⟩
    have HM4 := Lib.hid (HM3.out.kept hK4 id id)
    have HK4 := Lib.hid (HK3.out.trans hK4 (fun _ _ h => h))
    clear hK4 HM3 HK3
    go_wp2_with fail
    refine (cells_any _ _ _ _ _ HM4.out).mono ?_; rw [List.length_replicate]; rintro e w5 ⟨rfl, rfl⟩
    go_wp2_with fail
    refine (accesses_any _ _ _ _ _ HM4.out).mono ?_; rintro e w6 ⟨rfl, rfl⟩
    go_wp2_with fail
    refine (mod_of _ _ q _ (by omega) (by omega) HQ.out).mono ?_; rintro e w7 ⟨rfl, rfl⟩
    go_wp2_with fail
    refine (load_any _ _ _ 0 _ _ _ _ _ HM4.out (by omega) (cellAt_zero _ _)).mono ?_; rintro e w8 ⟨rfl, hM8, hK8⟩
    have HM8 := Lib.hid hM8
    have HK8 : Hid (Kept (fun _ => False) w w8) := Lib.hid (HK4.out.trans hK8 (fun i hi h => by have := hz3.out; unfold Own at h; omega))
    clear hM8 hK8 HM4 HK4
    go_wp2_with fail
    refine (peek_any _ _ _ _ _ _ _ _ _ HM8.out (cellAt_zero _ _)).mono ?_; rintro e w9 ⟨rfl, hK9⟩
    have HK9 : Hid (Below w.heap.size w w9) := Lib.hid ((HK8.out.trans hK9 (fun _ _ h => h)).below (Nat.le_refl _) (fun _ h => h.elim))
    clear hK9 HK8 HM8
    go_wp2
    go_ret
    exact ⟨rfl, HK9.out⟩

end Go.Proofs.Ytedplnngednecaa
