/-
  The kit's Same of entries and of writes and slices.Equal of writes: whether two rows are the same. Condition: rows within the model's reach.
-/
import Derived.Test.YtodenkamlbihnaaBatMem
import Derived.Laws.StructEq
namespace Go.Proofs.Ytodenkamlbihnaa
open Go.RowKit Go.Deep Plain PlainE
set_option linter.unusedVariables false

/-- How far two rows agree. -/
def agr {α : Type} [DecidableEq α] : List α → List α → Nat
  | x :: r, y :: s => if x = y then agr r s + 1 else 0
  | _, _ => 0
theorem agr_le {α : Type} [DecidableEq α] : ∀ xs ys : List α, agr xs ys ≤ xs.length
  | [], _ => by simp [agr]
  | x :: r, [] => by simp [agr]
  | x :: r, y :: s => by rw [agr]; have := agr_le r s; split <;> simp <;> omega
theorem agr_eq {α : Type} [DecidableEq α] : ∀ {xs ys : List α}, xs.length = ys.length → decide (agr xs ys = xs.length) = decide (xs = ys)
  | [], [], _ => by simp [agr]
  | [], y :: s, h => by simp at h
  | x :: r, [], h => by simp at h
  | x :: r, y :: s, h => by
    rw [agr]
    by_cases e : x = y
    · have := agr_eq (xs := r) (ys := s) (by simpa using h)
      subst e
      rw [if_pos rfl]; simpa using this
    · rw [if_neg e]; simp [e]
theorem agr_at {α : Type} [DecidableEq α] : ∀ {xs ys : List α} {j : Nat} {x y : α}, j ≤ agr xs ys → xs[j]? = some x → ys[j]? = some y → decide (x = y) = decide (¬ j = agr xs ys)
  | [], _, j, x, y, _, h, _ => by simp at h
  | a :: r, [], j, x, y, _, _, h => by simp at h
  | a :: r, b :: s, 0, x, y, hj, hx, hy => by
    simp at hx hy; subst hx hy
    rw [agr]
    by_cases e : a = b
    · simp [e]
    · simp [e]
  | a :: r, b :: s, j + 1, x, y, hj, hx, hy => by
    rw [agr] at hj ⊢
    by_cases e : a = b
    · rw [if_pos e] at hj ⊢
      rw [agr_at (xs := r) (ys := s) (j := j) (by omega) (by simpa using hx) (by simpa using hy)]
      simp
    · rw [if_neg e] at hj; omega
theorem eqE (a b c d : ByteArray) (w : World) : (Op.equalIn 10000 57 (.agg #[.string a, .string b]) (.agg #[.string c, .string d])).run Try.prog w = .ok (a.toList == c.toList && b.toList == d.toList) w := by
  have u3 := Try.underlying9
  have a3 := Try.isAgg9
  have z3 := Try.sizeOf9
  have hS : Try.prog.underlying 57 = some (.struct (Try.prog.fieldsOf 57)) := by kernel_rfl
  rw [show (10000 : Nat) = 9999 + 1 from rfl, run_equalIn_agg w 9999 57 _ _ hS (by kernel_rfl)]
  simp only [Program.fieldsOf, Try.underlying57]
  go_simp
  by_cases h1 : a.toList = c.toList <;> by_cases h2 : b.toList = d.toList <;> simp [h1, h2]
theorem eqW (a b c d : ByteArray) (e f : Bool) (w : World) : (Op.equalIn 10000 44 (.agg #[.string a, .string b, .bool e]) (.agg #[.string c, .string d, .bool f])).run Try.prog w = .ok (a.toList == c.toList && (b.toList == d.toList && e == f)) w := by
  have u3 := Try.underlying9
  have a3 := Try.isAgg9
  have z3 := Try.sizeOf9
  have u4 := Try.underlying4
  have a4 := Try.isAgg4
  have z4 := Try.sizeOf4
  have hS : Try.prog.underlying 44 = some (.struct (Try.prog.fieldsOf 44)) := by kernel_rfl
  rw [show (10000 : Nat) = 9999 + 1 from rfl, run_equalIn_agg w 9999 44 _ _ hS (by kernel_rfl)]
  simp only [Program.fieldsOf, Try.underlying44]
  go_simp
  by_cases h1 : a.toList = c.toList <;> by_cases h2 : b.toList = d.toList <;> cases e <;> cases f <;> simp [h1, h2]
theorem neEnt_parts {x y : Ent} (h : x ≠ y) : (x.1.toList == y.1.toList && x.2.toList == y.2.toList) = false := by
  cases e : (x.1.toList == y.1.toList && x.2.toList == y.2.toList)
  · rfl
  · simp only [Bool.and_eq_true, beq_iff_eq] at e
    exact absurd (Prod.ext (toList_inj e.1) (toList_inj e.2)) h
theorem neWri_parts {x y : Wri} (h : x ≠ y) : (x.1.toList == y.1.toList && (x.2.1.toList == y.2.1.toList && x.2.2 == y.2.2)) = false := by
  cases e : (x.1.toList == y.1.toList && (x.2.1.toList == y.2.1.toList && x.2.2 == y.2.2))
  · rfl
  · simp only [Bool.and_eq_true, beq_iff_eq] at e
    exact absurd (Prod.ext (toList_inj e.1) (Prod.ext (toList_inj e.2.1) e.2.2)) h

set_option maxHeartbeats 2000000 in
theorem sameE_any (A A2 : Option Addr) (c c2 : Nat) (xs ys : List Ent) (w : World) (n m : Nat) (hn : xs.length = n) (hm : ys.length = m) (h40 : n ≤ 140737488351232) (h41 : m ≤ 140737488351232) (hR : RE w A c xs) (hR2 : RE w A2 c2 ys) (b : Bool) (hb : decide (xs = ys) = b) :
    Calls Try.prog 28 #[.slice A n c, .slice A2 m c2] w fun e w' => e = .returned (.bool b) ∧ Below w.heap.size w w' := by
  have HR := Lib.hid hR
  have HR2 := Lib.hid hR2
  have HBV := Lib.hid hb
  clear hR hR2 hb
  by_cases hnm : n = m
  · subst hnm
    obtain ⟨q, hq⟩ : ∃ q, agr xs ys = q := ⟨_, rfl⟩
    have hqn : q ≤ n := by rw [← hq, ← hn]; exact agr_le _ _
    have hbq : b = decide (q = n) := by rw [← HBV.out, ← hq, ← hn]; exact (agr_eq (hn.trans hm.symm)).symm
    have HQ := Lib.hid hq
    have HB0 := Lib.hid hbq
    clear hq hbq
    go_enter Try.func28, Try.ntmps28
    go_wp2_with fail
    go_loopw [5] (fun i wr => ∃ j : Nat, j ≤ q ∧ i = .int .i64 j ∧ Below w.heap.size w wr) (fun i _ => n - (intOf i).toNat)
    case atStart => exact ⟨0, by omega, rfl, Below.refl _ _⟩
    case round =>
      obtain ⟨j, hj, rfl, hB⟩ := hrel
      have HB := Lib.hid hB
      by_cases hlt : j < n
      · obtain ⟨x, hx⟩ : ∃ x, xs[j]? = some x := ⟨_, List.getElem?_eq_getElem (by omega)⟩
        obtain ⟨y, hy⟩ : ∃ y, ys[j]? = some y := ⟨_, List.getElem?_eq_getElem (by omega)⟩
        obtain ⟨g, off, rfl, hg, hcell⟩ := (HR.out.below hB (Nat.le_refl _)).at (by omega)
        obtain ⟨c0x, c1x⟩ := hcell j x hx
        obtain ⟨g2, off2, rfl, hg2, hcell2⟩ := (HR2.out.below hB (Nat.le_refl _)).at (by omega)
        obtain ⟨d0x, d1x⟩ := hcell2 j y hy
        have hat := agr_at (by rw [HQ.out]; exact hj) hx hy
        rw [HQ.out] at hat
        have HX := Lib.hid hx
        have HY := Lib.hid hy
        clear hcell hcell2 hx hy hB
        by_cases hjq : j = q
        · have hne : x ≠ y := fun e => by rw [e] at hat; simp at hat; omega
          obtain rfl : b = false := by rw [HB0.out]; simp; omega
          have hcmp := fun W => (eqE x.1 x.2 y.1 y.2 W).trans (by rw [neEnt_parts hne])
          clear hne hat hjq
          go_wp2_with fail
          go_quiet (fail)
          go_wp2
          go_ret
          exact ⟨rfl, below_drewN HB.out _⟩
        · have he : x = y := by
            have : decide (x = y) = true := by rw [hat]; simpa using hjq
            simpa using this
          have hj2 : j + 1 ≤ q := by omega
          subst he
          clear hat hjq
          go_wp2_with fail
          go_quiet (fail)
          go_wp2
          go_roundw
          case rel => exact ⟨j + 1, hj2, by go_num, below_drewN HB.out _⟩
          case measure => simp [intOf]; omega
      · obtain rfl : b = true := by rw [HB0.out]; simp; omega
        go_wp2
        go_ret
        exact ⟨rfl, hB⟩
  · obtain rfl : b = false := by
      rw [← HBV.out]
      exact decide_eq_false fun e => hnm (by rw [← hn, ← hm, e])
    have hnm2 : (n : Int) ≠ (m : Int) := by omega
    have hnm3 : ((n : Int) == (m : Int)) = false := by simpa using hnm2
    go_enter Try.func28, Try.ntmps28
    go_wp2
    go_ret
    exact ⟨rfl, Below.refl _ _⟩

end Go.Proofs.Ytodenkamlbihnaa
