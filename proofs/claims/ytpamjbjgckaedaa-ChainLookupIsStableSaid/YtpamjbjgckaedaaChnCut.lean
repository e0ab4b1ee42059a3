/-
  What Dead of package record and Cut and Dead of its reference answer for any chain. Condition: chains of at most 2^40 versions.
-/
import Derived.Test.YtpamjbjgckaedaaChnFns
namespace Go.Proofs.Ytpamjbjgckaedaa
open Go.RowKit Go.Deep Plain
set_option linter.unusedVariables false

set_option maxHeartbeats 1000000 in
theorem refCut_far (A : Option Addr) (c : Nat) (xs : List Ve) (t : Nat) (w : World) (n : Nat) (hn : xs.length = n) (h40 : n ≤ 1099511627776) (hR : Rv w A c xs) (m : Nat) (hm : cutAt t xs = m) :
    Calls Try.prog 14 #[.slice A n c, .int .u64 (t : Int)] w fun e w' => ∃ A' c', e = .returned (.slice A' m c') ∧ Rv w' A' c' (cut t xs) ∧ Below w.heap.size w w' ∧ (∀ a, A' = some a → w.heap.size ≤ a.block) := by
  have hql := fnd_le t xs
  have hml := cutAt_le t xs
  have hme : min (fnd t xs + 1) n = m := by rw [← hm]; unfold cutAt; rw [hn]
  have hcl : (cut t xs).length = m := by rw [cut_length, hm]
  have hct : cut t xs = xs.take m := by unfold cut; rw [hm]
  have hc := hR.le
  have hmc : m ≤ c := by omega
  go_enter Try.func14, Try.ntmps14
  go_wp2_with fail
  refine (first_any A c xs t _ n hn h40 hR).mono ?_; rintro e w1 ⟨rfl, hB1⟩
  have HR1 := Lib.hid (hR.below hB1 (Nat.le_refl _))
  have HB1 := Lib.hid hB1
  have hs := hB1.size
  obtain ⟨q, hq⟩ : ∃ q, fnd t xs = q := ⟨_, rfl⟩
  rw [hq] at hql hme ⊢
  have HCT := Lib.hid hct
  have HCL := Lib.hid hcl
  clear hB1 hR hq hct hcl hm hc
  have hcase : (q + 1 ≤ n ∧ m = q + 1) ∨ (n < q + 1 ∧ m = n) := by omega
  have hqn : q ≤ n := by omega
  have HN := Lib.hid hn
  clear hme hn hml hql
  rcases hcase with ⟨h1, rfl⟩ | ⟨h1, rfl⟩
  all_goals
    go_wp2_with (at_builtin; go_must (refine wpList_app rfl (.const (.slice none 0 0)) (.tmp 13) rfl w1.heap.size _ 0 [] rfl (World.ownsRow_nil _ _ _ _) A _ c (cut t xs) rfl HCL.out (by rw [HCT.out]; exact HR1.out.take _) (by omega) (Nat.le_refl _) ?_))
    intro v2 w2 hown hB2
    try rw [List.nil_append] at hown
    try rw [Nat.zero_add] at hown
    obtain ⟨A2, c2, rfl, _, hR2, hF2⟩ := Rv.own hown
    have HF2 := Lib.hid hF2
    clear hF2
    have HB2 := Lib.hid (HB1.out.trans (hB2.mono hs))
    have HR2 := Lib.hid hR2
    clear hown hB2 hR2
    go_wp2
    go_ret
    exact ⟨_, _, rfl, HR2.out, HB2.out, fun a ha => Nat.le_trans hs (HF2.out a ha)⟩

set_option maxHeartbeats 1000000 in
theorem refCut_any (A : Option Addr) (c : Nat) (xs : List Ve) (t : Nat) (w : World) (n : Nat) (hn : xs.length = n) (h40 : n ≤ 1099511627776) (hR : Rv w A c xs) (m : Nat) (hm : cutAt t xs = m) :
    Calls Try.prog 14 #[.slice A n c, .int .u64 (t : Int)] w fun e w' => ∃ A' c', e = .returned (.slice A' m c') ∧ Rv w' A' c' (cut t xs) ∧ Below w.heap.size w w' := by
  have hql := fnd_le t xs
  have hml := cutAt_le t xs
  have hme : min (fnd t xs + 1) n = m := by rw [← hm]; unfold cutAt; rw [hn]
  have hcl : (cut t xs).length = m := by rw [cut_length, hm]
  have hct : cut t xs = xs.take m := by unfold cut; rw [hm]
  have hc := hR.le
  have hmc : m ≤ c := by omega
  go_enter Try.func14, Try.ntmps14
  go_wp2_with fail
  refine (first_any A c xs t _ n hn h40 hR).mono ?_; rintro e w1 ⟨rfl, hB1⟩
  have HR1 := Lib.hid (hR.below hB1 (Nat.le_refl _))
  have HB1 := Lib.hid hB1
  have hs := hB1.size
  obtain ⟨q, hq⟩ : ∃ q, fnd t xs = q := ⟨_, rfl⟩
  rw [hq] at hql hme ⊢
  have HCT := Lib.hid hct
  have HCL := Lib.hid hcl
  clear hB1 hR hq hct hcl hm hc
  have hcase : (q + 1 ≤ n ∧ m = q + 1) ∨ (n < q + 1 ∧ m = n) := by omega
  have hqn : q ≤ n := by omega
  have HN := Lib.hid hn
  clear hme hn hml hql
  rcases hcase with ⟨h1, rfl⟩ | ⟨h1, rfl⟩
  all_goals
    go_wp2_with (at_builtin; go_must (refine wpList_app rfl (.const (.slice none 0 0)) (.tmp 13) rfl w1.heap.size _ 0 [] rfl (World.ownsRow_nil _ _ _ _) A _ c (cut t xs) rfl HCL.out (by rw [HCT.out]; exact HR1.out.take _) (by omega) (Nat.le_refl _) ?_))
    intro v2 w2 hown hB2
    try rw [List.nil_append] at hown
    try rw [Nat.zero_add] at hown
    obtain ⟨A2, c2, rfl, _, hR2, _⟩ := Rv.own hown
    have HB2 := Lib.hid (HB1.out.trans (hB2.mono hs))
    have HR2 := Lib.hid hR2
    clear hown hB2 hR2
    go_wp2
    go_ret
    exact ⟨_, _, rfl, HR2.out, HB2.out⟩

set_option maxHeartbeats 1000000 in
theorem dead_any (A : Option Addr) (c : Nat) (xs : List Ve) (t : Nat) (w : World) (n : Nat) (hn : xs.length = n) (h40 : n ≤ 1099511627776) (hR : Rv w A c xs) (b : Bool) (hb : dead t xs = b) :
    Calls Try.prog 38 #[.slice A n c, .int .u64 (t : Int)] w fun e w' => e = .returned (.bool b) ∧ Below w.heap.size w w' := by
  cases xs with
  | nil =>
    obtain rfl : n = 0 := by rw [← hn]; rfl
    obtain rfl : b = true := by rw [← hb]; rfl
    clear hb hR hn
    go_enter Try.func38, Try.ntmps38
    go_wp2
    go_ret
    exact ⟨rfl, Below.refl _ _⟩
  | cons x r =>
    have h0 : ((n : Int) == 0) = false := by simp; rw [← hn]; simp
    have hpos : 0 < n := by rw [← hn]; simp
    obtain ⟨q, hq⟩ : ∃ q, rch t x = q := ⟨_, rfl⟩
    have hbq : (q && x.2.2) = b := by rw [← hb, ← hq]; rfl
    have HR := Lib.hid hR
    have HQ := Lib.hid hq
    have HN := Lib.hid hn
    have HBQ := Lib.hid hbq
    obtain ⟨g, off, rfl, hg, hcell⟩ := hR.at (by simp)
    obtain ⟨c0, c1, c2⟩ := hcell 0 x rfl
    simp only [Nat.zero_mul, Nat.add_zero] at c0 c1 c2
    clear hb hn hR hcell hq hbq
    go_enter Try.func38, Try.ntmps38
    go_wp2_with fail
    refine (reached_any x t q HQ.out _).mono ?_; rintro e w1 ⟨rfl, hB1⟩
    have HB1 := Lib.hid hB1
    have e2 : w1.cell? ⟨g, off + 2, none⟩ = some (.bool x.2.2) := (hB1.cell (p := ⟨g, off + 2, none⟩) hg).trans c2
    clear hB1 c0 c1 c2
    cases q
    · obtain rfl : b = false := by rw [← HBQ.out]; rfl
      go_wp2
      go_ret
      exact ⟨rfl, HB1.out⟩
    · obtain rfl : x.2.2 = b := by rw [← HBQ.out]; rfl
      go_wp2
      go_ret
      exact ⟨rfl, HB1.out⟩

set_option maxHeartbeats 1000000 in
theorem refDead_any (A : Option Addr) (c : Nat) (xs : List Ve) (t : Nat) (w : World) (n : Nat) (hn : xs.length = n) (h40 : n ≤ 1099511627776) (hR : Rv w A c xs) (b : Bool) (hb : dead t xs = b) :
    Calls Try.prog 16 #[.slice A n c, .int .u64 (t : Int)] w fun e w' => e = .returned (.bool b) ∧ Below w.heap.size w w' := by
  cases xs with
  | nil =>
    obtain rfl : n = 0 := by rw [← hn]; rfl
    obtain rfl : b = true := by rw [← hb]; rfl
    clear hb hR hn
    go_enter Try.func16, Try.ntmps16
    go_wp2
    go_ret
    exact ⟨rfl, Below.refl _ _⟩
  | cons x r =>
    have h0 : ((n : Int) == 0) = false := by simp; rw [← hn]; simp
    have hpos : 0 < n := by rw [← hn]; simp
    obtain ⟨q, hq⟩ : ∃ q, rch t x = q := ⟨_, rfl⟩
    have hbq : (q && x.2.2) = b := by rw [← hb, ← hq]; rfl
    have HR := Lib.hid hR
    have HQ := Lib.hid hq
    have HN := Lib.hid hn
    have HBQ := Lib.hid hbq
    obtain ⟨g, off, rfl, hg, hcell⟩ := hR.at (by simp)
    obtain ⟨c0, c1, c2⟩ := hcell 0 x rfl
    simp only [Nat.zero_mul, Nat.add_zero] at c0 c1 c2
    clear hb hn hR hcell hq hbq
    go_enter Try.func16, Try.ntmps16
    go_wp2_with fail
    refine (first_any _ c (x :: r) t _ n HN.out h40 HR.out).mono ?_; rintro e w1 ⟨rfl, hB1⟩
    obtain ⟨z, hz⟩ : ∃ z, fnd t (x :: r) = z := ⟨_, rfl⟩
    have hzq : ((z : Int) == 0) = q := by
      rw [← HQ.out, ← hz]
      cases hr : rch t x
      · have h9 : fnd t (x :: r) ≠ 0 := fun h => by rw [fnd_head.1 h] at hr; cases hr
        simp; omega
      · rw [fnd_head.2 hr]; rfl
    rw [hz]
    clear hz
    have HB1 := Lib.hid hB1
    have e2 : w1.cell? ⟨g, off + 2, none⟩ = some (.bool x.2.2) := (hB1.cell (p := ⟨g, off + 2, none⟩) hg).trans c2
    clear hB1 c0 c1 c2
    cases q
    · obtain rfl : b = false := by rw [← HBQ.out]; rfl
      go_wp2
      go_ret
      exact ⟨rfl, HB1.out⟩
    · obtain rfl : x.2.2 = b := by rw [← HBQ.out]; rfl
      go_wp2
      go_ret
      exact ⟨rfl, HB1.out⟩

end Go.Proofs.Ytpamjbjgckaedaa
