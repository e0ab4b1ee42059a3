/-
  What Normalize, Normal and the reference's Normalize answer. Condition: batches of at most a million writes, strings within the model's reach.
-/
import Derived.Test.YtodenkamlbihnaaModLast
import Derived.Test.YtodenkamlbihnaaBatSame
namespace Go.Proofs.Ytodenkamlbihnaa
open Go.RowKit Go.Deep Plain PlainE
set_option linter.unusedVariables false

/-- What Normalize hands back. -/
def nrm (b : List Wri) : List Wri := if chk b = 0 then normL b else []
theorem nrm_ok {b : List Wri} (h : chk b = 0) : nrm b = normL b := by unfold nrm; rw [if_pos h]
theorem nrm_no {b : List Wri} (h : chk b ≠ 0) : nrm b = [] := by unfold nrm; rw [if_neg h]
set_option maxHeartbeats 1000000 in
theorem normalize_any (A : Option Addr) (c : Nat) (b : List Wri) (w : World) (n : Nat) (hn : b.length = n) (h40 : n ≤ 1000000) (hR : RW w A c b) (hs : ∀ x ∈ b, Sz x) (e0 : Int) (he : chk b = e0) (r : Nat) (hr : (nrm b).length = r) :
    Calls Try.prog 32 #[.slice A n c] w fun e w' => ∃ A' c', e = .returned (.tuple #[.slice A' r c', .int .i64 e0]) ∧ RW w' A' c' (nrm b) ∧ Below w.heap.size w w' ∧ ∀ a, A' = some a → w.heap.size ≤ a.block := by
  have HR := Lib.hid hR
  have HE := Lib.hid he
  have HRR := Lib.hid hr
  clear hR he hr
  go_enter Try.func32, Try.ntmps32
  go_wp2_with fail
  refine (check_any A c b _ n hn (by omega) HR.out hs e0 HE.out).mono ?_; rintro e w1 ⟨rfl, hB1⟩
  have HR1 := Lib.hid (HR.out.below hB1 (Nat.le_refl _))
  have HB1 := Lib.hid hB1
  have hs1 := hB1.size
  clear hB1
  by_cases h0 : e0 = 0
  · have hk : nrm b = normL b := nrm_ok (by rw [HE.out]; exact h0)
    have HK := Lib.hid hk
    subst h0
    go_wp2_with fail
    refine (lastWrites_any A c b _ n hn h40 HR1.out hs r (by rw [← HK.out]; exact HRR.out)).mono ?_; rintro e w2 ⟨A2, c2, rfl, hR2, hB2, hF2⟩
    rw [← HK.out] at hR2
    have HR2 := Lib.hid hR2
    have HF2 := Lib.hid (show ∀ a, A2 = some a → w.heap.size ≤ a.block from fun a ha => Nat.le_trans hs1 (hF2 a ha))
    have HB2 := Lib.hid (HB1.out.trans (hB2.mono hs1))
    clear hR2 hB2 hk hF2
    go_wp2
    go_ret2
    exact ⟨_, _, rfl, HR2.out, HB2.out, HF2.out⟩
  · have hk : nrm b = [] := nrm_no (by rw [HE.out]; exact h0)
    have HK := Lib.hid hk
    obtain rfl : r = 0 := by rw [← HRR.out, hk]; rfl
    have h1 : (e0 == 0) = false := by simpa using h0
    have h2 : (e0 != 0) = true := by simpa using h0
    clear hk
    go_wp2
    go_ret2
    exact ⟨_, _, rfl, by rw [HK.out]; exact RW.nil _, HB1.out, fun a h => (by cases h)⟩

end Go.Proofs.Ytodenkamlbihnaa
