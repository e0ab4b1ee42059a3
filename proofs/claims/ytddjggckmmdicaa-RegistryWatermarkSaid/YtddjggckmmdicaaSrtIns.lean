/-
  The library's insertion sort of a part of a row of words, as the library's plain text says it. Condition: rows of fewer than 2^62 words.
-/
import Derived.Test.YtddjggckmmdicaaSrtRow
namespace Go.Proofs.Ytddjggckmmdicaa
open Go.RowKit Go.Deep
open Go.Sort (swp size_swp insInner insOuter)
set_option linter.unusedVariables false

set_option maxHeartbeats 4000000 in
theorem srt_ins (g off n c a b : Nat) (d : Array Nat) (w0 w : World) (hS : Ro w0 w g off d) (hn : d.size = n) (hn2 : n < 4611686018427387904) (hab : a ≤ b) (hb : b ≤ n) :
    Calls Try.prog 50 #[.slice (some ⟨g, off, none⟩) n c, .int .i64 (a : Int), .int .i64 (b : Int)] w fun e w' => e = .returned (.tuple #[]) ∧ Ro w0 w' g off (Go.Sort.insertionSort ltW d a b) ∧ (Go.Sort.insertionSort ltW d a b).size = n := by
  obtain ⟨D, hD⟩ : ∃ D, insOuter ltW a b (a + 1) d = D := ⟨_, rfl⟩
  have HSS := Lib.hid hS
  have HDD : Hid (Go.Sort.insertionSort ltW d a b = D) := Lib.hid hD
  have HD := Lib.hid hD
  clear hS hD
  go_enter Try.func50, Try.ntmps50
  go_wp2
  go_loopw [6] (fun u wr => ∃ (i : Nat) (di : Array Nat), u = .int .i64 (i : Int) ∧ a < i ∧ i ≤ b + 1 ∧ di.size = n ∧ Ro w0 wr g off di ∧ insOuter ltW a b i di = D) (fun u _ => b + 1 - (intOf u).toNat)
  case atStart => exact ⟨a + 1, d, by go_num, by omega, by omega, hn, HSS.out, HD.out⟩
  case round =>
    obtain ⟨i, di, rfl, hai, hib, hsi, hR, hO⟩ := hrel
    have HR := Lib.hid hR
    have HO := Lib.hid hO
    clear hR hO HSS HD
    by_cases hlt : i < b
    · obtain ⟨E, hE⟩ : ∃ E, insInner ltW a i di = E := ⟨_, rfl⟩
      have HE := Lib.hid hE
      have hoe : insOuter ltW a b (i + 1) E = D := by rw [← hE, ← insOuter_go a b i di hlt]; exact HO.out
      have HOE := Lib.hid hoe
      clear hE hoe HO
      go_wp2_with fail
      go_loopw [7] (fun u wr => ∃ (j : Nat) (dj : Array Nat), u = .int .i64 (j : Int) ∧ a ≤ j ∧ j ≤ i ∧ dj.size = n ∧ Ro w0 wr g off dj ∧ insInner ltW a j dj = E) (fun u _ => (intOf u).toNat)
      case atStart => exact ⟨i, di, rfl, by omega, by omega, hsi, HR.out, HE.out⟩
      case round =>
        obtain ⟨j, dj, rfl, haj, hji, hsj, hR, hI⟩ := hrel
        clear HR HE
        have HR := Lib.hid hR
        have HI := Lib.hid hI
        clear hR hI
        by_cases hja : a < j
        · obtain ⟨jp, rfl⟩ : ∃ jp, j = jp + 1 := ⟨j - 1, by omega⟩
          have hda : decide ((jp : Int) + 1 > (a : Int)) = true := decide_eq_true (by omega)
          have hdb : decide ((a : Int) < (jp : Int) + 1) = true := decide_eq_true (by omega)
          have hdc : decide (a < jp + 1) = true := decide_eq_true (by omega)
          cases hlv : ltW dj[jp + 1]! dj[jp]! with
          | true =>
            have HN := Lib.hid (insInner_go a jp dj hja hlv)
            obtain ⟨ni, hni⟩ : ∃ ni, ni = jp + 1 := ⟨_, rfl⟩
            obtain ⟨nj, hnj⟩ : ∃ nj, nj = jp := ⟨_, rfl⟩
            obtain ⟨vx, hvx⟩ : ∃ vx, dj[ni]! = vx := ⟨_, rfl⟩
            obtain ⟨vy, hvy⟩ : ∃ vy, dj[nj]! = vy := ⟨_, rfl⟩
            have l0 := HR.out.cl ni (by omega)
            have l1 := HR.out.cl nj (by omega)
            have hi1 : ((jp : Int) + 1).toNat = ni := by omega
            have hi2 : (0 : Int) ≤ (jp : Int) + 1 := by omega
            have hi3 : (jp : Int) + 1 < (n : Int) := by omega
            have hi4 : IntKind.i64.wrap ((jp : Int) + 1) = (jp : Int) + 1 := by rw [IntKind.wrap_i64]; omega
            have hj1 : ((jp : Int)).toNat = nj := by omega
            have hj2 : (0 : Int) ≤ (jp : Int) := by omega
            have hj3 : (jp : Int) < (n : Int) := by omega
            have hj4 : IntKind.i64.wrap ((jp : Int)) = (jp : Int) := by rw [IntKind.wrap_i64]; omega
            rw [hvx] at l0
            rw [hvy] at l1
            have hlt : ltW vx vy = true := by rw [← hvx, ← hvy, hni, hnj]; exact hlv
            clear hvx hvy hni hnj
            go_wp2_with fail
            go_quiet ((go_at_call 56; exact Calls.still (less_w _ _ _ hlt _)))
            have HR2 := Lib.hid (HR.out.drewN nq)
            clear l0 l1 hlt HR hi1 hi2 hi3 hi4 hj1 hj2 hj3 hj4
            rename Hid (Ro _ _ _ _ _) => HR
            generalize wr.drewN nq = wq at *
            obtain ⟨ni, hni⟩ : ∃ ni, ni = jp + 1 := ⟨_, rfl⟩
            obtain ⟨nj, hnj⟩ : ∃ nj, nj = jp := ⟨_, rfl⟩
            obtain ⟨vx, hvx⟩ : ∃ vx, dj[ni]! = vx := ⟨_, rfl⟩
            obtain ⟨vy, hvy⟩ : ∃ vy, dj[nj]! = vy := ⟨_, rfl⟩
            have l0 := HR.out.cl ni (by omega)
            have l1 := HR.out.cl nj (by omega)
            have f0 := HR.out.fr ni (by omega)
            have f1 := HR.out.fr nj (by omega)
            obtain ⟨vu, l2⟩ := HR.out.st ni nj (by omega) (by omega) (.int .u64 (vy : Int))
            have hsw := HR.out.swap ni nj vx vy (by omega) (by omega) hvx hvy
            obtain ⟨dq, hdq⟩ : ∃ dq, swp dj ni nj = dq := ⟨_, rfl⟩
            rw [hdq] at hsw
            have hsz : dq.size = n := by rw [← hdq, size_swp]; omega
            have HDQ : Hid (swp dj (jp + 1) (jp) = dq) := Lib.hid (by rw [← hdq, hni, hnj])
            rw [hvx] at l0
            rw [hvy] at l1
            have hi1 : ((jp : Int) + 1).toNat = ni := by omega
            have hi2 : (0 : Int) ≤ (jp : Int) + 1 := by omega
            have hi3 : (jp : Int) + 1 < (n : Int) := by omega
            have hi4 : IntKind.i64.wrap ((jp : Int) + 1) = (jp : Int) + 1 := by rw [IntKind.wrap_i64]; omega
            have hj1 : ((jp : Int)).toNat = nj := by omega
            have hj2 : (0 : Int) ≤ (jp : Int) := by omega
            have hj3 : (jp : Int) < (n : Int) := by omega
            have hj4 : IntKind.i64.wrap ((jp : Int)) = (jp : Int) := by rw [IntKind.wrap_i64]; omega
            have HSW := Lib.hid hsw
            clear hvx hvy HR hni hnj hsw hdq
            have mixed : Try.prog.follows .mixedOrders = true := by kernel_rfl
            go_wp2_with fail
            go_big_region_o
            clear mixed
            clear l0 l1 l2 f0 f1 hi1 hi2 hi3 hi4 hj1 hj2 hj3 hj4
            rename Hid (Ro _ _ _ _ _) => HR
            go_wp2
            go_roundw
            case rel => exact ⟨jp, dq, by go_num, by omega, by omega, hsz, HR.out, by rw [← HDQ.out, ← HN.out]; exact HI.out⟩
            case measure => simp [intOf]
          | false =>
            have HN := Lib.hid (insInner_stop a jp dj hlv)
            obtain ⟨ni, hni⟩ : ∃ ni, ni = jp + 1 := ⟨_, rfl⟩
            obtain ⟨nj, hnj⟩ : ∃ nj, nj = jp := ⟨_, rfl⟩
            obtain ⟨vx, hvx⟩ : ∃ vx, dj[ni]! = vx := ⟨_, rfl⟩
            obtain ⟨vy, hvy⟩ : ∃ vy, dj[nj]! = vy := ⟨_, rfl⟩
            have l0 := HR.out.cl ni (by omega)
            have l1 := HR.out.cl nj (by omega)
            have hi1 : ((jp : Int) + 1).toNat = ni := by omega
            have hi2 : (0 : Int) ≤ (jp : Int) + 1 := by omega
            have hi3 : (jp : Int) + 1 < (n : Int) := by omega
            have hi4 : IntKind.i64.wrap ((jp : Int) + 1) = (jp : Int) + 1 := by rw [IntKind.wrap_i64]; omega
            have hj1 : ((jp : Int)).toNat = nj := by omega
            have hj2 : (0 : Int) ≤ (jp : Int) := by omega
            have hj3 : (jp : Int) < (n : Int) := by omega
            have hj4 : IntKind.i64.wrap ((jp : Int)) = (jp : Int) := by rw [IntKind.wrap_i64]; omega
            rw [hvx] at l0
            rw [hvy] at l1
            have hlt : ltW vx vy = false := by rw [← hvx, ← hvy, hni, hnj]; exact hlv
            clear hvx hvy hni hnj
            go_wp2_with fail
            go_quiet ((go_at_call 56; exact Calls.still (less_w _ _ _ hlt _)))
            have HR2 := Lib.hid (HR.out.drewN nq)
            clear l0 l1 hlt HR hi1 hi2 hi3 hi4 hj1 hj2 hj3 hj4
            rename Hid (Ro _ _ _ _ _) => HR
            generalize wr.drewN nq = wq at *
            go_wp2
            go_roundw
            case rel => exact ⟨i + 1, dj, by go_num, by omega, by omega, hsj, HR.out, by have := HI.out; rw [HN.out] at this; rw [this]; exact HOE.out⟩
            case measure => simp [intOf] <;> omega
        · obtain rfl : j = a := by omega
          have hda : decide ((j : Int) > (j : Int)) = false := decide_eq_false (by omega)
          go_wp2_with fail
          go_quiet (fail)
          go_wp2
          go_roundw
          case rel => exact ⟨i + 1, dj, by go_num, by omega, by omega, hsj, HR.out.drewN _, by have := HI.out; rw [insInner_end _ _ _ (by omega)] at this; rw [this]; exact HOE.out⟩
          case measure => simp [intOf] <;> omega
    · go_wp2
      go_end0
      exact ⟨rfl, by have := HO.out; rw [insOuter_stop _ _ _ _ hlt] at this; rw [HDD.out, ← this]; exact ⟨HR.out, hsi⟩⟩

end Go.Proofs.Ytddjggckmmdicaa
