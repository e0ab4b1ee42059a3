/-
  The library's partialInsertionSort on a short part of a row of words (fewer than 50: it only looks), as the library's plain text says it. Condition: parts of 1 to 49 words.
-/
import Derived.Test.YtddjggckmmdicaaSrtPart
namespace Go.Proofs.Ytddjggckmmdicaa
open Go.RowKit Go.Deep
open Go.Sort (swp size_swp scanSorted partialInsertionSort partialIns)
set_option linter.unusedVariables false

theorem ss_go (d : Array Nat) (b i : Nat) (h : i < b) (hp : ltW d[i]! d[i - 1]! = false) : scanSorted ltW d b i = scanSorted ltW d b (i + 1) := by
  rw [scanSorted, if_pos (by rw [hp]; simp [h])]
theorem ss_end (d : Array Nat) (b i : Nat) (h : ¬ i < b ∨ ltW d[i]! d[i - 1]! = true) : scanSorted ltW d b i = i := by
  rw [scanSorted, if_neg]
  rcases h with h | h
  · simp [h]
  · rw [h]; simp
theorem pis_eq (d : Array Nat) (a b : Nat) (h : b - a < 50) : partialInsertionSort ltW d a b = (d, decide (scanSorted ltW d b (a + 1) = b)) := by
  show partialIns ltW a b 5 (a + 1) d = _
  unfold partialIns
  by_cases hi : scanSorted ltW d b (a + 1) = b
  · simp only [hi, ↓reduceIte, decide_true]
  · simp only [if_neg hi, if_pos h, decide_eq_false hi]

set_option maxHeartbeats 8000000 in
set_option maxRecDepth 100000 in
theorem srt_pis (g off n cap a b : Nat) (d : Array Nat) (w0 w : World) (hS : Ro w0 w g off d) (hn : d.size = n) (hn2 : n < 2305843009213693952) (hab : a < b) (hb : b ≤ n) (h50 : b - a < 50) (ok : Bool) (D : Array Nat) (hk : partialInsertionSort ltW d a b = (D, ok)) :
    Calls Try.prog 55 #[.slice (some ⟨g, off, none⟩) n cap, .int .i64 (a : Int), .int .i64 (b : Int)] w fun e w' => e = .returned (.bool ok) ∧ Ro w0 w' g off D ∧ D.size = n := by
  have HR := Lib.hid hS
  rw [pis_eq d a b h50] at hk
  obtain ⟨rfl, rfl⟩ := Prod.mk.inj hk
  clear hS hk
  obtain ⟨i, hi⟩ : ∃ i, i = a + 1 := ⟨_, rfl⟩
  rw [← hi]
  have hai : a < i := by omega
  have hib : i ≤ b := by omega
  have h5z : (b : Int) - (a : Int) < 50 := by omega
  have h5w : IntKind.i64.wrap ((b : Int) - (a : Int)) = (b : Int) - (a : Int) := by rw [IntKind.wrap_i64]; omega
  go_enter Try.func55, Try.ntmps55
  go_wp2
  go_loopw [7, 8] (fun u v wr => u = .int .i64 (i : Int) ∧ v = .int .i64 0 ∧ Ro w0 wr g off d) (fun _ _ _ => 0)
  case atStart => exact ⟨by rw [hi]; go_num, rfl, HR.out⟩
  case round =>
    obtain ⟨rfl, rfl, hR⟩ := hrel
    clear HR hi
    have HR := Lib.hid hR
    clear hR
    go_upto_block 2 with fail
    go_cut [7] (fun v wx => ∃ k : Nat, v = .int .i64 (k : Int) ∧ scanSorted ltW d b i = k ∧ k ≤ b ∧ Ro w0 wx g off d)
    case first =>
      go_wp2
      go_loopw [7] (fun u wr => ∃ k : Nat, u = .int .i64 (k : Int) ∧ i ≤ k ∧ k ≤ b ∧ Ro w0 wr g off d ∧ scanSorted ltW d b i = scanSorted ltW d b k) (fun u _ => b - (intOf u).toNat)
      case atStart => exact ⟨i, rfl, by omega, hib, HR.out, rfl⟩
      case round =>
        obtain ⟨k, rfl, hik, hkb, hR, hU⟩ := hrel
        clear HR
        have HR := Lib.hid hR
        have HU := Lib.hid hU
        clear hR hU
        rename World => wr
        by_cases hkk : k < b
        · have hda : decide ((k : Int) < (b : Int)) = true := decide_eq_true (by omega)
          cases hlv : ltW d[k]! d[k - 1]! with
          | false =>
            have HN := Lib.hid (ss_go d b k hkk hlv)
            obtain ⟨ni, hni⟩ : ∃ ni, ni = k := ⟨_, rfl⟩
            obtain ⟨nj, hnj⟩ : ∃ nj, nj = k - 1 := ⟨_, rfl⟩
            obtain ⟨vx, hvx⟩ : ∃ vx, d[ni]! = vx := ⟨_, rfl⟩
            obtain ⟨vy, hvy⟩ : ∃ vy, d[nj]! = vy := ⟨_, rfl⟩
            have l0 := HR.out.cl ni (by omega)
            have l1 := HR.out.cl nj (by omega)
            have hi1 : ((k : Int)).toNat = ni := by omega
            have hi2 : (0 : Int) ≤ (k : Int) := by omega
            have hi3 : (k : Int) < (n : Int) := by omega
            have hi4 : IntKind.i64.wrap ((k : Int)) = (k : Int) := by rw [IntKind.wrap_i64]; omega
            have hj1 : ((k : Int) - 1).toNat = nj := by omega
            have hj2 : (0 : Int) ≤ (k : Int) - 1 := by omega
            have hj3 : (k : Int) - 1 < (n : Int) := by omega
            have hj4 : IntKind.i64.wrap ((k : Int) - 1) = (k : Int) - 1 := by rw [IntKind.wrap_i64]; omega
            rw [hvx] at l0
            rw [hvy] at l1
            have hlt : ltW vx vy = false := by rw [← hvx, ← hvy, hni, hnj]; exact hlv
            clear hvx hvy hni hnj
            go_wp2_with fail
            go_quiet ((go_at_call 56; exact Calls.still (less_w _ _ _ hlt _)))
            have HR2 := Lib.hid (HR.out.drewN nq)
            clear l0 l1 hlt HR hi1 hi2 hi3 hi4 hj1 hj2 hj3 hj4
            rename Hid (Ro _ _ _ _ _) => HR
            generalize wr.drewN nq = wq0 at *
            go_wp2
            go_roundw
            case rel => exact ⟨k + 1, by go_num, by omega, by omega, HR.out, by rw [HU.out, HN.out]⟩
            case measure => simp [intOf] <;> omega
          | true =>
            have HN := Lib.hid (ss_end d b k (.inr hlv))
            obtain ⟨ni, hni⟩ : ∃ ni, ni = k := ⟨_, rfl⟩
            obtain ⟨nj, hnj⟩ : ∃ nj, nj = k - 1 := ⟨_, rfl⟩
            obtain ⟨vx, hvx⟩ : ∃ vx, d[ni]! = vx := ⟨_, rfl⟩
            obtain ⟨vy, hvy⟩ : ∃ vy, d[nj]! = vy := ⟨_, rfl⟩
            have l0 := HR.out.cl ni (by omega)
            have l1 := HR.out.cl nj (by omega)
            have hi1 : ((k : Int)).toNat = ni := by omega
            have hi2 : (0 : Int) ≤ (k : Int) := by omega
            have hi3 : (k : Int) < (n : Int) := by omega
            have hi4 : IntKind.i64.wrap ((k : Int)) = (k : Int) := by rw [IntKind.wrap_i64]; omega
            have hj1 : ((k : Int) - 1).toNat = nj := by omega
            have hj2 : (0 : Int) ≤ (k : Int) - 1 := by omega
            have hj3 : (k : Int) - 1 < (n : Int) := by omega
            have hj4 : IntKind.i64.wrap ((k : Int) - 1) = (k : Int) - 1 := by rw [IntKind.wrap_i64]; omega
            rw [hvx] at l0
            rw [hvy] at l1
            have hlt : ltW vx vy = true := by rw [← hvx, ← hvy, hni, hnj]; exact hlv
            clear hvx hvy hni hnj
            go_wp2_with fail
            go_quiet ((go_at_call 56; exact Calls.still (less_w _ _ _ hlt _)))
            have HR2 := Lib.hid (HR.out.drewN nq)
            clear l0 l1 hlt HR hi1 hi2 hi3 hi4 hj1 hj2 hj3 hj4
            rename Hid (Ro _ _ _ _ _) => HR
            generalize wr.drewN nq = wq0 at *
            go_wp2
            go_meet
            exact ⟨k, rfl, by rw [HU.out, HN.out], hkb, HR.out⟩
        · have hda : decide ((k : Int) < (b : Int)) = false := decide_eq_false (by omega)
          have HN := Lib.hid (ss_end d b k (.inl hkk))
          go_wp2_with fail
          go_quiet (fail)
          go_wp2
          go_meet
          exact ⟨k, rfl, by rw [HU.out, HN.out], hkb, HR.out.drewN _⟩
    case rest =>
      obtain ⟨k, rfl, hsk, hkb, hR⟩ := hcut
      clear HR
      have HR := Lib.hid hR
      clear hR
      by_cases hkk : k = b
      · have hki : (k : Int) = (b : Int) := by omega
        go_wp2
        go_ret
        exact ⟨by rw [hsk, decide_eq_true hkk]; rfl, HR.out, hn⟩
      · have hki : ¬ (k : Int) = (b : Int) := by omega
        go_wp2
        go_ret
        exact ⟨by rw [hsk, decide_eq_false hkk]; rfl, HR.out, hn⟩

end Go.Proofs.Ytddjggckmmdicaa
