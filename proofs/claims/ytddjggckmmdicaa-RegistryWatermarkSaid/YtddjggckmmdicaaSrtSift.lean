/-
  The library's siftDown on a part of a row of words, as the library's plain text says it. Condition: rows of fewer than 2^62 words.
-/
import Derived.Test.YtddjggckmmdicaaSrtIns
import Derived.Deep.CutBlock
namespace Go.Proofs.Ytddjggckmmdicaa
open Go.RowKit Go.Deep
open Go.Sort (swp size_swp siftDown)
set_option linter.unusedVariables false

set_option maxHeartbeats 4000000 in
theorem srt_sift (g off n c lo hi first : Nat) (d : Array Nat) (w0 w : World) (hS : Ro w0 w g off d) (hn : d.size = n) (hn2 : n < 2305843009213693952) (hlo : lo ≤ hi) (hb : first + hi ≤ n) :
    Calls Try.prog 62 #[.slice (some ⟨g, off, none⟩) n c, .int .i64 (lo : Int), .int .i64 (hi : Int), .int .i64 (first : Int)] w fun e w' => e = .returned (.tuple #[]) ∧ Ro w0 w' g off (siftDown ltW hi first lo d) ∧ (siftDown ltW hi first lo d).size = n := by
  obtain ⟨D, hD⟩ : ∃ D, siftDown ltW hi first lo d = D := ⟨_, rfl⟩
  rw [hD]
  have HSS := Lib.hid hS
  have HD := Lib.hid hD
  clear hS hD
  go_enter Try.func62, Try.ntmps62
  go_wp2
  go_loopw [8] (fun u wr => ∃ (root : Nat) (dr : Array Nat), root ≤ hi ∧ u = .int .i64 (root : Int) ∧ dr.size = n ∧ Ro w0 wr g off dr ∧ siftDown ltW hi first root dr = D) (fun u _ => hi - (intOf u).toNat)
  case atStart => exact ⟨lo, d, hlo, rfl, hn, HSS.out, HD.out⟩
  case round =>
    obtain ⟨root, dr, hrh, rfl, hsr, hR, hI⟩ := hrel
    have HR := Lib.hid hR
    have HI := Lib.hid hI
    clear hR hI HSS HD
    by_cases hch : 2 * root + 1 ≥ hi
    · go_wp2
      go_end0
      exact ⟨rfl, by have := HI.out; rw [sift_end hi first root dr hch] at this; rw [← this]; exact ⟨HR.out, hsr⟩⟩
    · obtain ⟨c1, hc1⟩ : ∃ c1, c1 = 2 * root + 1 := ⟨_, rfl⟩
      go_upto_region 1 with fail
      go_cut [9] (fun v wx => v = .int .i64 (c1 : Int) ∧ wx = wr)
      case first =>
        go_wp2
        go_meet
        exact ⟨by congr 1; omega, rfl⟩
      case rest =>
        obtain ⟨rfl, rfl⟩ := hcut
        rename World => wr
        have hc1i : (c1 : Int) = 2 * (root : Int) + 1 := by omega
        have HC1 := Lib.hid hc1
        have hr1 : root < c1 := by omega
        have hc1h : c1 < hi := by omega
        by_cases hlast : c1 + 1 < hi
        · have hda : decide ((c1 : Int) + 1 < (hi : Int)) = true := decide_eq_true (by omega)
          cases hlv : ltW dr[first + c1]! dr[first + c1 + 1]! with
          | true =>
            have hcc : (c1 + 1 = 2 * root + 2 ∧ 2 * root + 1 + 1 < hi ∧ ltW dr[first + (2 * root + 1)]! dr[first + (2 * root + 1) + 1]! = true) ∨ (c1 + 1 = 2 * root + 1 ∧ (2 * root + 1 + 1 < hi → ltW dr[first + (2 * root + 1)]! dr[first + (2 * root + 1) + 1]! = false)) := .inl ⟨by omega, by omega, by rw [← hc1]; exact hlv⟩
            clear hc1i hc1
            obtain ⟨ni, hni⟩ : ∃ ni, ni = first + c1 := ⟨_, rfl⟩
            obtain ⟨nj, hnj⟩ : ∃ nj, nj = first + c1 + 1 := ⟨_, rfl⟩
            obtain ⟨vx, hvx⟩ : ∃ vx, dr[ni]! = vx := ⟨_, rfl⟩
            obtain ⟨vy, hvy⟩ : ∃ vy, dr[nj]! = vy := ⟨_, rfl⟩
            have l0 := HR.out.cl ni (by omega)
            have l1 := HR.out.cl nj (by omega)
            have hi1 : ((first : Int) + (c1 : Int)).toNat = ni := by omega
            have hi2 : (0 : Int) ≤ (first : Int) + (c1 : Int) := by omega
            have hi3 : (first : Int) + (c1 : Int) < (n : Int) := by omega
            have hi4 : IntKind.i64.wrap ((first : Int) + (c1 : Int)) = (first : Int) + (c1 : Int) := by rw [IntKind.wrap_i64]; omega
            have hj1 : ((first : Int) + (c1 : Int) + 1).toNat = nj := by omega
            have hj2 : (0 : Int) ≤ (first : Int) + (c1 : Int) + 1 := by omega
            have hj3 : (first : Int) + (c1 : Int) + 1 < (n : Int) := by omega
            have hj4 : IntKind.i64.wrap ((first : Int) + (c1 : Int) + 1) = (first : Int) + (c1 : Int) + 1 := by rw [IntKind.wrap_i64]; omega
            rw [hvx] at l0
            rw [hvy] at l1
            have hlt : ltW vx vy = true := by rw [← hvx, ← hvy, hni, hnj]; exact hlv
            clear hvx hvy hni hnj
            go_wp2_with fail
            go_quiet ((go_at_call 56; exact Calls.still (less_w _ _ _ hlt _)))
            have HR2 := Lib.hid (HR.out.drewN nq)
            clear l0 l1 hlt HR hi1 hi2 hi3 hi4 hj1 hj2 hj3 hj4
            rename Hid (Ro _ _ _ _ _) => HR
            generalize wr.drewN nq = wq0 at *
            go_wp2_with fail
            cases hl2 : ltW dr[first + root]! dr[first + (c1 + 1)]! with
            | false =>
              have HN := Lib.hid (sift_stop hi first root ((c1 + 1)) dr hch hcc hl2)
              obtain ⟨ni, hni⟩ : ∃ ni, ni = first + root := ⟨_, rfl⟩
              obtain ⟨nj, hnj⟩ : ∃ nj, nj = first + (c1 + 1) := ⟨_, rfl⟩
              obtain ⟨vx, hvx⟩ : ∃ vx, dr[ni]! = vx := ⟨_, rfl⟩
              obtain ⟨vy, hvy⟩ : ∃ vy, dr[nj]! = vy := ⟨_, rfl⟩
              have l0 := HR.out.cl ni (by omega)
              have l1 := HR.out.cl nj (by omega)
              have hi1 : ((first : Int) + (root : Int)).toNat = ni := by omega
              have hi2 : (0 : Int) ≤ (first : Int) + (root : Int) := by omega
              have hi3 : (first : Int) + (root : Int) < (n : Int) := by omega
              have hi4 : IntKind.i64.wrap ((first : Int) + (root : Int)) = (first : Int) + (root : Int) := by rw [IntKind.wrap_i64]; omega
              have hj1 : ((first : Int) + ((c1 : Int) + 1)).toNat = nj := by omega
              have hj2 : (0 : Int) ≤ (first : Int) + ((c1 : Int) + 1) := by omega
              have hj3 : (first : Int) + ((c1 : Int) + 1) < (n : Int) := by omega
              have hj4 : IntKind.i64.wrap ((first : Int) + ((c1 : Int) + 1)) = (first : Int) + ((c1 : Int) + 1) := by rw [IntKind.wrap_i64]; omega
              rw [hvx] at l0
              rw [hvy] at l1
              have hlt : ltW vx vy = false := by rw [← hvx, ← hvy, hni, hnj]; exact hl2
              clear hvx hvy hni hnj
              go_wp2_with fail
              go_quiet ((go_at_call 56; exact Calls.still (less_w _ _ _ hlt _)))
              have HR2 := Lib.hid (HR.out.drewN nq)
              clear l0 l1 hlt HR hi1 hi2 hi3 hi4 hj1 hj2 hj3 hj4
              rename Hid (Ro _ _ _ _ _) => HR
              generalize wq0.drewN nq = wq1 at *
              go_wp2
              refine bodyPost_ret (results_none rfl _ _ _) rfl ?_
              exact ⟨rfl, by have := HI.out; rw [HN.out] at this; rw [← this]; exact ⟨HR.out, hsr⟩⟩
            | true =>
              have HN := Lib.hid (sift_go hi first root ((c1 + 1)) dr hch hcc hl2)
              obtain ⟨ni, hni⟩ : ∃ ni, ni = first + root := ⟨_, rfl⟩
              obtain ⟨nj, hnj⟩ : ∃ nj, nj = first + (c1 + 1) := ⟨_, rfl⟩
              obtain ⟨vx, hvx⟩ : ∃ vx, dr[ni]! = vx := ⟨_, rfl⟩
              obtain ⟨vy, hvy⟩ : ∃ vy, dr[nj]! = vy := ⟨_, rfl⟩
              have l0 := HR.out.cl ni (by omega)
              have l1 := HR.out.cl nj (by omega)
              have hi1 : ((first : Int) + (root : Int)).toNat = ni := by omega
              have hi2 : (0 : Int) ≤ (first : Int) + (root : Int) := by omega
              have hi3 : (first : Int) + (root : Int) < (n : Int) := by omega
              have hi4 : IntKind.i64.wrap ((first : Int) + (root : Int)) = (first : Int) + (root : Int) := by rw [IntKind.wrap_i64]; omega
              have hj1 : ((first : Int) + ((c1 : Int) + 1)).toNat = nj := by omega
              have hj2 : (0 : Int) ≤ (first : Int) + ((c1 : Int) + 1) := by omega
              have hj3 : (first : Int) + ((c1 : Int) + 1) < (n : Int) := by omega
              have hj4 : IntKind.i64.wrap ((first : Int) + ((c1 : Int) + 1)) = (first : Int) + ((c1 : Int) + 1) := by rw [IntKind.wrap_i64]; omega
              rw [hvx] at l0
              rw [hvy] at l1
              have hlt : ltW vx vy = true := by rw [← hvx, ← hvy, hni, hnj]; exact hl2
              clear hvx hvy hni hnj
              go_wp2_with fail
              go_quiet ((go_at_call 56; exact Calls.still (less_w _ _ _ hlt _)))
              have HR2 := Lib.hid (HR.out.drewN nq)
              clear l0 l1 hlt HR hi1 hi2 hi3 hi4 hj1 hj2 hj3 hj4
              rename Hid (Ro _ _ _ _ _) => HR
              generalize wq0.drewN nq = wq1 at *
              obtain ⟨ni, hni⟩ : ∃ ni, ni = first + root := ⟨_, rfl⟩
              obtain ⟨nj, hnj⟩ : ∃ nj, nj = first + (c1 + 1) := ⟨_, rfl⟩
              obtain ⟨vx, hvx⟩ : ∃ vx, dr[ni]! = vx := ⟨_, rfl⟩
              obtain ⟨vy, hvy⟩ : ∃ vy, dr[nj]! = vy := ⟨_, rfl⟩
              have l0 := HR.out.cl ni (by omega)
              have l1 := HR.out.cl nj (by omega)
              have f0 := HR.out.fr ni (by omega)
              have f1 := HR.out.fr nj (by omega)
              obtain ⟨vu, l2⟩ := HR.out.st ni nj (by omega) (by omega) (.int .u64 (vy : Int))
              have hsw := HR.out.swap ni nj vx vy (by omega) (by omega) hvx hvy
              obtain ⟨dq, hdq⟩ : ∃ dq, swp dr ni nj = dq := ⟨_, rfl⟩
              rw [hdq] at hsw
              have hsz : dq.size = n := by rw [← hdq, size_swp]; omega
              have HDQ : Hid (swp dr (first + root) (first + (c1 + 1)) = dq) := Lib.hid (by rw [← hdq, hni, hnj])
              rw [hvx] at l0
              rw [hvy] at l1
              have hi1 : ((first : Int) + (root : Int)).toNat = ni := by omega
              have hi2 : (0 : Int) ≤ (first : Int) + (root : Int) := by omega
              have hi3 : (first : Int) + (root : Int) < (n : Int) := by omega
              have hi4 : IntKind.i64.wrap ((first : Int) + (root : Int)) = (first : Int) + (root : Int) := by rw [IntKind.wrap_i64]; omega
              have hj1 : ((first : Int) + ((c1 : Int) + 1)).toNat = nj := by omega
              have hj2 : (0 : Int) ≤ (first : Int) + ((c1 : Int) + 1) := by omega
              have hj3 : (first : Int) + ((c1 : Int) + 1) < (n : Int) := by omega
              have hj4 : IntKind.i64.wrap ((first : Int) + ((c1 : Int) + 1)) = (first : Int) + ((c1 : Int) + 1) := by rw [IntKind.wrap_i64]; omega
              have HSW := Lib.hid hsw
              clear hvx hvy HR hni hnj hsw hdq
              have mixed : Try.prog.follows .mixedOrders = true := by kernel_rfl
              go_wp2_with fail
              go_big_region_o
              clear mixed
              clear l0 l1 l2 f0 f1 hi1 hi2 hi3 hi4 hj1 hj2 hj3 hj4
              rename Hid (Ro _ _ _ _ _) => HR
              go_wp2
              go_roundw
              case rel => exact ⟨(c1 + 1), dq, by omega, by first | rfl | go_num, hsz, HR.out, by rw [← HDQ.out, ← HN.out]; exact HI.out⟩
              case measure => simp [intOf] <;> omega
          | false =>
            have hcc : (c1 = 2 * root + 2 ∧ 2 * root + 1 + 1 < hi ∧ ltW dr[first + (2 * root + 1)]! dr[first + (2 * root + 1) + 1]! = true) ∨ (c1 = 2 * root + 1 ∧ (2 * root + 1 + 1 < hi → ltW dr[first + (2 * root + 1)]! dr[first + (2 * root + 1) + 1]! = false)) := .inr ⟨hc1, fun _ => by rw [← hc1]; exact hlv⟩
            clear hc1i hc1
            obtain ⟨ni, hni⟩ : ∃ ni, ni = first + c1 := ⟨_, rfl⟩
            obtain ⟨nj, hnj⟩ : ∃ nj, nj = first + c1 + 1 := ⟨_, rfl⟩
            obtain ⟨vx, hvx⟩ : ∃ vx, dr[ni]! = vx := ⟨_, rfl⟩
            obtain ⟨vy, hvy⟩ : ∃ vy, dr[nj]! = vy := ⟨_, rfl⟩
            have l0 := HR.out.cl ni (by omega)
            have l1 := HR.out.cl nj (by omega)
            have hi1 : ((first : Int) + (c1 : Int)).toNat = ni := by omega
            have hi2 : (0 : Int) ≤ (first : Int) + (c1 : Int) := by omega
            have hi3 : (first : Int) + (c1 : Int) < (n : Int) := by omega
            have hi4 : IntKind.i64.wrap ((first : Int) + (c1 : Int)) = (first : Int) + (c1 : Int) := by rw [IntKind.wrap_i64]; omega
            have hj1 : ((first : Int) + (c1 : Int) + 1).toNat = nj := by omega
            have hj2 : (0 : Int) ≤ (first : Int) + (c1 : Int) + 1 := by omega
            have hj3 : (first : Int) + (c1 : Int) + 1 < (n : Int) := by omega
            have hj4 : IntKind.i64.wrap ((first : Int) + (c1 : Int) + 1) = (first : Int) + (c1 : Int) + 1 := by rw [IntKind.wrap_i64]; omega
            rw [hvx] at l0
            rw [hvy] at l1
            have hlt : ltW vx vy = false := by rw [← hvx, ← hvy, hni, hnj]; exact hlv
            clear hvx hvy hni hnj
            go_wp2_with fail
            go_quiet ((go_at_call 56; exact Calls.still (less_w _ _ _ hlt _)))
            have HR2 := Lib.hid (HR.out.drewN nq)
            clear l0 l1 hlt HR hi1 hi2 hi3 hi4 hj1 hj2 hj3 hj4
            rename Hid (Ro _ _ _ _ _) => HR
            generalize wr.drewN nq = wq0 at *
            go_wp2_with fail
            cases hl2 : ltW dr[first + root]! dr[first + c1]! with
            | false =>
              have HN := Lib.hid (sift_stop hi first root (c1) dr hch hcc hl2)
              obtain ⟨ni, hni⟩ : ∃ ni, ni = first + root := ⟨_, rfl⟩
              obtain ⟨nj, hnj⟩ : ∃ nj, nj = first + c1 := ⟨_, rfl⟩
              obtain ⟨vx, hvx⟩ : ∃ vx, dr[ni]! = vx := ⟨_, rfl⟩
              obtain ⟨vy, hvy⟩ : ∃ vy, dr[nj]! = vy := ⟨_, rfl⟩
              have l0 := HR.out.cl ni (by omega)
              have l1 := HR.out.cl nj (by omega)
              have hi1 : ((first : Int) + (root : Int)).toNat = ni := by omega
              have hi2 : (0 : Int) ≤ (first : Int) + (root : Int) := by omega
              have hi3 : (first : Int) + (root : Int) < (n : Int) := by omega
              have hi4 : IntKind.i64.wrap ((first : Int) + (root : Int)) = (first : Int) + (root : Int) := by rw [IntKind.wrap_i64]; omega
              have hj1 : ((first : Int) + (c1 : Int)).toNat = nj := by omega
              have hj2 : (0 : Int) ≤ (first : Int) + (c1 : Int) := by omega
              have hj3 : (first : Int) + (c1 : Int) < (n : Int) := by omega
              have hj4 : IntKind.i64.wrap ((first : Int) + (c1 : Int)) = (first : Int) + (c1 : Int) := by rw [IntKind.wrap_i64]; omega
              rw [hvx] at l0
              rw [hvy] at l1
              have hlt : ltW vx vy = false := by rw [← hvx, ← hvy, hni, hnj]; exact hl2
              clear hvx hvy hni hnj
              go_wp2_with fail
              go_quiet ((go_at_call 56; exact Calls.still (less_w _ _ _ hlt _)))
              have HR2 := Lib.hid (HR.out.drewN nq)
              clear l0 l1 hlt HR hi1 hi2 hi3 hi4 hj1 hj2 hj3 hj4
              rename Hid (Ro _ _ _ _ _) => HR
              generalize wq0.drewN nq = wq1 at *
              go_wp2
              refine bodyPost_ret (results_none rfl _ _ _) rfl ?_
              exact ⟨rfl, by have := HI.out; rw [HN.out] at this; rw [← this]; exact ⟨HR.out, hsr⟩⟩
            | true =>
              have HN := Lib.hid (sift_go hi first root (c1) dr hch hcc hl2)
              obtain ⟨ni, hni⟩ : ∃ ni, ni = first + root := ⟨_, rfl⟩
              obtain ⟨nj, hnj⟩ : ∃ nj, nj = first + c1 := ⟨_, rfl⟩
              obtain ⟨vx, hvx⟩ : ∃ vx, dr[ni]! = vx := ⟨_, rfl⟩
              obtain ⟨vy, hvy⟩ : ∃ vy, dr[nj]! = vy := ⟨_, rfl⟩
              have l0 := HR.out.cl ni (by omega)
              have l1 := HR.out.cl nj (by omega)
              have hi1 : ((first : Int) + (root : Int)).toNat = ni := by omega
              have hi2 : (0 : Int) ≤ (first : Int) + (root : Int) := by omega
              have hi3 : (first : Int) + (root : Int) < (n : Int) := by omega
              have hi4 : IntKind.i64.wrap ((first : Int) + (root : Int)) = (first : Int) + (root : Int) := by rw [IntKind.wrap_i64]; omega
              have hj1 : ((first : Int) + (c1 : Int)).toNat = nj := by omega
              have hj2 : (0 : Int) ≤ (first : Int) + (c1 : Int) := by omega
              have hj3 : (first : Int) + (c1 : Int) < (n : Int) := by omega
              have hj4 : IntKind.i64.wrap ((first : Int) + (c1 : Int)) = (first : Int) + (c1 : Int) := by rw [IntKind.wrap_i64]; omega
              rw [hvx] at l0
              rw [hvy] at l1
              have hlt : ltW vx vy = true := by rw [← hvx, ← hvy, hni, hnj]; exact hl2
              clear hvx hvy hni hnj
              go_wp2_with fail
              go_quiet ((go_at_call 56; exact Calls.still (less_w _ _ _ hlt _)))
              have HR2 := Lib.hid (HR.out.drewN nq)
              clear l0 l1 hlt HR hi1 hi2 hi3 hi4 hj1 hj2 hj3 hj4
              rename Hid (Ro _ _ _ _ _) => HR
              generalize wq0.drewN nq = wq1 at *
              obtain ⟨ni, hni⟩ : ∃ ni, ni = first + root := ⟨_, rfl⟩
              obtain ⟨nj, hnj⟩ : ∃ nj, nj = first + c1 := ⟨_, rfl⟩
              obtain ⟨vx, hvx⟩ : ∃ vx, dr[ni]! = vx := ⟨_, rfl⟩
              obtain ⟨vy, hvy⟩ : ∃ vy, dr[nj]! = vy := ⟨_, rfl⟩
              have l0 := HR.out.cl ni (by omega)
              have l1 := HR.out.cl nj (by omega)
              have f0 := HR.out.fr ni (by omega)
              have f1 := HR.out.fr nj (by omega)
              obtain ⟨vu, l2⟩ := HR.out.st ni nj (by omega) (by omega) (.int .u64 (vy : Int))
              have hsw := HR.out.swap ni nj vx vy (by omega) (by omega) hvx hvy
              obtain ⟨dq, hdq⟩ : ∃ dq, swp dr ni nj = dq := ⟨_, rfl⟩
              rw [hdq] at hsw
              have hsz : dq.size = n := by rw [← hdq, size_swp]; omega
              have HDQ : Hid (swp dr (first + root) (first + c1) = dq) := Lib.hid (by rw [← hdq, hni, hnj])
              rw [hvx] at l0
              rw [hvy] at l1
              have hi1 : ((first : Int) + (root : Int)).toNat = ni := by omega
              have hi2 : (0 : Int) ≤ (first : Int) + (root : Int) := by omega
              have hi3 : (first : Int) + (root : Int) < (n : Int) := by omega
              have hi4 : IntKind.i64.wrap ((first : Int) + (root : Int)) = (first : Int) + (root : Int) := by rw [IntKind.wrap_i64]; omega
              have hj1 : ((first : Int) + (c1 : Int)).toNat = nj := by omega
              have hj2 : (0 : Int) ≤ (first : Int) + (c1 : Int) := by omega
              have hj3 : (first : Int) + (c1 : Int) < (n : Int) := by omega
              have hj4 : IntKind.i64.wrap ((first : Int) + (c1 : Int)) = (first : Int) + (c1 : Int) := by rw [IntKind.wrap_i64]; omega
              have HSW := Lib.hid hsw
              clear hvx hvy HR hni hnj hsw hdq
              have mixed : Try.prog.follows .mixedOrders = true := by kernel_rfl
              go_wp2_with fail
              go_big_region_o
              clear mixed
              clear l0 l1 l2 f0 f1 hi1 hi2 hi3 hi4 hj1 hj2 hj3 hj4
              rename Hid (Ro _ _ _ _ _) => HR
              go_wp2
              go_roundw
              case rel => exact ⟨c1, dq, by omega, by first | rfl | go_num, hsz, HR.out, by rw [← HDQ.out, ← HN.out]; exact HI.out⟩
              case measure => simp [intOf] <;> omega
        · have hda : decide ((c1 : Int) + 1 < (hi : Int)) = false := decide_eq_false (by omega)
          have hcc : (c1 = 2 * root + 2 ∧ 2 * root + 1 + 1 < hi ∧ ltW dr[first + (2 * root + 1)]! dr[first + (2 * root + 1) + 1]! = true) ∨ (c1 = 2 * root + 1 ∧ (2 * root + 1 + 1 < hi → ltW dr[first + (2 * root + 1)]! dr[first + (2 * root + 1) + 1]! = false)) := .inr ⟨hc1, fun h => by omega⟩
          clear hc1i hc1
          go_wp2_with fail
          go_quiet (fail)
          have HR2 := Lib.hid (HR.out.drewN nq)
          clear HR
          rename Hid (Ro _ _ _ _ _) => HR
          generalize wr.drewN nq = wq0 at *
          go_wp2_with fail
          cases hl2 : ltW dr[first + root]! dr[first + c1]! with
          | false =>
            have HN := Lib.hid (sift_stop hi first root (c1) dr hch hcc hl2)
            obtain ⟨ni, hni⟩ : ∃ ni, ni = first + root := ⟨_, rfl⟩
            obtain ⟨nj, hnj⟩ : ∃ nj, nj = first + c1 := ⟨_, rfl⟩
            obtain ⟨vx, hvx⟩ : ∃ vx, dr[ni]! = vx := ⟨_, rfl⟩
            obtain ⟨vy, hvy⟩ : ∃ vy, dr[nj]! = vy := ⟨_, rfl⟩
            have l0 := HR.out.cl ni (by omega)
            have l1 := HR.out.cl nj (by omega)
            have hi1 : ((first : Int) + (root : Int)).toNat = ni := by omega
            have hi2 : (0 : Int) ≤ (first : Int) + (root : Int) := by omega
            have hi3 : (first : Int) + (root : Int) < (n : Int) := by omega
            have hi4 : IntKind.i64.wrap ((first : Int) + (root : Int)) = (first : Int) + (root : Int) := by rw [IntKind.wrap_i64]; omega
            have hj1 : ((first : Int) + (c1 : Int)).toNat = nj := by omega
            have hj2 : (0 : Int) ≤ (first : Int) + (c1 : Int) := by omega
            have hj3 : (first : Int) + (c1 : Int) < (n : Int) := by omega
            have hj4 : IntKind.i64.wrap ((first : Int) + (c1 : Int)) = (first : Int) + (c1 : Int) := by rw [IntKind.wrap_i64]; omega
            rw [hvx] at l0
            rw [hvy] at l1
            have hlt : ltW vx vy = false := by rw [← hvx, ← hvy, hni, hnj]; exact hl2
            clear hvx hvy hni hnj
            go_wp2_with fail
            go_quiet ((go_at_call 56; exact Calls.still (less_w _ _ _ hlt _)))
            have HR2 := Lib.hid (HR.out.drewN nq)
            clear l0 l1 hlt HR hi1 hi2 hi3 hi4 hj1 hj2 hj3 hj4
            rename Hid (Ro _ _ _ _ _) => HR
            generalize wq0.drewN nq = wq1 at *
            go_wp2
            refine bodyPost_ret (results_none rfl _ _ _) rfl ?_
            exact ⟨rfl, by have := HI.out; rw [HN.out] at this; rw [← this]; exact ⟨HR.out, hsr⟩⟩
          | true =>
            have HN := Lib.hid (sift_go hi first root (c1) dr hch hcc hl2)
            obtain ⟨ni, hni⟩ : ∃ ni, ni = first + root := ⟨_, rfl⟩
            obtain ⟨nj, hnj⟩ : ∃ nj, nj = first + c1 := ⟨_, rfl⟩
            obtain ⟨vx, hvx⟩ : ∃ vx, dr[ni]! = vx := ⟨_, rfl⟩
            obtain ⟨vy, hvy⟩ : ∃ vy, dr[nj]! = vy := ⟨_, rfl⟩
            have l0 := HR.out.cl ni (by omega)
            have l1 := HR.out.cl nj (by omega)
            have hi1 : ((first : Int) + (root : Int)).toNat = ni := by omega
            have hi2 : (0 : Int) ≤ (first : Int) + (root : Int) := by omega
            have hi3 : (first : Int) + (root : Int) < (n : Int) := by omega
            have hi4 : IntKind.i64.wrap ((first : Int) + (root : Int)) = (first : Int) + (root : Int) := by rw [IntKind.wrap_i64]; omega
            have hj1 : ((first : Int) + (c1 : Int)).toNat = nj := by omega
            have hj2 : (0 : Int) ≤ (first : Int) + (c1 : Int) := by omega
            have hj3 : (first : Int) + (c1 : Int) < (n : Int) := by omega
            have hj4 : IntKind.i64.wrap ((first : Int) + (c1 : Int)) = (first : Int) + (c1 : Int) := by rw [IntKind.wrap_i64]; omega
            rw [hvx] at l0
            rw [hvy] at l1
            have hlt : ltW vx vy = true := by rw [← hvx, ← hvy, hni, hnj]; exact hl2
            clear hvx hvy hni hnj
            go_wp2_with fail
            go_quiet ((go_at_call 56; exact Calls.still (less_w _ _ _ hlt _)))
            have HR2 := Lib.hid (HR.out.drewN nq)
            clear l0 l1 hlt HR hi1 hi2 hi3 hi4 hj1 hj2 hj3 hj4
            rename Hid (Ro _ _ _ _ _) => HR
            generalize wq0.drewN nq = wq1 at *
            obtain ⟨ni, hni⟩ : ∃ ni, ni = first + root := ⟨_, rfl⟩
            obtain ⟨nj, hnj⟩ : ∃ nj, nj = first + c1 := ⟨_, rfl⟩
            obtain ⟨vx, hvx⟩ : ∃ vx, dr[ni]! = vx := ⟨_, rfl⟩
            obtain ⟨vy, hvy⟩ : ∃ vy, dr[nj]! = vy := ⟨_, rfl⟩
            have l0 := HR.out.cl ni (by omega)
            have l1 := HR.out.cl nj (by omega)
            have f0 := HR.out.fr ni (by omega)
            have f1 := HR.out.fr nj (by omega)
            obtain ⟨vu, l2⟩ := HR.out.st ni nj (by omega) (by omega) (.int .u64 (vy : Int))
            have hsw := HR.out.swap ni nj vx vy (by omega) (by omega) hvx hvy
            obtain ⟨dq, hdq⟩ : ∃ dq, swp dr ni nj = dq := ⟨_, rfl⟩
            rw [hdq] at hsw
            have hsz : dq.size = n := by rw [← hdq, size_swp]; omega
            have HDQ : Hid (swp dr (first + root) (first + c1) = dq) := Lib.hid (by rw [← hdq, hni, hnj])
            rw [hvx] at l0
            rw [hvy] at l1
            have hi1 : ((first : Int) + (root : Int)).toNat = ni := by omega
            have hi2 : (0 : Int) ≤ (first : Int) + (root : Int) := by omega
            have hi3 : (first : Int) + (root : Int) < (n : Int) := by omega
            have hi4 : IntKind.i64.wrap ((first : Int) + (root : Int)) = (first : Int) + (root : Int) := by rw [IntKind.wrap_i64]; omega
            have hj1 : ((first : Int) + (c1 : Int)).toNat = nj := by omega
            have hj2 : (0 : Int) ≤ (first : Int) + (c1 : Int) := by omega
            have hj3 : (first : Int) + (c1 : Int) < (n : Int) := by omega
            have hj4 : IntKind.i64.wrap ((first : Int) + (c1 : Int)) = (first : Int) + (c1 : Int) := by rw [IntKind.wrap_i64]; omega
            have HSW := Lib.hid hsw
            clear hvx hvy HR hni hnj hsw hdq
            have mixed : Try.prog.follows .mixedOrders = true := by kernel_rfl
            go_wp2_with fail
            go_big_region_o
            clear mixed
            clear l0 l1 l2 f0 f1 hi1 hi2 hi3 hi4 hj1 hj2 hj3 hj4
            rename Hid (Ro _ _ _ _ _) => HR
            go_wp2
            go_roundw
            case rel => exact ⟨c1, dq, by omega, by first | rfl | go_num, hsz, HR.out, by rw [← HDQ.out, ← HN.out]; exact HI.out⟩
            case measure => simp [intOf] <;> omega

end Go.Proofs.Ytddjggckmmdicaa
