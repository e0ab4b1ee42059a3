/-
  The library's partitionEqual on a part of a row of words, as the library's plain text says it. Condition: rows of fewer than 2^61 words.
-/
import Derived.Test.YtddjggckmmdicaaSrtHeap
import Derived.Deep.CutBlock
namespace Go.Proofs.Ytddjggckmmdicaa
open Go.RowKit Go.Deep
open Go.Sort (swp size_swp scanUp scanDown partEqLoop partEqLoop_eq partitionEqual)
set_option linter.unusedVariables false

theorem su_go (p : Nat → Bool) (d : Array Nat) (j i : Nat) (h : i ≤ j) (hp : p d[i]! = true) : scanUp p d j i = scanUp p d j (i + 1) := by
  rw [scanUp, if_pos (by rw [hp]; simp [h])]
theorem su_end (p : Nat → Bool) (d : Array Nat) (j i : Nat) (h : ¬ i ≤ j ∨ p d[i]! = false) : scanUp p d j i = i := by
  rw [scanUp, if_neg]
  rcases h with h | h
  · simp [h]
  · rw [h]; simp
theorem sd_go (p : Nat → Bool) (d : Array Nat) (i j : Nat) (h : i ≤ j) (h0 : 0 < j) (hp : p d[j]! = true) : scanDown p d i j = scanDown p d i (j - 1) := by
  obtain ⟨k, rfl⟩ : ∃ k, j = k + 1 := ⟨j - 1, by omega⟩
  rw [scanDown, if_pos (by rw [hp]; simp [h])]; rfl
theorem sd_end (p : Nat → Bool) (d : Array Nat) (i j : Nat) (h : ¬ i ≤ j ∨ p d[j]! = false) : scanDown p d i j = j := by
  cases j with
  | zero => rw [scanDown]
  | succ j =>
    rw [scanDown, if_neg]
    rcases h with h | h
    · simp [h]
    · rw [h]; simp
theorem pe_break (a i j : Nat) (d : Array Nat) {i2 j2 : Nat} (hi : scanUp (fun x => !ltW d[a]! x) d j i = i2) (hj : scanDown (fun x => ltW d[a]! x) d i2 j = j2) (h : i2 > j2) : partEqLoop ltW a i j d = (i2, d) := by
  rw [partEqLoop_eq, hi, hj, if_pos h]
theorem pe_go (a i j : Nat) (d : Array Nat) {i2 j2 : Nat} (hi : scanUp (fun x => !ltW d[a]! x) d j i = i2) (hj : scanDown (fun x => ltW d[a]! x) d i2 j = j2) (h : ¬ i2 > j2) : partEqLoop ltW a i j d = partEqLoop ltW a (i2 + 1) (j2 - 1) (swp d i2 j2) := by
  rw [partEqLoop_eq, hi, hj, if_neg h]

set_option maxHeartbeats 8000000 in
theorem srt_parteq (g off n cap a b p : Nat) (d : Array Nat) (w0 w : World) (hS : Ro w0 w g off d) (hn : d.size = n) (hn2 : n < 2305843009213693952) (hap : a ≤ p) (hpb : p < b) (hb : b ≤ n) (m : Nat) (D : Array Nat) (hk : partitionEqual ltW d a b p = (m, D)) :
    Calls Try.prog 57 #[.slice (some ⟨g, off, none⟩) n cap, .int .i64 (a : Int), .int .i64 (b : Int), .int .i64 (p : Int)] w fun e w' => e = .returned (.int .i64 (m : Int)) ∧ Ro w0 w' g off D ∧ D.size = n ∧ a < m ∧ m ≤ b := by
  have HR := Lib.hid hS
  have hk2 : partEqLoop ltW a (a + 1) (b - 1) (swp d a p) = (m, D) := hk
  have HK := Lib.hid hk2
  clear hS hk hk2
  go_enter Try.func57, Try.ntmps57
  go_wp2_with fail
  obtain ⟨ni, hni⟩ : ∃ ni, ni = a := ⟨_, rfl⟩
  obtain ⟨nj, hnj⟩ : ∃ nj, nj = p := ⟨_, rfl⟩
  obtain ⟨vx, hvx⟩ : ∃ vx, d[ni]! = vx := ⟨_, rfl⟩
  obtain ⟨vy, hvy⟩ : ∃ vy, d[nj]! = vy := ⟨_, rfl⟩
  have l0 := HR.out.cl ni (by omega)
  have l1 := HR.out.cl nj (by omega)
  have f0 := HR.out.fr ni (by omega)
  have f1 := HR.out.fr nj (by omega)
  obtain ⟨vu, l2⟩ := HR.out.st ni nj (by omega) (by omega) (.int .u64 (vy : Int))
  have hsw := HR.out.swap ni nj vx vy (by omega) (by omega) hvx hvy
  obtain ⟨dq, hdq⟩ : ∃ dq, swp d ni nj = dq := ⟨_, rfl⟩
  rw [hdq] at hsw
  have hsz : dq.size = n := by rw [← hdq, size_swp]; omega
  have HDQ : Hid (swp d (a) (p) = dq) := Lib.hid (by rw [← hdq, hni, hnj])
  rw [hvx] at l0
  rw [hvy] at l1
  have hi1 : ((a : Int)).toNat = ni := by omega
  have hi2 : (0 : Int) ≤ (a : Int) := by omega
  have hi3 : (a : Int) < (n : Int) := by omega
  have hi4 : IntKind.i64.wrap ((a : Int)) = (a : Int) := by rw [IntKind.wrap_i64]; omega
  have hj1 : ((p : Int)).toNat = nj := by omega
  have hj2 : (0 : Int) ≤ (p : Int) := by omega
  have hj3 : (p : Int) < (n : Int) := by omega
  have hj4 : IntKind.i64.wrap ((p : Int)) = (p : Int) := by rw [IntKind.wrap_i64]; omega
  have HSW := Lib.hid hsw
  clear hvx hvy HR hni hnj hsw hdq
  have mixed : Try.prog.follows .mixedOrders = true := by kernel_rfl
  go_wp2_with fail
  go_big_region_o
  clear mixed
  clear l0 l1 l2 f0 f1 hi1 hi2 hi3 hi4 hj1 hj2 hj3 hj4
  rename Hid (Ro _ _ _ _ _) => HR
  go_wp2_with fail
  rw [HDQ.out] at HK
  go_loopw [9, 10] (fun u v wr => ∃ (i j : Nat) (di : Array Nat), u = .int .i64 (i : Int) ∧ v = .int .i64 (j : Int) ∧ a < i ∧ i ≤ b ∧ i ≤ j + 2 ∧ a ≤ j ∧ j < b ∧ di.size = n ∧ Ro w0 wr g off di ∧ partEqLoop ltW a i j di = (m, D)) (fun u v _ => ((intOf v) - (intOf u) + 2).toNat)
  case atStart => exact ⟨a + 1, b - 1, dq, by go_num, by go_num, by omega, by omega, by omega, by omega, by omega, hsz, HR.out, HK.out⟩
  case round =>
    obtain ⟨i, j, di, rfl, rfl, hai, hib, hij, haj, hjb, hsi, hR, hK⟩ := hrel
    clear HR HK HDQ hsz
    have HR := Lib.hid hR
    have HK := Lib.hid hK
    clear hR hK
    go_upto_block 2 with fail
    go_cut [9] (fun v wx => ∃ i2 : Nat, v = .int .i64 (i2 : Int) ∧ scanUp (fun x => !ltW di[a]! x) di j i = i2 ∧ i ≤ i2 ∧ (i2 = i ∨ i2 ≤ j + 1) ∧ Ro w0 wx g off di)
    case first =>
      go_wp2
      go_loopw [9] (fun u wr => ∃ k : Nat, u = .int .i64 (k : Int) ∧ i ≤ k ∧ (k = i ∨ k ≤ j + 1) ∧ Ro w0 wr g off di ∧ scanUp (fun x => !ltW di[a]! x) di j i = scanUp (fun x => !ltW di[a]! x) di j k) (fun u _ => j + 1 - (intOf u).toNat)
      case atStart => exact ⟨i, rfl, by omega, .inl rfl, HR.out, rfl⟩
      case round =>
        obtain ⟨k, rfl, hik, hkj, hR, hU⟩ := hrel
        have HK := Lib.hid hkj
        clear HR hkj
        have HR := Lib.hid hR
        have HU := Lib.hid hU
        clear hR hU
        rename World => wr
        by_cases hkk : k ≤ j
        · have hda : decide ((k : Int) ≤ (j : Int)) = true := decide_eq_true (by omega)
          cases hlv : ltW di[a]! di[k]! with
          | false =>
            have HN := Lib.hid (su_go (fun x => !ltW di[a]! x) di j k hkk (by simp [hlv]))
            obtain ⟨ni, hni⟩ : ∃ ni, ni = a := ⟨_, rfl⟩
            obtain ⟨nj, hnj⟩ : ∃ nj, nj = k := ⟨_, rfl⟩
            obtain ⟨vx, hvx⟩ : ∃ vx, di[ni]! = vx := ⟨_, rfl⟩
            obtain ⟨vy, hvy⟩ : ∃ vy, di[nj]! = vy := ⟨_, rfl⟩
            have l0 := HR.out.cl ni (by omega)
            have l1 := HR.out.cl nj (by omega)
            have hi1 : ((a : Int)).toNat = ni := by omega
            have hi2 : (0 : Int) ≤ (a : Int) := by omega
            have hi3 : (a : Int) < (n : Int) := by omega
            have hi4 : IntKind.i64.wrap ((a : Int)) = (a : Int) := by rw [IntKind.wrap_i64]; omega
            have hj1 : ((k : Int)).toNat = nj := by omega
            have hj2 : (0 : Int) ≤ (k : Int) := by omega
            have hj3 : (k : Int) < (n : Int) := by omega
            have hj4 : IntKind.i64.wrap ((k : Int)) = (k : Int) := by rw [IntKind.wrap_i64]; omega
            rw [hvx] at l0
            rw [hvy] at l1
            have hlt : ltW vx vy = false := by rw [← hvx, ← hvy, hni, hnj]; exact hlv
            clear hvx hvy hni hnj
            go_wp2_with fail
            go_quiet ((go_at_call 56; exact Calls.still (less_w _ _ _ hlt _)))
            have HR2 := Lib.hid (HR.out.drewN nq)
            clear l0 l1 hlt HR hi1 hi2 hi3 hi4 hj1 hj2 hj3 hj4
            rename Hid (Ro _ _ _ _ _) => HR
            generalize wr.drewN nq = wq0 at *
            go_wp2
            go_roundw
            case rel => exact ⟨k + 1, by go_num, by omega, .inr (by omega), HR.out, by rw [HU.out, HN.out]⟩
            case measure => simp [intOf] <;> omega
          | true =>
            have HN := Lib.hid (su_end (fun x => !ltW di[a]! x) di j k (.inr (by simp [hlv])))
            obtain ⟨ni, hni⟩ : ∃ ni, ni = a := ⟨_, rfl⟩
            obtain ⟨nj, hnj⟩ : ∃ nj, nj = k := ⟨_, rfl⟩
            obtain ⟨vx, hvx⟩ : ∃ vx, di[ni]! = vx := ⟨_, rfl⟩
            obtain ⟨vy, hvy⟩ : ∃ vy, di[nj]! = vy := ⟨_, rfl⟩
            have l0 := HR.out.cl ni (by omega)
            have l1 := HR.out.cl nj (by omega)
            have hi1 : ((a : Int)).toNat = ni := by omega
            have hi2 : (0 : Int) ≤ (a : Int) := by omega
            have hi3 : (a : Int) < (n : Int) := by omega
            have hi4 : IntKind.i64.wrap ((a : Int)) = (a : Int) := by rw [IntKind.wrap_i64]; omega
            have hj1 : ((k : Int)).toNat = nj := by omega
            have hj2 : (0 : Int) ≤ (k : Int) := by omega
            have hj3 : (k : Int) < (n : Int) := by omega
            have hj4 : IntKind.i64.wrap ((k : Int)) = (k : Int) := by rw [IntKind.wrap_i64]; omega
            rw [hvx] at l0
            rw [hvy] at l1
            have hlt : ltW vx vy = true := by rw [← hvx, ← hvy, hni, hnj]; exact hlv
            clear hvx hvy hni hnj
            go_wp2_with fail
            go_quiet ((go_at_call 56; exact Calls.still (less_w _ _ _ hlt _)))
            have HR2 := Lib.hid (HR.out.drewN nq)
            clear l0 l1 hlt HR hi1 hi2 hi3 hi4 hj1 hj2 hj3 hj4
            rename Hid (Ro _ _ _ _ _) => HR
            generalize wr.drewN nq = wq0 at *
            go_wp2
            go_meet
            exact ⟨k, rfl, by rw [HU.out, HN.out], hik, HK.out, HR.out⟩
        · have hda : decide ((k : Int) ≤ (j : Int)) = false := decide_eq_false (by omega)
          have HN := Lib.hid (su_end (fun x => !ltW di[a]! x) di j k (.inl hkk))
          go_wp2_with fail
          go_quiet (fail)
          go_wp2
          go_meet
          exact ⟨k, rfl, by rw [HU.out, HN.out], hik, HK.out, HR.out.drewN _⟩
    case rest =>
      obtain ⟨i2, rfl, hi2, hii, hij2, hR⟩ := hcut
      rename World => w2
      clear HR
      have HR := Lib.hid hR
      have HI2 := Lib.hid hi2
      clear hR hi2
      go_upto_block 4 with fail
      go_cut [10] (fun v wx => ∃ j2 : Nat, v = .int .i64 (j2 : Int) ∧ scanDown (fun x => ltW di[a]! x) di i2 j = j2 ∧ j2 ≤ j ∧ a ≤ j2 ∧ Ro w0 wx g off di)
      case first =>
        go_wp2
        go_loopw [10] (fun u wr => ∃ k : Nat, u = .int .i64 (k : Int) ∧ k ≤ j ∧ a ≤ k ∧ Ro w0 wr g off di ∧ scanDown (fun x => ltW di[a]! x) di i2 j = scanDown (fun x => ltW di[a]! x) di i2 k) (fun u _ => (intOf u).toNat)
        case atStart => exact ⟨j, rfl, by omega, haj, HR.out, rfl⟩
        case round =>
          obtain ⟨k, rfl, hkj, hak, hR, hU⟩ := hrel
          clear HR
          have HR := Lib.hid hR
          have HU := Lib.hid hU
          clear hR hU
          rename World => wr
          by_cases hkk : i2 ≤ k
          · have hda : decide ((i2 : Int) ≤ (k : Int)) = true := decide_eq_true (by omega)
            cases hlv : ltW di[a]! di[k]! with
            | true =>
              have HN := Lib.hid (sd_go (fun x => ltW di[a]! x) di i2 k hkk (by omega) (by simp [hlv]))
              obtain ⟨ni, hni⟩ : ∃ ni, ni = a := ⟨_, rfl⟩
              obtain ⟨nj, hnj⟩ : ∃ nj, nj = k := ⟨_, rfl⟩
              obtain ⟨vx, hvx⟩ : ∃ vx, di[ni]! = vx := ⟨_, rfl⟩
              obtain ⟨vy, hvy⟩ : ∃ vy, di[nj]! = vy := ⟨_, rfl⟩
              have l0 := HR.out.cl ni (by omega)
              have l1 := HR.out.cl nj (by omega)
              have hi1 : ((a : Int)).toNat = ni := by omega
              have hi2 : (0 : Int) ≤ (a : Int) := by omega
              have hi3 : (a : Int) < (n : Int) := by omega
              have hi4 : IntKind.i64.wrap ((a : Int)) = (a : Int) := by rw [IntKind.wrap_i64]; omega
              have hj1 : ((k : Int)).toNat = nj := by omega
              have hj2 : (0 : Int) ≤ (k : Int) := by omega
              have hj3 : (k : Int) < (n : Int) := by omega
              have hj4 : IntKind.i64.wrap ((k : Int)) = (k : Int) := by rw [IntKind.wrap_i64]; omega
              rw [hvx] at l0
              rw [hvy] at l1
              have hlt : ltW vx vy = true := by rw [← hvx, ← hvy, hni, hnj]; exact hlv
              clear hvx hvy hni hnj
              go_wp2_with fail
              go_quiet ((go_at_call 56; exact Calls.still (less_w _ _ _ hlt _)))
              have HR2 := Lib.hid (HR.out.drewN nq)
              clear l0 l1 hlt HR hi1 hi2 hi3 hi4 hj1 hj2 hj3 hj4
              rename Hid (Ro _ _ _ _ _) => HR
              generalize wr.drewN nq = wq1 at *
              go_wp2
              go_roundw
              case rel => exact ⟨k - 1, by go_num, by omega, by omega, HR.out, by rw [HU.out, HN.out]⟩
              case measure => simp [intOf] <;> omega
            | false =>
              have HN := Lib.hid (sd_end (fun x => ltW di[a]! x) di i2 k (.inr (by simp [hlv])))
              obtain ⟨ni, hni⟩ : ∃ ni, ni = a := ⟨_, rfl⟩
              obtain ⟨nj, hnj⟩ : ∃ nj, nj = k := ⟨_, rfl⟩
              obtain ⟨vx, hvx⟩ : ∃ vx, di[ni]! = vx := ⟨_, rfl⟩
              obtain ⟨vy, hvy⟩ : ∃ vy, di[nj]! = vy := ⟨_, rfl⟩
              have l0 := HR.out.cl ni (by omega)
              have l1 := HR.out.cl nj (by omega)
              have hi1 : ((a : Int)).toNat = ni := by omega
              have hi2 : (0 : Int) ≤ (a : Int) := by omega
              have hi3 : (a : Int) < (n : Int) := by omega
              have hi4 : IntKind.i64.wrap ((a : Int)) = (a : Int) := by rw [IntKind.wrap_i64]; omega
              have hj1 : ((k : Int)).toNat = nj := by omega
              have hj2 : (0 : Int) ≤ (k : Int) := by omega
              have hj3 : (k : Int) < (n : Int) := by omega
              have hj4 : IntKind.i64.wrap ((k : Int)) = (k : Int) := by rw [IntKind.wrap_i64]; omega
              rw [hvx] at l0
              rw [hvy] at l1
              have hlt : ltW vx vy = false := by rw [← hvx, ← hvy, hni, hnj]; exact hlv
              clear hvx hvy hni hnj
              go_wp2_with fail
              go_quiet ((go_at_call 56; exact Calls.still (less_w _ _ _ hlt _)))
              have HR2 := Lib.hid (HR.out.drewN nq)
              clear l0 l1 hlt HR hi1 hi2 hi3 hi4 hj1 hj2 hj3 hj4
              rename Hid (Ro _ _ _ _ _) => HR
              generalize wr.drewN nq = wq1 at *
              go_wp2
              go_meet
              exact ⟨k, rfl, by rw [HU.out, HN.out], hkj, hak, HR.out⟩
          · have hda : decide ((i2 : Int) ≤ (k : Int)) = false := decide_eq_false (by omega)
            have HN := Lib.hid (sd_end (fun x => ltW di[a]! x) di i2 k (.inl hkk))
            go_wp2_with fail
            go_quiet (fail)
            go_wp2
            go_meet
            exact ⟨k, rfl, by rw [HU.out, HN.out], hkj, hak, HR.out.drewN _⟩
      case rest =>
        obtain ⟨j2, rfl, hj2, hjj, haj2, hR⟩ := hcut
        rename World => w3
        clear HR
        have HR := Lib.hid hR
        have HJ2 := Lib.hid hj2
        clear hR hj2
        by_cases hgt : i2 > j2
        · have HE := Lib.hid (pe_break a i j di HI2.out HJ2.out hgt)
          have hgz : (i2 : Int) > (j2 : Int) := by omega
          go_wp2
          go_ret
          have hk := HE.out
          rw [HK.out] at hk
          obtain ⟨rfl, rfl⟩ := Prod.mk.inj hk
          exact ⟨rfl, HR.out, hsi, by omega, by omega⟩
        · have HE := Lib.hid (pe_go a i j di HI2.out HJ2.out hgt)
          have hgz : ¬ (i2 : Int) > (j2 : Int) := by omega
          go_wp2_with fail
          obtain ⟨ni, hni⟩ : ∃ ni, ni = i2 := ⟨_, rfl⟩
          obtain ⟨nj, hnj⟩ : ∃ nj, nj = j2 := ⟨_, rfl⟩
          obtain ⟨vx, hvx⟩ : ∃ vx, di[ni]! = vx := ⟨_, rfl⟩
          obtain ⟨vy, hvy⟩ : ∃ vy, di[nj]! = vy := ⟨_, rfl⟩
          have l0 := HR.out.cl ni (by omega)
          have l1 := HR.out.cl nj (by omega)
          have f0 := HR.out.fr ni (by omega)
          have f1 := HR.out.fr nj (by omega)
          obtain ⟨vu, l2⟩ := HR.out.st ni nj (by omega) (by omega) (.int .u64 (vy : Int))
          have hsw := HR.out.swap ni nj vx vy (by omega) (by omega) hvx hvy
          obtain ⟨dq, hdq⟩ : ∃ dq, swp di ni nj = dq := ⟨_, rfl⟩
          rw [hdq] at hsw
          have hsz : dq.size = n := by rw [← hdq, size_swp]; omega
          have HDQ : Hid (swp di (i2) (j2) = dq) := Lib.hid (by rw [← hdq, hni, hnj])
          rw [hvx] at l0
          rw [hvy] at l1
          have hi1 : ((i2 : Int)).toNat = ni := by omega
          have hi2 : (0 : Int) ≤ (i2 : Int) := by omega
          have hi3 : (i2 : Int) < (n : Int) := by omega
          have hi4 : IntKind.i64.wrap ((i2 : Int)) = (i2 : Int) := by rw [IntKind.wrap_i64]; omega
          have hj1 : ((j2 : Int)).toNat = nj := by omega
          have hj2 : (0 : Int) ≤ (j2 : Int) := by omega
          have hj3 : (j2 : Int) < (n : Int) := by omega
          have hj4 : IntKind.i64.wrap ((j2 : Int)) = (j2 : Int) := by rw [IntKind.wrap_i64]; omega
          have HSW := Lib.hid hsw
          clear hvx hvy HR hni hnj hsw hdq
          have mixed : Try.prog.follows .mixedOrders = true := by kernel_rfl
          go_wp2_with fail
          go_big_region_o
          clear mixed
          clear l0 l1 l2 f0 f1 hi1 hi2 hi3 hi4 hj1 hj2 hj3 hj4
          rename Hid (Ro _ _ _ _ _) => HR
          go_wp2
          go_roundw
          case rel => exact ⟨i2 + 1, j2 - 1, dq, by go_num, by go_num, by omega, by omega, by omega, by omega, by omega, hsz, HR.out, by rw [← HDQ.out, ← HE.out]; exact HK.out⟩
          case measure => simp [intOf] <;> omega

end Go.Proofs.Ytddjggckmmdicaa
