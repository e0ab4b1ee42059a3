/-
  The library's partition on a part of a row of words, as the library's plain text says it. Condition: rows of fewer than 2^61 words.
-/
import Derived.Test.YtddjggckmmdicaaSrtPartE
namespace Go.Proofs.Ytddjggckmmdicaa
open Go.RowKit Go.Deep
open Go.Sort (swp size_swp scanUp scanDown partLoop partLoop_eq)
set_option linter.unusedVariables false

theorem pl_break (a i j : Nat) (d : Array Nat) {i2 j2 : Nat} (hi : scanUp (fun x => ltW x d[a]!) d j i = i2) (hj : scanDown (fun x => !ltW x d[a]!) d i2 j = j2) (h : i2 > j2) : partLoop ltW a i j d = (j2, d) := by
  rw [partLoop_eq, hi, hj, if_pos h]
theorem pl_go (a i j : Nat) (d : Array Nat) {i2 j2 : Nat} (hi : scanUp (fun x => ltW x d[a]!) d j i = i2) (hj : scanDown (fun x => !ltW x d[a]!) d i2 j = j2) (h : ¬ i2 > j2) : partLoop ltW a i j d = partLoop ltW a (i2 + 1) (j2 - 1) (swp d i2 j2) := by
  rw [partLoop_eq, hi, hj, if_neg h]
theorem pt_break (d : Array Nat) (a b p : Nat) {i j i2 j2 : Nat} {d1 : Array Nat} (h1 : i = a + 1) (h2 : j = b - 1) (h3 : swp d a p = d1) (hi : scanUp (fun x => ltW x d1[a]!) d1 j i = i2) (hj : scanDown (fun x => !ltW x d1[a]!) d1 i2 j = j2) (h : i2 > j2) : Go.Sort.partition ltW d a b p = (j2, true, swp d1 j2 a) := by
  subst h1 h2 h3 hi hj
  exact if_pos h
theorem pt_go (d : Array Nat) (a b p : Nat) {i j i2 j2 : Nat} {d1 : Array Nat} (h1 : i = a + 1) (h2 : j = b - 1) (h3 : swp d a p = d1) (hi : scanUp (fun x => ltW x d1[a]!) d1 j i = i2) (hj : scanDown (fun x => !ltW x d1[a]!) d1 i2 j = j2) (h : ¬ i2 > j2) : Go.Sort.partition ltW d a b p = ((partLoop ltW a (i2 + 1) (j2 - 1) (swp d1 i2 j2)).1, false, swp (partLoop ltW a (i2 + 1) (j2 - 1) (swp d1 i2 j2)).2 (partLoop ltW a (i2 + 1) (j2 - 1) (swp d1 i2 j2)).1 a) := by
  subst h1 h2 h3 hi hj
  exact if_neg h

set_option maxHeartbeats 8000000 in
set_option maxRecDepth 100000 in
theorem srt_part (g off n cap a b p : Nat) (d : Array Nat) (w0 w : World) (hS : Ro w0 w g off d) (hn : d.size = n) (hn2 : n < 2305843009213693952) (hap : a ≤ p) (hpb : p < b) (hb : b ≤ n) (m : Nat) (ap : Bool) (D : Array Nat) (hk : Go.Sort.partition ltW d a b p = (m, ap, D)) :
    Calls Try.prog 58 #[.slice (some ⟨g, off, none⟩) n cap, .int .i64 (a : Int), .int .i64 (b : Int), .int .i64 (p : Int)] w fun e w' => e = .returned (.tuple #[.int .i64 (m : Int), .bool ap]) ∧ Ro w0 w' g off D ∧ D.size = n ∧ a ≤ m ∧ m < b := by
  have HR := Lib.hid hS
  have HK := Lib.hid hk
  obtain ⟨d1, hd1⟩ : ∃ d1, swp d a p = d1 := ⟨_, rfl⟩
  have hs1 : d1.size = n := by rw [← hd1, size_swp]; exact hn
  have HD1 := Lib.hid hd1
  obtain ⟨i, hi⟩ : ∃ i, i = a + 1 := ⟨_, rfl⟩
  obtain ⟨j, hj⟩ : ∃ j, j = b - 1 := ⟨_, rfl⟩
  have HI := Lib.hid hi
  have HJ := Lib.hid hj
  have hai : a < i := by omega
  have haj : a ≤ j := by omega
  have hjb : j < b := by omega
  have hij : i ≤ j + 2 := by omega
  clear hS hk hd1
  go_enter Try.func58, Try.ntmps58
  go_wp2_with fail
  obtain ⟨ni, hni⟩ : ∃ ni, ni = a := ⟨_, rfl⟩
  obtain ⟨nj, hnj⟩ : ∃ nj, nj = p := ⟨_, rfl⟩
  obtain ⟨vx, hvx⟩ : ∃ vx, d[ni]! = vx := ⟨_, rfl⟩
  obtain ⟨vy, hvy⟩ : ∃ vy, d[nj]! = vy := ⟨_, rfl⟩
  have l0 := HR.out.cl ni (by omega)
  have l1 := HR.out.cl nj (by omega)
  have f0 := HR.out.fr ni (by omega)
  have f1 := HR.out.fr nj (by omega)
  obtain ⟨vu, l2⟩ := HR.out.st ni nj (by omega) (by omega) (.int .u64 (vy : Int))
  have hsw := HR.out.swap ni nj vx vy (by omega) (by omega) hvx hvy
  obtain ⟨dq, hdq⟩ : ∃ dq, swp d ni nj = dq := ⟨_, rfl⟩
  rw [hdq] at hsw
  have hsz : dq.size = n := by rw [← hdq, size_swp]; omega
  have HDQ : Hid (swp d (a) (p) = dq) := Lib.hid (by rw [← hdq, hni, hnj])
  rw [hvx] at l0
  rw [hvy] at l1
  have hi1 : ((a : Int)).toNat = ni := by omega
  have hi2 : (0 : Int) ≤ (a : Int) := by omega
  have hi3 : (a : Int) < (n : Int) := by omega
  have hi4 : IntKind.i64.wrap ((a : Int)) = (a : Int) := by rw [IntKind.wrap_i64]; omega
  have hj1 : ((p : Int)).toNat = nj := by omega
  have hj2 : (0 : Int) ≤ (p : Int) := by omega
  have hj3 : (p : Int) < (n : Int) := by omega
  have hj4 : IntKind.i64.wrap ((p : Int)) = (p : Int) := by rw [IntKind.wrap_i64]; omega
  have HSW := Lib.hid hsw
  clear hvx hvy HR hni hnj hsw hdq
  have mixed : Try.prog.follows .mixedOrders = true := by kernel_rfl
  go_wp2_with fail
  go_big_region_o
  clear mixed
  clear l0 l1 l2 f0 f1 hi1 hi2 hi3 hi4 hj1 hj2 hj3 hj4
  rename Hid (Ro _ _ _ _ _) => HR
  obtain rfl : d1 = dq := by rw [← HD1.out, HDQ.out]
  clear HDQ hsz
  rename World => w1
  go_upto_region 2 with fail
  go_cut [10, 11] (fun u v wx => u = .int .i64 (i : Int) ∧ v = .int .i64 (j : Int) ∧ Ro w0 wx g off d1)
  case first =>
    go_wp2
    go_meet
    exact ⟨by rw [hi]; go_num, by rw [hj]; go_num, HR.out⟩
  case rest =>
    obtain ⟨rfl, rfl, hR⟩ := hcut
    rename World => w1
    clear HR hi hj hn
    have HR := Lib.hid hR
    clear hR
    go_upto_block 0 with fail
    go_cut [10] (fun v wx => ∃ i2 : Nat, v = .int .i64 (i2 : Int) ∧ scanUp (fun x => ltW x d1[a]!) d1 j i = i2 ∧ i ≤ i2 ∧ (i2 = i ∨ i2 ≤ j + 1) ∧ Ro w0 wx g off d1)
    case first =>
      go_wp2
      go_loopw [10] (fun u wr => ∃ k : Nat, u = .int .i64 (k : Int) ∧ i ≤ k ∧ (k = i ∨ k ≤ j + 1) ∧ Ro w0 wr g off d1 ∧ scanUp (fun x => ltW x d1[a]!) d1 j i = scanUp (fun x => ltW x d1[a]!) d1 j k) (fun u _ => j + 1 - (intOf u).toNat)
      case atStart => exact ⟨i, rfl, by omega, .inl rfl, HR.out, rfl⟩
      case round =>
        obtain ⟨k, rfl, hik, hkj, hR, hU⟩ := hrel
        have HK := Lib.hid hkj
        clear HR hkj
        have HR := Lib.hid hR
        have HU := Lib.hid hU
        clear hR hU
        rename World => wr
        by_cases hkk : k ≤ j
        · have hda : decide ((k : Int) ≤ (j : Int)) = true := decide_eq_true (by omega)
          cases hlv : ltW d1[k]! d1[a]! with
          | true =>
            have HN := Lib.hid (su_go (fun x => ltW x d1[a]!) d1 j k hkk (by simp [hlv]))
            obtain ⟨ni, hni⟩ : ∃ ni, ni = k := ⟨_, rfl⟩
            obtain ⟨nj, hnj⟩ : ∃ nj, nj = a := ⟨_, rfl⟩
            obtain ⟨vx, hvx⟩ : ∃ vx, d1[ni]! = vx := ⟨_, rfl⟩
            obtain ⟨vy, hvy⟩ : ∃ vy, d1[nj]! = vy := ⟨_, rfl⟩
            have l0 := HR.out.cl ni (by omega)
            have l1 := HR.out.cl nj (by omega)
            have hi1 : ((k : Int)).toNat = ni := by omega
            have hi2 : (0 : Int) ≤ (k : Int) := by omega
            have hi3 : (k : Int) < (n : Int) := by omega
            have hi4 : IntKind.i64.wrap ((k : Int)) = (k : Int) := by rw [IntKind.wrap_i64]; omega
            have hj1 : ((a : Int)).toNat = nj := by omega
            have hj2 : (0 : Int) ≤ (a : Int) := by omega
            have hj3 : (a : Int) < (n : Int) := by omega
            have hj4 : IntKind.i64.wrap ((a : Int)) = (a : Int) := by rw [IntKind.wrap_i64]; omega
            rw [hvx] at l0
            rw [hvy] at l1
            have hlt : ltW vx vy = true := by rw [← hvx, ← hvy, hni, hnj]; exact hlv
            clear hvx hvy hni hnj
            go_wp2_with fail
            go_quiet ((go_at_call 56; exact Calls.still (less_w _ _ _ hlt _)))
            have HR2 := Lib.hid (HR.out.drewN nq)
            clear l0 l1 hlt HR hi1 hi2 hi3 hi4 hj1 hj2 hj3 hj4
            rename Hid (Ro _ _ _ _ _) => HR
            generalize wr.drewN nq = wq0 at *
            go_wp2
            go_roundw
            case rel => exact ⟨k + 1, by go_num, by omega, .inr (by omega), HR.out, by rw [HU.out, HN.out]⟩
            case measure => simp [intOf] <;> omega
          | false =>
            have HN := Lib.hid (su_end (fun x => ltW x d1[a]!) d1 j k (.inr (by simp [hlv])))
            obtain ⟨ni, hni⟩ : ∃ ni, ni = k := ⟨_, rfl⟩
            obtain ⟨nj, hnj⟩ : ∃ nj, nj = a := ⟨_, rfl⟩
            obtain ⟨vx, hvx⟩ : ∃ vx, d1[ni]! = vx := ⟨_, rfl⟩
            obtain ⟨vy, hvy⟩ : ∃ vy, d1[nj]! = vy := ⟨_, rfl⟩
            have l0 := HR.out.cl ni (by omega)
            have l1 := HR.out.cl nj (by omega)
            have hi1 : ((k : Int)).toNat = ni := by omega
            have hi2 : (0 : Int) ≤ (k : Int) := by omega
            have hi3 : (k : Int) < (n : Int) := by omega
            have hi4 : IntKind.i64.wrap ((k : Int)) = (k : Int) := by rw [IntKind.wrap_i64]; omega
            have hj1 : ((a : Int)).toNat = nj := by omega
            have hj2 : (0 : Int) ≤ (a : Int) := by omega
            have hj3 : (a : Int) < (n : Int) := by omega
            have hj4 : IntKind.i64.wrap ((a : Int)) = (a : Int) := by rw [IntKind.wrap_i64]; omega
            rw [hvx] at l0
            rw [hvy] at l1
            have hlt : ltW vx vy = false := by rw [← hvx, ← hvy, hni, hnj]; exact hlv
            clear hvx hvy hni hnj
            go_wp2_with fail
            go_quiet ((go_at_call 56; exact Calls.still (less_w _ _ _ hlt _)))
            have HR2 := Lib.hid (HR.out.drewN nq)
            clear l0 l1 hlt HR hi1 hi2 hi3 hi4 hj1 hj2 hj3 hj4
            rename Hid (Ro _ _ _ _ _) => HR
            generalize wr.drewN nq = wq0 at *
            go_wp2
            go_meet
            exact ⟨k, rfl, by rw [HU.out, HN.out], hik, HK.out, HR.out⟩
        · have hda : decide ((k : Int) ≤ (j : Int)) = false := decide_eq_false (by omega)
          have HN := Lib.hid (su_end (fun x => ltW x d1[a]!) d1 j k (.inl hkk))
          go_wp2_with fail
          go_quiet (fail)
          go_wp2
          go_meet
          exact ⟨k, rfl, by rw [HU.out, HN.out], hik, HK.out, HR.out.drewN _⟩
    case rest =>
      obtain ⟨i2, rfl, hi2, hii, hij2, hR⟩ := hcut
      rename World => w2
      clear HR
      have HR := Lib.hid hR
      have HI2 := Lib.hid hi2
      clear hR hi2
      go_upto_block 2 with fail
      go_cut [11] (fun v wx => ∃ j2 : Nat, v = .int .i64 (j2 : Int) ∧ scanDown (fun x => !ltW x d1[a]!) d1 i2 j = j2 ∧ j2 ≤ j ∧ a ≤ j2 ∧ Ro w0 wx g off d1)
      case first =>
        go_wp2
        go_loopw [11] (fun u wr => ∃ k : Nat, u = .int .i64 (k : Int) ∧ k ≤ j ∧ a ≤ k ∧ Ro w0 wr g off d1 ∧ scanDown (fun x => !ltW x d1[a]!) d1 i2 j = scanDown (fun x => !ltW x d1[a]!) d1 i2 k) (fun u _ => (intOf u).toNat)
        case atStart => exact ⟨j, rfl, by omega, haj, HR.out, rfl⟩
        case round =>
          obtain ⟨k, rfl, hkj, hak, hR, hU⟩ := hrel
          clear HR
          have HR := Lib.hid hR
          have HU := Lib.hid hU
          clear hR hU
          rename World => wr
          by_cases hkk : i2 ≤ k
          · have hda : decide ((i2 : Int) ≤ (k : Int)) = true := decide_eq_true (by omega)
            cases hlv : ltW d1[k]! d1[a]! with
            | false =>
              have HN := Lib.hid (sd_go (fun x => !ltW x d1[a]!) d1 i2 k hkk (by omega) (by simp [hlv]))
              obtain ⟨ni, hni⟩ : ∃ ni, ni = k := ⟨_, rfl⟩
              obtain ⟨nj, hnj⟩ : ∃ nj, nj = a := ⟨_, rfl⟩
              obtain ⟨vx, hvx⟩ : ∃ vx, d1[ni]! = vx := ⟨_, rfl⟩
              obtain ⟨vy, hvy⟩ : ∃ vy, d1[nj]! = vy := ⟨_, rfl⟩
              have l0 := HR.out.cl ni (by omega)
              have l1 := HR.out.cl nj (by omega)
              have hi1 : ((k : Int)).toNat = ni := by omega
              have hi2 : (0 : Int) ≤ (k : Int) := by omega
              have hi3 : (k : Int) < (n : Int) := by omega
              have hi4 : IntKind.i64.wrap ((k : Int)) = (k : Int) := by rw [IntKind.wrap_i64]; omega
              have hj1 : ((a : Int)).toNat = nj := by omega
              have hj2 : (0 : Int) ≤ (a : Int) := by omega
              have hj3 : (a : Int) < (n : Int) := by omega
              have hj4 : IntKind.i64.wrap ((a : Int)) = (a : Int) := by rw [IntKind.wrap_i64]; omega
              rw [hvx] at l0
              rw [hvy] at l1
              have hlt : ltW vx vy = false := by rw [← hvx, ← hvy, hni, hnj]; exact hlv
              clear hvx hvy hni hnj
              go_wp2_with fail
              go_quiet ((go_at_call 56; exact Calls.still (less_w _ _ _ hlt _)))
              have HR2 := Lib.hid (HR.out.drewN nq)
              clear l0 l1 hlt HR hi1 hi2 hi3 hi4 hj1 hj2 hj3 hj4
              rename Hid (Ro _ _ _ _ _) => HR
              generalize wr.drewN nq = wq1 at *
              go_wp2
              go_roundw
              case rel => exact ⟨k - 1, by go_num, by omega, by omega, HR.out, by rw [HU.out, HN.out]⟩
              case measure => simp [intOf] <;> omega
            | true =>
              have HN := Lib.hid (sd_end (fun x => !ltW x d1[a]!) d1 i2 k (.inr (by simp [hlv])))
              obtain ⟨ni, hni⟩ : ∃ ni, ni = k := ⟨_, rfl⟩
              obtain ⟨nj, hnj⟩ : ∃ nj, nj = a := ⟨_, rfl⟩
              obtain ⟨vx, hvx⟩ : ∃ vx, d1[ni]! = vx := ⟨_, rfl⟩
              obtain ⟨vy, hvy⟩ : ∃ vy, d1[nj]! = vy := ⟨_, rfl⟩
              have l0 := HR.out.cl ni (by omega)
              have l1 := HR.out.cl nj (by omega)
              have hi1 : ((k : Int)).toNat = ni := by omega
              have hi2 : (0 : Int) ≤ (k : Int) := by omega
              have hi3 : (k : Int) < (n : Int) := by omega
              have hi4 : IntKind.i64.wrap ((k : Int)) = (k : Int) := by rw [IntKind.wrap_i64]; omega
              have hj1 : ((a : Int)).toNat = nj := by omega
              have hj2 : (0 : Int) ≤ (a : Int) := by omega
              have hj3 : (a : Int) < (n : Int) := by omega
              have hj4 : IntKind.i64.wrap ((a : Int)) = (a : Int) := by rw [IntKind.wrap_i64]; omega
              rw [hvx] at l0
              rw [hvy] at l1
              have hlt : ltW vx vy = true := by rw [← hvx, ← hvy, hni, hnj]; exact hlv
              clear hvx hvy hni hnj
              go_wp2_with fail
              go_quiet ((go_at_call 56; exact Calls.still (less_w _ _ _ hlt _)))
              have HR2 := Lib.hid (HR.out.drewN nq)
              clear l0 l1 hlt HR hi1 hi2 hi3 hi4 hj1 hj2 hj3 hj4
              rename Hid (Ro _ _ _ _ _) => HR
              generalize wr.drewN nq = wq1 at *
              go_wp2
              go_meet
              exact ⟨k, rfl, by rw [HU.out, HN.out], hkj, hak, HR.out⟩
          · have hda : decide ((i2 : Int) ≤ (k : Int)) = false := decide_eq_false (by omega)
            have HN := Lib.hid (sd_end (fun x => !ltW x d1[a]!) d1 i2 k (.inl hkk))
            go_wp2_with fail
            go_quiet (fail)
            go_wp2
            go_meet
            exact ⟨k, rfl, by rw [HU.out, HN.out], hkj, hak, HR.out.drewN _⟩
      case rest =>
        obtain ⟨j2, rfl, hj2, hjj, haj2, hR⟩ := hcut
        rename World => w3
        clear HR
        have HR := Lib.hid hR
        have HJ2 := Lib.hid hj2
        clear hR hj2
        by_cases hgt : i2 > j2
        · have HE := Lib.hid (pt_break d a b p HI.out HJ.out HD1.out HI2.out HJ2.out hgt)
          have hgz : (i2 : Int) > (j2 : Int) := by omega
          go_wp2_with fail
          obtain ⟨ni, hni⟩ : ∃ ni, ni = j2 := ⟨_, rfl⟩
          obtain ⟨nj, hnj⟩ : ∃ nj, nj = a := ⟨_, rfl⟩
          obtain ⟨vx, hvx⟩ : ∃ vx, d1[ni]! = vx := ⟨_, rfl⟩
          obtain ⟨vy, hvy⟩ : ∃ vy, d1[nj]! = vy := ⟨_, rfl⟩
          have l0 := HR.out.cl ni (by omega)
          have l1 := HR.out.cl nj (by omega)
          have f0 := HR.out.fr ni (by omega)
          have f1 := HR.out.fr nj (by omega)
          obtain ⟨vu, l2⟩ := HR.out.st ni nj (by omega) (by omega) (.int .u64 (vy : Int))
          have hsw := HR.out.swap ni nj vx vy (by omega) (by omega) hvx hvy
          obtain ⟨dq, hdq⟩ : ∃ dq, swp d1 ni nj = dq := ⟨_, rfl⟩
          rw [hdq] at hsw
          have hsz : dq.size = n := by rw [← hdq, size_swp]; omega
          have HDQ : Hid (swp d1 (j2) (a) = dq) := Lib.hid (by rw [← hdq, hni, hnj])
          rw [hvx] at l0
          rw [hvy] at l1
          have hi1 : ((j2 : Int)).toNat = ni := by omega
          have hi2 : (0 : Int) ≤ (j2 : Int) := by omega
          have hi3 : (j2 : Int) < (n : Int) := by omega
          have hi4 : IntKind.i64.wrap ((j2 : Int)) = (j2 : Int) := by rw [IntKind.wrap_i64]; omega
          have hj1 : ((a : Int)).toNat = nj := by omega
          have hj2 : (0 : Int) ≤ (a : Int) := by omega
          have hj3 : (a : Int) < (n : Int) := by omega
          have hj4 : IntKind.i64.wrap ((a : Int)) = (a : Int) := by rw [IntKind.wrap_i64]; omega
          have HSW := Lib.hid hsw
          clear hvx hvy HR hni hnj hsw hdq
          have mixed : Try.prog.follows .mixedOrders = true := by kernel_rfl
          go_wp2_with fail
          go_big_region_o
          clear mixed
          clear l0 l1 l2 f0 f1 hi1 hi2 hi3 hi4 hj1 hj2 hj3 hj4
          rename Hid (Ro _ _ _ _ _) => HR
          go_wp2
          go_ret2
          have hk := HK.out
          rw [HE.out] at hk
          obtain ⟨rfl, hk2⟩ := Prod.mk.inj hk
          obtain ⟨rfl, rfl⟩ := Prod.mk.inj hk2
          rw [HDQ.out]
          exact ⟨rfl, HR.out, hsz, by omega, by omega⟩
        · have HE := Lib.hid (pt_go d a b p HI.out HJ.out HD1.out HI2.out HJ2.out hgt)
          have hgz : ¬ (i2 : Int) > (j2 : Int) := by omega
          go_wp2_with fail
          obtain ⟨ni, hni⟩ : ∃ ni, ni = i2 := ⟨_, rfl⟩
          obtain ⟨nj, hnj⟩ : ∃ nj, nj = j2 := ⟨_, rfl⟩
          obtain ⟨vx, hvx⟩ : ∃ vx, d1[ni]! = vx := ⟨_, rfl⟩
          obtain ⟨vy, hvy⟩ : ∃ vy, d1[nj]! = vy := ⟨_, rfl⟩
          have l0 := HR.out.cl ni (by omega)
          have l1 := HR.out.cl nj (by omega)
          have f0 := HR.out.fr ni (by omega)
          have f1 := HR.out.fr nj (by omega)
          obtain ⟨vu, l2⟩ := HR.out.st ni nj (by omega) (by omega) (.int .u64 (vy : Int))
          have hsw := HR.out.swap ni nj vx vy (by omega) (by omega) hvx hvy
          obtain ⟨dq, hdq⟩ : ∃ dq, swp d1 ni nj = dq := ⟨_, rfl⟩
          rw [hdq] at hsw
          have hsz : dq.size = n := by rw [← hdq, size_swp]; omega
          have HDQ : Hid (swp d1 (i2) (j2) = dq) := Lib.hid (by rw [← hdq, hni, hnj])
          rw [hvx] at l0
          rw [hvy] at l1
          have hi1 : ((i2 : Int)).toNat = ni := by omega
          have hi2 : (0 : Int) ≤ (i2 : Int) := by omega
          have hi3 : (i2 : Int) < (n : Int) := by omega
          have hi4 : IntKind.i64.wrap ((i2 : Int)) = (i2 : Int) := by rw [IntKind.wrap_i64]; omega
          have hj1 : ((j2 : Int)).toNat = nj := by omega
          have hj2 : (0 : Int) ≤ (j2 : Int) := by omega
          have hj3 : (j2 : Int) < (n : Int) := by omega
          have hj4 : IntKind.i64.wrap ((j2 : Int)) = (j2 : Int) := by rw [IntKind.wrap_i64]; omega
          have HSW := Lib.hid hsw
          clear hvx hvy HR hni hnj hsw hdq
          have mixed : Try.prog.follows .mixedOrders = true := by kernel_rfl
          go_wp2_with fail
          go_big_region_o
          clear mixed
          clear l0 l1 l2 f0 f1 hi1 hi2 hi3 hi4 hj1 hj2 hj3 hj4
          rename Hid (Ro _ _ _ _ _) => HR
          rw [HDQ.out] at HE
          obtain ⟨pm, pE, hPL⟩ : ∃ pm pE, partLoop ltW a (i2 + 1) (j2 - 1) dq = (pm, pE) := ⟨_, _, rfl⟩
          have hk := HK.out
          rw [HE.out, hPL] at hk
          obtain ⟨rfl, hk2⟩ := Prod.mk.inj hk
          obtain ⟨rfl, hkD⟩ := Prod.mk.inj hk2
          have HKD := Lib.hid hkD
          have HPL := Lib.hid hPL
          have hai2 : a < i2 := by omega
          have hle2 : i2 ≤ j2 := by omega
          clear hij2 hii
          clear hk hk2 hkD HE HK HI2 HJ2 HDQ hPL hgz hgt
          go_upto_block 4 with fail
          go_cut [11] (fun v wx => v = .int .i64 (pm : Int) ∧ a ≤ pm ∧ pm < b ∧ pE.size = n ∧ Ro w0 wx g off pE)
          case first =>
            go_wp2_with fail
            go_loopw [10, 11] (fun u v wr => ∃ (i j : Nat) (di : Array Nat), u = .int .i64 (i : Int) ∧ v = .int .i64 (j : Int) ∧ a < i ∧ i ≤ j + 2 ∧ a ≤ j ∧ j < b ∧ di.size = n ∧ Ro w0 wr g off di ∧ partLoop ltW a i j di = (pm, pE)) (fun u v _ => ((intOf v) - (intOf u) + 2).toNat)
            case atStart => exact ⟨i2 + 1, j2 - 1, dq, by go_num, by go_num, by omega, by omega, by omega, by omega, hsz, HR.out, HPL.out⟩
            case round =>
              clear HI HJ hjj haj2 hai2 hle2 hai haj hjb hij
              obtain ⟨i, j, di, rfl, rfl, hai, hij, haj, hjb, hsi, hR, hK⟩ := hrel
              clear HR HPL hsz HD1 HKD
              have HR := Lib.hid hR
              have HK := Lib.hid hK
              clear hR hK
              go_upto_block 6 with fail
              go_cut [10] (fun v wx => ∃ i2 : Nat, v = .int .i64 (i2 : Int) ∧ scanUp (fun x => ltW x di[a]!) di j i = i2 ∧ i ≤ i2 ∧ (i2 = i ∨ i2 ≤ j + 1) ∧ Ro w0 wx g off di)
              case first =>
                go_wp2
                go_loopw [10] (fun u wr => ∃ k : Nat, u = .int .i64 (k : Int) ∧ i ≤ k ∧ (k = i ∨ k ≤ j + 1) ∧ Ro w0 wr g off di ∧ scanUp (fun x => ltW x di[a]!) di j i = scanUp (fun x => ltW x di[a]!) di j k) (fun u _ => j + 1 - (intOf u).toNat)
                case atStart => exact ⟨i, rfl, by omega, .inl rfl, HR.out, rfl⟩
                case round =>
                  obtain ⟨k, rfl, hik, hkj, hR, hU⟩ := hrel
                  have HK := Lib.hid hkj
                  clear HR hkj
                  have HR := Lib.hid hR
                  have HU := Lib.hid hU
                  clear hR hU
                  rename World => wr
                  by_cases hkk : k ≤ j
                  · have hda : decide ((k : Int) ≤ (j : Int)) = true := decide_eq_true (by omega)
                    cases hlv : ltW di[k]! di[a]! with
                    | true =>
                      have HN := Lib.hid (su_go (fun x => ltW x di[a]!) di j k hkk (by simp [hlv]))
                      obtain ⟨ni, hni⟩ : ∃ ni, ni = k := ⟨_, rfl⟩
                      obtain ⟨nj, hnj⟩ : ∃ nj, nj = a := ⟨_, rfl⟩
                      obtain ⟨vx, hvx⟩ : ∃ vx, di[ni]! = vx := ⟨_, rfl⟩
                      obtain ⟨vy, hvy⟩ : ∃ vy, di[nj]! = vy := ⟨_, rfl⟩
                      have l0 := HR.out.cl ni (by omega)
                      have l1 := HR.out.cl nj (by omega)
                      have hi1 : ((k : Int)).toNat = ni := by omega
                      have hi2 : (0 : Int) ≤ (k : Int) := by omega
                      have hi3 : (k : Int) < (n : Int) := by omega
                      have hi4 : IntKind.i64.wrap ((k : Int)) = (k : Int) := by rw [IntKind.wrap_i64]; omega
                      have hj1 : ((a : Int)).toNat = nj := by omega
                      have hj2 : (0 : Int) ≤ (a : Int) := by omega
                      have hj3 : (a : Int) < (n : Int) := by omega
                      have hj4 : IntKind.i64.wrap ((a : Int)) = (a : Int) := by rw [IntKind.wrap_i64]; omega
                      rw [hvx] at l0
                      rw [hvy] at l1
                      have hlt : ltW vx vy = true := by rw [← hvx, ← hvy, hni, hnj]; exact hlv
                      clear hvx hvy hni hnj
                      go_wp2_with fail
                      go_quiet ((go_at_call 56; exact Calls.still (less_w _ _ _ hlt _)))
                      have HR2 := Lib.hid (HR.out.drewN nq)
                      clear l0 l1 hlt HR hi1 hi2 hi3 hi4 hj1 hj2 hj3 hj4
                      rename Hid (Ro _ _ _ _ _) => HR
                      generalize wr.drewN nq = wq0 at *
                      go_wp2
                      go_roundw
                      case rel => exact ⟨k + 1, by go_num, by omega, .inr (by omega), HR.out, by rw [HU.out, HN.out]⟩
                      case measure => simp [intOf] <;> omega
                    | false =>
                      have HN := Lib.hid (su_end (fun x => ltW x di[a]!) di j k (.inr (by simp [hlv])))
                      obtain ⟨ni, hni⟩ : ∃ ni, ni = k := ⟨_, rfl⟩
                      obtain ⟨nj, hnj⟩ : ∃ nj, nj = a := ⟨_, rfl⟩
                      obtain ⟨vx, hvx⟩ : ∃ vx, di[ni]! = vx := ⟨_, rfl⟩
                      obtain ⟨vy, hvy⟩ : ∃ vy, di[nj]! = vy := ⟨_, rfl⟩
                      have l0 := HR.out.cl ni (by omega)
                      have l1 := HR.out.cl nj (by omega)
                      have hi1 : ((k : Int)).toNat = ni := by omega
                      have hi2 : (0 : Int) ≤ (k : Int) := by omega
                      have hi3 : (k : Int) < (n : Int) := by omega
                      have hi4 : IntKind.i64.wrap ((k : Int)) = (k : Int) := by rw [IntKind.wrap_i64]; omega
                      have hj1 : ((a : Int)).toNat = nj := by omega
                      have hj2 : (0 : Int) ≤ (a : Int) := by omega
                      have hj3 : (a : Int) < (n : Int) := by omega
                      have hj4 : IntKind.i64.wrap ((a : Int)) = (a : Int) := by rw [IntKind.wrap_i64]; omega
                      rw [hvx] at l0
                      rw [hvy] at l1
                      have hlt : ltW vx vy = false := by rw [← hvx, ← hvy, hni, hnj]; exact hlv
                      clear hvx hvy hni hnj
                      go_wp2_with fail
                      go_quiet ((go_at_call 56; exact Calls.still (less_w _ _ _ hlt _)))
                      have HR2 := Lib.hid (HR.out.drewN nq)
                      clear l0 l1 hlt HR hi1 hi2 hi3 hi4 hj1 hj2 hj3 hj4
                      rename Hid (Ro _ _ _ _ _) => HR
                      generalize wr.drewN nq = wq0 at *
                      go_wp2
                      go_meet
                      exact ⟨k, rfl, by rw [HU.out, HN.out], hik, HK.out, HR.out⟩
                  · have hda : decide ((k : Int) ≤ (j : Int)) = false := decide_eq_false (by omega)
                    have HN := Lib.hid (su_end (fun x => ltW x di[a]!) di j k (.inl hkk))
                    go_wp2_with fail
                    go_quiet (fail)
                    go_wp2
                    go_meet
                    exact ⟨k, rfl, by rw [HU.out, HN.out], hik, HK.out, HR.out.drewN _⟩
              case rest =>
                obtain ⟨i2, rfl, hi2, hii, hij2, hR⟩ := hcut
                rename World => w2
                clear HR
                have HR := Lib.hid hR
                have HI2 := Lib.hid hi2
                clear hR hi2
                go_upto_block 8 with fail
                go_cut [11] (fun v wx => ∃ j2 : Nat, v = .int .i64 (j2 : Int) ∧ scanDown (fun x => !ltW x di[a]!) di i2 j = j2 ∧ j2 ≤ j ∧ a ≤ j2 ∧ Ro w0 wx g off di)
                case first =>
                  go_wp2
                  go_loopw [11] (fun u wr => ∃ k : Nat, u = .int .i64 (k : Int) ∧ k ≤ j ∧ a ≤ k ∧ Ro w0 wr g off di ∧ scanDown (fun x => !ltW x di[a]!) di i2 j = scanDown (fun x => !ltW x di[a]!) di i2 k) (fun u _ => (intOf u).toNat)
                  case atStart => exact ⟨j, rfl, by omega, haj, HR.out, rfl⟩
                  case round =>
                    obtain ⟨k, rfl, hkj, hak, hR, hU⟩ := hrel
                    clear HR
                    have HR := Lib.hid hR
                    have HU := Lib.hid hU
                    clear hR hU
                    rename World => wr
                    by_cases hkk : i2 ≤ k
                    · have hda : decide ((i2 : Int) ≤ (k : Int)) = true := decide_eq_true (by omega)
                      cases hlv : ltW di[k]! di[a]! with
                      | false =>
                        have HN := Lib.hid (sd_go (fun x => !ltW x di[a]!) di i2 k hkk (by omega) (by simp [hlv]))
                        obtain ⟨ni, hni⟩ : ∃ ni, ni = k := ⟨_, rfl⟩
                        obtain ⟨nj, hnj⟩ : ∃ nj, nj = a := ⟨_, rfl⟩
                        obtain ⟨vx, hvx⟩ : ∃ vx, di[ni]! = vx := ⟨_, rfl⟩
                        obtain ⟨vy, hvy⟩ : ∃ vy, di[nj]! = vy := ⟨_, rfl⟩
                        have l0 := HR.out.cl ni (by omega)
                        have l1 := HR.out.cl nj (by omega)
                        have hi1 : ((k : Int)).toNat = ni := by omega
                        have hi2 : (0 : Int) ≤ (k : Int) := by omega
                        have hi3 : (k : Int) < (n : Int) := by omega
                        have hi4 : IntKind.i64.wrap ((k : Int)) = (k : Int) := by rw [IntKind.wrap_i64]; omega
                        have hj1 : ((a : Int)).toNat = nj := by omega
                        have hj2 : (0 : Int) ≤ (a : Int) := by omega
                        have hj3 : (a : Int) < (n : Int) := by omega
                        have hj4 : IntKind.i64.wrap ((a : Int)) = (a : Int) := by rw [IntKind.wrap_i64]; omega
                        rw [hvx] at l0
                        rw [hvy] at l1
                        have hlt : ltW vx vy = false := by rw [← hvx, ← hvy, hni, hnj]; exact hlv
                        clear hvx hvy hni hnj
                        go_wp2_with fail
                        go_quiet ((go_at_call 56; exact Calls.still (less_w _ _ _ hlt _)))
                        have HR2 := Lib.hid (HR.out.drewN nq)
                        clear l0 l1 hlt HR hi1 hi2 hi3 hi4 hj1 hj2 hj3 hj4
                        rename Hid (Ro _ _ _ _ _) => HR
                        generalize wr.drewN nq = wq1 at *
                        go_wp2
                        go_roundw
                        case rel => exact ⟨k - 1, by go_num, by omega, by omega, HR.out, by rw [HU.out, HN.out]⟩
                        case measure => simp [intOf] <;> omega
                      | true =>
                        have HN := Lib.hid (sd_end (fun x => !ltW x di[a]!) di i2 k (.inr (by simp [hlv])))
                        obtain ⟨ni, hni⟩ : ∃ ni, ni = k := ⟨_, rfl⟩
                        obtain ⟨nj, hnj⟩ : ∃ nj, nj = a := ⟨_, rfl⟩
                        obtain ⟨vx, hvx⟩ : ∃ vx, di[ni]! = vx := ⟨_, rfl⟩
                        obtain ⟨vy, hvy⟩ : ∃ vy, di[nj]! = vy := ⟨_, rfl⟩
                        have l0 := HR.out.cl ni (by omega)
                        have l1 := HR.out.cl nj (by omega)
                        have hi1 : ((k : Int)).toNat = ni := by omega
                        have hi2 : (0 : Int) ≤ (k : Int) := by omega
                        have hi3 : (k : Int) < (n : Int) := by omega
                        have hi4 : IntKind.i64.wrap ((k : Int)) = (k : Int) := by rw [IntKind.wrap_i64]; omega
                        have hj1 : ((a : Int)).toNat = nj := by omega
                        have hj2 : (0 : Int) ≤ (a : Int) := by omega
                        have hj3 : (a : Int) < (n : Int) := by omega
                        have hj4 : IntKind.i64.wrap ((a : Int)) = (a : Int) := by rw [IntKind.wrap_i64]; omega
                        rw [hvx] at l0
                        rw [hvy] at l1
                        have hlt : ltW vx vy = true := by rw [← hvx, ← hvy, hni, hnj]; exact hlv
                        clear hvx hvy hni hnj
                        go_wp2_with fail
                        go_quiet ((go_at_call 56; exact Calls.still (less_w _ _ _ hlt _)))
                        have HR2 := Lib.hid (HR.out.drewN nq)
                        clear l0 l1 hlt HR hi1 hi2 hi3 hi4 hj1 hj2 hj3 hj4
                        rename Hid (Ro _ _ _ _ _) => HR
                        generalize wr.drewN nq = wq1 at *
                        go_wp2
                        go_meet
                        exact ⟨k, rfl, by rw [HU.out, HN.out], hkj, hak, HR.out⟩
                    · have hda : decide ((i2 : Int) ≤ (k : Int)) = false := decide_eq_false (by omega)
                      have HN := Lib.hid (sd_end (fun x => !ltW x di[a]!) di i2 k (.inl hkk))
                      go_wp2_with fail
                      go_quiet (fail)
                      go_wp2
                      go_meet
                      exact ⟨k, rfl, by rw [HU.out, HN.out], hkj, hak, HR.out.drewN _⟩
                case rest =>
                  obtain ⟨j2, rfl, hj2, hjj, haj2, hR⟩ := hcut
                  rename World => w3
                  clear HR
                  have HR := Lib.hid hR
                  have HJ2 := Lib.hid hj2
                  clear hR hj2
                  by_cases hgt : i2 > j2
                  · have HE := Lib.hid (pl_break a i j di HI2.out HJ2.out hgt)
                    have hgz : (i2 : Int) > (j2 : Int) := by omega
                    go_wp2
                    go_meet
                    have hk := HK.out
                    rw [HE.out] at hk
                    obtain ⟨rfl, rfl⟩ := Prod.mk.inj hk
                    exact ⟨rfl, by omega, by omega, hsi, HR.out⟩
                  · have HE := Lib.hid (pl_go a i j di HI2.out HJ2.out hgt)
                    have hgz : ¬ (i2 : Int) > (j2 : Int) := by omega
                    go_wp2_with fail
                    obtain ⟨ni, hni⟩ : ∃ ni, ni = i2 := ⟨_, rfl⟩
                    obtain ⟨nj, hnj⟩ : ∃ nj, nj = j2 := ⟨_, rfl⟩
                    obtain ⟨vx, hvx⟩ : ∃ vx, di[ni]! = vx := ⟨_, rfl⟩
                    obtain ⟨vy, hvy⟩ : ∃ vy, di[nj]! = vy := ⟨_, rfl⟩
                    have l0 := HR.out.cl ni (by omega)
                    have l1 := HR.out.cl nj (by omega)
                    have f0 := HR.out.fr ni (by omega)
                    have f1 := HR.out.fr nj (by omega)
                    obtain ⟨vu, l2⟩ := HR.out.st ni nj (by omega) (by omega) (.int .u64 (vy : Int))
                    have hsw := HR.out.swap ni nj vx vy (by omega) (by omega) hvx hvy
                    obtain ⟨dq, hdq⟩ : ∃ dq, swp di ni nj = dq := ⟨_, rfl⟩
                    rw [hdq] at hsw
                    have hsz : dq.size = n := by rw [← hdq, size_swp]; omega
                    have HDQ : Hid (swp di (i2) (j2) = dq) := Lib.hid (by rw [← hdq, hni, hnj])
                    rw [hvx] at l0
                    rw [hvy] at l1
                    have hi1 : ((i2 : Int)).toNat = ni := by omega
                    have hi2 : (0 : Int) ≤ (i2 : Int) := by omega
                    have hi3 : (i2 : Int) < (n : Int) := by omega
                    have hi4 : IntKind.i64.wrap ((i2 : Int)) = (i2 : Int) := by rw [IntKind.wrap_i64]; omega
                    have hj1 : ((j2 : Int)).toNat = nj := by omega
                    have hj2 : (0 : Int) ≤ (j2 : Int) := by omega
                    have hj3 : (j2 : Int) < (n : Int) := by omega
                    have hj4 : IntKind.i64.wrap ((j2 : Int)) = (j2 : Int) := by rw [IntKind.wrap_i64]; omega
                    have HSW := Lib.hid hsw
                    clear hvx hvy HR hni hnj hsw hdq
                    have mixed : Try.prog.follows .mixedOrders = true := by kernel_rfl
                    go_wp2_with fail
                    go_big_region_o
                    clear mixed
                    clear l0 l1 l2 f0 f1 hi1 hi2 hi3 hi4 hj1 hj2 hj3 hj4
                    rename Hid (Ro _ _ _ _ _) => HR
                    go_wp2
                    go_roundw
                    case rel => exact ⟨i2 + 1, j2 - 1, dq, by go_num, by go_num, by omega, by omega, by omega, by omega, hsz, HR.out, by rw [← HDQ.out, ← HE.out]; exact HK.out⟩
                    case measure => simp [intOf] <;> omega
          case rest =>
            obtain ⟨rfl, ham, hmb, hsE, hR⟩ := hcut
            rename World => w4
            clear HR
            have HR := Lib.hid hR
            clear hR hsz HPL
            go_wp2_with fail
            obtain ⟨ni, hni⟩ : ∃ ni, ni = pm := ⟨_, rfl⟩
            obtain ⟨nj, hnj⟩ : ∃ nj, nj = a := ⟨_, rfl⟩
            obtain ⟨vx, hvx⟩ : ∃ vx, pE[ni]! = vx := ⟨_, rfl⟩
            obtain ⟨vy, hvy⟩ : ∃ vy, pE[nj]! = vy := ⟨_, rfl⟩
            have l0 := HR.out.cl ni (by omega)
            have l1 := HR.out.cl nj (by omega)
            have f0 := HR.out.fr ni (by omega)
            have f1 := HR.out.fr nj (by omega)
            obtain ⟨vu, l2⟩ := HR.out.st ni nj (by omega) (by omega) (.int .u64 (vy : Int))
            have hsw := HR.out.swap ni nj vx vy (by omega) (by omega) hvx hvy
            obtain ⟨dq, hdq⟩ : ∃ dq, swp pE ni nj = dq := ⟨_, rfl⟩
            rw [hdq] at hsw
            have hsz : dq.size = n := by rw [← hdq, size_swp]; omega
            have HDQ : Hid (swp pE (pm) (a) = dq) := Lib.hid (by rw [← hdq, hni, hnj])
            rw [hvx] at l0
            rw [hvy] at l1
            have hi1 : ((pm : Int)).toNat = ni := by omega
            have hi2 : (0 : Int) ≤ (pm : Int) := by omega
            have hi3 : (pm : Int) < (n : Int) := by omega
            have hi4 : IntKind.i64.wrap ((pm : Int)) = (pm : Int) := by rw [IntKind.wrap_i64]; omega
            have hj1 : ((a : Int)).toNat = nj := by omega
            have hj2 : (0 : Int) ≤ (a : Int) := by omega
            have hj3 : (a : Int) < (n : Int) := by omega
            have hj4 : IntKind.i64.wrap ((a : Int)) = (a : Int) := by rw [IntKind.wrap_i64]; omega
            have HSW := Lib.hid hsw
            clear hvx hvy HR hni hnj hsw hdq
            have mixed : Try.prog.follows .mixedOrders = true := by kernel_rfl
            go_wp2_with fail
            go_big_region_o
            clear mixed
            clear l0 l1 l2 f0 f1 hi1 hi2 hi3 hi4 hj1 hj2 hj3 hj4
            rename Hid (Ro _ _ _ _ _) => HR
            go_wp2
            go_ret2
            rw [← HKD.out, HDQ.out]
            first
            | exact ⟨rfl, HR.out, hsz, ham, hmb⟩
            | exact ⟨rfl, HR.out, hsz⟩

end Go.Proofs.Ytddjggckmmdicaa
