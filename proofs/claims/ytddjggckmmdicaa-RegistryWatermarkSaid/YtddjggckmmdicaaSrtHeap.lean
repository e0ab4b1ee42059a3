/-
  The library's heap sort and reverseRange of a part of a row of words, as the library's plain text says it. Condition: rows of fewer than 2^61 words.
-/
import Derived.Test.YtddjggckmmdicaaSrtSift
namespace Go.Proofs.Ytddjggckmmdicaa
open Go.RowKit Go.Deep
open Go.Sort (swp size_swp siftDown heapBuild heapPop reverseLoop)
set_option linter.unusedVariables false

set_option maxHeartbeats 4000000 in
theorem srt_heap (g off n c a b : Nat) (d : Array Nat) (w0 w : World) (hS : Ro w0 w g off d) (hn : d.size = n) (hn2 : n < 2305843009213693952) (hab : a < b) (hb : b ≤ n) :
    Calls Try.prog 51 #[.slice (some ⟨g, off, none⟩) n c, .int .i64 (a : Int), .int .i64 (b : Int)] w fun e w' => e = .returned (.tuple #[]) ∧ Ro w0 w' g off (Go.Sort.heapSort ltW d a b) ∧ (Go.Sort.heapSort ltW d a b).size = n := by
  obtain ⟨hi, hhi⟩ : ∃ hi, b - a = hi := ⟨_, rfl⟩
  obtain ⟨E, hE⟩ : ∃ E, heapBuild ltW hi a ((hi - 1) / 2 + 1) d = E := ⟨_, rfl⟩
  obtain ⟨D, hD⟩ : ∃ D, heapPop ltW a hi E = D := ⟨_, rfl⟩
  have hDD : Go.Sort.heapSort ltW d a b = D := by unfold Go.Sort.heapSort; rw [hhi, hE, hD]
  rw [hDD]
  have HSS := Lib.hid hS
  have HE := Lib.hid hE
  have HD := Lib.hid hD
  have hz1 : (b : Int) - (a : Int) = (hi : Int) := by omega
  obtain ⟨k0, hk0⟩ : ∃ k0, k0 = (hi - 1) / 2 := ⟨_, rfl⟩
  rw [← hk0] at HE
  have hkh : k0 < hi := by omega
  have hz2 : ((hi : Int) - 1) / 2 = (k0 : Int) := by omega
  have hz3 : ((hi : Int) - 1).tdiv 2 = (k0 : Int) := by rw [Int.tdiv_eq_ediv_of_nonneg (by omega)]; exact hz2
  clear hS hE hD hDD hk0
  go_enter Try.func51, Try.ntmps51
  go_upto_block 0 with fail
  go_cut [] (fun wx => Ro w0 wx g off E ∧ E.size = n)
  case first =>
    go_wp2
    go_loopw [9] (fun u wr => ∃ (di : Array Nat), di.size = n ∧ Ro w0 wr g off di ∧ ((∃ k : Nat, k < hi ∧ u = .int .i64 (k : Int) ∧ heapBuild ltW hi a (k + 1) di = E) ∨ (u = .int .i64 (-1) ∧ di = E))) (fun u _ => (intOf u + 1).toNat)
    case atStart => exact ⟨d, hn, HSS.out, .inl ⟨k0, hkh, rfl, HE.out⟩⟩
    case round =>
      obtain ⟨di, hsi, hR, hK⟩ := hrel
      have HR := Lib.hid hR
      clear hR HSS HE
      rcases hK with ⟨k, hk, rfl, hB⟩ | ⟨rfl, hB⟩
      · have hkz : ((k : Int) ≥ 0) := by omega
        obtain ⟨dk, hdk⟩ : ∃ dk, siftDown ltW hi a k di = dk := ⟨_, rfl⟩
        have hb2 : heapBuild ltW hi a k dk = E := by rw [← hB, heapBuild, hdk]
        have HB2 := Lib.hid hb2
        have hsf := srt_sift g off n c k hi a di w0 wr HR.out hsi hn2 (by omega) (by omega)
        rw [hdk] at hsf
        have HSF := Lib.hid hsf
        clear hdk hB hb2 hsf HR
        go_wp2_with fail
        refine HSF.out.mono ?_; rintro e w2 ⟨rfl, hR2, hs2⟩
        have HR2 := Lib.hid hR2
        clear hR2 HSF
        go_wp2
        go_roundw
        case rel =>
          refine ⟨dk, hs2, HR2.out, ?_⟩
          have hb3 := HB2.out
          cases k with
          | zero => exact .inr ⟨by go_num, by rw [heapBuild] at hb3; exact hb3⟩
          | succ k => exact .inl ⟨k, by omega, by go_num, hb3⟩
        case measure => simp [intOf] <;> omega
      · subst hB
        go_wp2
        go_meet
        exact ⟨HR.out, hsi⟩
  case rest =>
    obtain ⟨hR, hsE⟩ := hcut
    rename World => w1
    have HR1 := Lib.hid hR
    clear hR HSS HE
    have hz4 : IntKind.i64.wrap ((hi : Int) - 1) = (hi : Int) - 1 := by rw [IntKind.wrap_i64]; omega
    go_wp2
    go_loopw [10] (fun u wr => ∃ (di : Array Nat) (k : Nat), di.size = n ∧ Ro w0 wr g off di ∧ k ≤ hi ∧ u = .int .i64 ((k : Int) - 1) ∧ heapPop ltW a k di = D) (fun u _ => (intOf u + 1).toNat)
    case atStart => exact ⟨E, hi, hsE, HR1.out, by omega, by first | rfl | go_num, HD.out⟩
    case round =>
      obtain ⟨di, k, hsi, hR, hk, rfl, hP⟩ := hrel
      have HR := Lib.hid hR
      have HP := Lib.hid hP
      clear hR hP HR1 HD
      cases k with
      | zero =>
        go_wp2
        go_end0
        exact ⟨rfl, by have := HP.out; rw [heapPop] at this; rw [← this]; exact ⟨HR.out, hsi⟩⟩
      | succ k =>
        have hk1 : (((k + 1 : Nat) : Int) - 1) = (k : Int) := by omega
        rw [hk1]
        obtain ⟨dk, hdk⟩ : ∃ dk, siftDown ltW k a 0 (swp di a (a + k)) = dk := ⟨_, rfl⟩
        have HP2 : Hid (heapPop ltW a k dk = D) := Lib.hid (by rw [← hdk, ← HP.out, heapPop])
        have HDK := Lib.hid hdk
        clear hdk HP
        have hkz : ((k : Int) ≥ 0) := by omega
        rename World => wr
        obtain ⟨ni, hni⟩ : ∃ ni, ni = a := ⟨_, rfl⟩
        obtain ⟨nj, hnj⟩ : ∃ nj, nj = a + k := ⟨_, rfl⟩
        obtain ⟨vx, hvx⟩ : ∃ vx, di[ni]! = vx := ⟨_, rfl⟩
        obtain ⟨vy, hvy⟩ : ∃ vy, di[nj]! = vy := ⟨_, rfl⟩
        have l0 := HR.out.cl ni (by omega)
        have l1 := HR.out.cl nj (by omega)
        have f0 := HR.out.fr ni (by omega)
        have f1 := HR.out.fr nj (by omega)
        obtain ⟨vu, l2⟩ := HR.out.st ni nj (by omega) (by omega) (.int .u64 (vy : Int))
        have hsw := HR.out.swap ni nj vx vy (by omega) (by omega) hvx hvy
        obtain ⟨dq, hdq⟩ : ∃ dq, swp di ni nj = dq := ⟨_, rfl⟩
        rw [hdq] at hsw
        have hsz : dq.size = n := by rw [← hdq, size_swp]; omega
        have HDQ : Hid (swp di (a) (a + k) = dq) := Lib.hid (by rw [← hdq, hni, hnj])
        rw [hvx] at l0
        rw [hvy] at l1
        have hi1 : ((a : Int)).toNat = ni := by omega
        have hi2 : (0 : Int) ≤ (a : Int) := by omega
        have hi3 : (a : Int) < (n : Int) := by omega
        have hi4 : IntKind.i64.wrap ((a : Int)) = (a : Int) := by rw [IntKind.wrap_i64]; omega
        have hj1 : ((a : Int) + (k : Int)).toNat = nj := by omega
        have hj2 : (0 : Int) ≤ (a : Int) + (k : Int) := by omega
        have hj3 : (a : Int) + (k : Int) < (n : Int) := by omega
        have hj4 : IntKind.i64.wrap ((a : Int) + (k : Int)) = (a : Int) + (k : Int) := by rw [IntKind.wrap_i64]; omega
        have HSW := Lib.hid hsw
        clear hvx hvy HR hni hnj hsw hdq
        have mixed : Try.prog.follows .mixedOrders = true := by kernel_rfl
        go_wp2_with fail
        go_big_region_o
        clear mixed
        clear l0 l1 l2 f0 f1 hi1 hi2 hi3 hi4 hj1 hj2 hj3 hj4
        rename Hid (Ro _ _ _ _ _) => HR
        go_wp2_with fail
        have hsf := srt_sift g off n c 0 k a dq w0 _ HR.out hsz hn2 (by omega) (by omega)
        rw [← HDQ.out, HDK.out] at hsf
        refine hsf.mono ?_; rintro e w2 ⟨rfl, hR2, hs2⟩
        have HR2 := Lib.hid hR2
        clear hR2 hsf HR
        go_wp2
        go_roundw
        case rel => exact ⟨dk, k, hs2, HR2.out, by omega, by first | rfl | go_num, HP2.out⟩
        case measure => simp [intOf]

end Go.Proofs.Ytddjggckmmdicaa
