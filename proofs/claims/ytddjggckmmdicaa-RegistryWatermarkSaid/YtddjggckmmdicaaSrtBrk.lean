/-
  The library's breakPatterns on a part of a row of words, as the library's plain text says it. Condition: parts of 8 words or more, rows of fewer than 2^61 words.
-/
import Derived.Test.YtddjggckmmdicaaSrtXor
namespace Go.Proofs.Ytddjggckmmdicaa
open Go.RowKit Go.Deep
open Go.Sort
set_option linter.unusedVariables false

/-- So many rounds are left, from k. -/
def bpr (a L M : Nat) : Nat → Nat → UInt64 × Array Nat → Array Nat
  | 0, _, st => st.2
  | m + 1, k, st => bpr a L M m (k + 1) (breakStep a L M st k)
theorem bpr_of (d : Array Nat) (a b L : Nat) (hL : b - a = L) (h8 : 8 ≤ L) : breakPatterns d a b = bpr a L (1 <<< bitsLen L) 3 (a + L / 4 * 2 - 1) (UInt64.ofNat L, d) := by
  subst hL
  exact if_pos h8
theorem bpr_go (a L M m k : Nat) (r : UInt64) (d : Array Nat) (X O : Nat) (hX : X = (xorNext r).toNat) (hO : O = X &&& (M - 1)) (o : Nat) (ho : (L ≤ O ∧ o = O - L) ∨ (¬ L ≤ O ∧ o = O)) : bpr a L M (m + 1) k (r, d) = bpr a L M m (k + 1) (xorNext r, swp d k (a + o)) := by
  rw [bpr]
  subst hX hO
  rcases ho with ⟨h, rfl⟩ | ⟨h, rfl⟩
  · have e : breakStep a L M (r, d) k = (xorNext r, swp d k (a + if (xorNext r).toNat &&& (M - 1) ≥ L then ((xorNext r).toNat &&& (M - 1)) - L else (xorNext r).toNat &&& (M - 1))) := rfl
    rw [e, if_pos h]
  · have e : breakStep a L M (r, d) k = (xorNext r, swp d k (a + if (xorNext r).toNat &&& (M - 1) ≥ L then ((xorNext r).toNat &&& (M - 1)) - L else (xorNext r).toNat &&& (M - 1))) := rfl
    rw [e, if_neg h]
theorem Ro.alloc {w0 w : World} {g off : Nat} {d : Array Nat} (h : Ro w0 w g off d) (hg : g < w.heap.size) (o : Obj) : Ro w0 (w.alloc o) g off d :=
  ⟨fun j hj => (World.cell?_alloc_lt _ _ _ hg).trans (h.cl j hj), fun j hj => by have := h.fr j hj; unfold World.frozen? at this ⊢; rw [show (w.alloc o).heap[(⟨g, off + j, none⟩ : Addr).block]? = w.heap[(⟨g, off + j, none⟩ : Addr).block]? from blk_alloc_lt _ _ _ hg]; exact this, h.kept.alloc _⟩
theorem Ro.set {w0 w : World} {g off : Nat} {d : Array Nat} (h : Ro w0 w g off d) (rb : Nat) (hne : rb ≠ g) (hle : w0.heap.size ≤ rb) (v : Value) : Ro w0 (w.setCell ⟨rb, 0, none⟩ v) g off d :=
  ⟨fun j hj => (World.cell?_setCell_other _ _ _ _ (fun e => by injection e with e _ _; exact hne e)).trans (h.cl j hj), fun j hj => by rw [World.frozen?_setCell]; exact h.fr j hj, h.kept.setCell (a := ⟨rb, 0, none⟩) (fun hh => by simp only at hh; omega) _⟩

set_option maxHeartbeats 8000000 in
set_option maxRecDepth 100000 in
theorem srt_break (g off n cap a b : Nat) (d : Array Nat) (w0 w : World) (hS : Ro w0 w g off d) (hg : g < w.heap.size) (hn : d.size = n) (hn2 : n < 2305843009213693952) (h8 : 8 ≤ b - a) (hb : b ≤ n) :
    Calls Try.prog 52 #[.slice (some ⟨g, off, none⟩) n cap, .int .i64 (a : Int), .int .i64 (b : Int)] w fun e w' => e = .returned (.tuple #[]) ∧ Ro w0 w' g off (breakPatterns d a b) ∧ (breakPatterns d a b).size = n := by
  obtain ⟨L, hL⟩ : ∃ L, b - a = L := ⟨_, rfl⟩
  rw [bpr_of d a b L hL (by omega)]
  obtain ⟨M, hM⟩ : ∃ M : Nat, M = 1 <<< bitsLen L := ⟨_, rfl⟩
  have hM1 : 1 ≤ M := by rw [hM, Nat.one_shiftLeft]; exact Nat.two_pow_pos _
  have hM2 : M ≤ 2 * L := by rw [hM, Nat.one_shiftLeft]; exact two_pow_bitsLen_le (by omega)
  have hNP := pow_any L (by omega)
  rw [← hM] at hNP ⊢
  clear hM
  obtain ⟨q, hq⟩ : ∃ q, L / 4 = q := ⟨_, rfl⟩
  rw [hq]
  have hz1 : (b : Int) - (a : Int) = (L : Int) := by omega
  have hz2 : (L : Int) / 4 = (q : Int) := by omega
  have hz3 : (L : Int).tdiv 4 = (q : Int) := by rw [Int.tdiv_eq_ediv_of_nonneg (by omega)]; exact hz2
  have h8z : (L : Int) ≥ 8 := by omega
  have hq2 : 2 ≤ q := by omega
  have hq3 : q * 4 ≤ L := by omega
  have hab : a + L ≤ n := by omega
  have hle : w0.heap.size ≤ w.heap.size := hS.kept.size
  obtain ⟨D, hD⟩ : ∃ D, bpr a L M 3 (a + q * 2 - 1) (UInt64.ofNat L, d) = D := ⟨_, rfl⟩
  rw [hD]
  have HD := Lib.hid hD
  have hne : w.heap.size ≠ g := by omega
  have HR := Lib.hid (hS.alloc hg (.cells #[.int .u64 (L : Int)] 93))
  have HB := Lib.hid (Blk.new w [.int .u64 (L : Int)] 93)
  obtain ⟨rb, hrb⟩ : ∃ rb, w.heap.size = rb := ⟨_, rfl⟩
  clear hS hD hL hq
  go_enter Try.func52, Try.ntmps52
  go_wp2_with fail
  refine (hNP _).mono ?_; rintro e w1 ⟨rfl, rfl⟩
  clear hNP
  rw [hrb] at hne hle
  go_wp2_with fail
  go_loopw [9] (fun u wr => ∃ (k m : Nat) (r : UInt64) (dk : Array Nat), u = .int .i64 (k : Int) ∧ k + m = a + q * 2 + 2 ∧ m ≤ 3 ∧ dk.size = n ∧ Ro w0 wr g off dk ∧ Blk wr rb 93 [.int .u64 (r.toNat : Int)] ∧ bpr a L M m k (r, dk) = D) (fun u _ => a + q * 2 + 3 - (intOf u).toNat)
  case atStart =>
    have e0 : (UInt64.ofNat L).toNat = L := by simp; omega
    exact ⟨a + q * 2 - 1, 3, UInt64.ofNat L, d, by go_num, by omega, by omega, hn, HR.out, by rw [e0, ← hrb]; exact HB.out, HD.out⟩
  case round =>
    obtain ⟨k, m, r, dk, rfl, hkm, hm3, hsk, hR, hB, hI⟩ := hrel
    clear HR HB HD
    have HR := Lib.hid hR
    have HB := Lib.hid hB
    have HI := Lib.hid hI
    clear hR hB hI
    rename World => wr
    cases m with
    | zero =>
      have hkz : ¬ (k : Int) ≤ (a : Int) + (q : Int) * 2 + 1 := by omega
      go_wp2
      go_end0
      exact ⟨rfl, by have := HI.out; rw [bpr] at this; rw [← this]; exact ⟨HR.out, hsk⟩⟩
    | succ m =>
      have hkz : (k : Int) ≤ (a : Int) + (q : Int) * 2 + 1 := by omega
      obtain ⟨R0, hR0⟩ : ∃ R0 : Nat, r.toNat = R0 := ⟨_, rfl⟩
      have lR : R0 < 18446744073709551616 := by rw [← hR0]; exact r.toNat_lt
      obtain ⟨X, hX⟩ : ∃ X : Nat, xorNextN R0 = X := ⟨_, rfl⟩
      have lX : X < 18446744073709551616 := by rw [← hX]; exact xorNextN_lt R0 lR
      obtain ⟨O, hO⟩ : ∃ O : Nat, O = X &&& (M - 1) := ⟨_, rfl⟩
      have lO : O ≤ M - 1 := by rw [hO]; exact Nat.and_le_right
      have eAnd : bits .and .u64 (X : Int) ((M : Int) - 1) = (O : Int) := by
        rw [show ((M : Int) - 1) = ((M - 1 : Nat) : Int) by omega, bits_and_u64_nat _ _ lX (by omega), hO]
      have HXN : Hid (X = (xorNext r).toNat) := Lib.hid (by rw [← hX, ← hR0, xorNext_toNat])
      have HO := Lib.hid hO
      have hBr := HB.out
      rw [hR0] at hBr
      have hnx := next_any rb 0 R0 lR wr (hBr.cell (i := 0) rfl) (hBr.frozen 0)
      rw [hX] at hnx
      have HR2 := Lib.hid ((HR.out.set rb hne hle (.int .u64 (X : Int))).drewN 3)
      have HB2 : Hid (Blk ((wr.setCell ⟨rb, 0, none⟩ (.int .u64 (X : Int))).drewN 3) rb 93 [.int .u64 (X : Int)]) := Lib.hid (hBr.set 0 (.int .u64 (X : Int)))
      clear HR HB hBr hX hO hR0 lR lX
      have HR := HR2
      have HB := HB2
      clear HR2 HB2
      obtain ⟨w2, hw2⟩ : ∃ w2, (wr.setCell ⟨rb, 0, none⟩ (.int .u64 (X : Int))).drewN 3 = w2 := ⟨_, rfl⟩
      rw [hw2] at hnx HR HB
      have HNX := Lib.hid hnx
      clear hnx hw2
      by_cases hLO : L ≤ O
      · have hLOz : (O : Int) ≥ (L : Int) := by omega
        have HI2 := Lib.hid (HI.out)
        rw [bpr_go a L M m k r dk X O HXN.out HO.out (O - L) (.inl ⟨hLO, rfl⟩)] at HI2
        go_wp2_with fail
        refine (HNX.out).mono ?_; rintro e w3 ⟨rfl, rfl⟩
        rename World => w2
        clear HNX HI
        go_wp2_with fail
        obtain ⟨ni, hni⟩ : ∃ ni, ni = k := ⟨_, rfl⟩
        obtain ⟨nj, hnj⟩ : ∃ nj, nj = a + (O - L) := ⟨_, rfl⟩
        obtain ⟨vx, hvx⟩ : ∃ vx, dk[ni]! = vx := ⟨_, rfl⟩
        obtain ⟨vy, hvy⟩ : ∃ vy, dk[nj]! = vy := ⟨_, rfl⟩
        have l0 := HR.out.cl ni (by omega)
        have l1 := HR.out.cl nj (by omega)
        have f0 := HR.out.fr ni (by omega)
        have f1 := HR.out.fr nj (by omega)
        obtain ⟨vu, l2⟩ := HR.out.st ni nj (by omega) (by omega) (.int .u64 (vy : Int))
        have hsw := HR.out.swap ni nj vx vy (by omega) (by omega) hvx hvy
        obtain ⟨dq, hdq⟩ : ∃ dq, swp dk ni nj = dq := ⟨_, rfl⟩
        rw [hdq] at hsw
        have hsz : dq.size = n := by rw [← hdq, size_swp]; omega
        have HDQ : Hid (swp dk (k) (a + (O - L)) = dq) := Lib.hid (by rw [← hdq, hni, hnj])
        rw [hvx] at l0
        rw [hvy] at l1
        have hi1 : ((k : Int)).toNat = ni := by omega
        have hi2 : (0 : Int) ≤ (k : Int) := by omega
        have hi3 : (k : Int) < (n : Int) := by omega
        have hi4 : IntKind.i64.wrap ((k : Int)) = (k : Int) := by rw [IntKind.wrap_i64]; omega
        have hj1 : ((a : Int) + ((O : Int) - (L : Int))).toNat = nj := by omega
        have hj2 : (0 : Int) ≤ (a : Int) + ((O : Int) - (L : Int)) := by omega
        have hj3 : (a : Int) + ((O : Int) - (L : Int)) < (n : Int) := by omega
        have hj4 : IntKind.i64.wrap ((a : Int) + ((O : Int) - (L : Int))) = (a : Int) + ((O : Int) - (L : Int)) := by rw [IntKind.wrap_i64]; omega
        have HB3 : Hid (Blk (((w2.setCell ⟨g, off + ni, none⟩ (.int .u64 (vy : Int))).setCell ⟨g, off + nj, none⟩ (.int .u64 (vx : Int))).drew) rb 93 [.int .u64 (X : Int)]) := Lib.hid ((HB.out.other (a := ⟨g, off + ni, none⟩) hne _).other (a := ⟨g, off + nj, none⟩) hne _)
        have HSW := Lib.hid hsw
        clear hvx hvy HR hni hnj hsw hdq
        have mixed : Try.prog.follows .mixedOrders = true := by kernel_rfl
        go_wp2_with fail
        go_big_region_o
        clear mixed
        clear l0 l1 l2 f0 f1 hi1 hi2 hi3 hi4 hj1 hj2 hj3 hj4
        rename Hid (Ro _ _ _ _ _) => HR
        clear HB
        go_wp2
        go_roundw
        case rel => exact ⟨k + 1, m, xorNext r, dq, by go_num, by omega, by omega, hsz, HR.out, by rw [← HXN.out]; exact HB3.out, by rw [← HDQ.out]; exact HI2.out⟩
        case measure => simp [intOf] <;> omega
      · have hLOz : ¬ (O : Int) ≥ (L : Int) := by omega
        have HI2 := Lib.hid (HI.out)
        rw [bpr_go a L M m k r dk X O HXN.out HO.out O (.inr ⟨hLO, rfl⟩)] at HI2
        go_wp2_with fail
        refine (HNX.out).mono ?_; rintro e w3 ⟨rfl, rfl⟩
        rename World => w2
        clear HNX HI
        go_wp2_with fail
        obtain ⟨ni, hni⟩ : ∃ ni, ni = k := ⟨_, rfl⟩
        obtain ⟨nj, hnj⟩ : ∃ nj, nj = a + O := ⟨_, rfl⟩
        obtain ⟨vx, hvx⟩ : ∃ vx, dk[ni]! = vx := ⟨_, rfl⟩
        obtain ⟨vy, hvy⟩ : ∃ vy, dk[nj]! = vy := ⟨_, rfl⟩
        have l0 := HR.out.cl ni (by omega)
        have l1 := HR.out.cl nj (by omega)
        have f0 := HR.out.fr ni (by omega)
        have f1 := HR.out.fr nj (by omega)
        obtain ⟨vu, l2⟩ := HR.out.st ni nj (by omega) (by omega) (.int .u64 (vy : Int))
        have hsw := HR.out.swap ni nj vx vy (by omega) (by omega) hvx hvy
        obtain ⟨dq, hdq⟩ : ∃ dq, swp dk ni nj = dq := ⟨_, rfl⟩
        rw [hdq] at hsw
        have hsz : dq.size = n := by rw [← hdq, size_swp]; omega
        have HDQ : Hid (swp dk (k) (a + O) = dq) := Lib.hid (by rw [← hdq, hni, hnj])
        rw [hvx] at l0
        rw [hvy] at l1
        have hi1 : ((k : Int)).toNat = ni := by omega
        have hi2 : (0 : Int) ≤ (k : Int) := by omega
        have hi3 : (k : Int) < (n : Int) := by omega
        have hi4 : IntKind.i64.wrap ((k : Int)) = (k : Int) := by rw [IntKind.wrap_i64]; omega
        have hj1 : ((a : Int) + (O : Int)).toNat = nj := by omega
        have hj2 : (0 : Int) ≤ (a : Int) + (O : Int) := by omega
        have hj3 : (a : Int) + (O : Int) < (n : Int) := by omega
        have hj4 : IntKind.i64.wrap ((a : Int) + (O : Int)) = (a : Int) + (O : Int) := by rw [IntKind.wrap_i64]; omega
        have HB3 : Hid (Blk (((w2.setCell ⟨g, off + ni, none⟩ (.int .u64 (vy : Int))).setCell ⟨g, off + nj, none⟩ (.int .u64 (vx : Int))).drew) rb 93 [.int .u64 (X : Int)]) := Lib.hid ((HB.out.other (a := ⟨g, off + ni, none⟩) hne _).other (a := ⟨g, off + nj, none⟩) hne _)
        have HSW := Lib.hid hsw
        clear hvx hvy HR hni hnj hsw hdq
        have mixed : Try.prog.follows .mixedOrders = true := by kernel_rfl
        go_wp2_with fail
        go_big_region_o
        clear mixed
        clear l0 l1 l2 f0 f1 hi1 hi2 hi3 hi4 hj1 hj2 hj3 hj4
        rename Hid (Ro _ _ _ _ _) => HR
        clear HB
        go_wp2
        go_roundw
        case rel => exact ⟨k + 1, m, xorNext r, dq, by go_num, by omega, by omega, hsz, HR.out, by rw [← HXN.out]; exact HB3.out, by rw [← HDQ.out]; exact HI2.out⟩
        case measure => simp [intOf] <;> omega

end Go.Proofs.Ytddjggckmmdicaa
