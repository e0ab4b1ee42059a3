/-
  What pending, reached, find of package record and first of its reference answer for any chain. Condition: chains of at most 2^40 versions.
-/
import Derived.Test.YtpamjbjgckaedaaRecMem
namespace Go.Proofs.Ytpamjbjgckaedaa
open Go.RowKit Go.Deep Plain
set_option linter.unusedVariables false

set_option linter.unusedVariables false

theorem boxed {B : Nat} {w wr w1 : World} {o : Obj} (h : Below B w wr) (hs : B ≤ wr.heap.size) (h1 : Below (wr.alloc o).heap.size (wr.alloc o) w1) : Below B w w1 := (h.alloc hs o).trans (h1.mono (by rw [nblk_alloc]; omega))

theorem ver_eq {x y : Ve} (h1 : x.1 = y.1) (h2 : x.2.1 = y.2.1) (h3 : x.2.2 = y.2.2) : x = y := by
  obtain ⟨a, b, c⟩ := x; obtain ⟨d, e, f⟩ := y; simp only at h1 h2 h3; rw [h1, h2, h3]

set_option maxHeartbeats 400000 in
theorem pending_any (x : Ve) (b : Bool) (hb : (x.1 == 0) = b) (w : World) :
    Calls Try.prog 78 #[.agg #[.int .u64 (x.1 : Int), .string x.2.1, .bool x.2.2]] w fun e w' => e = .returned (.bool b) ∧ Below w.heap.size w w' := by
  have h : ((x.1 : Int) == 0) = b := by rw [← hb]; cases h : x.1 == 0 <;> simp_all
  clear hb
  go_enter Try.func78, Try.ntmps78
  go_wp2
  go_ret
  exact ⟨rfl, (Below.refl _ _).alloc (Nat.le_refl _) _⟩

set_option maxHeartbeats 400000 in
theorem reached_any (x : Ve) (t : Nat) (b : Bool) (hb : rch t x = b) (w : World) :
    Calls Try.prog 66 #[.agg #[.int .u64 (x.1 : Int), .string x.2.1, .bool x.2.2], .int .u64 (t : Int)] w fun e w' => e = .returned (.bool b) ∧ Below w.heap.size w w' := by
  obtain ⟨p, hp⟩ : ∃ p, (x.1 == 0) = p := ⟨_, rfl⟩
  have B0 := (Below.refl w.heap.size w).alloc (Nat.le_refl _) (.cells #[.int .u64 (x.1 : Int), .string x.2.1, .bool x.2.2] 51)
  have P0 := Blk.new w [.int .u64 (x.1 : Int), .string x.2.1, .bool x.2.2] 51
  have hz := nblk_alloc w (.cells #[.int .u64 (x.1 : Int), .string x.2.1, .bool x.2.2] 51)
  have HB0 := Lib.hid B0
  have HP0 := Lib.hid P0
  have HZ := Lib.hid hz
  clear B0 P0 hz
  have HBV := Lib.hid hb
  clear hb
  go_enter Try.func66, Try.ntmps66
  go_wp2_with fail
  refine (pending_any x p hp _).mono ?_; rintro e w1 ⟨rfl, hB1⟩
  rw [HZ.out] at hB1
  have hP1 := HP0.out.below hB1 (by omega)
  have x0 := hP1.cell (i := 0) rfl
  have HB1 := Lib.hid (HB0.out.trans (hB1.mono (by omega)))
  clear hP1 hB1
  cases p
  · have h0 : x.1 ≠ 0 := by simpa using hp
    have hd : decide (x.1 ≤ t) = b := by
      rw [← HBV.out]; unfold rch; rw [hp]; simp
    clear hp h0
    go_wp2
    go_ret
    exact ⟨by first | rfl | simp, HB1.out⟩
  · obtain rfl : b = false := by rw [← HBV.out]; unfold rch; rw [hp]; rfl
    clear hp
    go_wp2
    go_ret
    exact ⟨rfl, HB1.out⟩

set_option maxHeartbeats 1000000 in
theorem find_any (A : Option Addr) (c : Nat) (xs : List Ve) (t : Nat) (w : World) (n : Nat) (hn : xs.length = n) (h40 : n ≤ 1099511627776) (hR : Rv w A c xs) :
    Calls Try.prog 79 #[.slice A n c, .int .u64 (t : Int)] w fun e w' => e = .returned (.int .i64 (fnd t xs : Nat)) ∧ Below w.heap.size w w' := by
  have HR := Lib.hid hR
  obtain ⟨q, hq⟩ : ∃ q, fnd t xs = q := ⟨_, rfl⟩
  have hqn : q ≤ n := by rw [← hq, ← hn]; exact fnd_le t xs
  rw [hq]
  have HQ := Lib.hid hq
  clear hR hq
  go_enter Try.func79, Try.ntmps79
  go_wp2_with fail
  go_loopw [9] (fun i wr => ∃ j : Nat, j ≤ q ∧ i = .int .i64 j ∧ Below w.heap.size w wr) (fun i _ => n - (intOf i).toNat)
  case atStart => exact ⟨0, Nat.zero_le _, rfl, Below.refl _ _⟩
  case round =>
    obtain ⟨j, hj, rfl, hbel⟩ := hrel
    have HL := Lib.hid hbel
    have hsz := hbel.size
    by_cases hlt : j < n
    · obtain ⟨x, hx⟩ : ∃ x, xs[j]? = some x := ⟨_, List.getElem?_eq_getElem (by omega)⟩
      obtain ⟨g, off, rfl, hg, hcell⟩ := (HR.out.below hbel (Nat.le_refl _)).at (by omega)
      obtain ⟨c0, c1, c2⟩ := hcell j x hx
      obtain ⟨b, hb⟩ : ∃ b, rch t x = b := ⟨_, rfl⟩
      have HX := Lib.hid hx
      have HBV := Lib.hid hb
      clear hcell hx hbel hb
      go_wp2_with fail
      refine (reached_any x t b HBV.out _).mono ?_; rintro e w1 ⟨rfl, hB1⟩
      have HB1 := Lib.hid (boxed HL.out hsz hB1)
      clear hB1
      cases b
      · have hj2 := fnd_miss (by rw [HQ.out]; exact hj) HX.out HBV.out
        rw [HQ.out] at hj2
        go_wp2
        go_roundw
        case rel => exact ⟨j + 1, hj2, by go_num, HB1.out⟩
        case measure => simp [intOf]; omega
      · obtain rfl : q = j := by rw [← HQ.out]; exact fnd_hit (by rw [HQ.out]; exact hj) HX.out HBV.out
        go_wp2
        go_ret
        exact ⟨rfl, HB1.out⟩
    · obtain rfl : j = q := by omega
      obtain rfl : j = n := by omega
      go_wp2
      go_ret
      exact ⟨rfl, hbel⟩

set_option maxHeartbeats 1000000 in
theorem first_any (A : Option Addr) (c : Nat) (xs : List Ve) (t : Nat) (w : World) (n : Nat) (hn : xs.length = n) (h40 : n ≤ 1099511627776) (hR : Rv w A c xs) :
    Calls Try.prog 43 #[.slice A n c, .int .u64 (t : Int)] w fun e w' => e = .returned (.int .i64 (fnd t xs : Nat)) ∧ Below w.heap.size w w' := by
  have HR := Lib.hid hR
  obtain ⟨q, hq⟩ : ∃ q, fnd t xs = q := ⟨_, rfl⟩
  have hqn : q ≤ n := by rw [← hq, ← hn]; exact fnd_le t xs
  rw [hq]
  have HQ := Lib.hid hq
  clear hR hq
  go_enter Try.func43, Try.ntmps43
  go_wp2_with fail
  go_loopw [5] (fun i wr => ∃ j : Nat, j ≤ q ∧ i = .int .i64 j ∧ wr = w) (fun i _ => n - (intOf i).toNat)
  case atStart => exact ⟨0, Nat.zero_le _, rfl, rfl⟩
  case round =>
    obtain ⟨j, hj, rfl, rfl⟩ := hrel
    by_cases hlt : j < n
    · obtain ⟨x, hx⟩ : ∃ x, xs[j]? = some x := ⟨_, List.getElem?_eq_getElem (by omega)⟩
      obtain ⟨g, off, rfl, hg, hcell⟩ := HR.out.at (by omega)
      obtain ⟨c0, c1, c2⟩ := hcell j x hx
      obtain ⟨b, hb⟩ : ∃ b, rch t x = b := ⟨_, rfl⟩
      have HX := Lib.hid hx
      have HBV := Lib.hid hb
      clear hcell hx hb c1 c2
      by_cases h0 : x.1 = 0
      · obtain rfl : b = false := by rw [← HBV.out]; unfold rch; simp [h0]
        have h0' : ((x.1 : Int) != 0) = false := by simp; omega
        have hj2 := fnd_miss (by rw [HQ.out]; exact hj) HX.out HBV.out
        rw [HQ.out] at hj2
        clear h0
        go_wp2
        go_roundw
        case rel => exact ⟨j + 1, hj2, by go_num, by first | rfl | trivial⟩
        case measure => simp [intOf]; omega
      · have h0' : ((x.1 : Int) != 0) = true := by simp; omega
        by_cases ht : x.1 ≤ t
        · obtain rfl : b = true := by rw [← HBV.out]; exact rch_iff.2 ⟨h0, ht⟩
          obtain rfl : q = j := by rw [← HQ.out]; exact fnd_hit (by rw [HQ.out]; exact hj) HX.out HBV.out
          clear h0
          go_wp2
          go_ret
          exact ⟨rfl, Below.refl _ _⟩
        · obtain rfl : b = false := by rw [← HBV.out]; exact rch_no.2 fun _ => by omega
          have hj2 := fnd_miss (by rw [HQ.out]; exact hj) HX.out HBV.out
          rw [HQ.out] at hj2
          have ht' : decide (x.1 ≤ t) = false := by simpa using ht
          clear h0
          go_wp2
          go_roundw
          case rel => exact ⟨j + 1, hj2, by go_num, by first | rfl | trivial⟩
          case measure => simp [intOf]; omega
    · obtain rfl : j = q := by omega
      obtain rfl : j = n := by omega
      go_wp2
      go_ret
      exact ⟨rfl, Below.refl _ _⟩

end Go.Proofs.Ytpamjbjgckaedaa
