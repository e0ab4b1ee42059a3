/-
  The kit's Mod and Same, and the reference's Same of pages, where both read alike. Condition: rows of at most 2^40 slots.
-/
import Derived.Test.YtegbdpelnmaijaaPagMem
namespace Go.Proofs.Ytegbdpelnmaijaa
open Go.RowKit Go.Deep Plain
set_option linter.unusedVariables false

theorem mod_neg (k n : Int) (hn : 0 < n) (h : k.tmod n < 0) : k.tmod n + n = k % n := by
  have e : k % n = k.tmod n % n := by
    have := Int.tmod_add_mul_tdiv k n
    rw [← this, Int.add_mul_emod_self_left, this]
  have l := Int.lt_tmod_of_pos k hn
  rw [e, ← Int.add_emod_right, Int.emod_eq_of_lt (by omega) (by omega)]
theorem mod_pos (k n : Int) (hn : 0 < n) (h : 0 ≤ k.tmod n) : k.tmod n = k % n := by
  have e : k % n = k.tmod n % n := by
    have := Int.tmod_add_mul_tdiv k n
    rw [← this, Int.add_mul_emod_self_left, this]
  rw [e, Int.emod_eq_of_lt h (Int.tmod_lt_of_pos k hn)]
theorem ret_int {k : IntKind} {a b : Int} (h : a = b) : Ending.returned (.int k a) = .returned (.int k b) := by rw [h]

set_option maxHeartbeats 400000 in
theorem mod_any (k n r : Int) (w : World) (hn : 0 < n) (hn2 : n ≤ 9223372036854775807) (hr : k % n = r) :
    Calls Try.prog 13 #[.int .i64 k, .int .i64 n] w fun e w' => e = .returned (.int .i64 r) ∧ w = w' := by
  subst hr
  go_enter Try.func13, Try.ntmps13
  go_wp2
  · have hl := Int.lt_tmod_of_pos k hn
    have h : k.tmod n < 0 := by assumption
    go_ret
    exact ⟨ret_int (by rw [IntWalk.wrap64_in _ (by omega)]; exact mod_neg k n hn h), rfl⟩
  · have h : 0 ≤ k.tmod n := by assumption
    go_ret
    exact ⟨ret_int (mod_pos k n hn h), rfl⟩

set_option maxHeartbeats 1000000 in
theorem kitSame_yes (A A2 : Option Addr) (c c2 : Nat) (xs : List Sl) (w : World) (n : Nat) (hn : xs.length = n) (h40 : n ≤ 1099511627776) (hR : Rs w A c xs) (hR2 : Rs w A2 c2 xs) :
    Calls Try.prog 24 #[.slice A n c, .slice A2 n c2] w fun e w' => e = .returned (.bool true) ∧ Below w.heap.size w w' := by
  have HR := Lib.hid hR
  have HR2 := Lib.hid hR2
  clear hR hR2
  go_enter Try.func24, Try.ntmps24
  go_wp2
  go_loopw [5] (fun i wr => ∃ j : Nat, j ≤ n ∧ i = .int .i64 j ∧ Below w.heap.size w wr) (fun i _ => n - (intOf i).toNat)
  case atStart => exact ⟨0, by omega, rfl, Below.refl _ _⟩
  case round =>
    obtain ⟨j, hj, rfl, hB⟩ := hrel
    have HB := Lib.hid hB
    by_cases hlt : j < n
    · obtain ⟨x, hx⟩ : ∃ x, xs[j]? = some x := ⟨_, List.getElem?_eq_getElem (by omega)⟩
      obtain ⟨g, off, rfl, hg, hcell⟩ := (HR.out.below hB (Nat.le_refl _)).at (by omega)
      obtain ⟨c0, c1⟩ := hcell j x hx
      obtain ⟨g2, off2, rfl, hg2, hcell2⟩ := (HR2.out.below hB (Nat.le_refl _)).at (by omega)
      obtain ⟨d0, d1⟩ := hcell2 j x hx
      clear hcell hcell2 hx hB
      go_wp2_with fail
      go_quiet (fail)
      go_wp2
      go_roundw
      case rel => exact ⟨j + 1, by omega, by go_num, below_drewN HB.out _⟩
      case measure => simp [intOf]; omega
    · go_wp2
      go_ret
      exact ⟨rfl, hB⟩

theorem box_two' (w : World) (ps rs : List Value) (t : TypeId) : Blk ((w.alloc (.cells ⟨ps⟩ t)).alloc (.cells ⟨rs⟩ t)) w.heap.size t ps ∧ Blk ((w.alloc (.cells ⟨ps⟩ t)).alloc (.cells ⟨rs⟩ t)) (w.heap.size + 1) t rs ∧
    Below w.heap.size w ((w.alloc (.cells ⟨ps⟩ t)).alloc (.cells ⟨rs⟩ t)) := ⟨(box_two w ps rs t t).1, (box_two w ps rs t t).2.1, (box_two w ps rs t t).2.2.1⟩

set_option maxHeartbeats 2000000 in
theorem refSame_yes (lv : Int) (A A2 : Option Addr) (c c2 : Nat) (hi : ByteArray) (la : Bool) (rt : Nat) (xs : List Sl) (w : World) (n : Nat) (hn : xs.length = n) (h40 : n ≤ 1099511627776) (hR : Rs w A c xs) (hR2 : Rs w A2 c2 xs) :
    Calls Try.prog 23 #[.agg #[.int .i64 lv, .slice A n c, .string hi, .bool la, .int .u64 (rt : Int)], .agg #[.int .i64 lv, .slice A2 n c2, .string hi, .bool la, .int .u64 (rt : Int)]] w fun e w' => e = .returned (.bool true) ∧ Below w.heap.size w w' := by
  obtain ⟨P0, S0, B0⟩ := box_two' w [.int .i64 lv, .slice A n c, .string hi, .bool la, .int .u64 (rt : Int)] [.int .i64 lv, .slice A2 n c2, .string hi, .bool la, .int .u64 (rt : Int)] 25
  have HR := Lib.hid (hR.below B0 (Nat.le_refl _))
  have HR2 := Lib.hid (hR2.below B0 (Nat.le_refl _))
  have hz : ((w.alloc (.cells #[.int .i64 lv, .slice A n c, .string hi, .bool la, .int .u64 (rt : Int)] 25)).alloc (.cells #[.int .i64 lv, .slice A2 n c2, .string hi, .bool la, .int .u64 (rt : Int)] 25)).heap.size = w.heap.size + 2 := by rw [nblk_alloc, nblk_alloc]
  clear hR hR2
  go_enter Try.func23, Try.ntmps23
  go_wp2
  generalize (w.alloc (.cells #[.int .i64 lv, .slice A n c, .string hi, .bool la, .int .u64 (rt : Int)] 25)).alloc (.cells #[.int .i64 lv, .slice A2 n c2, .string hi, .bool la, .int .u64 (rt : Int)] 25) = W at *
  go_loopw [5] (fun i wr => ∃ j : Nat, j ≤ n ∧ i = .int .i64 j ∧ Below W.heap.size W wr) (fun i _ => n - (intOf i).toNat)
  case atStart => exact ⟨0, by omega, rfl, Below.refl _ _⟩
  case round =>
    obtain ⟨j, hj, rfl, hB⟩ := hrel
    have HB := Lib.hid hB
    have hP := P0.below hB (by omega)
    have hS := S0.below hB (by omega)
    have x1 := hP.cell (i := 1) rfl
    have y1 := hS.cell (i := 1) rfl
    clear hP hS
    by_cases hlt : j < n
    · obtain ⟨x, hx⟩ : ∃ x, xs[j]? = some x := ⟨_, List.getElem?_eq_getElem (by omega)⟩
      obtain ⟨g, off, rfl, hg, hcell⟩ := (HR.out.below hB (Nat.le_refl _)).at (by omega)
      obtain ⟨c0, c1⟩ := hcell j x hx
      obtain ⟨g2, off2, rfl, hg2, hcell2⟩ := (HR2.out.below hB (Nat.le_refl _)).at (by omega)
      obtain ⟨d0, d1⟩ := hcell2 j x hx
      clear hcell hcell2 hx hB
      go_wp2_with fail
      go_quiet (fail)
      go_wp2
      go_roundw
      case rel => exact ⟨j + 1, by omega, by go_num, below_drewN HB.out _⟩
      case measure => simp [intOf]; omega
    · go_wp2
      go_ret
      exact ⟨rfl, B0.trans (HB.out.mono (by omega))⟩
end Go.Proofs.Ytegbdpelnmaijaa
