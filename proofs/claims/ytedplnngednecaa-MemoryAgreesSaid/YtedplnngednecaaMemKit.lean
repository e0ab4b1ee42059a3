/-
  What the kit's functions over memories answer (Cells, Same), and the small check 'awake' of layer 2's statements. Condition: at most 2^40 cells.
-/
import Derived.Test.YtedplnngednecaaMemMake
namespace Go.Proofs.Ytedplnngednecaa
open Go.RowKit Go.Deep

theorem fill_start (l : List Cel) : l.take 0 ++ List.replicate (l.length - 0) cel0 = List.replicate l.length cel0 := by simp
theorem fill_step (l : List Cel) (j : Nat) (h : j < l.length) (c : Cel) (hc : l[j]? = some c) : (l.take j ++ List.replicate (l.length - j) cel0).set j c = l.take (j + 1) ++ List.replicate (l.length - (j + 1)) cel0 := by
  have e : l.length - j = (l.length - (j + 1)) + 1 := by omega
  rw [e, List.replicate_succ, List.set_append_right _ _ (by rw [List.length_take]; omega)]
  rw [List.length_take, show j - min j l.length = 0 by omega, List.set_cons_zero, List.take_succ_eq_append_getElem h]
  obtain ⟨_, rfl⟩ := List.getElem?_eq_some_iff.1 hc
  rw [List.append_assoc]
  rfl
theorem fill_end (l : List Cel) : l.take l.length ++ List.replicate (l.length - l.length) cel0 = l := by simp
theorem fill_length (l : List Cel) (j : Nat) (h : j ≤ l.length) : (l.take j ++ List.replicate (l.length - j) cel0).length = l.length := by simp; omega
/-- The row out as far as it has been filled. -/
def filled (l : List Cel) (j : Nat) : List Value := flat3 (l.take j ++ List.replicate (l.length - j) cel0)
theorem filled_at (l : List Cel) (j : Nat) (h : j < l.length) : ∃ a b c, (filled l j)[j * 3]? = some a ∧ (filled l j)[j * 3 + 1]? = some b ∧ (filled l j)[j * 3 + 2]? = some c := by
  have hl := fill_length l j (by omega)
  obtain ⟨x, hx⟩ : ∃ x, (l.take j ++ List.replicate (l.length - j) cel0)[j]? = some x := ⟨_, List.getElem?_eq_getElem (by omega)⟩
  obtain ⟨f1, f2, f3⟩ := flat3_at _ _ _ hx
  exact ⟨_, _, _, f1, f2, f3⟩
theorem filled_set (l : List Cel) (j : Nat) (h : j < l.length) (c : Cel) (hc : l[j]? = some c) : (((filled l j).set (j * 3) (.int .u64 c.1)).set (j * 3 + 1) (.string c.2.1)).set (j * 3 + 2) (.int .u64 c.2.2) = filled l (j + 1) := by
  unfold filled; rw [← flat3_set, fill_step l j h c hc]

set_option maxHeartbeats 400000 in
theorem kitCells_any (b g : Nat) (l : List Cel) (k : Nat) (w : World) (h : Mem w b g l k) (hl : l.length ≤ 1099511627776) :
    Calls Try.prog 20 #[.pointer (some ⟨b, 0, none⟩)] w fun e w' => e = .returned (.slice (some ⟨w.heap.size, 0, none⟩) l.length l.length) ∧ Blk w' w.heap.size 32 (flat3 l) ∧ Kept (fun _ => False) w w' := by
  have hmk := make_cells l.length hl
  go_enter Try.func20, Try.ntmps20
  go_wp2_with (go_at_call 10; refine (cells_any _ _ l k _ h).mono ?_; rintro e w' ⟨rfl, rfl⟩)
  go_loopw [4] (fun i wr => ∃ j : Nat, j ≤ l.length ∧ i = .int .i64 j ∧ Blk wr w.heap.size 32 (filled l j) ∧ Kept (fun _ => False) w wr) (fun i _ => l.length - (intOf i).toNat)
  case atStart => exact ⟨0, by omega, rfl, by unfold filled; rw [fill_start]; exact Blk.new _ _ _, (Kept.refl _ _).alloc _⟩
  case round =>
    obtain ⟨j, hj, rfl, hB, hK⟩ := hrel
    by_cases hlt : j < l.length
    · have hM := h.kept hK id id
      obtain ⟨N, K, M, hc⟩ : ∃ N K M, cellAt l j = (N, K, M) := ⟨_, _, _, rfl⟩
      have hcj : l[j]? = some (N, K, M) := by rw [cellAt_in l j hlt] at hc; rw [List.getElem?_eq_getElem hlt, hc]
      have HC := Lib.hid hc
      have HJ := Lib.hid hcj
      have HB := Lib.hid hB
      have HK := Lib.hid hK
      clear hc hcj hB hK
      go_wp2_with fail
      refine (peek_any _ _ l k _ _ _ _ _ hM HC.out).mono ?_; rintro e w1 ⟨rfl, hkp⟩
      have hB1 := (HB.out.of (hkp.block _ HB.out.lt id) : Blk w1 w.heap.size 32 (filled l j))
      have HK1 := Lib.hid (HK.out.trans hkp (fun _ _ h => h))
      have HS := Lib.hid (filled_set l j hlt _ HJ.out)
      obtain ⟨x0, x1, x2, f0, f1, f2⟩ := filled_at l j hlt
      have y0 := hB1.cell f0
      have y1 := hB1.cell f1
      have y2 := hB1.cell f2
      have z0 := hB1.frozen (j * 3)
      have z1 := hB1.frozen (j * 3 + 1)
      have z2 := hB1.frozen (j * 3 + 2)
      have HB1 := Lib.hid hB1
      clear f0 f1 f2 hB1 hkp HB HK HC HJ hM
      go_wp2
      go_roundw
      case rel => exact ⟨j + 1, by omega, by go_num, by rw [← HS.out]; exact ((HB1.out.set _ _).set _ _).set _ _, ((HK1.out.setCell (fun h => absurd h (Nat.lt_irrefl _)) _).setCell (fun h => absurd h (Nat.lt_irrefl _)) _).setCell (fun h => absurd h (Nat.lt_irrefl _)) _⟩
      case measure => simp [intOf]; omega
    · obtain rfl : j = l.length := by omega
      unfold filled at hB
      rw [fill_end] at hB
      go_wp2
      go_ret
      exact ⟨rfl, hB, hK⟩

set_option maxHeartbeats 400000 in
theorem same_yes (g1 g2 c1 c2 : Nat) (l : List Cel) (w : World) (h1 : ∀ i u, (flat3 l)[i]? = some u → w.cell? ⟨g1, i, none⟩ = some u) (h2 : ∀ i u, (flat3 l)[i]? = some u → w.cell? ⟨g2, i, none⟩ = some u) (hl : l.length ≤ 1099511627776) :
    Calls Try.prog 19 #[.slice (some ⟨g1, 0, none⟩) l.length c1, .slice (some ⟨g2, 0, none⟩) l.length c2] w fun e w' => e = .returned (.bool true) ∧ ∃ n, w' = w.drewN n := by
  have H1 := Lib.hid h1
  have H2 := Lib.hid h2
  clear h1 h2
  go_enter Try.func19, Try.ntmps19
  go_wp2
  go_loopw [5] (fun i wr => ∃ j n : Nat, j ≤ l.length ∧ i = .int .i64 j ∧ wr = w.drewN n) (fun i _ => l.length - (intOf i).toNat)
  case atStart => exact ⟨0, 0, by omega, rfl, rfl⟩
  case round =>
    obtain ⟨j, n, hj, rfl, rfl⟩ := hrel
    by_cases hlt : j < l.length
    · obtain ⟨f1, f2, f3⟩ := flat3_at l j _ (List.getElem?_eq_getElem hlt)
      have d1 := H1.out _ _ f1
      have d2 := H1.out _ _ f2
      have d3 := H1.out _ _ f3
      have e1 := H2.out _ _ f1
      have e2 := H2.out _ _ f2
      have e3 := H2.out _ _ f3
      clear f1 f2 f3
      obtain ⟨N, hN⟩ : ∃ N, N = l[j].1 := ⟨_, rfl⟩
      obtain ⟨K, hK⟩ : ∃ K, K = l[j].2.1 := ⟨_, rfl⟩
      obtain ⟨M, hM⟩ : ∃ M, M = l[j].2.2 := ⟨_, rfl⟩
      rw [← hN] at d1 e1
      rw [← hK] at d2 e2
      rw [← hM] at d3 e3
      clear hN hK hM
      go_wp2_with fail
      go_quiet (fail)
      go_wp2
      go_roundw
      case rel => exact ⟨j + 1, n + nq, by omega, by go_num, rfl⟩
      case measure => simp [intOf]; omega
    · go_wp2
      go_ret
      exact ⟨rfl, n, rfl⟩

theorem new_3 (w : World) :
    Calls Try.prog 7 #[.int .i64 3] w fun e w' => e = .returned (.tuple #[.pointer (some ⟨w.heap.size + 1, 0, none⟩), .int .i64 0]) ∧ Mem w' (w.heap.size + 1) w.heap.size [cel0, cel0, cel0] 0 ∧ Kept (fun _ => False) w w' :=
  new_ok 3 (by omega) (by omega) w
theorem swap_of (b g : Nat) (l l' : List Cel) (k : Nat) (i : Int) (old N M : Int) (K : ByteArray) (r : Bool) (w : World) (h : Mem w b g l k) (hk : k < 9223372036854775808) (hr : swaps l i old = r) (hl : (if r then putAt l i (N, K, M) else l) = l') :
    Calls Try.prog 17 #[.pointer (some ⟨b, 0, none⟩), .int .i64 i, .int .u64 old, .agg #[.int .u64 N, .string K, .int .u64 M]] w fun e w' => e = .returned (.bool r) ∧ Mem w' b g l' (k + 1) ∧ Kept (Own b g) w w' := by
  subst hr hl; exact swap_any b g l k i old N M K w h hk

set_option maxHeartbeats 400000 in
theorem awake_any (w : World) :
    Calls Try.prog 9 #[] w fun e w' => e = .returned (.bool true) ∧ Kept (fun _ => False) w w' := by
  go_enter Try.func9, Try.ntmps9
  go_wp2_with fail
  refine (new_3 _).mono ?_; rintro e w1 ⟨rfl, hM1, hK1⟩
  have HM1 := Lib.hid hM1
  have HK1 := Lib.hid hK1
  clear hM1 hK1
  go_wp2_with fail
  refine (swap_of _ _ _ [(5, ⟨#[]⟩, 0), cel0, cel0] _ _ _ _ _ _ true _ HM1.out (by omega) rfl rfl).mono ?_; rintro e w2 ⟨rfl, hM2, hK2⟩
  have HM2 := Lib.hid hM2
  have HK2 : Hid (Kept (fun _ => False) w w2) := Lib.hid (HK1.out.trans hK2 (fun i hi h => by unfold Own at h; omega))
  clear hM2 hK2 HM1 HK1
  go_wp2_with fail
  refine (swap_of _ _ _ [(5, ⟨#[]⟩, 0), cel0, cel0] _ _ _ _ _ _ false _ HM2.out (by omega) rfl rfl).mono ?_; rintro e w3 ⟨rfl, hM3, hK3⟩
  have HM3 := Lib.hid hM3
  have HK3 : Hid (Kept (fun _ => False) w w3) := Lib.hid (HK2.out.trans hK3 (fun i hi h => by unfold Own at h; omega))
  clear hM3 hK3 HM2 HK2
  go_wp2_with fail
  refine (accesses_any _ _ _ _ _ HM3.out).mono ?_; rintro e w4 ⟨rfl, rfl⟩
  go_wp2_with fail
  refine (cells_any _ _ _ _ _ HM3.out).mono ?_; rintro e w5 ⟨rfl, rfl⟩
  go_wp2
  go_ret
  exact ⟨rfl, HK3.out⟩

end Go.Proofs.Ytedplnngednecaa
