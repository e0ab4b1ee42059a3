/-
  The statement of layer 2 'a store or a successful swap changes one cell only, a failed swap none': it returns true for every list of cells and every cell, numbers and mark; nothing that was there is written. Condition: the list within the model's reach.
-/
import Derived.Test.YtedplnngednecaaMemLawNew
import Derived.Deep.RegionHeld3
namespace Go.Proofs.Ytedplnngednecaa
open Go.RowKit Go.Deep

/-- The cells when i of them have been stored. -/
def part (l : List Cel) (n i : Nat) : List Cel := l.take i ++ List.replicate (n + 1 - i) cel0
theorem part_zero (l : List Cel) (n : Nat) : part l n 0 = List.replicate (n + 1) cel0 := by simp [part]
theorem part_length (l : List Cel) (n i : Nat) (hi : i ≤ n) (hn : n ≤ l.length) : (part l n i).length = n + 1 := by simp [part]; omega
theorem part_step (l : List Cel) (n i : Nat) (hi : i < n) (hn : n ≤ l.length) (c : Cel) (hc : l[i]? = some c) : putAt (part l n i) i c = part l n (i + 1) := by
  rw [putAt_in]
  unfold part
  have e : n + 1 - i = (n + 1 - (i + 1)) + 1 := by omega
  rw [e, List.replicate_succ, List.set_append_right _ _ (by rw [List.length_take]; omega)]
  rw [List.length_take, show i - min i l.length = 0 by omega, List.set_cons_zero, List.take_succ_eq_append_getElem (by omega)]
  obtain ⟨_, rfl⟩ := List.getElem?_eq_some_iff.1 hc
  rw [List.append_assoc]
  rfl

theorem swaps_at (F : List Cel) (q : Nat) (N old M : Int) (K : ByteArray) (h : F[q]? = some (N, K, M)) : swaps F q old = (N == old) := by
  have hq : q < F.length := (List.getElem?_eq_some_iff.1 h).1
  have hc : cellAt F q = (N, K, M) := by rw [cellAt_in F q hq]; exact (List.getElem?_eq_some_iff.1 h).2
  unfold swaps isIn
  rw [hc]
  simp [hq]
theorem keep3 {W w' : World} {r : Nat} {a b c : Value} (hk : Kept (fun _ => False) W w') (hr : r < W.heap.size) (h : W.cell? ⟨r, 0, none⟩ = some a ∧ W.cell? ⟨r, 1, none⟩ = some b ∧ W.cell? ⟨r, 2, none⟩ = some c) :
    w'.cell? ⟨r, 0, none⟩ = some a ∧ w'.cell? ⟨r, 1, none⟩ = some b ∧ w'.cell? ⟨r, 2, none⟩ = some c :=
  ⟨(hk.cell (p := ⟨r, 0, none⟩) hr id).trans h.1, (hk.cell (p := ⟨r, 1, none⟩) hr id).trans h.2.1, (hk.cell (p := ⟨r, 2, none⟩) hr id).trans h.2.2⟩

set_option maxHeartbeats 4000000 in
theorem lawCells_few (w : World) (A : Option Addr) (c : Nat) (l : List Cel) (at_ old N M : Int) (K : ByteArray) (swap : Bool) (hm : l.length ≤ maxLen) (hmin : l.length ≤ 20)
    (hA : 0 < l.length → ∃ g off, A = some ⟨g, off, none⟩ ∧ g < w.heap.size ∧ ∀ (i : Nat) (c : Cel), l[i]? = some c →
        w.cell? ⟨g, off + i * 3, none⟩ = some (.int .u64 c.1) ∧ w.cell? ⟨g, off + i * 3 + 1, none⟩ = some (.string c.2.1) ∧ w.cell? ⟨g, off + i * 3 + 2, none⟩ = some (.int .u64 c.2.2)) :
    Calls Try.prog 5 #[.slice A l.length c, .int .i64 at_, .agg #[.int .u64 N, .string K, .int .u64 M], .int .u64 old, .bool swap] w fun e w' => e = .returned (.bool true) ∧ Below w.heap.size w w' := by
  unfold maxLen at hm
  have HA := Lib.hid hA
  obtain ⟨q, hq, hq2⟩ := mod_ex at_ (((l.length : Nat) : Int) + 1) (by omega)
  have hqn : q ≤ l.length := by omega
  have HQ := Lib.hid hq
  clear hA hq hq2
  go_enter Try.func5, Try.ntmps5
  go_wp2_with fail
  have hbox : Blk (w.alloc (.cells #[.int .u64 N, .string K, .int .u64 M] 32)) w.heap.size 32 [.int .u64 N, .string K, .int .u64 M] := Blk.new w _ _
  have hk1 : Kept (fun _ => False) w (w.alloc (.cells #[.int .u64 N, .string K, .int .u64 M] 32)) := (Kept.refl _ _).alloc _
  have HB1 := Lib.hid hbox
  have HK1 := Lib.hid hk1
  have hz1 : w.heap.size < (w.alloc (.cells #[.int .u64 N, .string K, .int .u64 M] 32)).heap.size := hbox.lt
  clear hbox hk1
  generalize w.alloc (.cells #[.int .u64 N, .string K, .int .u64 M] 32) = W1 at *
  refine (new_of _ (l.length + 1) _ (by omega) (by omega) (by omega)).mono ?_; rintro e w3 ⟨rfl, hM3, hK3⟩
  have HM3 := Lib.hid hM3
  have HK3 := Lib.hid hK3
  clear hM3 hK3
  go_wp2_with fail
  refine (awake_any _).mono ?_; rintro e w4 ⟨rfl, hK4⟩
  have HM4 := Lib.hid (HM3.out.kept hK4 id id)
  have HK4 := Lib.hid (HK3.out.trans hK4 (fun _ _ h => h))
  clear hK4 HK3 HM3
  go_wp2_with fail
  go_loopw [14] (fun i wr => ∃ j : Nat, j ≤ l.length ∧ i = .int .i64 j ∧ Mem wr (W1.heap.size + 1) W1.heap.size (part l l.length j) j ∧ Kept (fun _ => False) W1 wr) (fun i _ => l.length - (intOf i).toNat)
  case atStart => exact ⟨0, by omega, rfl, by rw [part_zero]; exact HM4.out, HK4.out⟩
  case round =>
    obtain ⟨j, hj, rfl, hM, hK⟩ := hrel
    have HM := Lib.hid hM
    have HK := Lib.hid hK
    clear hM hK
    by_cases hlt : j < l.length
    · obtain ⟨g0, off, rfl, hg0, hcell⟩ := HA.out (by omega)
      obtain ⟨x, hx⟩ : ∃ x, l[j]? = some x := ⟨_, List.getElem?_eq_getElem (by omega)⟩
      obtain ⟨f1, f2, f3⟩ := hcell j x hx
      have hgw : g0 < W1.heap.size := by omega
      have hk := HK1.out.trans HK.out (fun _ _ h => h)
      have d1 := (hk.cell (p := ⟨g0, _, none⟩) hg0 id).trans f1
      have d2 := (hk.cell (p := ⟨g0, _, none⟩) hg0 id).trans f2
      have d3 := (hk.cell (p := ⟨g0, _, none⟩) hg0 id).trans f3
      have HX := Lib.hid (part_step l l.length j hlt (by omega) x hx)
      obtain ⟨xN, xK, xM⟩ := x
      clear f1 f2 f3 hk hcell hx
      go_wp2_with fail
      refine (store_any _ _ _ _ _ _ _ _ _ HM.out (by omega)).mono ?_; rintro e w5 ⟨rfl, hM5, hK5⟩
      have HM5 := Lib.hid hM5
      have HK5 := Lib.hid (HK.out.trans hK5 (fun i hi h => by unfold Own at h; omega))
      clear hM5 hK5
      go_wp2
      go_roundw
      case rel => exact ⟨j + 1, by omega, by go_num, by rw [← HX.out]; exact HM5.out, HK5.out⟩
      case measure => simp [intOf]; omega
    · obtain rfl : j = l.length := by omega
      rename World => W4
      obtain ⟨F, hF⟩ : ∃ F, F = part l l.length l.length := ⟨_, rfl⟩
      have hFl : F.length = l.length + 1 := by rw [hF]; exact part_length l _ _ (by omega) (by omega)
      rw [← hF] at HM
      obtain ⟨xN, xK, xM, hx⟩ : ∃ xN xK xM, F[q]? = some (xN, xK, xM) := ⟨_, _, _, List.getElem?_eq_getElem (by omega)⟩
      have HX := Lib.hid hx
      have HFL := Lib.hid hFl
      have hb4 : Blk W4 w.heap.size 32 [.int .u64 N, .string K, .int .u64 M] := HK.out.blk HB1.out id
      clear hx hF HM4 HK4 HA
      go_wp2_with fail
      refine (mod_of _ _ q _ (by omega) (by omega) HQ.out).mono ?_; rintro e w5 ⟨rfl, rfl⟩
      go_wp2_with fail
      refine (kitCells_any _ _ _ _ _ HM.out (by omega)).mono ?_; rw [hFl]; rintro e w6 ⟨rfl, hB6, hK6⟩
      have HM6 := Lib.hid (HM.out.kept hK6 id id)
      have hb6 := hK6.blk hb4 id
      have HK6 := Lib.hid (HK.out.trans hK6 (fun _ _ h => h))
      obtain ⟨gw, hgw⟩ : ∃ gw, gw = W4.heap.size := ⟨_, rfl⟩
      have hzw : W1.heap.size + 1 < gw := by have := HM.out.obj.lt; omega
      rw [← hgw] at hB6 ⊢
      have y0 := hb6.cell (i := 0) rfl
      have y1 := hb6.cell (i := 1) rfl
      have y2 := hb6.cell (i := 2) rfl
      obtain ⟨f1, f2, f3⟩ := flat3_at F q _ HX.out
      have d1 := hB6.cell f1
      have HW6 := Lib.hid hB6
      have HB6 := Lib.hid hb6
      clear hb4 hK6 HM HK hb6 hB6 hgw f1 f2 f3 hFl
      cases swap
      · skip
        go_wp2_with fail
        refine (store_any _ _ _ _ _ _ _ _ _ HM6.out (by omega)).mono ?_; rw [putAt_in]; rintro e w7 ⟨rfl, hM7, hK7⟩
        have HM7 := Lib.hid hM7
        have HK7 := Lib.hid (HK6.out.trans hK7 (fun i hi h => by unfold Own at h; omega))
        have hb7 := hK7.blk HB6.out (by unfold Own; omega)
        have hw7 := hK7.blk HW6.out (by unfold Own; omega)
        have HB7 := Lib.hid hb7
        have HW7 := Lib.hid hw7
        obtain ⟨g1, g2, g3⟩ := flat3_at F q _ HX.out
        have d1 := hw7.cell g1
        clear hM7 hK7 hb7 hw7 g1 g2 g3 HK6 HM6 HB6 HW6 y0 y1 y2
        go_wp2_with fail
        clear d1
        go_loopw [18] (fun i wr => ∃ k : Nat, k ≤ l.length + 1 ∧ i = .int .i64 k ∧ Kept (fun _ => False) w7 wr) (fun i _ => l.length + 1 - (intOf i).toNat)
        case atStart => exact ⟨0, by omega, rfl, Kept.refl _ _⟩
        case round =>
          obtain ⟨k, hk, rfl, hKr⟩ := hrel
          have HKr := Lib.hid hKr
          clear hKr
          by_cases hlt : k ≤ l.length
          · obtain ⟨aN, aK, aM, ha⟩ : ∃ aN aK aM, F[k]? = some (aN, aK, aM) := ⟨_, _, _, List.getElem?_eq_getElem (by have := HFL.out; omega)⟩
            have HV := Lib.hid ha
            obtain ⟨g1, g2, g3⟩ := flat3_at F k _ ha
            have hwr := HKr.out.blk HW7.out id
            have hbr := HKr.out.blk HB7.out id
            have d1 := hwr.cell g1
            have d2 := hwr.cell g2
            have d3 := hwr.cell g3
            have y0 := hbr.cell (i := 0) rfl
            have y1 := hbr.cell (i := 1) rfl
            have y2 := hbr.cell (i := 2) rfl
            have hbl := hbr.lt
            clear ha g1 g2 g3 hwr hbr
            by_cases hkq : k = q
            · skip
              have hq1 : ((k : Int) == (q : Int)) = true := by rw [hkq]; simp
              have h2 : Hid (cellAt (F.set q (N, K, M)) k = (N, K, M)) := Lib.hid (by
                rw [cellAt_in _ k (by rw [List.length_set]; have := HFL.out; omega)]
                have := HV.out
                have e : (F.set q (N, K, M))[k]? = some (N, K, M) := by rw [hkq, List.getElem?_set_self (by have := HFL.out; omega)]
                exact (List.getElem?_eq_some_iff.1 e).2)
              clear hkq
              go_wp2_with fail
              have hN8 := Blk.new wr [.int .u64 N, .string K, .int .u64 M] 32
              have hM8 := (HM7.out.kept HKr.out id id).alloc (.cells #[.int .u64 N, .string K, .int .u64 M] 32)
              have hK8 := HKr.out.alloc (.cells #[.int .u64 N, .string K, .int .u64 M] 32)
              have hr8 : wr.heap.size < (wr.alloc (.cells #[.int .u64 N, .string K, .int .u64 M] 32)).heap.size := hN8.lt
              have x0 := hN8.cell (i := 0) rfl
              have x1 := hN8.cell (i := 1) rfl
              have x2 := hN8.cell (i := 2) rfl
              have HM8 := Lib.hid hM8
              have HK8 := Lib.hid hK8
              clear hN8 hM8 hK8 y0 y1 y2 d1 d2 d3
              generalize wr.alloc (.cells #[.int .u64 N, .string K, .int .u64 M] 32) = w8 at *
              generalize wr.heap.size = r at *
              go_region_held3 (fun w' => w'.cell? ⟨r, 0, none⟩ = some (.int .u64 N) ∧ w'.cell? ⟨r, 1, none⟩ = some (.string K) ∧ w'.cell? ⟨r, 2, none⟩ = some (.int .u64 M))
                (first | exact ⟨x0, x1, x2⟩ | exact keep3 (Kept.ofDrew (by assumption)) hr8 ⟨x0, x1, x2⟩)
                (first | (go_at_call 13; refine (peek_any _ _ (F.set q (N, K, M)) _ _ _ _ _ _ (by first | exact HM8.out | exact HM8.out.drew) h2.out).mono ?_; rintro e w9 ⟨rfl, hK9⟩))
              have HK9 := Lib.hid (HK8.out.trans hK9.ofDrew (fun _ _ h => h))
              clear hK9 x0 x1 x2 HM8 HK8
              go_wp2
              go_roundw
              case rel => exact ⟨k + 1, by omega, by go_num, HK9.out⟩
              case measure => simp [intOf]; omega
            ·
              have hq1 : ((k : Int) == (q : Int)) = false := by rw [beq_eq_false_iff_ne]; omega
              have h2 : Hid (cellAt (F.set q (N, K, M)) k = (aN, aK, aM)) := Lib.hid (by
                rw [cellAt_in _ k (by rw [List.length_set]; have := HFL.out; omega)]
                have := HV.out
                have e : (F.set q (N, K, M))[k]? = some (aN, aK, aM) := by rw [List.getElem?_set_ne (by omega)]; exact this
                exact (List.getElem?_eq_some_iff.1 e).2)
              clear hkq
              go_wp2_with fail
              have hN8 := Blk.new wr [.int .u64 aN, .string aK, .int .u64 aM] 32
              have hM8 := (HM7.out.kept HKr.out id id).alloc (.cells #[.int .u64 aN, .string aK, .int .u64 aM] 32)
              have hK8 := HKr.out.alloc (.cells #[.int .u64 aN, .string aK, .int .u64 aM] 32)
              have hr8 : wr.heap.size < (wr.alloc (.cells #[.int .u64 aN, .string aK, .int .u64 aM] 32)).heap.size := hN8.lt
              have x0 := hN8.cell (i := 0) rfl
              have x1 := hN8.cell (i := 1) rfl
              have x2 := hN8.cell (i := 2) rfl
              have HM8 := Lib.hid hM8
              have HK8 := Lib.hid hK8
              clear hN8 hM8 hK8 y0 y1 y2 d1 d2 d3
              generalize wr.alloc (.cells #[.int .u64 aN, .string aK, .int .u64 aM] 32) = w8 at *
              generalize wr.heap.size = r at *
              go_region_held3 (fun w' => w'.cell? ⟨r, 0, none⟩ = some (.int .u64 aN) ∧ w'.cell? ⟨r, 1, none⟩ = some (.string aK) ∧ w'.cell? ⟨r, 2, none⟩ = some (.int .u64 aM))
                (first | exact ⟨x0, x1, x2⟩ | exact keep3 (Kept.ofDrew (by assumption)) hr8 ⟨x0, x1, x2⟩)
                (first | (go_at_call 13; refine (peek_any _ _ (F.set q (N, K, M)) _ _ _ _ _ _ (by first | exact HM8.out | exact HM8.out.drew) h2.out).mono ?_; rintro e w9 ⟨rfl, hK9⟩))
              have HK9 := Lib.hid (HK8.out.trans hK9.ofDrew (fun _ _ h => h))
              clear hK9 x0 x1 x2 HM8 HK8
              go_wp2
              go_roundw
              case rel => exact ⟨k + 1, by omega, by go_num, HK9.out⟩
              case measure => simp [intOf]; omega
          · obtain rfl : k = l.length + 1 := by omega
            have HM8 := Lib.hid (HM7.out.kept HKr.out id id)
            have HB9 := Lib.hid (((HK1.out.trans HK7.out (fun _ _ h => h)).trans HKr.out (fun _ _ h => h)).below (Nat.le_refl _) (fun _ h => h.elim))
            have heq : (((l.length + 1 : Nat) : Int) == ((l.length : Nat) : Int) + 1) = true := by simp
            go_wp2_with fail
            refine (accesses_any _ _ _ _ _ HM8.out).mono ?_; rintro e w9 ⟨rfl, rfl⟩
            go_wp2
            go_ret
            exact ⟨by simp, HB9.out⟩
      · cases hxo : (xN == old)
        · skip
          go_wp2_with fail
          refine (swap_of _ _ _ F _ _ _ _ _ _ false _ HM6.out (by omega) (by rw [swaps_at F q xN old xM xK HX.out]; exact hxo) rfl).mono ?_; rintro e w7 ⟨rfl, hM7, hK7⟩
          have HM7 := Lib.hid hM7
          have HK7 := Lib.hid (HK6.out.trans hK7 (fun i hi h => by unfold Own at h; omega))
          have hb7 := hK7.blk HB6.out (by unfold Own; omega)
          have hw7 := hK7.blk HW6.out (by unfold Own; omega)
          have HB7 := Lib.hid hb7
          have HW7 := Lib.hid hw7
          obtain ⟨g1, g2, g3⟩ := flat3_at F q _ HX.out
          have d1 := hw7.cell g1
          clear hM7 hK7 hb7 hw7 g1 g2 g3 HK6 HM6 HB6 HW6 y0 y1 y2
          go_wp2_with fail
          clear d1
          go_loopw [18] (fun i wr => ∃ k : Nat, k ≤ l.length + 1 ∧ i = .int .i64 k ∧ Kept (fun _ => False) w7 wr) (fun i _ => l.length + 1 - (intOf i).toNat)
          case atStart => exact ⟨0, by omega, rfl, Kept.refl _ _⟩
          case round =>
            obtain ⟨k, hk, rfl, hKr⟩ := hrel
            have HKr := Lib.hid hKr
            clear hKr
            by_cases hlt : k ≤ l.length
            · obtain ⟨aN, aK, aM, ha⟩ : ∃ aN aK aM, F[k]? = some (aN, aK, aM) := ⟨_, _, _, List.getElem?_eq_getElem (by have := HFL.out; omega)⟩
              have HV := Lib.hid ha
              obtain ⟨g1, g2, g3⟩ := flat3_at F k _ ha
              have hwr := HKr.out.blk HW7.out id
              have hbr := HKr.out.blk HB7.out id
              have d1 := hwr.cell g1
              have d2 := hwr.cell g2
              have d3 := hwr.cell g3
              have y0 := hbr.cell (i := 0) rfl
              have y1 := hbr.cell (i := 1) rfl
              have y2 := hbr.cell (i := 2) rfl
              have hbl := hbr.lt
              clear ha g1 g2 g3 hwr hbr
              by_cases hkq : k = q
              · skip
                have hq1 : ((k : Int) == (q : Int)) = true := by rw [hkq]; simp
                have h2 : Hid (cellAt F k = (aN, aK, aM)) := Lib.hid (by
                  rw [cellAt_in _ k (by have := HFL.out; omega)]
                  have := HV.out
                  have e : F[k]? = some (aN, aK, aM) := by exact this
                  exact (List.getElem?_eq_some_iff.1 e).2)
                clear hkq
                go_wp2_with fail
                have hN8 := Blk.new wr [.int .u64 aN, .string aK, .int .u64 aM] 32
                have hM8 := (HM7.out.kept HKr.out id id).alloc (.cells #[.int .u64 aN, .string aK, .int .u64 aM] 32)
                have hK8 := HKr.out.alloc (.cells #[.int .u64 aN, .string aK, .int .u64 aM] 32)
                have hr8 : wr.heap.size < (wr.alloc (.cells #[.int .u64 aN, .string aK, .int .u64 aM] 32)).heap.size := hN8.lt
                have x0 := hN8.cell (i := 0) rfl
                have x1 := hN8.cell (i := 1) rfl
                have x2 := hN8.cell (i := 2) rfl
                have HM8 := Lib.hid hM8
                have HK8 := Lib.hid hK8
                clear hN8 hM8 hK8 y0 y1 y2 d1 d2 d3
                generalize wr.alloc (.cells #[.int .u64 aN, .string aK, .int .u64 aM] 32) = w8 at *
                generalize wr.heap.size = r at *
                go_region_held3 (fun w' => w'.cell? ⟨r, 0, none⟩ = some (.int .u64 aN) ∧ w'.cell? ⟨r, 1, none⟩ = some (.string aK) ∧ w'.cell? ⟨r, 2, none⟩ = some (.int .u64 aM))
                  (first | exact ⟨x0, x1, x2⟩ | exact keep3 (Kept.ofDrew (by assumption)) hr8 ⟨x0, x1, x2⟩)
                  (first | (go_at_call 13; refine (peek_any _ _ F _ _ _ _ _ _ (by first | exact HM8.out | exact HM8.out.drew) h2.out).mono ?_; rintro e w9 ⟨rfl, hK9⟩))
                have HK9 := Lib.hid (HK8.out.trans hK9.ofDrew (fun _ _ h => h))
                clear hK9 x0 x1 x2 HM8 HK8
                go_wp2
                go_roundw
                case rel => exact ⟨k + 1, by omega, by go_num, HK9.out⟩
                case measure => simp [intOf]; omega
              ·
                have hq1 : ((k : Int) == (q : Int)) = false := by rw [beq_eq_false_iff_ne]; omega
                have h2 : Hid (cellAt F k = (aN, aK, aM)) := Lib.hid (by
                  rw [cellAt_in _ k (by have := HFL.out; omega)]
                  have := HV.out
                  have e : F[k]? = some (aN, aK, aM) := by exact this
                  exact (List.getElem?_eq_some_iff.1 e).2)
                clear hkq
                go_wp2_with fail
                have hN8 := Blk.new wr [.int .u64 aN, .string aK, .int .u64 aM] 32
                have hM8 := (HM7.out.kept HKr.out id id).alloc (.cells #[.int .u64 aN, .string aK, .int .u64 aM] 32)
                have hK8 := HKr.out.alloc (.cells #[.int .u64 aN, .string aK, .int .u64 aM] 32)
                have hr8 : wr.heap.size < (wr.alloc (.cells #[.int .u64 aN, .string aK, .int .u64 aM] 32)).heap.size := hN8.lt
                have x0 := hN8.cell (i := 0) rfl
                have x1 := hN8.cell (i := 1) rfl
                have x2 := hN8.cell (i := 2) rfl
                have HM8 := Lib.hid hM8
                have HK8 := Lib.hid hK8
                clear hN8 hM8 hK8 y0 y1 y2 d1 d2 d3
                generalize wr.alloc (.cells #[.int .u64 aN, .string aK, .int .u64 aM] 32) = w8 at *
                generalize wr.heap.size = r at *
                go_region_held3 (fun w' => w'.cell? ⟨r, 0, none⟩ = some (.int .u64 aN) ∧ w'.cell? ⟨r, 1, none⟩ = some (.string aK) ∧ w'.cell? ⟨r, 2, none⟩ = some (.int .u64 aM))
                  (first | exact ⟨x0, x1, x2⟩ | exact keep3 (Kept.ofDrew (by assumption)) hr8 ⟨x0, x1, x2⟩)
                  (first | (go_at_call 13; refine (peek_any _ _ F _ _ _ _ _ _ (by first | exact HM8.out | exact HM8.out.drew) h2.out).mono ?_; rintro e w9 ⟨rfl, hK9⟩))
                have HK9 := Lib.hid (HK8.out.trans hK9.ofDrew (fun _ _ h => h))
                clear hK9 x0 x1 x2 HM8 HK8
                go_wp2
                go_roundw
                case rel => exact ⟨k + 1, by omega, by go_num, HK9.out⟩
                case measure => simp [intOf]; omega
            · obtain rfl : k = l.length + 1 := by omega
              have HM8 := Lib.hid (HM7.out.kept HKr.out id id)
              have HB9 := Lib.hid (((HK1.out.trans HK7.out (fun _ _ h => h)).trans HKr.out (fun _ _ h => h)).below (Nat.le_refl _) (fun _ h => h.elim))
              have heq : (((l.length + 1 : Nat) : Int) == ((l.length : Nat) : Int) + 1) = true := by simp
              go_wp2_with fail
              refine (accesses_any _ _ _ _ _ HM8.out).mono ?_; rintro e w9 ⟨rfl, rfl⟩
              go_wp2
              go_ret
              exact ⟨by simp, HB9.out⟩
        ·
          go_wp2_with fail
          refine (swap_of _ _ _ (F.set q (N, K, M)) _ _ _ _ _ _ true _ HM6.out (by omega) (by rw [swaps_at F q xN old xM xK HX.out]; exact hxo) (by rw [if_pos rfl]; exact putAt_in _ _ _)).mono ?_; rintro e w7 ⟨rfl, hM7, hK7⟩
          have HM7 := Lib.hid hM7
          have HK7 := Lib.hid (HK6.out.trans hK7 (fun i hi h => by unfold Own at h; omega))
          have hb7 := hK7.blk HB6.out (by unfold Own; omega)
          have hw7 := hK7.blk HW6.out (by unfold Own; omega)
          have HB7 := Lib.hid hb7
          have HW7 := Lib.hid hw7
          obtain ⟨g1, g2, g3⟩ := flat3_at F q _ HX.out
          have d1 := hw7.cell g1
          clear hM7 hK7 hb7 hw7 g1 g2 g3 HK6 HM6 HB6 HW6 y0 y1 y2
          go_wp2_with fail
          clear d1
          go_loopw [18] (fun i wr => ∃ k : Nat, k ≤ l.length + 1 ∧ i = .int .i64 k ∧ Kept (fun _ => False) w7 wr) (fun i _ => l.length + 1 - (intOf i).toNat)
          case atStart => exact ⟨0, by omega, rfl, Kept.refl _ _⟩
          case round =>
            obtain ⟨k, hk, rfl, hKr⟩ := hrel
            have HKr := Lib.hid hKr
            clear hKr
            by_cases hlt : k ≤ l.length
            · obtain ⟨aN, aK, aM, ha⟩ : ∃ aN aK aM, F[k]? = some (aN, aK, aM) := ⟨_, _, _, List.getElem?_eq_getElem (by have := HFL.out; omega)⟩
              have HV := Lib.hid ha
              obtain ⟨g1, g2, g3⟩ := flat3_at F k _ ha
              have hwr := HKr.out.blk HW7.out id
              have hbr := HKr.out.blk HB7.out id
              have d1 := hwr.cell g1
              have d2 := hwr.cell g2
              have d3 := hwr.cell g3
              have y0 := hbr.cell (i := 0) rfl
              have y1 := hbr.cell (i := 1) rfl
              have y2 := hbr.cell (i := 2) rfl
              have hbl := hbr.lt
              clear ha g1 g2 g3 hwr hbr
              by_cases hkq : k = q
              · skip
                have hq1 : ((k : Int) == (q : Int)) = true := by rw [hkq]; simp
                have h2 : Hid (cellAt (F.set q (N, K, M)) k = (N, K, M)) := Lib.hid (by
                  rw [cellAt_in _ k (by rw [List.length_set]; have := HFL.out; omega)]
                  have := HV.out
                  have e : (F.set q (N, K, M))[k]? = some (N, K, M) := by rw [hkq, List.getElem?_set_self (by have := HFL.out; omega)]
                  exact (List.getElem?_eq_some_iff.1 e).2)
                clear hkq
                go_wp2_with fail
                have hN8 := Blk.new wr [.int .u64 N, .string K, .int .u64 M] 32
                have hM8 := (HM7.out.kept HKr.out id id).alloc (.cells #[.int .u64 N, .string K, .int .u64 M] 32)
                have hK8 := HKr.out.alloc (.cells #[.int .u64 N, .string K, .int .u64 M] 32)
                have hr8 : wr.heap.size < (wr.alloc (.cells #[.int .u64 N, .string K, .int .u64 M] 32)).heap.size := hN8.lt
                have x0 := hN8.cell (i := 0) rfl
                have x1 := hN8.cell (i := 1) rfl
                have x2 := hN8.cell (i := 2) rfl
                have HM8 := Lib.hid hM8
                have HK8 := Lib.hid hK8
                clear hN8 hM8 hK8 y0 y1 y2 d1 d2 d3
                generalize wr.alloc (.cells #[.int .u64 N, .string K, .int .u64 M] 32) = w8 at *
                generalize wr.heap.size = r at *
                go_region_held3 (fun w' => w'.cell? ⟨r, 0, none⟩ = some (.int .u64 N) ∧ w'.cell? ⟨r, 1, none⟩ = some (.string K) ∧ w'.cell? ⟨r, 2, none⟩ = some (.int .u64 M))
                  (first | exact ⟨x0, x1, x2⟩ | exact keep3 (Kept.ofDrew (by assumption)) hr8 ⟨x0, x1, x2⟩)
                  (first | (go_at_call 13; refine (peek_any _ _ (F.set q (N, K, M)) _ _ _ _ _ _ (by first | exact HM8.out | exact HM8.out.drew) h2.out).mono ?_; rintro e w9 ⟨rfl, hK9⟩))
                have HK9 := Lib.hid (HK8.out.trans hK9.ofDrew (fun _ _ h => h))
                clear hK9 x0 x1 x2 HM8 HK8
                go_wp2
                go_roundw
                case rel => exact ⟨k + 1, by omega, by go_num, HK9.out⟩
                case measure => simp [intOf]; omega
              ·
                have hq1 : ((k : Int) == (q : Int)) = false := by rw [beq_eq_false_iff_ne]; omega
                have h2 : Hid (cellAt (F.set q (N, K, M)) k = (aN, aK, aM)) := Lib.hid (by
                  rw [cellAt_in _ k (by rw [List.length_set]; have := HFL.out; omega)]
                  have := HV.out
                  have e : (F.set q (N, K, M))[k]? = some (aN, aK, aM) := by rw [List.getElem?_set_ne (by omega)]; exact this
                  exact (List.getElem?_eq_some_iff.1 e).2)
                clear hkq
                go_wp2_with fail
                have hN8 := Blk.new wr [.int .u64 aN, .string aK, .int .u64 aM] 32
                have hM8 := (HM7.out.kept HKr.out id id).alloc (.cells #[.int .u64 aN, .string aK, .int .u64 aM] 32)
                have hK8 := HKr.out.alloc (.cells #[.int .u64 aN, .string aK, .int .u64 aM] 32)
                have hr8 : wr.heap.size < (wr.alloc (.cells #[.int .u64 aN, .string aK, .int .u64 aM] 32)).heap.size := hN8.lt
                have x0 := hN8.cell (i := 0) rfl
                have x1 := hN8.cell (i := 1) rfl
                have x2 := hN8.cell (i := 2) rfl
                have HM8 := Lib.hid hM8
                have HK8 := Lib.hid hK8
                clear hN8 hM8 hK8 y0 y1 y2 d1 d2 d3
                generalize wr.alloc (.cells #[.int .u64 aN, .string aK, .int .u64 aM] 32) = w8 at *
                generalize wr.heap.size = r at *
                go_region_held3 (fun w' => w'.cell? ⟨r, 0, none⟩ = some (.int .u64 aN) ∧ w'.cell? ⟨r, 1, none⟩ = some (.string aK) ∧ w'.cell? ⟨r, 2, none⟩ = some (.int .u64 aM))
                  (first | exact ⟨x0, x1, x2⟩ | exact keep3 (Kept.ofDrew (by assumption)) hr8 ⟨x0, x1, x2⟩)
                  (first | (go_at_call 13; refine (peek_any _ _ (F.set q (N, K, M)) _ _ _ _ _ _ (by first | exact HM8.out | exact HM8.out.drew) h2.out).mono ?_; rintro e w9 ⟨rfl, hK9⟩))
                have HK9 := Lib.hid (HK8.out.trans hK9.ofDrew (fun _ _ h => h))
                clear hK9 x0 x1 x2 HM8 HK8
                go_wp2
                go_roundw
                case rel => exact ⟨k + 1, by omega, by go_num, HK9.out⟩
                case measure => simp [intOf]; omega
            · obtain rfl : k = l.length + 1 := by omega
              have HM8 := Lib.hid (HM7.out.kept HKr.out id id)
              have HB9 := Lib.hid (((HK1.out.trans HK7.out (fun _ _ h => h)).trans HKr.out (fun _ _ h => h)).below (Nat.le_refl _) (fun _ h => h.elim))
              have heq : (((l.length + 1 : Nat) : Int) == ((l.length : Nat) : Int) + 1) = true := by simp
              go_wp2_with fail
              refine (accesses_any _ _ _ _ _ HM8.out).mono ?_; rintro e w9 ⟨rfl, rfl⟩
              go_wp2
              go_ret
              exact ⟨by simp, HB9.out⟩

set_option maxHeartbeats 4000000 in
theorem lawCells_many (w : World) (A : Option Addr) (c : Nat) (l : List Cel) (at_ old N M : Int) (K : ByteArray) (swap : Bool) (hm : l.length ≤ maxLen) (hmin : 20 < l.length)
    (hA : 0 < l.length → ∃ g off, A = some ⟨g, off, none⟩ ∧ g < w.heap.size ∧ ∀ (i : Nat) (c : Cel), l[i]? = some c →
        w.cell? ⟨g, off + i * 3, none⟩ = some (.int .u64 c.1) ∧ w.cell? ⟨g, off + i * 3 + 1, none⟩ = some (.string c.2.1) ∧ w.cell? ⟨g, off + i * 3 + 2, none⟩ = some (.int .u64 c.2.2)) :
    Calls Try.prog 5 #[.slice A l.length c, .int .i64 at_, .agg #[.int .u64 N, .string K, .int .u64 M], .int .u64 old, .bool swap] w fun e w' => e = .returned (.bool true) ∧ Below w.heap.size w w' := by
  unfold maxLen at hm
  have HA := Lib.hid hA
  obtain ⟨q, hq, hq2⟩ := mod_ex at_ (((20 : Nat) : Int) + 1) (by omega)
  have hqn : q ≤ 20 := by omega
  have HQ := Lib.hid hq
  clear hA hq hq2
  go_enter Try.func5, Try.ntmps5
  go_wp2_with fail
  have hbox : Blk (w.alloc (.cells #[.int .u64 N, .string K, .int .u64 M] 32)) w.heap.size 32 [.int .u64 N, .string K, .int .u64 M] := Blk.new w _ _
  have hk1 : Kept (fun _ => False) w (w.alloc (.cells #[.int .u64 N, .string K, .int .u64 M] 32)) := (Kept.refl _ _).alloc _
  have HB1 := Lib.hid hbox
  have HK1 := Lib.hid hk1
  have hz1 : w.heap.size < (w.alloc (.cells #[.int .u64 N, .string K, .int .u64 M] 32)).heap.size := hbox.lt
  clear hbox hk1
  generalize w.alloc (.cells #[.int .u64 N, .string K, .int .u64 M] 32) = W1 at *
  refine (new_of _ (20 + 1) _ (by omega) (by omega) (by omega)).mono ?_; rintro e w3 ⟨rfl, hM3, hK3⟩
  have HM3 := Lib.hid hM3
  have HK3 := Lib.hid hK3
  clear hM3 hK3
  go_wp2_with fail
  refine (awake_any _).mono ?_; rintro e w4 ⟨rfl, hK4⟩
  have HM4 := Lib.hid (HM3.out.kept hK4 id id)
  have HK4 := Lib.hid (HK3.out.trans hK4 (fun _ _ h => h))
  clear hK4 HK3 HM3
  go_wp2_with fail
  go_loopw [14] (fun i wr => ∃ j : Nat, j ≤ 20 ∧ i = .int .i64 j ∧ Mem wr (W1.heap.size + 1) W1.heap.size (part l 20 j) j ∧ Kept (fun _ => False) W1 wr) (fun i _ => 20 - (intOf i).toNat)
  case atStart => exact ⟨0, by omega, rfl, by rw [part_zero]; exact HM4.out, HK4.out⟩
  case round =>
    obtain ⟨j, hj, rfl, hM, hK⟩ := hrel
    have HM := Lib.hid hM
    have HK := Lib.hid hK
    clear hM hK
    by_cases hlt : j < 20
    · obtain ⟨g0, off, rfl, hg0, hcell⟩ := HA.out (by omega)
      obtain ⟨x, hx⟩ : ∃ x, l[j]? = some x := ⟨_, List.getElem?_eq_getElem (by omega)⟩
      obtain ⟨f1, f2, f3⟩ := hcell j x hx
      have hgw : g0 < W1.heap.size := by omega
      have hk := HK1.out.trans HK.out (fun _ _ h => h)
      have d1 := (hk.cell (p := ⟨g0, _, none⟩) hg0 id).trans f1
      have d2 := (hk.cell (p := ⟨g0, _, none⟩) hg0 id).trans f2
      have d3 := (hk.cell (p := ⟨g0, _, none⟩) hg0 id).trans f3
      have HX := Lib.hid (part_step l 20 j hlt (by omega) x hx)
      obtain ⟨xN, xK, xM⟩ := x
      clear f1 f2 f3 hk hcell hx
      go_wp2_with fail
      refine (store_any _ _ _ _ _ _ _ _ _ HM.out (by omega)).mono ?_; rintro e w5 ⟨rfl, hM5, hK5⟩
      have HM5 := Lib.hid hM5
      have HK5 := Lib.hid (HK.out.trans hK5 (fun i hi h => by unfold Own at h; omega))
      clear hM5 hK5
      go_wp2
      go_roundw
      case rel => exact ⟨j + 1, by omega, by go_num, by rw [← HX.out]; exact HM5.out, HK5.out⟩
      case measure => simp [intOf]; omega
    · obtain rfl : j = 20 := by omega
      rename World => W4
      obtain ⟨F, hF⟩ : ∃ F, F = part l 20 20 := ⟨_, rfl⟩
      have hFl : F.length = 20 + 1 := by rw [hF]; exact part_length l _ _ (by omega) (by omega)
      rw [← hF] at HM
      obtain ⟨xN, xK, xM, hx⟩ : ∃ xN xK xM, F[q]? = some (xN, xK, xM) := ⟨_, _, _, List.getElem?_eq_getElem (by omega)⟩
      have HX := Lib.hid hx
      have HFL := Lib.hid hFl
      have hb4 : Blk W4 w.heap.size 32 [.int .u64 N, .string K, .int .u64 M] := HK.out.blk HB1.out id
      clear hx hF HM4 HK4 HA
      go_wp2_with fail
      refine (mod_of _ _ q _ (by omega) (by omega) HQ.out).mono ?_; rintro e w5 ⟨rfl, rfl⟩
      go_wp2_with fail
      refine (kitCells_any _ _ _ _ _ HM.out (by omega)).mono ?_; rw [hFl]; rintro e w6 ⟨rfl, hB6, hK6⟩
      have HM6 := Lib.hid (HM.out.kept hK6 id id)
      have hb6 := hK6.blk hb4 id
      have HK6 := Lib.hid (HK.out.trans hK6 (fun _ _ h => h))
      obtain ⟨gw, hgw⟩ : ∃ gw, gw = W4.heap.size := ⟨_, rfl⟩
      have hzw : W1.heap.size + 1 < gw := by have := HM.out.obj.lt; omega
      rw [← hgw] at hB6 ⊢
      have y0 := hb6.cell (i := 0) rfl
      have y1 := hb6.cell (i := 1) rfl
      have y2 := hb6.cell (i := 2) rfl
      obtain ⟨f1, f2, f3⟩ := flat3_at F q _ HX.out
      have d1 := hB6.cell f1
      have HW6 := Lib.hid hB6
      have HB6 := Lib.hid hb6
      clear hb4 hK6 HM HK hb6 hB6 hgw f1 f2 f3 hFl
      cases swap
      · skip
        go_wp2_with fail
        refine (store_any _ _ _ _ _ _ _ _ _ HM6.out (by omega)).mono ?_; rw [putAt_in]; rintro e w7 ⟨rfl, hM7, hK7⟩
        have HM7 := Lib.hid hM7
        have HK7 := Lib.hid (HK6.out.trans hK7 (fun i hi h => by unfold Own at h; omega))
        have hb7 := hK7.blk HB6.out (by unfold Own; omega)
        have hw7 := hK7.blk HW6.out (by unfold Own; omega)
        have HB7 := Lib.hid hb7
        have HW7 := Lib.hid hw7
        obtain ⟨g1, g2, g3⟩ := flat3_at F q _ HX.out
        have d1 := hw7.cell g1
        clear hM7 hK7 hb7 hw7 g1 g2 g3 HK6 HM6 HB6 HW6 y0 y1 y2
        go_wp2_with fail
        clear d1
        go_loopw [18] (fun i wr => ∃ k : Nat, k ≤ 20 + 1 ∧ i = .int .i64 k ∧ Kept (fun _ => False) w7 wr) (fun i _ => 20 + 1 - (intOf i).toNat)
        case atStart => exact ⟨0, by omega, rfl, Kept.refl _ _⟩
        case round =>
          obtain ⟨k, hk, rfl, hKr⟩ := hrel
          have HKr := Lib.hid hKr
          clear hKr
          by_cases hlt : k ≤ 20
          · obtain ⟨aN, aK, aM, ha⟩ : ∃ aN aK aM, F[k]? = some (aN, aK, aM) := ⟨_, _, _, List.getElem?_eq_getElem (by have := HFL.out; omega)⟩
            have HV := Lib.hid ha
            obtain ⟨g1, g2, g3⟩ := flat3_at F k _ ha
            have hwr := HKr.out.blk HW7.out id
            have hbr := HKr.out.blk HB7.out id
            have d1 := hwr.cell g1
            have d2 := hwr.cell g2
            have d3 := hwr.cell g3
            have y0 := hbr.cell (i := 0) rfl
            have y1 := hbr.cell (i := 1) rfl
            have y2 := hbr.cell (i := 2) rfl
            have hbl := hbr.lt
            clear ha g1 g2 g3 hwr hbr
            by_cases hkq : k = q
            · skip
              have hq1 : ((k : Int) == (q : Int)) = true := by rw [hkq]; simp
              have h2 : Hid (cellAt (F.set q (N, K, M)) k = (N, K, M)) := Lib.hid (by
                rw [cellAt_in _ k (by rw [List.length_set]; have := HFL.out; omega)]
                have := HV.out
                have e : (F.set q (N, K, M))[k]? = some (N, K, M) := by rw [hkq, List.getElem?_set_self (by have := HFL.out; omega)]
                exact (List.getElem?_eq_some_iff.1 e).2)
              clear hkq
              go_wp2_with fail
              have hN8 := Blk.new wr [.int .u64 N, .string K, .int .u64 M] 32
              have hM8 := (HM7.out.kept HKr.out id id).alloc (.cells #[.int .u64 N, .string K, .int .u64 M] 32)
              have hK8 := HKr.out.alloc (.cells #[.int .u64 N, .string K, .int .u64 M] 32)
              have hr8 : wr.heap.size < (wr.alloc (.cells #[.int .u64 N, .string K, .int .u64 M] 32)).heap.size := hN8.lt
              have x0 := hN8.cell (i := 0) rfl
              have x1 := hN8.cell (i := 1) rfl
              have x2 := hN8.cell (i := 2) rfl
              have HM8 := Lib.hid hM8
              have HK8 := Lib.hid hK8
              clear hN8 hM8 hK8 y0 y1 y2 d1 d2 d3
              generalize wr.alloc (.cells #[.int .u64 N, .string K, .int .u64 M] 32) = w8 at *
              generalize wr.heap.size = r at *
              go_region_held3 (fun w' => w'.cell? ⟨r, 0, none⟩ = some (.int .u64 N) ∧ w'.cell? ⟨r, 1, none⟩ = some (.string K) ∧ w'.cell? ⟨r, 2, none⟩ = some (.int .u64 M))
                (first | exact ⟨x0, x1, x2⟩ | exact keep3 (Kept.ofDrew (by assumption)) hr8 ⟨x0, x1, x2⟩)
                (first | (go_at_call 13; refine (peek_any _ _ (F.set q (N, K, M)) _ _ _ _ _ _ (by first | exact HM8.out | exact HM8.out.drew) h2.out).mono ?_; rintro e w9 ⟨rfl, hK9⟩))
              have HK9 := Lib.hid (HK8.out.trans hK9.ofDrew (fun _ _ h => h))
              clear hK9 x0 x1 x2 HM8 HK8
              go_wp2
              go_roundw
              case rel => exact ⟨k + 1, by omega, by go_num, HK9.out⟩
              case measure => simp [intOf]; omega
            ·
              have hq1 : ((k : Int) == (q : Int)) = false := by rw [beq_eq_false_iff_ne]; omega
              have h2 : Hid (cellAt (F.set q (N, K, M)) k = (aN, aK, aM)) := Lib.hid (by
                rw [cellAt_in _ k (by rw [List.length_set]; have := HFL.out; omega)]
                have := HV.out
                have e : (F.set q (N, K, M))[k]? = some (aN, aK, aM) := by rw [List.getElem?_set_ne (by omega)]; exact this
                exact (List.getElem?_eq_some_iff.1 e).2)
              clear hkq
              go_wp2_with fail
              have hN8 := Blk.new wr [.int .u64 aN, .string aK, .int .u64 aM] 32
              have hM8 := (HM7.out.kept HKr.out id id).alloc (.cells #[.int .u64 aN, .string aK, .int .u64 aM] 32)
              have hK8 := HKr.out.alloc (.cells #[.int .u64 aN, .string aK, .int .u64 aM] 32)
              have hr8 : wr.heap.size < (wr.alloc (.cells #[.int .u64 aN, .string aK, .int .u64 aM] 32)).heap.size := hN8.lt
              have x0 := hN8.cell (i := 0) rfl
              have x1 := hN8.cell (i := 1) rfl
              have x2 := hN8.cell (i := 2) rfl
              have HM8 := Lib.hid hM8
              have HK8 := Lib.hid hK8
              clear hN8 hM8 hK8 y0 y1 y2 d1 d2 d3
              generalize wr.alloc (.cells #[.int .u64 aN, .string aK, .int .u64 aM] 32) = w8 at *
              generalize wr.heap.size = r at *
              go_region_held3 (fun w' => w'.cell? ⟨r, 0, none⟩ = some (.int .u64 aN) ∧ w'.cell? ⟨r, 1, none⟩ = some (.string aK) ∧ w'.cell? ⟨r, 2, none⟩ = some (.int .u64 aM))
                (first | exact ⟨x0, x1, x2⟩ | exact keep3 (Kept.ofDrew (by assumption)) hr8 ⟨x0, x1, x2⟩)
                (first | (go_at_call 13; refine (peek_any _ _ (F.set q (N, K, M)) _ _ _ _ _ _ (by first | exact HM8.out | exact HM8.out.drew) h2.out).mono ?_; rintro e w9 ⟨rfl, hK9⟩))
              have HK9 := Lib.hid (HK8.out.trans hK9.ofDrew (fun _ _ h => h))
              clear hK9 x0 x1 x2 HM8 HK8
              go_wp2
              go_roundw
              case rel => exact ⟨k + 1, by omega, by go_num, HK9.out⟩
              case measure => simp [intOf]; omega
          · obtain rfl : k = 20 + 1 := by omega
            have HM8 := Lib.hid (HM7.out.kept HKr.out id id)
            have HB9 := Lib.hid (((HK1.out.trans HK7.out (fun _ _ h => h)).trans HKr.out (fun _ _ h => h)).below (Nat.le_refl _) (fun _ h => h.elim))
            have heq : (((20 + 1 : Nat) : Int) == ((20 : Nat) : Int) + 1) = true := by simp
            go_wp2_with fail
            refine (accesses_any _ _ _ _ _ HM8.out).mono ?_; rintro e w9 ⟨rfl, rfl⟩
            go_wp2
            go_ret
            exact ⟨by simp, HB9.out⟩
      · cases hxo : (xN == old)
        · skip
          go_wp2_with fail
          refine (swap_of _ _ _ F _ _ _ _ _ _ false _ HM6.out (by omega) (by rw [swaps_at F q xN old xM xK HX.out]; exact hxo) rfl).mono ?_; rintro e w7 ⟨rfl, hM7, hK7⟩
          have HM7 := Lib.hid hM7
          have HK7 := Lib.hid (HK6.out.trans hK7 (fun i hi h => by unfold Own at h; omega))
          have hb7 := hK7.blk HB6.out (by unfold Own; omega)
          have hw7 := hK7.blk HW6.out (by unfold Own; omega)
          have HB7 := Lib.hid hb7
          have HW7 := Lib.hid hw7
          obtain ⟨g1, g2, g3⟩ := flat3_at F q _ HX.out
          have d1 := hw7.cell g1
          clear hM7 hK7 hb7 hw7 g1 g2 g3 HK6 HM6 HB6 HW6 y0 y1 y2
          go_wp2_with fail
          clear d1
          go_loopw [18] (fun i wr => ∃ k : Nat, k ≤ 20 + 1 ∧ i = .int .i64 k ∧ Kept (fun _ => False) w7 wr) (fun i _ => 20 + 1 - (intOf i).toNat)
          case atStart => exact ⟨0, by omega, rfl, Kept.refl _ _⟩
          case round =>
            obtain ⟨k, hk, rfl, hKr⟩ := hrel
            have HKr := Lib.hid hKr
            clear hKr
            by_cases hlt : k ≤ 20
            · obtain ⟨aN, aK, aM, ha⟩ : ∃ aN aK aM, F[k]? = some (aN, aK, aM) := ⟨_, _, _, List.getElem?_eq_getElem (by have := HFL.out; omega)⟩
              have HV := Lib.hid ha
              obtain ⟨g1, g2, g3⟩ := flat3_at F k _ ha
              have hwr := HKr.out.blk HW7.out id
              have hbr := HKr.out.blk HB7.out id
              have d1 := hwr.cell g1
              have d2 := hwr.cell g2
              have d3 := hwr.cell g3
              have y0 := hbr.cell (i := 0) rfl
              have y1 := hbr.cell (i := 1) rfl
              have y2 := hbr.cell (i := 2) rfl
              have hbl := hbr.lt
              clear ha g1 g2 g3 hwr hbr
              by_cases hkq : k = q
              · skip
                have hq1 : ((k : Int) == (q : Int)) = true := by rw [hkq]; simp
                have h2 : Hid (cellAt F k = (aN, aK, aM)) := Lib.hid (by
                  rw [cellAt_in _ k (by have := HFL.out; omega)]
                  have := HV.out
                  have e : F[k]? = some (aN, aK, aM) := by exact this
                  exact (List.getElem?_eq_some_iff.1 e).2)
                clear hkq
                go_wp2_with fail
                have hN8 := Blk.new wr [.int .u64 aN, .string aK, .int .u64 aM] 32
                have hM8 := (HM7.out.kept HKr.out id id).alloc (.cells #[.int .u64 aN, .string aK, .int .u64 aM] 32)
                have hK8 := HKr.out.alloc (.cells #[.int .u64 aN, .string aK, .int .u64 aM] 32)
                have hr8 : wr.heap.size < (wr.alloc (.cells #[.int .u64 aN, .string aK, .int .u64 aM] 32)).heap.size := hN8.lt
                have x0 := hN8.cell (i := 0) rfl
                have x1 := hN8.cell (i := 1) rfl
                have x2 := hN8.cell (i := 2) rfl
                have HM8 := Lib.hid hM8
                have HK8 := Lib.hid hK8
                clear hN8 hM8 hK8 y0 y1 y2 d1 d2 d3
                generalize wr.alloc (.cells #[.int .u64 aN, .string aK, .int .u64 aM] 32) = w8 at *
                generalize wr.heap.size = r at *
                go_region_held3 (fun w' => w'.cell? ⟨r, 0, none⟩ = some (.int .u64 aN) ∧ w'.cell? ⟨r, 1, none⟩ = some (.string aK) ∧ w'.cell? ⟨r, 2, none⟩ = some (.int .u64 aM))
                  (first | exact ⟨x0, x1, x2⟩ | exact keep3 (Kept.ofDrew (by assumption)) hr8 ⟨x0, x1, x2⟩)
                  (first | (go_at_call 13; refine (peek_any _ _ F _ _ _ _ _ _ (by first | exact HM8.out | exact HM8.out.drew) h2.out).mono ?_; rintro e w9 ⟨rfl, hK9⟩))
                have HK9 := Lib.hid (HK8.out.trans hK9.ofDrew (fun _ _ h => h))
                clear hK9 x0 x1 x2 HM8 HK8
                go_wp2
                go_roundw
                case rel => exact ⟨k + 1, by omega, by go_num, HK9.out⟩
                case measure => simp [intOf]; omega
              ·
                have hq1 : ((k : Int) == (q : Int)) = false := by rw [beq_eq_false_iff_ne]; omega
                have h2 : Hid (cellAt F k = (aN, aK, aM)) := Lib.hid (by
                  rw [cellAt_in _ k (by have := HFL.out; omega)]
                  have := HV.out
                  have e : F[k]? = some (aN, aK, aM) := by exact this
                  exact (List.getElem?_eq_some_iff.1 e).2)
                clear hkq
                go_wp2_with fail
                have hN8 := Blk.new wr [.int .u64 aN, .string aK, .int .u64 aM] 32
                have hM8 := (HM7.out.kept HKr.out id id).alloc (.cells #[.int .u64 aN, .string aK, .int .u64 aM] 32)
                have hK8 := HKr.out.alloc (.cells #[.int .u64 aN, .string aK, .int .u64 aM] 32)
                have hr8 : wr.heap.size < (wr.alloc (.cells #[.int .u64 aN, .string aK, .int .u64 aM] 32)).heap.size := hN8.lt
                have x0 := hN8.cell (i := 0) rfl
                have x1 := hN8.cell (i := 1) rfl
                have x2 := hN8.cell (i := 2) rfl
                have HM8 := Lib.hid hM8
                have HK8 := Lib.hid hK8
                clear hN8 hM8 hK8 y0 y1 y2 d1 d2 d3
                generalize wr.alloc (.cells #[.int .u64 aN, .string aK, .int .u64 aM] 32) = w8 at *
                generalize wr.heap.size = r at *
                go_region_held3 (fun w' => w'.cell? ⟨r, 0, none⟩ = some (.int .u64 aN) ∧ w'.cell? ⟨r, 1, none⟩ = some (.string aK) ∧ w'.cell? ⟨r, 2, none⟩ = some (.int .u64 aM))
                  (first | exact ⟨x0, x1, x2⟩ | exact keep3 (Kept.ofDrew (by assumption)) hr8 ⟨x0, x1, x2⟩)
                  (first | (go_at_call 13; refine (peek_any _ _ F _ _ _ _ _ _ (by first | exact HM8.out | exact HM8.out.drew) h2.out).mono ?_; rintro e w9 ⟨rfl, hK9⟩))
                have HK9 := Lib.hid (HK8.out.trans hK9.ofDrew (fun _ _ h => h))
                clear hK9 x0 x1 x2 HM8 HK8
                go_wp2
                go_roundw
                case rel => exact ⟨k + 1, by omega, by go_num, HK9.out⟩
                case measure => simp [intOf]; omega
            · obtain rfl : k = 20 + 1 := by omega
              have HM8 := Lib.hid (HM7.out.kept HKr.out id id)
              have HB9 := Lib.hid (((HK1.out.trans HK7.out (fun _ _ h => h)).trans HKr.out (fun _ _ h => h)).below (Nat.le_refl _) (fun _ h => h.elim))
              have heq : (((20 + 1 : Nat) : Int) == ((20 : Nat) : Int) + 1) = true := by simp
              go_wp2_with fail
              refine (accesses_any _ _ _ _ _ HM8.out).mono ?_; rintro e w9 ⟨rfl, rfl⟩
              go_wp2
              go_ret
              exact ⟨by simp, HB9.out⟩
        ·
          go_wp2_with fail
          refine (swap_of _ _ _ (F.set q (N, K, M)) _ _ _ _ _ _ true _ HM6.out (by omega) (by rw [swaps_at F q xN old xM xK HX.out]; exact hxo) (by rw [if_pos rfl]; exact putAt_in _ _ _)).mono ?_; rintro e w7 ⟨rfl, hM7, hK7⟩
          have HM7 := Lib.hid hM7
          have HK7 := Lib.hid (HK6.out.trans hK7 (fun i hi h => by unfold Own at h; omega))
          have hb7 := hK7.blk HB6.out (by unfold Own; omega)
          have hw7 := hK7.blk HW6.out (by unfold Own; omega)
          have HB7 := Lib.hid hb7
          have HW7 := Lib.hid hw7
          obtain ⟨g1, g2, g3⟩ := flat3_at F q _ HX.out
          have d1 := hw7.cell g1
          clear hM7 hK7 hb7 hw7 g1 g2 g3 HK6 HM6 HB6 HW6 y0 y1 y2
          go_wp2_with fail
          clear d1
          go_loopw [18] (fun i wr => ∃ k : Nat, k ≤ 20 + 1 ∧ i = .int .i64 k ∧ Kept (fun _ => False) w7 wr) (fun i _ => 20 + 1 - (intOf i).toNat)
          case atStart => exact ⟨0, by omega, rfl, Kept.refl _ _⟩
          case round =>
            obtain ⟨k, hk, rfl, hKr⟩ := hrel
            have HKr := Lib.hid hKr
            clear hKr
            by_cases hlt : k ≤ 20
            · obtain ⟨aN, aK, aM, ha⟩ : ∃ aN aK aM, F[k]? = some (aN, aK, aM) := ⟨_, _, _, List.getElem?_eq_getElem (by have := HFL.out; omega)⟩
              have HV := Lib.hid ha
              obtain ⟨g1, g2, g3⟩ := flat3_at F k _ ha
              have hwr := HKr.out.blk HW7.out id
              have hbr := HKr.out.blk HB7.out id
              have d1 := hwr.cell g1
              have d2 := hwr.cell g2
              have d3 := hwr.cell g3
              have y0 := hbr.cell (i := 0) rfl
              have y1 := hbr.cell (i := 1) rfl
              have y2 := hbr.cell (i := 2) rfl
              have hbl := hbr.lt
              clear ha g1 g2 g3 hwr hbr
              by_cases hkq : k = q
              · skip
                have hq1 : ((k : Int) == (q : Int)) = true := by rw [hkq]; simp
                have h2 : Hid (cellAt (F.set q (N, K, M)) k = (N, K, M)) := Lib.hid (by
                  rw [cellAt_in _ k (by rw [List.length_set]; have := HFL.out; omega)]
                  have := HV.out
                  have e : (F.set q (N, K, M))[k]? = some (N, K, M) := by rw [hkq, List.getElem?_set_self (by have := HFL.out; omega)]
                  exact (List.getElem?_eq_some_iff.1 e).2)
                clear hkq
                go_wp2_with fail
                have hN8 := Blk.new wr [.int .u64 N, .string K, .int .u64 M] 32
                have hM8 := (HM7.out.kept HKr.out id id).alloc (.cells #[.int .u64 N, .string K, .int .u64 M] 32)
                have hK8 := HKr.out.alloc (.cells #[.int .u64 N, .string K, .int .u64 M] 32)
                have hr8 : wr.heap.size < (wr.alloc (.cells #[.int .u64 N, .string K, .int .u64 M] 32)).heap.size := hN8.lt
                have x0 := hN8.cell (i := 0) rfl
                have x1 := hN8.cell (i := 1) rfl
                have x2 := hN8.cell (i := 2) rfl
                have HM8 := Lib.hid hM8
                have HK8 := Lib.hid hK8
                clear hN8 hM8 hK8 y0 y1 y2 d1 d2 d3
                generalize wr.alloc (.cells #[.int .u64 N, .string K, .int .u64 M] 32) = w8 at *
                generalize wr.heap.size = r at *
                go_region_held3 (fun w' => w'.cell? ⟨r, 0, none⟩ = some (.int .u64 N) ∧ w'.cell? ⟨r, 1, none⟩ = some (.string K) ∧ w'.cell? ⟨r, 2, none⟩ = some (.int .u64 M))
                  (first | exact ⟨x0, x1, x2⟩ | exact keep3 (Kept.ofDrew (by assumption)) hr8 ⟨x0, x1, x2⟩)
                  (first | (go_at_call 13; refine (peek_any _ _ (F.set q (N, K, M)) _ _ _ _ _ _ (by first | exact HM8.out | exact HM8.out.drew) h2.out).mono ?_; rintro e w9 ⟨rfl, hK9⟩))
                have HK9 := Lib.hid (HK8.out.trans hK9.ofDrew (fun _ _ h => h))
                clear hK9 x0 x1 x2 HM8 HK8
                go_wp2
                go_roundw
                case rel => exact ⟨k + 1, by omega, by go_num, HK9.out⟩
                case measure => simp [intOf]; omega
              ·
                have hq1 : ((k : Int) == (q : Int)) = false := by rw [beq_eq_false_iff_ne]; omega
                have h2 : Hid (cellAt (F.set q (N, K, M)) k = (aN, aK, aM)) := Lib.hid (by
                  rw [cellAt_in _ k (by rw [List.length_set]; have := HFL.out; omega)]
                  have := HV.out
                  have e : (F.set q (N, K, M))[k]? = some (aN, aK, aM) := by rw [List.getElem?_set_ne (by omega)]; exact this
                  exact (List.getElem?_eq_some_iff.1 e).2)
                clear hkq
                go_wp2_with fail
                have hN8 := Blk.new wr [.int .u64 aN, .string aK, .int .u64 aM] 32
                have hM8 := (HM7.out.kept HKr.out id id).alloc (.cells #[.int .u64 aN, .string aK, .int .u64 aM] 32)
                have hK8 := HKr.out.alloc (.cells #[.int .u64 aN, .string aK, .int .u64 aM] 32)
                have hr8 : wr.heap.size < (wr.alloc (.cells #[.int .u64 aN, .string aK, .int .u64 aM] 32)).heap.size := hN8.lt
                have x0 := hN8.cell (i := 0) rfl
                have x1 := hN8.cell (i := 1) rfl
                have x2 := hN8.cell (i := 2) rfl
                have HM8 := Lib.hid hM8
                have HK8 := Lib.hid hK8
                clear hN8 hM8 hK8 y0 y1 y2 d1 d2 d3
                generalize wr.alloc (.cells #[.int .u64 aN, .string aK, .int .u64 aM] 32) = w8 at *
                generalize wr.heap.size = r at *
                go_region_held3 (fun w' => w'.cell? ⟨r, 0, none⟩ = some (.int .u64 aN) ∧ w'.cell? ⟨r, 1, none⟩ = some (.string aK) ∧ w'.cell? ⟨r, 2, none⟩ = some (.int .u64 aM))
                  (first | exact ⟨x0, x1, x2⟩ | exact keep3 (Kept.ofDrew (by assumption)) hr8 ⟨x0, x1, x2⟩)
                  (first | (go_at_call 13; refine (peek_any _ _ (F.set q (N, K, M)) _ _ _ _ _ _ (by first | exact HM8.out | exact HM8.out.drew) h2.out).mono ?_; rintro e w9 ⟨rfl, hK9⟩))
                have HK9 := Lib.hid (HK8.out.trans hK9.ofDrew (fun _ _ h => h))
                clear hK9 x0 x1 x2 HM8 HK8
                go_wp2
                go_roundw
                case rel => exact ⟨k + 1, by omega, by go_num, HK9.out⟩
                case measure => simp [intOf]; omega
            · obtain rfl : k = 20 + 1 := by omega
              have HM8 := Lib.hid (HM7.out.kept HKr.out id id)
              have HB9 := Lib.hid (((HK1.out.trans HK7.out (fun _ _ h => h)).trans HKr.out (fun _ _ h => h)).below (Nat.le_refl _) (fun _ h => h.elim))
              have heq : (((20 + 1 : Nat) : Int) == ((20 : Nat) : Int) + 1) = true := by simp
              go_wp2_with fail
              refine (accesses_any _ _ _ _ _ HM8.out).mono ?_; rintro e w9 ⟨rfl, rfl⟩
              go_wp2
              go_ret
              exact ⟨by simp, HB9.out⟩

theorem lawCells_all (w : World) (A : Option Addr) (c : Nat) (l : List Cel) (hm : l.length ≤ maxLen)
    (hA : 0 < l.length → ∃ g off, A = some ⟨g, off, none⟩ ∧ g < w.heap.size ∧ ∀ (i : Nat) (c : Cel), l[i]? = some c →
        w.cell? ⟨g, off + i * 3, none⟩ = some (.int .u64 c.1) ∧ w.cell? ⟨g, off + i * 3 + 1, none⟩ = some (.string c.2.1) ∧ w.cell? ⟨g, off + i * 3 + 2, none⟩ = some (.int .u64 c.2.2))
    (at_ N M : Int) (K : ByteArray) (old : Int) (swap : Bool) :
    Calls Try.prog 5 #[.slice A l.length c, .int .i64 at_, .agg #[.int .u64 N, .string K, .int .u64 M], .int .u64 old, .bool swap] w fun e w' => e = .returned (.bool true) ∧ Below w.heap.size w w' := by
  by_cases h : l.length ≤ 20
  · exact lawCells_few w A c l at_ old N M K swap hm h hA
  · exact lawCells_many w A c l at_ old N M K swap hm (by omega) hA

end Go.Proofs.Ytedplnngednecaa
