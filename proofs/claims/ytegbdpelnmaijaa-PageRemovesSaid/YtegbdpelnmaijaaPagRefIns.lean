/-
  What Insert of the reference of package page answers for ascending slots. Condition: rows of less than 2^40 slots.
-/
import Derived.Test.YtegbdpelnmaijaaPagFind
namespace Go.Proofs.Ytegbdpelnmaijaa
open Go.RowKit Go.Deep Plain
set_option linter.unusedVariables false

set_option maxHeartbeats 2000000 in
theorem refInsert_no (lv : Int) (A : Option Addr) (c : Nat) (hi : ByteArray) (la : Bool) (rt : Nat) (xs : List Sl) (k : ByteArray) (r : Nat) (w : World) (n : Nat) (hn : xs.length = n) (h40 : n ≤ 1099511627776) (hR : Rs w A c xs) (hk : has k xs = true) :
    Calls Try.prog 22 #[.agg #[.int .i64 lv, .slice A n c, .string hi, .bool la, .int .u64 (rt : Int)], .string k, .int .u64 (r : Int)] w fun e w' => e = .returned (.tuple #[.agg #[.int .i64 0, .slice none 0 0, .string ⟨#[]⟩, .bool false, .int .u64 0], .bool false]) ∧ Below w.heap.size w w' := by
  obtain ⟨P0, S0, B0, Z0⟩ := box_two w [.int .i64 lv, .slice A n c, .string hi, .bool la, .int .u64 (rt : Int)] [.int .i64 0, .slice none 0 0, .string ⟨#[]⟩, .bool false, .int .u64 0] 25 25
  go_enter Try.func22, Try.ntmps22
  go_wp2_with fail
  refine (refFind_any lv A c hi la rt xs k _ n hn h40 (hR.below B0 (Nat.le_refl _))).mono ?_; rintro e w1 ⟨rfl, hB1⟩
  rw [Z0] at hB1
  have S1 := S0.below hB1 (by omega)
  have B1 := Lib.hid (B0.trans (hB1.mono (by omega)))
  have y0 := S1.cell (i := 0) rfl
  have y1 := S1.cell (i := 1) rfl
  have y2 := S1.cell (i := 2) rfl
  have y3 := S1.cell (i := 3) rfl
  have y4 := S1.cell (i := 4) rfl
  have z0 := S1.frozen 0
  have z1 := S1.frozen 1
  have z2 := S1.frozen 2
  have z3 := S1.frozen 3
  have z4 := S1.frozen 4
  rw [hk]
  clear S1 hB1 P0 S0 B0 Z0 hR hk
  go_wp2
  refine bodyPost_ret (v := .tuple #[.agg #[.int .i64 0, .slice none 0 0, .string ⟨#[]⟩, .bool false, .int .u64 0], .bool false]) (by first | (simp [results, Try.results22, go_sem]; done) | (simp [results, Try.results22, go_sem, *]; done)) rfl ⟨rfl, ?_⟩
  exact below_res B1.out (Nat.le_succ _) _ _ _ _ _

set_option maxHeartbeats 4000000 in
theorem refInsert_yes (lv : Int) (A : Option Addr) (c : Nat) (hi : ByteArray) (la : Bool) (rt : Nat) (xs : List Sl) (k : ByteArray) (r : Nat) (w : World) (n : Nat) (hn : xs.length = n) (h40 : n ≤ 1099511627776) (hR : Rs w A c xs) (ha : Asc xs) (hk : has k xs = false) (hlt : n < 1099511627776) :
    Calls Try.prog 22 #[.agg #[.int .i64 lv, .slice A n c, .string hi, .bool la, .int .u64 (rt : Int)], .string k, .int .u64 (r : Int)] w fun e w' => ∃ A' c', e = .returned (.tuple #[.agg #[.int .i64 lv, .slice A' (n + 1) c', .string hi, .bool la, .int .u64 (rt : Int)], .bool true]) ∧
      w'.ownsRow w.heap.size 32 2 (.slice A' (n + 1) c') (n + 1) (flat (ins (k, r) xs)) ∧ Below w.heap.size w w' := by
  have hq := cnt_le k xs
  have hic := ins_cut xs (k, r) ha
  simp only at hic
  obtain ⟨P0, S0, B0, Z0⟩ := box_two w [.int .i64 lv, .slice A n c, .string hi, .bool la, .int .u64 (rt : Int)] [.int .i64 0, .slice none 0 0, .string ⟨#[]⟩, .bool false, .int .u64 0] 25 25
  go_enter Try.func22, Try.ntmps22
  go_wp2_with fail
  refine (refFind_any lv A c hi la rt xs k _ n hn h40 (hR.below B0 (Nat.le_refl _))).mono ?_; rintro e w1 ⟨rfl, hB1⟩
  rw [Z0] at hB1
  have P1 := P0.below hB1 (by omega)
  have S1 := S0.below hB1 (by omega)
  have B1 := B0.trans (hB1.mono (by omega))
  have R1 := hR.below B1 (Nat.le_refl _)
  have hs1 := hB1.size
  rw [Z0] at hs1
  rw [hk]
  generalize cnt k xs = q at *
  have HIC := Lib.hid hic
  have HR1 := Lib.hid R1
  have HB1 := Lib.hid B1
  have HP1 := Lib.hid P1
  have HS1 := Lib.hid S1
  clear hR R1 P0 S0 B0 Z0 P1 S1 B1 hB1 ha hk hic
  go_wp2_with fail
  go_loopw [10, 11] (fun l i wr => ∃ j : Nat, j ≤ q ∧ i = .int .i64 j ∧ wr.ownsRow w1.heap.size 32 2 l j (flat (xs.take j)) ∧ Below w1.heap.size w1 wr) (fun _ i _ => q - (intOf i).toNat)
  case atStart => exact ⟨0, by omega, rfl, World.ownsRow_nil _ _ _ _, Below.refl _ _⟩
  case round =>
    obtain ⟨j, hj, rfl, hown, hB⟩ := hrel
    have hszr := hB.size
    have HB := Lib.hid hB
    have HO := Lib.hid hown
    clear hown hB
    by_cases hjq : j < q
    · obtain ⟨x, hx⟩ : ∃ x, xs[j]? = some x := ⟨_, List.getElem?_eq_getElem (by omega)⟩
      obtain ⟨g, off, hA, hg, hcell⟩ := HR1.out.at (by omega)
      obtain ⟨c0, c1⟩ := hcell j x hx
      have c0 := (HB.out.cell (p := ⟨g, off + j * 2, none⟩) hg).trans c0
      have c1 := (HB.out.cell (p := ⟨g, off + j * 2 + 1, none⟩) hg).trans c1
      have b1 := (HP1.out.below HB.out (by omega)).cell (i := 1) rfl
      rw [hA] at b1
      have HST := Lib.hid (take_step hx)
      clear hcell hx hA
      go_wp2_with (at_builtin; go_must (refine wpList_app rfl (.tmp 26) (.tmp 32) rfl w1.heap.size _ j (xs.take j) rfl (HO.out.alloc _) (some ⟨wr.heap.size, 0, none⟩) 1 1 [x] rfl rfl (Rs.one wr x.1 x.2) (by omega) (by rw [nblk_alloc]; omega) ?_))
      intro v2 w2 hown2 hB2
      have hB3 := (HB.out.alloc hszr _).trans hB2
      have HB3 := Lib.hid hB3
      rw [← HST.out] at hown2
      have HO2 := Lib.hid hown2
      clear hown2 hB2 hB3 HO HB HST c0 c1 b1
      go_wp2
      go_roundw
      case rel => exact ⟨j + 1, by omega, by go_num, HO2.out, HB3.out⟩
      case measure => simp [intOf]; omega
    · obtain rfl : j = q := by omega
      rename World => w2
      go_wp2_with (at_builtin; go_must (refine wpList_app rfl (.tmp 34) (.tmp 38) rfl w1.heap.size _ j (xs.take j) rfl (HO.out.alloc _) (some ⟨w2.heap.size, 0, none⟩) 1 1 [(k, r)] rfl rfl (Rs.one w2 k r) (by omega) (by rw [nblk_alloc]; omega) ?_))
      intro v3 w3 hown3 hB3
      have HB3 := Lib.hid ((HB.out.alloc hszr _).trans hB3)
      rw [← insAt_start] at hown3
      have HO3 := Lib.hid hown3
      clear hown3 hB3 HO HB hszr
      go_wp2_with fail
      go_loopw [10, 12] (fun l i wr => ∃ t : Nat, j ≤ t ∧ t ≤ n ∧ i = .int .i64 t ∧ wr.ownsRow w1.heap.size 32 2 l (t + 1) (flat (insAt (k, r) xs j t)) ∧ Below w1.heap.size w1 wr) (fun _ i _ => n - (intOf i).toNat)
      case atStart => exact ⟨j, Nat.le_refl _, by omega, rfl, HO3.out, HB3.out⟩
      case round =>
        obtain ⟨t, hjt, htn, rfl, hown, hB⟩ := hrel
        have hszr := hB.size
        have HB := Lib.hid hB
        have HO := Lib.hid hown
        have hPr := HP1.out.below hB (by omega)
        have b1 := hPr.cell (i := 1) rfl
        clear hown hB HO3 HB3
        by_cases htq : t < n
        · obtain ⟨x, hx⟩ : ∃ x, xs[t]? = some x := ⟨_, List.getElem?_eq_getElem (by omega)⟩
          obtain ⟨g, off, hA, hg, hcell⟩ := HR1.out.at (by omega)
          obtain ⟨c0, c1⟩ := hcell t x hx
          have c0 := (HB.out.cell (p := ⟨g, off + t * 2, none⟩) hg).trans c0
          have c1 := (HB.out.cell (p := ⟨g, off + t * 2 + 1, none⟩) hg).trans c1
          rw [hA] at b1
          have HST := Lib.hid (insAt_step (e := (k, r)) hjt hx)
          clear hcell hx hA hPr
          go_wp2_with (at_builtin; go_must (refine wpList_app rfl (.tmp 48) (.tmp 54) rfl w1.heap.size _ (t + 1) (insAt (k, r) xs j t) rfl (HO.out.alloc _) (some ⟨wr.heap.size, 0, none⟩) 1 1 [x] rfl rfl (Rs.one wr x.1 x.2) (by omega) (by rw [nblk_alloc]; omega) ?_))
          intro v2 w2 hown2 hB2
          have hB3 := (HB.out.alloc hszr _).trans hB2
          have HB3 := Lib.hid hB3
          rw [← HST.out] at hown2
          have HO2 := Lib.hid hown2
          clear hown2 hB2 hB3 HO HB HST c0 c1 b1
          go_wp2
          go_roundw
          case rel => exact ⟨t + 1, by omega, by omega, by go_num, HO2.out, HB3.out⟩
          case measure => simp [intOf]; omega
        · obtain rfl : t = n := by omega
          have hown4 := HO.out
          have he := insAt_end (k, r) xs j
          rw [hn, ← HIC.out] at he
          rw [he] at hown4
          obtain ⟨A4, c4, rfl, hl4, hR4, hA4⟩ := Rs.own hown4
          have hS4 := HS1.out.below HB.out (by omega)
          have b0 := hPr.cell (i := 0) rfl
          have b2 := hPr.cell (i := 2) rfl
          have b3 := hPr.cell (i := 3) rfl
          have b4 := hPr.cell (i := 4) rfl
          have x1 := hPr.frozen 1
          have y0 := hS4.cell (i := 0) rfl
          have y1 := hS4.cell (i := 1) rfl
          have y2 := hS4.cell (i := 2) rfl
          have y3 := hS4.cell (i := 3) rfl
          have y4 := hS4.cell (i := 4) rfl
          have z0 := hS4.frozen 0
          have z1 := hS4.frozen 1
          have z2 := hS4.frozen 2
          have z3 := hS4.frozen 3
          have z4 := hS4.frozen 4
          have HO4 := Lib.hid hown4
          have HB4 := Lib.hid (HB1.out.trans (HB.out.mono (by omega)))
          clear hown4 hS4 hPr hR4 hA4 hl4 he HO HB
          go_wp2
          refine bodyPost_ret (v := .tuple #[.agg #[.int .i64 lv, .slice A4 (t + 1) c4, .string hi, .bool la, .int .u64 (rt : Int)], .bool true]) (by simp [results, Try.results22, go_sem, *]) rfl ?_
          exact ⟨_, _, rfl, own_less (own_page HO4.out (by omega) (by omega) _ _ _ _ _ _) (by omega), below_page HB4.out (Nat.le_refl _) (Nat.le_succ _) _ _ _ _ _ _⟩
end Go.Proofs.Ytegbdpelnmaijaa
