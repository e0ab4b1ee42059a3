/-
  What the statements' own 'sorted' makes of any page: its first 40 slots put in order, in a row of its own. Condition: rows of at most 2^47 slots.
-/
import Derived.Test.YtegbdpelnmaijaaPagRefIns
import Derived.Deep.RegionHeld3
namespace Go.Proofs.Ytegbdpelnmaijaa
open Go.RowKit Go.Deep Plain
set_option linter.unusedVariables false

/-- What the region's order leaves as it is: three cells of blocks that were there. -/
theorem keepD {wr : World} {p0 p1 p2 : Addr} {u0 u1 u2 : Value} (c0 : wr.cell? p0 = some u0) (c1 : wr.cell? p1 = some u1) (c2 : wr.cell? p2 = some u2) : Below wr.heap.size wr wr.drew ∧ wr.drew.cell? p0 = some u0 ∧ wr.drew.cell? p1 = some u1 ∧ wr.drew.cell? p2 = some u2 :=
  ⟨(Below.refl _ _).drew, c0, c1, c2⟩
theorem keepT {wr w1 w2 : World} {p0 p1 p2 : Addr} {u0 u1 u2 : Value} (hb : Below wr.heap.size w1 w2) (h0 : p0.block < wr.heap.size) (h1 : p1.block < wr.heap.size) (h2 : p2.block < wr.heap.size)
    (h : Below wr.heap.size wr w1 ∧ w1.cell? p0 = some u0 ∧ w1.cell? p1 = some u1 ∧ w1.cell? p2 = some u2) : Below wr.heap.size wr w2 ∧ w2.cell? p0 = some u0 ∧ w2.cell? p1 = some u1 ∧ w2.cell? p2 = some u2 :=
  ⟨h.1.trans hb, (hb.cell h0).trans h.2.1, (hb.cell h1).trans h.2.2.1, (hb.cell h2).trans h.2.2.2⟩
theorem keepA {wr w1 : World} {p0 p1 p2 : Addr} {u0 u1 u2 : Value} {o : Obj} (h0 : p0.block < wr.heap.size) (h1 : p1.block < wr.heap.size) (h2 : p2.block < wr.heap.size)
    (h : Below wr.heap.size wr w1 ∧ w1.cell? p0 = some u0 ∧ w1.cell? p1 = some u1 ∧ w1.cell? p2 = some u2) : Below wr.heap.size wr (w1.alloc o) ∧ (w1.alloc o).cell? p0 = some u0 ∧ (w1.alloc o).cell? p1 = some u1 ∧ (w1.alloc o).cell? p2 = some u2 :=
  keepT ((Below.refl _ _).alloc h.1.size _) h0 h1 h2 h
theorem keepC {wr w1 w2 : World} {p0 p1 p2 : Addr} {u0 u1 u2 : Value} (hb : Below w1.heap.size w1 w2) (h0 : p0.block < wr.heap.size) (h1 : p1.block < wr.heap.size) (h2 : p2.block < wr.heap.size)
    (h : Below wr.heap.size wr w1 ∧ w1.cell? p0 = some u0 ∧ w1.cell? p1 = some u1 ∧ w1.cell? p2 = some u2) : Below wr.heap.size wr w2 ∧ w2.cell? p0 = some u0 ∧ w2.cell? p1 = some u1 ∧ w2.cell? p2 = some u2 :=
  keepT (hb.mono h.1.size) h0 h1 h2 h
theorem keepS {wr w1 : World} {p0 p1 p2 : Addr} {u0 u1 u2 : Value} {q : Nat} {v0 v1 v2 v3 v4 : Value} (hq : wr.heap.size ≤ q) (h0 : p0.block < wr.heap.size) (h1 : p1.block < wr.heap.size) (h2 : p2.block < wr.heap.size)
    (h : Below wr.heap.size wr w1 ∧ w1.cell? p0 = some u0 ∧ w1.cell? p1 = some u1 ∧ w1.cell? p2 = some u2) :
    Below wr.heap.size wr (((((w1.setCell ⟨q, 0, none⟩ v0).setCell ⟨q, 1, none⟩ v1).setCell ⟨q, 2, none⟩ v2).setCell ⟨q, 3, none⟩ v3).setCell ⟨q, 4, none⟩ v4) ∧
      (((((w1.setCell ⟨q, 0, none⟩ v0).setCell ⟨q, 1, none⟩ v1).setCell ⟨q, 2, none⟩ v2).setCell ⟨q, 3, none⟩ v3).setCell ⟨q, 4, none⟩ v4).cell? p0 = some u0 ∧
      (((((w1.setCell ⟨q, 0, none⟩ v0).setCell ⟨q, 1, none⟩ v1).setCell ⟨q, 2, none⟩ v2).setCell ⟨q, 3, none⟩ v3).setCell ⟨q, 4, none⟩ v4).cell? p1 = some u1 ∧
      (((((w1.setCell ⟨q, 0, none⟩ v0).setCell ⟨q, 1, none⟩ v1).setCell ⟨q, 2, none⟩ v2).setCell ⟨q, 3, none⟩ v3).setCell ⟨q, 4, none⟩ v4).cell? p2 = some u2 :=
  keepT (below_res (Below.refl _ _) hq _ _ _ _ _) h0 h1 h2 h
theorem keepAD {wr : World} {p0 p1 p2 : Addr} {u0 u1 u2 : Value} {o : Obj} (c0 : wr.cell? p0 = some u0) (c1 : wr.cell? p1 = some u1) (c2 : wr.cell? p2 = some u2) (h0 : p0.block < wr.heap.size) (h1 : p1.block < wr.heap.size) (h2 : p2.block < wr.heap.size) :
    Below wr.heap.size wr (wr.alloc o).drew ∧ (wr.alloc o).drew.cell? p0 = some u0 ∧ (wr.alloc o).drew.cell? p1 = some u1 ∧ (wr.alloc o).drew.cell? p2 = some u2 :=
  keepT (((Below.refl _ _).alloc (Nat.le_refl _) _).drew) h0 h1 h2 ⟨Below.refl _ _, c0, c1, c2⟩
theorem keepB {wr w2 : World} {p0 p1 p2 : Addr} {u0 u1 u2 : Value} {o : Obj} (hb : Below wr.drew.heap.size wr.drew w2) (c0 : wr.cell? p0 = some u0) (c1 : wr.cell? p1 = some u1) (c2 : wr.cell? p2 = some u2) (h0 : p0.block < wr.heap.size) (h1 : p1.block < wr.heap.size) (h2 : p2.block < wr.heap.size) :
    Below wr.heap.size wr (w2.alloc o) ∧ (w2.alloc o).cell? p0 = some u0 ∧ (w2.alloc o).cell? p1 = some u1 ∧ (w2.alloc o).cell? p2 = some u2 :=
  keepA h0 h1 h2 (keepT hb h0 h1 h2 (keepD c0 c1 c2))
/-- A block just made for a page, behind a call that keeps what was there. -/
theorem zero_page {w1 w2 : World} (hb : Below (w1.alloc (.cells #[.int .i64 0, .slice none 0 0, .string ⟨#[]⟩, .bool false, .int .u64 0] 25)).drew.heap.size (w1.alloc (.cells #[.int .i64 0, .slice none 0 0, .string ⟨#[]⟩, .bool false, .int .u64 0] 25)).drew w2) :
    Blk w2 w1.heap.size 25 [.int .i64 0, .slice none 0 0, .string ⟨#[]⟩, .bool false, .int .u64 0] := Blk.below (w := (w1.alloc (.cells #[.int .i64 0, .slice none 0 0, .string ⟨#[]⟩, .bool false, .int .u64 0] 25)).drew) (Blk.new w1 [.int .i64 0, .slice none 0 0, .string ⟨#[]⟩, .bool false, .int .u64 0] 25) hb (by show w1.heap.size < (w1.alloc _).heap.size; rw [nblk_alloc]; omega)

set_option maxRecDepth 100000 in
set_option maxHeartbeats 4000000 in
theorem sorted_any (lv : Int) (A : Option Addr) (c : Nat) (hi : ByteArray) (la : Bool) (rt : Nat) (xs : List Sl) (w : World) (n : Nat) (hn : xs.length = n) (h47 : n ≤ maxLen) (hR : Rs w A c xs) (ys : List Sl) (hys : sorted (xs.take 40) = ys) (m : Nat) (hm : ys.length = m) :
    Calls Try.prog 14 #[.agg #[.int .i64 lv, .slice A n c, .string hi, .bool la, .int .u64 (rt : Int)]] w fun e w' => ∃ A' c', e = .returned (.agg #[.int .i64 lv, .slice A' m c', .string hi, .bool la, .int .u64 (rt : Int)]) ∧
      w'.ownsRow w.heap.size 32 2 (.slice A' m c') m (flat ys) ∧ Below w.heap.size w w' := by
  obtain ⟨P0, S0, B0, Z0⟩ := box_two w [.int .i64 lv, .slice A n c, .string hi, .bool la, .int .u64 (rt : Int)] [.int .i64 0, .slice none 0 0, .string ⟨#[]⟩, .bool false, .int .u64 0] 25 25
  have R0 := hR.below B0 (Nat.le_refl _)
  have HY := Lib.hid hys
  have HM := Lib.hid hm
  unfold maxLen at h47
  go_enter Try.func14, Try.ntmps14
  go_wp2_with fail
  generalize (w.alloc (.cells #[.int .i64 lv, .slice A n c, .string hi, .bool la, .int .u64 (rt : Int)] 25)).alloc (.cells #[.int .i64 0, .slice none 0 0, .string ⟨#[]⟩, .bool false, .int .u64 0] 25) = W0 at *
  have HR0 := Lib.hid R0
  have HP0 := Lib.hid P0
  have HS0 := Lib.hid S0
  have HB0 := Lib.hid B0
  have HZ0 := Lib.hid Z0
  clear hys hm hR P0 S0 B0 Z0 R0
  go_loopw [3, 4] (fun l i wr => ∃ (j t : Nat) (zs : List Sl), j ≤ n ∧ j ≤ 40 ∧ i = .int .i64 j ∧ sorted (xs.take j) = zs ∧ zs.length = t ∧ wr.ownsRow W0.heap.size 32 2 l t (flat zs) ∧ Below W0.heap.size W0 wr) (fun _ i _ => n - (intOf i).toNat)
  case atStart => exact ⟨0, 0, [], by omega, by omega, rfl, rfl, rfl, World.ownsRow_nil _ _ _ _, Below.refl _ _⟩
  case round =>
    obtain ⟨j, t, zs, hj, hj40, rfl, hzs, ht, hown, hB⟩ := hrel
    have hzw := HZ0.out
    have hszr := hB.size
    have HO := Lib.hid hown
    have HB := Lib.hid hB
    have hPr := HP0.out.below hB (by omega)
    have hSr := HS0.out.below hB (by omega)
    have hA := sorted_asc (xs.take j)
    rw [hzs] at hA
    have hzl := sorted_length (xs.take j)
    rw [hzs, List.length_take] at hzl
    have ht40 : t ≤ j := by omega
    obtain ⟨A1, c1, rfl, hl1, hR1, hb1⟩ := Rs.own hown
    have b1 := hPr.cell (i := 1) rfl
    by_cases hgo : j < n ∧ j < 40
    · obtain ⟨hjn, hj4⟩ := hgo
      obtain ⟨x, hx⟩ : ∃ x, xs[j]? = some x := ⟨_, List.getElem?_eq_getElem (by omega)⟩
      have hnx := sorted_take xs j x hx
      rw [hzs] at hnx
      obtain ⟨g, off, rfl, hg, hcell⟩ := HR0.out.at (by omega)
      obtain ⟨c0, c1'⟩ := hcell j x hx
      have c0 := (hB.cell (p := ⟨g, off + j * 2, none⟩) hg).trans c0
      have c1' := (hB.cell (p := ⟨g, off + j * 2 + 1, none⟩) hg).trans c1'
      have hm : j + 1 ≤ n ∧ j + 1 ≤ 40 := by omega
      have HA := Lib.hid hA
      have HR1 := Lib.hid hR1
      have HNX := Lib.hid hnx
      clear hcell hx hzs hA hnx hR1 hown hB hPr hSr hb1 hzl
      go_wp2_with fail
      have hpw : w.heap.size < wr.heap.size := by omega
      have hgw : g < wr.heap.size := by omega
      cases hk : has x.1 zs
      · go_region_held3 (fun w' => Below wr.heap.size wr w' ∧ w'.cell? ⟨w.heap.size, 1, none⟩ = some (.slice (some ⟨g, off, none⟩) n c) ∧ w'.cell? ⟨g, off + j * 2, none⟩ = some (.string x.1) ∧ w'.cell? ⟨g, off + j * 2 + 1, none⟩ = some (.int .u64 (x.2 : Int)))
          (first | (with_reducible assumption) | (with_reducible refine keepC hB2 hpw hgw hgw ?_; assumption) | (with_reducible refine keepS ?_ hpw hgw hgw ?_ <;> first | omega | assumption) | (with_reducible refine keepB hB2 b1 c0 c1' hpw hgw hgw) | (with_reducible refine keepA hpw hgw hgw ?_; assumption) | (with_reducible refine keepAD b1 c0 c1' hpw hgw hgw) | exact keepD b1 c0 c1')
          (first | (go_at_call 22; refine (refInsert_yes 0 A1 c1 ⟨#[]⟩ false 0 zs x.1 x.2 _ t hl1 (by omega) (HR1.out.below (by first | exact (Below.refl _ _).drew | exact ((Below.refl _ _).drew).alloc (Nat.le_refl _) _) (Nat.le_refl _)) HA.out hk (by omega)).mono ?_; rintro e w2 ⟨A2, c2, rfl, hown2, hB2⟩; (try (have Y2 : Blk w2 wr.heap.size 25 [.int .i64 0, .slice none 0 0, .string ⟨#[]⟩, .bool false, .int .u64 0] := zero_page hB2; have y0 := Y2.cell (i := 0) rfl; have y1 := Y2.cell (i := 1) rfl; have y2 := Y2.cell (i := 2) rfl; have y3 := Y2.cell (i := 3) rfl; have y4 := Y2.cell (i := 4) rfl; have z0 := Y2.frozen 0; have z1 := Y2.frozen 1; have z2 := Y2.frozen 2; have z3 := Y2.frozen 3; have z4 := Y2.frozen 4))))
        · have hN : sorted (xs.take (j + 1)) = ins (x.1, x.2) zs := by rw [HNX.out]; unfold putIn; rw [hk]; rfl
          have hO2 := own_less (hown2.alloc (.cells #[.int .i64 0, .slice A2 (t + 1) c2, .string ⟨#[]⟩, .bool false, .int .u64 0] 25)) (show W0.heap.size ≤ wr.heap.size from hszr)
          have hF := HB.out.trans (((Below.refl wr.heap.size wr).trans (show Below wr.heap.size wr w2 from ⟨hB2.os, hB2.tape, hB2.output, hB2.size, hB2.block⟩)).alloc hB2.size (.cells #[.int .i64 0, .slice A2 (t + 1) c2, .string ⟨#[]⟩, .bool false, .int .u64 0] 25) |>.mono hszr)
          have HN := Lib.hid hN
          have HO2 := Lib.hid hO2
          have HF := Lib.hid hF
          clear hN hO2 hF hown2 hB2 hk
          go_wp2
          go_roundw
          case rel => exact ⟨j + 1, t + 1, _, by omega, by omega, by go_num, HN.out, by rw [ins_length, hl1], HO2.out, HF.out⟩
          case measure => simp [intOf]; omega
        · have hN : sorted (xs.take (j + 1)) = ins (x.1, x.2) zs := by rw [HNX.out]; unfold putIn; rw [hk]; rfl
          have hz1 : (wr.alloc (.cells #[.int .i64 0, .slice none 0 0, .string ⟨#[]⟩, .bool false, .int .u64 0] 25)).drew.heap.size = wr.heap.size + 1 := nblk_alloc _ _
          have hO2 := own_less (own_res hown2 (r := wr.heap.size) (by omega) (.int .i64 0) (.slice A2 (t + 1) c2) (.string ⟨#[]⟩) (.bool false) (.int .u64 0)) (show W0.heap.size ≤ _ by omega)
          have hF := HB.out.trans (((below_res (((Below.refl wr.heap.size wr).alloc (Nat.le_refl _) (.cells #[.int .i64 0, .slice none 0 0, .string ⟨#[]⟩, .bool false, .int .u64 0] 25)).drew.trans (hB2.mono (by omega))) (Nat.le_refl _) (.int .i64 0) (.slice A2 (t + 1) c2) (.string ⟨#[]⟩) (.bool false) (.int .u64 0))).mono hszr)
          have HN := Lib.hid hN
          have HO2 := Lib.hid hO2
          have HF := Lib.hid hF
          clear hN hO2 hF hown2 hB2 hk hz1
          go_wp2
          go_roundw
          case rel => exact ⟨j + 1, t + 1, _, by omega, by omega, by go_num, HN.out, by rw [ins_length, hl1], HO2.out, HF.out⟩
          case measure => simp [intOf]; omega
      · go_region_held3 (fun w' => Below wr.heap.size wr w' ∧ w'.cell? ⟨w.heap.size, 1, none⟩ = some (.slice (some ⟨g, off, none⟩) n c) ∧ w'.cell? ⟨g, off + j * 2, none⟩ = some (.string x.1) ∧ w'.cell? ⟨g, off + j * 2 + 1, none⟩ = some (.int .u64 (x.2 : Int)))
          (first | (with_reducible assumption) | (with_reducible refine keepC hB2 hpw hgw hgw ?_; assumption) | (with_reducible refine keepS ?_ hpw hgw hgw ?_ <;> first | omega | assumption) | (with_reducible refine keepB hB2 b1 c0 c1' hpw hgw hgw) | (with_reducible refine keepA hpw hgw hgw ?_; assumption) | (with_reducible refine keepAD b1 c0 c1' hpw hgw hgw) | exact keepD b1 c0 c1')
          (first | (go_at_call 22; refine (refInsert_no 0 A1 c1 ⟨#[]⟩ false 0 zs x.1 x.2 _ t hl1 (by omega) (HR1.out.below (by first | exact (Below.refl _ _).drew | exact ((Below.refl _ _).drew).alloc (Nat.le_refl _) _) (Nat.le_refl _)) hk).mono ?_; rintro e w2 ⟨rfl, hB2⟩; (try (have Y2 : Blk w2 wr.heap.size 25 [.int .i64 0, .slice none 0 0, .string ⟨#[]⟩, .bool false, .int .u64 0] := zero_page hB2; have y0 := Y2.cell (i := 0) rfl; have y1 := Y2.cell (i := 1) rfl; have y2 := Y2.cell (i := 2) rfl; have y3 := Y2.cell (i := 3) rfl; have y4 := Y2.cell (i := 4) rfl; have z0 := Y2.frozen 0; have z1 := Y2.frozen 1; have z2 := Y2.frozen 2; have z3 := Y2.frozen 3; have z4 := Y2.frozen 4))))
        · have hN : sorted (xs.take (j + 1)) = zs := by rw [HNX.out]; unfold putIn; rw [hk]; rfl
          have hG := (show Below wr.heap.size wr w2 from ⟨hB2.os, hB2.tape, hB2.output, hB2.size, hB2.block⟩).alloc hB2.size (.cells #[.int .i64 0, .slice none 0 0, .string ⟨#[]⟩, .bool false, .int .u64 0] 25)
          have hO2 := own_below HO.out hG (Nat.le_refl _)
          have hF := HB.out.trans (hG.mono hszr)
          have HN := Lib.hid hN
          have HO2 := Lib.hid hO2
          have HF := Lib.hid hF
          clear hN hO2 hF hB2 hk hG
          go_wp2
          go_roundw
          case rel => exact ⟨j + 1, t, zs, by omega, by omega, by go_num, HN.out, hl1, HO2.out, HF.out⟩
          case measure => simp [intOf]; omega
        · have hN : sorted (xs.take (j + 1)) = zs := by rw [HNX.out]; unfold putIn; rw [hk]; rfl
          have hz1 : (wr.alloc (.cells #[.int .i64 0, .slice none 0 0, .string ⟨#[]⟩, .bool false, .int .u64 0] 25)).drew.heap.size = wr.heap.size + 1 := nblk_alloc _ _
          have hG := below_res (((Below.refl wr.heap.size wr).alloc (Nat.le_refl _) (.cells #[.int .i64 0, .slice none 0 0, .string ⟨#[]⟩, .bool false, .int .u64 0] 25)).drew.trans (hB2.mono (by omega))) (Nat.le_refl _) (.int .i64 0) (.slice none 0 0) (.string ⟨#[]⟩) (.bool false) (.int .u64 0)
          have hO2 := own_below HO.out hG (Nat.le_refl _)
          have hF := HB.out.trans (hG.mono hszr)
          have HN := Lib.hid hN
          have HO2 := Lib.hid hO2
          have HF := Lib.hid hF
          clear hN hO2 hF hB2 hk hz1 hG
          go_wp2
          go_roundw
          case rel => exact ⟨j + 1, t, zs, by omega, by omega, by go_num, HN.out, hl1, HO2.out, HF.out⟩
          case measure => simp [intOf]; omega
    · have hzy : zs = ys := by
        rw [← hzs, ← HY.out]
        by_cases h40 : j = 40
        · rw [h40]
        · rw [List.take_of_length_le (show xs.length ≤ j by omega), List.take_of_length_le (show xs.length ≤ 40 by omega)]
      have htm : t = m := by rw [← ht, hzy]; exact HM.out
      subst htm
      rw [hzy] at hown
      have hcond : (decide ((j : Int) < (n : Int)) = false) ∨ (decide ((j : Int) < (n : Int)) = true ∧ decide ((j : Int) < 40) = false) := by
        by_cases h : j < n
        · exact .inr ⟨by simpa using h, by simp; omega⟩
        · exact .inl (by simpa using h)
      have x0 := hPr.cell (i := 0) rfl
      have x2 := hPr.cell (i := 2) rfl
      have x3 := hPr.cell (i := 3) rfl
      have x4 := hPr.cell (i := 4) rfl
      have xf := hPr.frozen 1
      have y0 := hSr.cell (i := 0) rfl
      have y1 := hSr.cell (i := 1) rfl
      have y2 := hSr.cell (i := 2) rfl
      have y3 := hSr.cell (i := 3) rfl
      have y4 := hSr.cell (i := 4) rfl
      have z0 := hSr.frozen 0
      have z1 := hSr.frozen 1
      have z2 := hSr.frozen 2
      have z3 := hSr.frozen 3
      have z4 := hSr.frozen 4
      have HO2 := Lib.hid hown
      have HBF := Lib.hid (HB0.out.trans (hB.mono (by omega)))
      clear hB hPr hSr hown hR1 hb1 hA hzs hzy ht hzl HO HB hl1
      rcases hcond with h1 | ⟨h1, h2⟩
      all_goals
        go_wp2
        all_goals
          refine bodyPost_ret (v := .agg #[.int .i64 lv, .slice A1 t c1, .string hi, .bool la, .int .u64 (rt : Int)]) (by simp [results, Try.results14, go_sem, *]) rfl ?_
          exact ⟨_, _, rfl, own_less (own_page HO2.out (by omega) (by omega) _ _ _ _ _ _) (by omega), below_page HBF.out (Nat.le_refl _) (Nat.le_succ _) _ _ _ _ _ _⟩
end Go.Proofs.Ytegbdpelnmaijaa
