/-
  Split of a leaf with four slots, and the statements' own example 'awake', which answers yes. Condition: none.
-/
import Derived.Test.YtegbdpelnmaijaaPagSplit
import Derived.Test.YtegbdpelnmaijaaPagSort
import Derived.StillTailTactics
namespace Go.Proofs.Ytegbdpelnmaijaa
open Go.RowKit Go.Deep Plain
set_option linter.unusedVariables false

theorem copied_to (A : Option Addr) (c : Nat) (xs : List Sl) (w : World) (n : Nat) (hn : xs.length = n) (h40 : n ≤ 1099511627776) (hR : Rs w A c xs) :
    Calls Try.prog 36 #[.slice A n c] w fun e w' => ∃ A' c', e = .returned (.slice A' n c') ∧ Below w.heap.size w w' :=
  (copied_any A c xs w n hn h40 hR).mono fun e w' ⟨v, he, ho, hb⟩ => by
    obtain ⟨A', c', rfl, _⟩ := Rs.own ho
    exact ⟨A', c', he, hb⟩

theorem box_three (w : World) (ps rs qs : List Value) (t : TypeId) : Blk (((w.alloc (.cells ⟨ps⟩ t)).alloc (.cells ⟨rs⟩ t)).alloc (.cells ⟨qs⟩ t)) w.heap.size t ps ∧ Blk (((w.alloc (.cells ⟨ps⟩ t)).alloc (.cells ⟨rs⟩ t)).alloc (.cells ⟨qs⟩ t)) (w.heap.size + 1) t rs ∧
    Blk (((w.alloc (.cells ⟨ps⟩ t)).alloc (.cells ⟨rs⟩ t)).alloc (.cells ⟨qs⟩ t)) (w.heap.size + 2) t qs ∧ Below w.heap.size w (((w.alloc (.cells ⟨ps⟩ t)).alloc (.cells ⟨rs⟩ t)).alloc (.cells ⟨qs⟩ t)) ∧
    (((w.alloc (.cells ⟨ps⟩ t)).alloc (.cells ⟨rs⟩ t)).alloc (.cells ⟨qs⟩ t)).heap.size = w.heap.size + 3 := by
  obtain ⟨h1, h2, h3, h4⟩ := box_two w ps rs t t
  refine ⟨h1.alloc _, h2.alloc _, ?_, h3.alloc (by rw [h4]; omega) _, by rw [nblk_alloc, h4]⟩
  have := Blk.new ((w.alloc (.cells ⟨ps⟩ t)).alloc (.cells ⟨rs⟩ t)) qs t
  rw [h4] at this; exact this

theorem far_cell {w : World} {r : Nat} {v0 v1 v2 v3 v4 u : Value} {p : Addr} (hp : p.block ≠ r) (h : w.cell? p = some u) : (((((w.setCell ⟨r, 0, none⟩ v0).setCell ⟨r, 1, none⟩ v1).setCell ⟨r, 2, none⟩ v2).setCell ⟨r, 3, none⟩ v3).setCell ⟨r, 4, none⟩ v4).cell? p = some u := by
  have hk : (((((w.setCell ⟨r, 0, none⟩ v0).setCell ⟨r, 1, none⟩ v1).setCell ⟨r, 2, none⟩ v2).setCell ⟨r, 3, none⟩ v3).setCell ⟨r, 4, none⟩ v4).heap[p.block]? = w.heap[p.block]? := by
    rw [Below.heap_setCell _ _ _ _ hp, Below.heap_setCell _ _ _ _ hp, Below.heap_setCell _ _ _ _ hp, Below.heap_setCell _ _ _ _ hp, Below.heap_setCell _ _ _ _ hp]
  exact (World.cell?_of_block hk).trans h
theorem keepS10 {w : World} {b1 b2 r : Nat} {a0 a1 a2 a3 a4 d0 d1 d2 d3 d4 v0 v1 v2 v3 v4 : Value} (h1 : b1 ≠ r) (h2 : b2 ≠ r) (h : w.cell? ⟨b1, 0, none⟩ = some a0 ∧ w.cell? ⟨b1, 1, none⟩ = some a1 ∧ w.cell? ⟨b1, 2, none⟩ = some a2 ∧ w.cell? ⟨b1, 3, none⟩ = some a3 ∧ w.cell? ⟨b1, 4, none⟩ = some a4 ∧ w.cell? ⟨b2, 0, none⟩ = some d0 ∧ w.cell? ⟨b2, 1, none⟩ = some d1 ∧ w.cell? ⟨b2, 2, none⟩ = some d2 ∧ w.cell? ⟨b2, 3, none⟩ = some d3 ∧ w.cell? ⟨b2, 4, none⟩ = some d4) :
    (((((w.setCell ⟨r, 0, none⟩ v0).setCell ⟨r, 1, none⟩ v1).setCell ⟨r, 2, none⟩ v2).setCell ⟨r, 3, none⟩ v3).setCell ⟨r, 4, none⟩ v4).cell? ⟨b1, 0, none⟩ = some a0 ∧ (((((w.setCell ⟨r, 0, none⟩ v0).setCell ⟨r, 1, none⟩ v1).setCell ⟨r, 2, none⟩ v2).setCell ⟨r, 3, none⟩ v3).setCell ⟨r, 4, none⟩ v4).cell? ⟨b1, 1, none⟩ = some a1 ∧ (((((w.setCell ⟨r, 0, none⟩ v0).setCell ⟨r, 1, none⟩ v1).setCell ⟨r, 2, none⟩ v2).setCell ⟨r, 3, none⟩ v3).setCell ⟨r, 4, none⟩ v4).cell? ⟨b1, 2, none⟩ = some a2 ∧ (((((w.setCell ⟨r, 0, none⟩ v0).setCell ⟨r, 1, none⟩ v1).setCell ⟨r, 2, none⟩ v2).setCell ⟨r, 3, none⟩ v3).setCell ⟨r, 4, none⟩ v4).cell? ⟨b1, 3, none⟩ = some a3 ∧ (((((w.setCell ⟨r, 0, none⟩ v0).setCell ⟨r, 1, none⟩ v1).setCell ⟨r, 2, none⟩ v2).setCell ⟨r, 3, none⟩ v3).setCell ⟨r, 4, none⟩ v4).cell? ⟨b1, 4, none⟩ = some a4 ∧ (((((w.setCell ⟨r, 0, none⟩ v0).setCell ⟨r, 1, none⟩ v1).setCell ⟨r, 2, none⟩ v2).setCell ⟨r, 3, none⟩ v3).setCell ⟨r, 4, none⟩ v4).cell? ⟨b2, 0, none⟩ = some d0 ∧ (((((w.setCell ⟨r, 0, none⟩ v0).setCell ⟨r, 1, none⟩ v1).setCell ⟨r, 2, none⟩ v2).setCell ⟨r, 3, none⟩ v3).setCell ⟨r, 4, none⟩ v4).cell? ⟨b2, 1, none⟩ = some d1 ∧ (((((w.setCell ⟨r, 0, none⟩ v0).setCell ⟨r, 1, none⟩ v1).setCell ⟨r, 2, none⟩ v2).setCell ⟨r, 3, none⟩ v3).setCell ⟨r, 4, none⟩ v4).cell? ⟨b2, 2, none⟩ = some d2 ∧ (((((w.setCell ⟨r, 0, none⟩ v0).setCell ⟨r, 1, none⟩ v1).setCell ⟨r, 2, none⟩ v2).setCell ⟨r, 3, none⟩ v3).setCell ⟨r, 4, none⟩ v4).cell? ⟨b2, 3, none⟩ = some d3 ∧ (((((w.setCell ⟨r, 0, none⟩ v0).setCell ⟨r, 1, none⟩ v1).setCell ⟨r, 2, none⟩ v2).setCell ⟨r, 3, none⟩ v3).setCell ⟨r, 4, none⟩ v4).cell? ⟨b2, 4, none⟩ = some d4 :=
  ⟨far_cell h1 (h.1), far_cell h1 (h.2.1), far_cell h1 (h.2.2.1), far_cell h1 (h.2.2.2.1), far_cell h1 (h.2.2.2.2.1), far_cell h2 (h.2.2.2.2.2.1), far_cell h2 (h.2.2.2.2.2.2.1), far_cell h2 (h.2.2.2.2.2.2.2.1), far_cell h2 (h.2.2.2.2.2.2.2.2.1), far_cell h2 (h.2.2.2.2.2.2.2.2.2)⟩

theorem drew10 {w : World} {b1 b2 : Nat} {a0 a1 a2 a3 a4 d0 d1 d2 d3 d4 : Value} (h : w.cell? ⟨b1, 0, none⟩ = some a0 ∧ w.cell? ⟨b1, 1, none⟩ = some a1 ∧ w.cell? ⟨b1, 2, none⟩ = some a2 ∧ w.cell? ⟨b1, 3, none⟩ = some a3 ∧ w.cell? ⟨b1, 4, none⟩ = some a4 ∧ w.cell? ⟨b2, 0, none⟩ = some d0 ∧ w.cell? ⟨b2, 1, none⟩ = some d1 ∧ w.cell? ⟨b2, 2, none⟩ = some d2 ∧ w.cell? ⟨b2, 3, none⟩ = some d3 ∧ w.cell? ⟨b2, 4, none⟩ = some d4) : w.drew.cell? ⟨b1, 0, none⟩ = some a0 ∧ w.drew.cell? ⟨b1, 1, none⟩ = some a1 ∧ w.drew.cell? ⟨b1, 2, none⟩ = some a2 ∧ w.drew.cell? ⟨b1, 3, none⟩ = some a3 ∧ w.drew.cell? ⟨b1, 4, none⟩ = some a4 ∧ w.drew.cell? ⟨b2, 0, none⟩ = some d0 ∧ w.drew.cell? ⟨b2, 1, none⟩ = some d1 ∧ w.drew.cell? ⟨b2, 2, none⟩ = some d2 ∧ w.drew.cell? ⟨b2, 3, none⟩ = some d3 ∧ w.drew.cell? ⟨b2, 4, none⟩ = some d4 := h

set_option maxRecDepth 100000 in
set_option maxHeartbeats 4000000 in
theorem split_four (A : Option Addr) (c : Nat) (hi : ByteArray) (la : Bool) (rt : Nat) (xs : List Sl) (right : Nat) (w : World) (hn : xs.length = 4) (hR : Rs w A c xs) (x y : Sl) (hx : xs[1]? = some x) (hy : xs[2]? = some y) (hxs : x.1.size ≤ maxLen) (hys : y.1.size ≤ maxLen)
    (s : ByteArray) (hs : sepB x.1 y.1 = s) :
    Calls Try.prog 27 #[.agg #[.int .i64 0, .slice A 4 c, .string hi, .bool la, .int .u64 (rt : Int)], .int .u64 (right : Int)] w fun e w' => ∃ A1 c1 A2 c2,
      e = .returned (.tuple #[.agg #[.int .i64 0, .slice A1 2 c1, .string s, .bool false, .int .u64 (right : Int)], .agg #[.int .i64 0, .slice A2 2 c2, .string hi, .bool la, .int .u64 (rt : Int)], .string s, .bool true]) ∧ Below w.heap.size w w' := by
  obtain ⟨g, off, rfl, hg, _⟩ := hR.at (by omega)
  obtain ⟨P0, L0, Q0, B0, Z0⟩ := box_three w [.int .i64 0, .slice (some ⟨g, off, none⟩) 4 c, .string hi, .bool la, .int .u64 (rt : Int)] [.int .i64 0, .slice none 0 0, .string ⟨#[]⟩, .bool false, .int .u64 0] [.int .i64 0, .slice none 0 0, .string ⟨#[]⟩, .bool false, .int .u64 0] 25
  have hc4 : 4 ≤ c := by have := hR.le; omega
  have hc2 : (2 : Int) ≤ (c : Int) := by omega
  have R0 := hR.below B0 (Nat.le_refl _)
  have HR0 := Lib.hid hR
  go_enter Try.func27, Try.ntmps27
  go_wp2_with fail
  refine (separatorAt_leaf 0 _ c hi la rt xs 2 _ 4 hn (by omega) R0 x y (by omega) hx hy hxs hys rfl s hs).mono ?_; rintro e w1 ⟨rfl, hB1⟩
  rw [Z0] at hB1
  have hs1 := hB1.size
  rw [Z0] at hs1
  have B1 := B0.trans (hB1.mono (by omega))
  have P1 := P0.below hB1 (by omega)
  have L1 := L0.below hB1 (by omega)
  have Q1 := Q0.below hB1 (by omega)
  have p0 := P1.cell (i := 0) rfl
  have p1 := P1.cell (i := 1) rfl
  have p2 := P1.cell (i := 2) rfl
  have p3 := P1.cell (i := 3) rfl
  have p4 := P1.cell (i := 4) rfl
  have hq2 : w.heap.size < w1.heap.size := by omega
  have B1' := B1.alloc (o := .cells #[.int .i64 0, .slice (some ⟨g, off, none⟩) 4 c, .string hi, .bool la, .int .u64 (rt : Int)] 25) (by omega)
  have HR1 := Lib.hid (hR.below B1' (Nat.le_refl _))
  have HP1 := Lib.hid (P1.alloc (.cells #[.int .i64 0, .slice (some ⟨g, off, none⟩) 4 c, .string hi, .bool la, .int .u64 (rt : Int)] 25))
  have HL1 := Lib.hid (L1.alloc (.cells #[.int .i64 0, .slice (some ⟨g, off, none⟩) 4 c, .string hi, .bool la, .int .u64 (rt : Int)] 25))
  have HQ1 := Lib.hid (Q1.alloc (.cells #[.int .i64 0, .slice (some ⟨g, off, none⟩) 4 c, .string hi, .bool la, .int .u64 (rt : Int)] 25))
  have HB1 := Lib.hid B1'
  have HT1 := Lib.hid (Blk.new w1 [.int .i64 0, .slice (some ⟨g, off, none⟩) 4 c, .string hi, .bool la, .int .u64 (rt : Int)] 25)
  have hRd : Rs (w1.alloc (.cells #[.int .i64 0, .slice (some ⟨g, off, none⟩) 4 c, .string hi, .bool la, .int .u64 (rt : Int)] 25)) (some ⟨g, off + 4, none⟩) (c - 2) (xs.drop 2) := by
    have := HR1.out.drop 2 (by omega)
    rw [if_neg (by omega)] at this
    simpa [Addr.add] using this
  have HRd := Lib.hid hRd
  clear hR R0 P0 L0 Q0 B0 Z0 P1 L1 Q1 B1 B1' hB1 hx hy hs hRd
  go_wp2_with fail
  have hz1 : (w1.alloc (.cells #[.int .i64 0, .slice (some ⟨g, off, none⟩) 4 c, .string hi, .bool la, .int .u64 (rt : Int)] 25)).heap.size = w1.heap.size + 1 := nblk_alloc _ _
  refine (copied_to _ _ (xs.drop 2) _ 2 (by rw [List.length_drop]; omega) (by omega) HRd.out).mono ?_; rintro e v2 ⟨A2, c2, rfl, hC2⟩
  rw [hz1] at hC2
  have hs2 := hC2.size
  rw [hz1] at hs2
  have P2 := HP1.out.below hC2 (by omega)
  have L2 := HL1.out.below hC2 (by omega)
  have Q2 := HQ1.out.below hC2 (by omega)
  have T2 := HT1.out.below hC2 (by omega)
  have t1 := T2.cell (i := 1) rfl
  have tf := T2.frozen 1
  have B2 := HB1.out.trans (hC2.mono (by omega))
  have hne : w.heap.size ≠ w1.heap.size := by omega
  have P3 := P2.other (a := ⟨w1.heap.size, 1, none⟩) hne (.slice A2 2 c2)
  have L3 := L2.other (a := ⟨w1.heap.size, 1, none⟩) (show w.heap.size + 1 ≠ w1.heap.size by omega) (.slice A2 2 c2)
  have Q3 := Q2.other (a := ⟨w1.heap.size, 1, none⟩) (show w.heap.size + 2 ≠ w1.heap.size by omega) (.slice A2 2 c2)
  have T3 : Blk (v2.setCell ⟨w1.heap.size, 1, none⟩ (.slice A2 2 c2)) w1.heap.size 25 [.int .i64 0, .slice A2 2 c2, .string hi, .bool la, .int .u64 (rt : Int)] := T2.set 1 (.slice A2 2 c2)
  have B3 := B2.setCell (p := ⟨w1.heap.size, 1, none⟩) (by show w.heap.size ≤ w1.heap.size; omega) (.slice A2 2 c2)
  have hz3 : (v2.setCell ⟨w1.heap.size, 1, none⟩ (.slice A2 2 c2)).heap.size = v2.heap.size := by simp [World.setCell]
  have HRX := Lib.hid (HR0.out.below B3 (Nat.le_refl _))
  have HP3 := Lib.hid P3
  have HL3 := Lib.hid L3
  have HQ3 := Lib.hid Q3
  have HT3 := Lib.hid T3
  have HB3 := Lib.hid B3
  have hp1x := (HP1.out.below hC2 (by omega)).cell (i := 1) rfl
  clear P2 L2 Q2 T2 P3 L3 Q3 T3 B3 B2 HP1 HL1 HQ1 HT1 HB1 HR1 HR0 HRd hC2
  go_wp2_with fail
  generalize v2.setCell ⟨w1.heap.size, 1, none⟩ (.slice A2 2 c2) = X at *
  have x0 := HP3.out.cell (i := 0) rfl
  have x1 := HP3.out.cell (i := 1) rfl
  have hpw : w.heap.size < X.heap.size := by omega
  have hw1X : w1.heap.size < X.heap.size := by omega
  clear p0 p1 p2 p3 p4 t1 tf hp1x hz3
  go_region_held3 (fun w' => Below X.heap.size X w' ∧ w'.cell? ⟨w.heap.size, 0, none⟩ = some (.int .i64 0) ∧ w'.cell? ⟨w.heap.size, 1, none⟩ = some (.slice (some ⟨g, off, none⟩) 4 c) ∧ w'.cell? ⟨w.heap.size, 1, none⟩ = some (.slice (some ⟨g, off, none⟩) 4 c))
    (first | (with_reducible assumption) | (with_reducible refine keepC hB2 hpw hpw hpw ?_; assumption) | (with_reducible refine keepS ?_ hpw hpw hpw ?_ <;> first | omega | assumption) | (with_reducible refine keepB hB2 x0 x1 x1 hpw hpw hpw) | (with_reducible refine keepA hpw hpw hpw ?_; assumption) | (with_reducible refine keepAD x0 x1 x1 hpw hpw hpw) | exact keepD x0 x1 x1)
    (first | (go_at_call 36; refine (copied_to (some ⟨g, off, none⟩) c (xs.take 2) _ 2 (by rw [List.length_take]; omega) (by omega) ((HRX.out.below (by first | exact (Below.refl _ _).drew | exact ((Below.refl _ _).drew).alloc (Nat.le_refl _) _) (Nat.le_refl _)).take 2)).mono ?_; rintro e w2 ⟨A3, c3, rfl, hB2⟩; (try (have Y2 : Blk w2 X.heap.size 25 [.int .i64 0, .slice none 0 0, .string ⟨#[]⟩, .bool false, .int .u64 0] := zero_page hB2; have y0 := Y2.cell (i := 0) rfl; have y1 := Y2.cell (i := 1) rfl; have y2 := Y2.cell (i := 2) rfl; have y3 := Y2.cell (i := 3) rfl; have y4 := Y2.cell (i := 4) rfl; have z0 := Y2.frozen 0; have z1 := Y2.frozen 1; have z2 := Y2.frozen 2; have z3 := Y2.frozen 3; have z4 := Y2.frozen 4))))
  · have hD : Below X.heap.size X w2 := ⟨hB2.os, hB2.tape, hB2.output, hB2.size, hB2.block⟩
    have hsz := hD.size
    have hTL := Blk.new w2 [.int .i64 0, .slice A3 2 c3, .string s, .bool false, .int .u64 (right : Int)] 25
    have hTT := (HT3.out.below hD (by omega)).alloc (.cells #[.int .i64 0, .slice A3 2 c3, .string s, .bool false, .int .u64 (right : Int)] 25)
    have hL := (HL3.out.below hD (by omega)).alloc (.cells #[.int .i64 0, .slice A3 2 c3, .string s, .bool false, .int .u64 (right : Int)] 25)
    have hQ := (HQ3.out.below hD (by omega)).alloc (.cells #[.int .i64 0, .slice A3 2 c3, .string s, .bool false, .int .u64 (right : Int)] 25)
    have hBF := (HB3.out.trans (hD.mono (by omega))).alloc (o := .cells #[.int .i64 0, .slice A3 2 c3, .string s, .bool false, .int .u64 (right : Int)] 25) (by omega)
    clear hD
    generalize hlb : w2.heap.size = lb at *
    have HTL := Lib.hid hTL
    have HTT := Lib.hid hTT
    have HL := Lib.hid hL
    have HQ := Lib.hid hQ
    have HBF := Lib.hid hBF
    clear hTL hTT hL hQ hBF hB2
    generalize w2.alloc (.cells #[.int .i64 0, .slice A3 2 c3, .string s, .bool false, .int .u64 (right : Int)] 25) = F at *
    have hn4 : lb ≠ w.heap.size + 1 := by omega
    have hn5 : lb ≠ w.heap.size + 1 + 1 := by omega
    have hn6 : w1.heap.size ≠ w.heap.size + 1 := by omega
    have hn7 : w1.heap.size ≠ w.heap.size + 1 + 1 := by omega
    go_wp2_with fail
    have hL : Blk F.drew (w.heap.size + 1) 25 [.int .i64 0, .slice none 0 0, .string ⟨#[]⟩, .bool false, .int .u64 0] := HL.out
    have hQ : Blk F.drew (w.heap.size + 1 + 1) 25 [.int .i64 0, .slice none 0 0, .string ⟨#[]⟩, .bool false, .int .u64 0] := HQ.out
    have hTL : Blk F.drew lb 25 [.int .i64 0, .slice A3 2 c3, .string s, .bool false, .int .u64 (right : Int)] := HTL.out
    have hTT : Blk F.drew w1.heap.size 25 [.int .i64 0, .slice A2 2 c2, .string hi, .bool la, .int .u64 (rt : Int)] := HTT.out
    have hBF : Below w.heap.size w F.drew := HBF.out.drew
    have HBF := Lib.hid hBF
    have HH := Lib.hid (And.intro hTL hTT)
    clear HTL HTT HL HQ hTL hTT hBF
    refine wp_region_held_drew (S := (fun w' => Blk w' lb 25 [.int .i64 0, .slice A3 2 c3, .string s, .bool false, .int .u64 (right : Int)] ∧ Blk w' w1.heap.size 25 [.int .i64 0, .slice A2 2 c2, .string hi, .bool la, .int .u64 (rt : Int)])) (by kernel_rfl) ?_ (fun hHeld => ?_)
    · exact HH.out
    clear HH
    generalize F.drew = G at *
    have e0 := hL.cell (i := 0) rfl
    have e1 := hL.cell (i := 1) rfl
    have e2 := hL.cell (i := 2) rfl
    have e3 := hL.cell (i := 3) rfl
    have e4 := hL.cell (i := 4) rfl
    have ef0 := hL.frozen 0
    have ef1 := hL.frozen 1
    have ef2 := hL.frozen 2
    have ef3 := hL.frozen 3
    have ef4 := hL.frozen 4
    have f0 := hQ.cell (i := 0) rfl
    have f1 := hQ.cell (i := 1) rfl
    have f2 := hQ.cell (i := 2) rfl
    have f3 := hQ.cell (i := 3) rfl
    have f4 := hQ.cell (i := 4) rfl
    have ff0 := hQ.frozen 0
    have ff1 := hQ.frozen 1
    have ff2 := hQ.frozen 2
    have ff3 := hQ.frozen 3
    have ff4 := hQ.frozen 4
    clear hL hQ
    refine wpAnyH_take (i := 0) (oi := ⟨some 44, _, _, _, _, _⟩) (v := ?_) rfl (by kernel_rfl) (by kernel_rfl) (by kernel_rfl) (fun _ _ _ h => h) (Or.inl ⟨by rfl, ?_⟩) hHeld ?_
    rotate_left
    · (intro wq hSw; have q0 := hSw.1.cell (i := 0) rfl; have q1 := hSw.1.cell (i := 1) rfl; have q2 := hSw.1.cell (i := 2) rfl; have q3 := hSw.1.cell (i := 3) rfl; have q4 := hSw.1.cell (i := 4) rfl; go_simp; try with_reducible rfl)
    try simp only [Act.put, List.setIfInBounds_toArray, List.set_cons_zero, List.set_cons_succ]
    refine wpAnyH_take (i := 1) (oi := ⟨some 45, _, _, _, _, _⟩) (v := ?_) rfl (by kernel_rfl) (by kernel_rfl) (by kernel_rfl) (fun _ _ _ h => h) (Or.inl ⟨by rfl, ?_⟩) hHeld ?_
    rotate_left
    · (intro wq hSw; have q0 := hSw.2.cell (i := 0) rfl; have q1 := hSw.2.cell (i := 1) rfl; have q2 := hSw.2.cell (i := 2) rfl; have q3 := hSw.2.cell (i := 3) rfl; have q4 := hSw.2.cell (i := 4) rfl; go_simp; try with_reducible rfl)
    try simp only [Act.put, List.setIfInBounds_toArray, List.set_cons_zero, List.set_cons_succ]
    refine wpAnyH_take (i := 2) (oi := ⟨some 46, _, _, _, _, _⟩) (v := ?_) rfl (by kernel_rfl) (by kernel_rfl) (by kernel_rfl) (fun _ _ _ h => h) (Or.inl ⟨by rfl, ?_⟩) hHeld ?_
    rotate_left
    · (intro wq hSw; go_simp; try with_reducible rfl)
    try simp only [Act.put, List.setIfInBounds_toArray, List.set_cons_zero, List.set_cons_succ]
    refine wpAnyH_ready (rs := [3]) (by kernel_rfl) (by simp) ?_
    refine AllReadyH.cons (o := ⟨none, _, _, _, _, _⟩) rfl (fun KK hK => ?_) AllReadyH.nil
    go_simp
    refine hK.out _ _ ?_ (fun hHeld2 => ?_)
    · exact ⟨(((((hHeld.1.other (a := ⟨w.heap.size + 1, 0, none⟩) hn4 (.int .i64 0)).other (a := ⟨w.heap.size + 1, 1, none⟩) hn4 (.slice A3 2 c3)).other (a := ⟨w.heap.size + 1, 2, none⟩) hn4 (.string s)).other (a := ⟨w.heap.size + 1, 3, none⟩) hn4 (.bool false)).other (a := ⟨w.heap.size + 1, 4, none⟩) hn4 (.int .u64 (right : Int))), (((((hHeld.2.other (a := ⟨w.heap.size + 1, 0, none⟩) hn6 (.int .i64 0)).other (a := ⟨w.heap.size + 1, 1, none⟩) hn6 (.slice A3 2 c3)).other (a := ⟨w.heap.size + 1, 2, none⟩) hn6 (.string s)).other (a := ⟨w.heap.size + 1, 3, none⟩) hn6 (.bool false)).other (a := ⟨w.heap.size + 1, 4, none⟩) hn6 (.int .u64 (right : Int)))⟩
    clear hK KK hHeld
    have hHeld := hHeld2
    clear hHeld2
    try simp only [Act.put, List.setIfInBounds_toArray, List.set_cons_zero, List.set_cons_succ]
    refine wpAnyH_ready (rs := [4]) (by kernel_rfl) (by simp) ?_
    refine AllReadyH.cons (o := ⟨none, _, _, _, _, _⟩) rfl (fun KK hK => ?_) AllReadyH.nil
    go_simp
    refine hK.out _ _ ?_ (fun hHeld2 => ?_)
    · exact ⟨(((((hHeld.1.other (a := ⟨w.heap.size + 1 + 1, 0, none⟩) hn5 (.int .i64 0)).other (a := ⟨w.heap.size + 1 + 1, 1, none⟩) hn5 (.slice A2 2 c2)).other (a := ⟨w.heap.size + 1 + 1, 2, none⟩) hn5 (.string hi)).other (a := ⟨w.heap.size + 1 + 1, 3, none⟩) hn5 (.bool la)).other (a := ⟨w.heap.size + 1 + 1, 4, none⟩) hn5 (.int .u64 (rt : Int))), (((((hHeld.2.other (a := ⟨w.heap.size + 1 + 1, 0, none⟩) hn7 (.int .i64 0)).other (a := ⟨w.heap.size + 1 + 1, 1, none⟩) hn7 (.slice A2 2 c2)).other (a := ⟨w.heap.size + 1 + 1, 2, none⟩) hn7 (.string hi)).other (a := ⟨w.heap.size + 1 + 1, 3, none⟩) hn7 (.bool la)).other (a := ⟨w.heap.size + 1 + 1, 4, none⟩) hn7 (.int .u64 (rt : Int)))⟩
    clear hK KK hHeld
    have hHeld := hHeld2
    clear hHeld2
    try simp only [Act.put, List.setIfInBounds_toArray, List.set_cons_zero, List.set_cons_succ]
    refine wpAnyH_take (i := 5) (oi := ⟨some 6, _, _, _, _, _⟩) (v := ?_) rfl (by kernel_rfl) (by kernel_rfl) (by kernel_rfl) (fun _ _ _ h => h) (Or.inl ⟨by rfl, ?_⟩) hHeld ?_
    rotate_left
    · (intro wq hSw; go_simp; try with_reducible rfl)
    try simp only [Act.put, List.setIfInBounds_toArray, List.set_cons_zero, List.set_cons_succ]
    refine wpAnyH_take (i := 6) (oi := ⟨some 7, _, _, _, _, _⟩) (v := ?_) rfl (by kernel_rfl) (by kernel_rfl) (by kernel_rfl) (fun _ _ _ h => h) (Or.inl ⟨by rfl, ?_⟩) hHeld ?_
    rotate_left
    · (intro wq hSw; go_simp; try with_reducible rfl)
    try simp only [Act.put, List.setIfInBounds_toArray, List.set_cons_zero, List.set_cons_succ]
    refine wpAnyH_done (by kernel_rfl) ?_ _
    clear hHeld
    go_wp2
    refine bodyPost_ret (v := .tuple #[.agg #[.int .i64 0, .slice A3 2 c3, .string s, .bool false, .int .u64 (right : Int)], .agg #[.int .i64 0, .slice A2 2 c2, .string hi, .bool la, .int .u64 (rt : Int)], .string s, .bool true]) (by simp [results, Try.results27, go_sem, *]) rfl ?_
    exact ⟨_, _, _, _, rfl, below_res (below_res HBF.out (by omega) _ _ _ _ _) (by omega) _ _ _ _ _⟩
  · have hz5 : (X.alloc (.cells #[.int .i64 0, .slice none 0 0, .string ⟨#[]⟩, .bool false, .int .u64 0] 25)).drew.heap.size = X.heap.size + 1 := nblk_alloc _ _
    have hY : Blk w2 X.heap.size 25 [.int .i64 0, .slice none 0 0, .string ⟨#[]⟩, .bool false, .int .u64 0] := zero_page hB2
    have hD : Below X.heap.size X w2 := ((Below.refl X.heap.size X).alloc (Nat.le_refl _) (.cells #[.int .i64 0, .slice none 0 0, .string ⟨#[]⟩, .bool false, .int .u64 0] 25)).drew.trans (hB2.mono (by omega))
    have hTL : Blk (((((w2.setCell ⟨X.heap.size, 0, none⟩ (.int .i64 0)).setCell ⟨X.heap.size, 1, none⟩ (.slice A3 2 c3)).setCell ⟨X.heap.size, 2, none⟩ (.string s)).setCell ⟨X.heap.size, 3, none⟩ (.bool false)).setCell ⟨X.heap.size, 4, none⟩ (.int .u64 (right : Int))) X.heap.size 25 [.int .i64 0, .slice A3 2 c3, .string s, .bool false, .int .u64 (right : Int)] := (((((hY.set 0 (.int .i64 0)).set 1 (.slice A3 2 c3)).set 2 (.string s)).set 3 (.bool false)).set 4 (.int .u64 (right : Int)))
    have hT2 := HT3.out.below hD (by omega)
    have hL2 := HL3.out.below hD (by omega)
    have hQ2 := HQ3.out.below hD (by omega)
    have hn1 : w1.heap.size ≠ X.heap.size := by omega
    have hn2 : w.heap.size + 1 ≠ X.heap.size := by omega
    have hn3 : w.heap.size + 2 ≠ X.heap.size := by omega
    have hTT := (((((hT2.other (a := ⟨X.heap.size, 0, none⟩) hn1 (.int .i64 0)).other (a := ⟨X.heap.size, 1, none⟩) hn1 (.slice A3 2 c3)).other (a := ⟨X.heap.size, 2, none⟩) hn1 (.string s)).other (a := ⟨X.heap.size, 3, none⟩) hn1 (.bool false)).other (a := ⟨X.heap.size, 4, none⟩) hn1 (.int .u64 (right : Int)))
    have hL := (((((hL2.other (a := ⟨X.heap.size, 0, none⟩) hn2 (.int .i64 0)).other (a := ⟨X.heap.size, 1, none⟩) hn2 (.slice A3 2 c3)).other (a := ⟨X.heap.size, 2, none⟩) hn2 (.string s)).other (a := ⟨X.heap.size, 3, none⟩) hn2 (.bool false)).other (a := ⟨X.heap.size, 4, none⟩) hn2 (.int .u64 (right : Int)))
    have hQ := (((((hQ2.other (a := ⟨X.heap.size, 0, none⟩) hn3 (.int .i64 0)).other (a := ⟨X.heap.size, 1, none⟩) hn3 (.slice A3 2 c3)).other (a := ⟨X.heap.size, 2, none⟩) hn3 (.string s)).other (a := ⟨X.heap.size, 3, none⟩) hn3 (.bool false)).other (a := ⟨X.heap.size, 4, none⟩) hn3 (.int .u64 (right : Int)))
    have hBF := below_res (HB3.out.trans (hD.mono (by omega))) (show w.heap.size ≤ X.heap.size by omega) (.int .i64 0) (.slice A3 2 c3) (.string s) (.bool false) (.int .u64 (right : Int))
    clear hD hY hT2 hL2 hQ2 hz5
    clear hn1 hn2 hn3
    have HTL := Lib.hid hTL
    have HTT := Lib.hid hTT
    have HL := Lib.hid hL
    have HQ := Lib.hid hQ
    have HBF := Lib.hid hBF
    clear hTL hTT hL hQ hBF hB2
    generalize (((((w2.setCell ⟨X.heap.size, 0, none⟩ (.int .i64 0)).setCell ⟨X.heap.size, 1, none⟩ (.slice A3 2 c3)).setCell ⟨X.heap.size, 2, none⟩ (.string s)).setCell ⟨X.heap.size, 3, none⟩ (.bool false)).setCell ⟨X.heap.size, 4, none⟩ (.int .u64 (right : Int))) = F at *
    have hn4 : X.heap.size ≠ w.heap.size + 1 := by omega
    have hn5 : X.heap.size ≠ w.heap.size + 1 + 1 := by omega
    have hn6 : w1.heap.size ≠ w.heap.size + 1 := by omega
    have hn7 : w1.heap.size ≠ w.heap.size + 1 + 1 := by omega
    go_wp2_with fail
    have hL : Blk F.drew (w.heap.size + 1) 25 [.int .i64 0, .slice none 0 0, .string ⟨#[]⟩, .bool false, .int .u64 0] := HL.out
    have hQ : Blk F.drew (w.heap.size + 1 + 1) 25 [.int .i64 0, .slice none 0 0, .string ⟨#[]⟩, .bool false, .int .u64 0] := HQ.out
    have hTL : Blk F.drew X.heap.size 25 [.int .i64 0, .slice A3 2 c3, .string s, .bool false, .int .u64 (right : Int)] := HTL.out
    have hTT : Blk F.drew w1.heap.size 25 [.int .i64 0, .slice A2 2 c2, .string hi, .bool la, .int .u64 (rt : Int)] := HTT.out
    have hBF : Below w.heap.size w F.drew := HBF.out.drew
    have HBF := Lib.hid hBF
    have HH := Lib.hid (And.intro hTL hTT)
    clear HTL HTT HL HQ hTL hTT hBF
    refine wp_region_held_drew (S := (fun w' => Blk w' X.heap.size 25 [.int .i64 0, .slice A3 2 c3, .string s, .bool false, .int .u64 (right : Int)] ∧ Blk w' w1.heap.size 25 [.int .i64 0, .slice A2 2 c2, .string hi, .bool la, .int .u64 (rt : Int)])) (by kernel_rfl) ?_ (fun hHeld => ?_)
    · exact HH.out
    clear HH
    generalize F.drew = G at *
    have e0 := hL.cell (i := 0) rfl
    have e1 := hL.cell (i := 1) rfl
    have e2 := hL.cell (i := 2) rfl
    have e3 := hL.cell (i := 3) rfl
    have e4 := hL.cell (i := 4) rfl
    have ef0 := hL.frozen 0
    have ef1 := hL.frozen 1
    have ef2 := hL.frozen 2
    have ef3 := hL.frozen 3
    have ef4 := hL.frozen 4
    have f0 := hQ.cell (i := 0) rfl
    have f1 := hQ.cell (i := 1) rfl
    have f2 := hQ.cell (i := 2) rfl
    have f3 := hQ.cell (i := 3) rfl
    have f4 := hQ.cell (i := 4) rfl
    have ff0 := hQ.frozen 0
    have ff1 := hQ.frozen 1
    have ff2 := hQ.frozen 2
    have ff3 := hQ.frozen 3
    have ff4 := hQ.frozen 4
    clear hL hQ
    refine wpAnyH_take (i := 0) (oi := ⟨some 44, _, _, _, _, _⟩) (v := ?_) rfl (by kernel_rfl) (by kernel_rfl) (by kernel_rfl) (fun _ _ _ h => h) (Or.inl ⟨by rfl, ?_⟩) hHeld ?_
    rotate_left
    · (intro wq hSw; have q0 := hSw.1.cell (i := 0) rfl; have q1 := hSw.1.cell (i := 1) rfl; have q2 := hSw.1.cell (i := 2) rfl; have q3 := hSw.1.cell (i := 3) rfl; have q4 := hSw.1.cell (i := 4) rfl; go_simp; try with_reducible rfl)
    try simp only [Act.put, List.setIfInBounds_toArray, List.set_cons_zero, List.set_cons_succ]
    refine wpAnyH_take (i := 1) (oi := ⟨some 45, _, _, _, _, _⟩) (v := ?_) rfl (by kernel_rfl) (by kernel_rfl) (by kernel_rfl) (fun _ _ _ h => h) (Or.inl ⟨by rfl, ?_⟩) hHeld ?_
    rotate_left
    · (intro wq hSw; have q0 := hSw.2.cell (i := 0) rfl; have q1 := hSw.2.cell (i := 1) rfl; have q2 := hSw.2.cell (i := 2) rfl; have q3 := hSw.2.cell (i := 3) rfl; have q4 := hSw.2.cell (i := 4) rfl; go_simp; try with_reducible rfl)
    try simp only [Act.put, List.setIfInBounds_toArray, List.set_cons_zero, List.set_cons_succ]
    refine wpAnyH_take (i := 2) (oi := ⟨some 46, _, _, _, _, _⟩) (v := ?_) rfl (by kernel_rfl) (by kernel_rfl) (by kernel_rfl) (fun _ _ _ h => h) (Or.inl ⟨by rfl, ?_⟩) hHeld ?_
    rotate_left
    · (intro wq hSw; go_simp; try with_reducible rfl)
    try simp only [Act.put, List.setIfInBounds_toArray, List.set_cons_zero, List.set_cons_succ]
    refine wpAnyH_ready (rs := [3]) (by kernel_rfl) (by simp) ?_
    refine AllReadyH.cons (o := ⟨none, _, _, _, _, _⟩) rfl (fun KK hK => ?_) AllReadyH.nil
    go_simp
    refine hK.out _ _ ?_ (fun hHeld2 => ?_)
    · exact ⟨(((((hHeld.1.other (a := ⟨w.heap.size + 1, 0, none⟩) hn4 (.int .i64 0)).other (a := ⟨w.heap.size + 1, 1, none⟩) hn4 (.slice A3 2 c3)).other (a := ⟨w.heap.size + 1, 2, none⟩) hn4 (.string s)).other (a := ⟨w.heap.size + 1, 3, none⟩) hn4 (.bool false)).other (a := ⟨w.heap.size + 1, 4, none⟩) hn4 (.int .u64 (right : Int))), (((((hHeld.2.other (a := ⟨w.heap.size + 1, 0, none⟩) hn6 (.int .i64 0)).other (a := ⟨w.heap.size + 1, 1, none⟩) hn6 (.slice A3 2 c3)).other (a := ⟨w.heap.size + 1, 2, none⟩) hn6 (.string s)).other (a := ⟨w.heap.size + 1, 3, none⟩) hn6 (.bool false)).other (a := ⟨w.heap.size + 1, 4, none⟩) hn6 (.int .u64 (right : Int)))⟩
    clear hK KK hHeld
    have hHeld := hHeld2
    clear hHeld2
    try simp only [Act.put, List.setIfInBounds_toArray, List.set_cons_zero, List.set_cons_succ]
    refine wpAnyH_ready (rs := [4]) (by kernel_rfl) (by simp) ?_
    refine AllReadyH.cons (o := ⟨none, _, _, _, _, _⟩) rfl (fun KK hK => ?_) AllReadyH.nil
    go_simp
    refine hK.out _ _ ?_ (fun hHeld2 => ?_)
    · exact ⟨(((((hHeld.1.other (a := ⟨w.heap.size + 1 + 1, 0, none⟩) hn5 (.int .i64 0)).other (a := ⟨w.heap.size + 1 + 1, 1, none⟩) hn5 (.slice A2 2 c2)).other (a := ⟨w.heap.size + 1 + 1, 2, none⟩) hn5 (.string hi)).other (a := ⟨w.heap.size + 1 + 1, 3, none⟩) hn5 (.bool la)).other (a := ⟨w.heap.size + 1 + 1, 4, none⟩) hn5 (.int .u64 (rt : Int))), (((((hHeld.2.other (a := ⟨w.heap.size + 1 + 1, 0, none⟩) hn7 (.int .i64 0)).other (a := ⟨w.heap.size + 1 + 1, 1, none⟩) hn7 (.slice A2 2 c2)).other (a := ⟨w.heap.size + 1 + 1, 2, none⟩) hn7 (.string hi)).other (a := ⟨w.heap.size + 1 + 1, 3, none⟩) hn7 (.bool la)).other (a := ⟨w.heap.size + 1 + 1, 4, none⟩) hn7 (.int .u64 (rt : Int)))⟩
    clear hK KK hHeld
    have hHeld := hHeld2
    clear hHeld2
    try simp only [Act.put, List.setIfInBounds_toArray, List.set_cons_zero, List.set_cons_succ]
    refine wpAnyH_take (i := 5) (oi := ⟨some 6, _, _, _, _, _⟩) (v := ?_) rfl (by kernel_rfl) (by kernel_rfl) (by kernel_rfl) (fun _ _ _ h => h) (Or.inl ⟨by rfl, ?_⟩) hHeld ?_
    rotate_left
    · (intro wq hSw; go_simp; try with_reducible rfl)
    try simp only [Act.put, List.setIfInBounds_toArray, List.set_cons_zero, List.set_cons_succ]
    refine wpAnyH_take (i := 6) (oi := ⟨some 7, _, _, _, _, _⟩) (v := ?_) rfl (by kernel_rfl) (by kernel_rfl) (by kernel_rfl) (fun _ _ _ h => h) (Or.inl ⟨by rfl, ?_⟩) hHeld ?_
    rotate_left
    · (intro wq hSw; go_simp; try with_reducible rfl)
    try simp only [Act.put, List.setIfInBounds_toArray, List.set_cons_zero, List.set_cons_succ]
    refine wpAnyH_done (by kernel_rfl) ?_ _
    clear hHeld
    go_wp2
    refine bodyPost_ret (v := .tuple #[.agg #[.int .i64 0, .slice A3 2 c3, .string s, .bool false, .int .u64 (right : Int)], .agg #[.int .i64 0, .slice A2 2 c2, .string hi, .bool la, .int .u64 (rt : Int)], .string s, .bool true]) (by simp [results, Try.results27, go_sem, *]) rfl ?_
    exact ⟨_, _, _, _, rfl, below_res (below_res HBF.out (by omega) _ _ _ _ _) (by omega) _ _ _ _ _⟩

end Go.Proofs.Ytegbdpelnmaijaa
