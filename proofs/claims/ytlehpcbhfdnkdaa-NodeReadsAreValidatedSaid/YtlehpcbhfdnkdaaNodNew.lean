/-
  NewFresh and NewWrite. Condition: a layout within its limits; at most 1000 slots.
-/
import Derived.Test.YtlehpcbhfdnkdaaNodPst
import Derived.Test.YtlehpcbhfdnkdaaAppAny
namespace Go.Proofs.Ytlehpcbhfdnkdaa
open Go.RowKit Go.Deep Plain
set_option linter.unusedVariables false

theorem _root_.Go.RowKit.Below.kept0 {w w' : World} (h : Below w.heap.size w w') : Kept (fun _ => False) w w' := ⟨h.os, h.tape, h.output, h.size, fun i hi _ => h.block i hi⟩

set_option maxRecDepth 100000 in
set_option maxHeartbeats 4000000 in
theorem newFresh_any (T S N C R : Int) (F : Nat) (K fa fb fd : Int) (hl : Lim T S N C R (F : Int)) (hd : Reach3 fa fb fd) (nid : Nat) (lv : Nat) (A : Option Addr) (c : Nat) (hi : ByteArray) (la : Bool) (rt : Nat) (xs : List Sl) (w : World) (n : Nat) (hn : xs.length = n) (h40 : n ≤ 1000) (hlv : lv < 9223372036854775808) (hR : Rs w A c xs) :
    Calls Try.prog 12 #[.agg #[.int .i64 T, .int .i64 S, .int .i64 N, .int .i64 C, .int .i64 R, .int .i64 (F : Int), .int .u64 K, .int .i64 fa, .int .i64 fb, .int .i64 fd], .int .u64 (nid : Int), .agg #[.int .i64 (lv : Int), .slice A n c, .string hi, .bool la, .int .u64 (rt : Int)]] w fun e w' => ∃ (q : Nat) (Z : Nat → Prop), e = .returned (.pointer (some ⟨q, 0, none⟩)) ∧ Stm Z w' q 84 ((pst (adr N F fa nid) (⟨lv, hi, la, rt, xs⟩ : Pg)) ++ [(nodeAt N (F : Int) fa (nid : Int) 0, ((1 : Int), (⟨#[]⟩ : ByteArray), (0 : Int)))]) 0 nid 1 (⟨lv, hi, la, rt, xs⟩ : Pg) ∧ (∀ i, Z i → w.heap.size ≤ i) ∧ Kept (fun _ => False) w w' := by
  obtain ⟨P0, S0, B0, Z0⟩ := box_two w [.int .i64 T, .int .i64 S, .int .i64 N, .int .i64 C, .int .i64 R, .int .i64 (F : Int), .int .u64 K, .int .i64 fa, .int .i64 fb, .int .i64 fd] [.int .i64 (lv : Int), .slice A n c, .string hi, .bool la, .int .u64 (rt : Int)] 30 25
  obtain ⟨lat, hlat⟩ : ∃ x, nodeAt N (F : Int) fa (nid : Int) 0 = x := ⟨_, rfl⟩
  rw [hlat]
  have HLAT := Lib.hid hlat
  have HRW := Lib.hid hR
  have HP := Lib.hid P0
  have HS := Lib.hid S0
  have HB := Lib.hid B0
  have HZ := Lib.hid Z0
  clear P0 S0 B0 Z0 hR hlat
  obtain ⟨i0, hi0, hz0, hz1, hz2⟩ := info_parts Try.info79
  have HI0 := Lib.hid hi0
  have HI1 := Lib.hid hz0
  have HI2 := Lib.hid hz1
  have HI3 := Lib.hid hz2
  clear hi0 hz0 hz1 hz2
  go_enter Try.func12, Try.ntmps12
  go_upto_region 1 with fail
  generalize (w.alloc (.cells #[.int .i64 T, .int .i64 S, .int .i64 N, .int .i64 C, .int .i64 R, .int .i64 (F : Int), .int .u64 K, .int .i64 fa, .int .i64 fb, .int .i64 fd] 30)).alloc (.cells #[.int .i64 (lv : Int), .slice A n c, .string hi, .bool la, .int .u64 (rt : Int)] 25) = W at *
  generalize hb1 : w.heap.size + 1 = b1 at *
  have HB1 := Lib.hid hb1
  clear hb1
  have hWs := HZ.out
  have HWS := Lib.hid hWs
  clear hWs
  go_cut [7] (fun p wx => ∃ (bh : Nat) (A2 : Option Addr) (c2 : Nat), p = .pointer (some ⟨bh, 0, none⟩) ∧ W.heap.size ≤ bh ∧ Blk wx bh 48 [.int .u64 (nid : Int), .int .u64 (1 : Int), .int .i64 (lv : Int), .slice A2 n c2, .string hi, .bool la, .int .u64 (rt : Int)] ∧ Rs wx A2 c2 xs ∧ (∀ a, A2 = some a → W.heap.size ≤ a.block ∧ a.block ≠ bh ∧ a.block < wx.heap.size) ∧ Kept (fun _ => False) W wx)
  case first =>
    refine wp_region_held_drew (S := (fun w' => Blk w' b1 25 [.int .i64 (lv : Int), .slice A n c, .string hi, .bool la, .int .u64 (rt : Int)])) (by kernel_rfl) ?_ (fun hHeld => ?_)
    · exact HS.out.of rfl
    have HBC := Lib.hid ((Below.refl W.heap.size W).drew)
    have LTS := Lib.hid HS.out.lt
    have HWS2 := Lib.hid (show w.heap.size ≤ W.heap.size from HB.out.size)
    generalize W.drew = G at *
    refine wpAnyH_take (i := 0) (oi := ⟨some 8, _, _, _, _, _⟩) (v := ?_) rfl (by kernel_rfl) (by kernel_rfl) (by kernel_rfl) (fun _ _ _ h => h) (Or.inl ⟨by rfl, ?_⟩) hHeld ?_
    rotate_left
    · (intro wq hSw; go_simp; try with_reducible rfl)
    try simp only [Act.put, List.setIfInBounds_toArray, List.set_cons_zero, List.set_cons_succ]
    refine wpAnyH_take (i := 2) (oi := ⟨some 10, _, _, _, _, _⟩) (v := ?_) rfl (by kernel_rfl) (by kernel_rfl) (by kernel_rfl) (fun _ _ _ h => h) (Or.inl ⟨by rfl, ?_⟩) hHeld ?_
    rotate_left
    · (intro wq hSw; have y0 := hSw.cell (i := 0) rfl; have y1 := hSw.cell (i := 1) rfl; have y2 := hSw.cell (i := 2) rfl; have y3 := hSw.cell (i := 3) rfl; have y4 := hSw.cell (i := 4) rfl; go_simp; try with_reducible rfl)
    try simp only [Act.put, List.setIfInBounds_toArray, List.set_cons_zero, List.set_cons_succ]
    refine wpAnyH_ready (rs := [1, 5]) (by kernel_rfl) (by simp) ?_
    refine AllReadyH.cons (o := ⟨some 9, _, _, _, _, _⟩) rfl (fun KK hK => ?_) (AllReadyH.cons (o := ⟨some 7, _, _, _, _, _⟩) rfl (fun KK hK => ?_) AllReadyH.nil)
    · go_simp
      go_at_call 18
      refine (lock_of 0 1 (by omega) (by rfl) _).mono ?_; rintro e w8 ⟨rfl, rfl⟩
      refine hK.out _ _ ?_ (fun hHeld2 => ?_)
      · exact HS.out.below HBC.out LTS.out
      clear hK KK hHeld
      have hHeld := hHeld2
      clear hHeld2
      try simp only [Act.put, List.setIfInBounds_toArray, List.set_cons_zero, List.set_cons_succ]
      refine wpAnyH_ready (rs := [3, 5]) (by kernel_rfl) (by simp) ?_
      refine AllReadyH.cons (o := ⟨some 11, _, _, _, _, _⟩) rfl (fun KK hK => ?_) (AllReadyH.cons (o := ⟨some 7, _, _, _, _, _⟩) rfl (fun KK hK => ?_) AllReadyH.nil)
      · go_simp
        go_at_call 40
        refine (copied_any lv A c hi la rt xs _ n hn (by omega) (HRW.out.below (HB.out.trans (HBC.out.mono HWS2.out)) (Nat.le_refl _))).mono ?_; rintro e w9 ⟨A2, c2, rfl, hO9, hB9⟩
        have hsz9 : W.heap.size ≤ G.heap.size := HBC.out.size
        replace HBC := Lib.hid (HBC.out.trans (hB9.mono hsz9))
        obtain ⟨A9, c9, e9, _, hR9, hA9⟩ := Rs.own hO9
        cases e9
        have HL2 := Lib.hid (show ∀ a, A2 = some a → a.block < w9.heap.size from fun a ha => (hO9.lt a.block (by subst ha; rfl)).2)
        have HR2 := Lib.hid hR9
        have HA2 := Lib.hid (show ∀ a, A2 = some a → W.heap.size ≤ a.block from fun a ha => Nat.le_trans hsz9 (hA9 a ha))
        clear hO9 hB9 hsz9 hR9 hA9
        refine hK.out _ _ ?_ (fun hHeld2 => ?_)
        · exact HS.out.below HBC.out LTS.out
        clear hK KK hHeld
        have hHeld := hHeld2
        clear hHeld2
        try simp only [Act.put, List.setIfInBounds_toArray, List.set_cons_zero, List.set_cons_succ]
        refine wpAnyH_take (i := 4) (oi := ⟨some 12, _, _, _, _, _⟩) (v := ?_) rfl (by kernel_rfl) (by kernel_rfl) (by kernel_rfl) (fun _ _ _ h => h) (Or.inl ⟨by rfl, ?_⟩) hHeld ?_
        rotate_left
        · (intro wq hSw; go_simp; try with_reducible rfl)
        try simp only [Act.put, List.setIfInBounds_toArray, List.set_cons_zero, List.set_cons_succ]
        refine wpAnyH_ready (rs := [5]) (by kernel_rfl) (by simp) ?_
        refine AllReadyH.cons (o := ⟨some 7, _, _, _, _, _⟩) rfl (fun KK hK => ?_) AllReadyH.nil
        go_simp
        have HH := Lib.hid (Blk.new w9 [.int .u64 0, .int .u64 0, .int .i64 0, .slice none 0 0, .string ⟨#[]⟩, .bool false, .int .u64 0] 48)
        have HNE := Lib.hid (show ∀ a, A2 = some a → a.block ≠ w9.heap.size from fun a ha e => by have := HL2.out a ha; omega)
        replace HR2 := Lib.hid (HR2.out.keptF ((Kept.refl (fun _ => False) w9).alloc (.cells #[.int .u64 0, .int .u64 0, .int .i64 0, .slice none 0 0, .string ⟨#[]⟩, .bool false, .int .u64 0] 48)) (fun _ _ h => h))
        replace HL2 := Lib.hid (show ∀ a, A2 = some a → a.block < (w9.alloc (.cells #[.int .u64 0, .int .u64 0, .int .i64 0, .slice none 0 0, .string ⟨#[]⟩, .bool false, .int .u64 0] 48)).heap.size from fun a ha => by rw [nblk_alloc]; have := HL2.out a ha; omega)
        have hsz5 : W.heap.size ≤ w9.heap.size := HBC.out.size
        have hbhl : w9.heap.size < (w9.alloc (.cells #[.int .u64 0, .int .u64 0, .int .i64 0, .slice none 0 0, .string ⟨#[]⟩, .bool false, .int .u64 0] 48)).heap.size := by rw [nblk_alloc]; omega
        replace HBC := Lib.hid (HBC.out.alloc hsz5 (.cells #[.int .u64 0, .int .u64 0, .int .i64 0, .slice none 0 0, .string ⟨#[]⟩, .bool false, .int .u64 0] 48))
        generalize w9.alloc (.cells #[.int .u64 0, .int .u64 0, .int .i64 0, .slice none 0 0, .string ⟨#[]⟩, .bool false, .int .u64 0] 48) = Y5 at *
        generalize w9.heap.size = bh at *
        have HBH := Lib.hid (And.intro hsz5 hbhl)
        clear hsz5 hbhl
        refine hK.out _ _ ?_ (fun hHeld2 => ?_)
        · exact HS.out.below HBC.out LTS.out
        clear hK KK hHeld
        have hHeld := hHeld2
        clear hHeld2
        try simp only [Act.put, List.setIfInBounds_toArray, List.set_cons_zero, List.set_cons_succ]
        refine wpAnyH_ready (rs := [6]) (by kernel_rfl) (by simp) ?_
        refine AllReadyH.cons (o := ⟨none, _, _, _, _, _⟩) rfl (fun KK hK => ?_) AllReadyH.nil
        have u0 := HH.out.cell (i := 0) rfl
        have zu0 := HH.out.frozen 0
        have u1 := HH.out.cell (i := 1) rfl
        have zu1 := HH.out.frozen 1
        have u2 := HH.out.cell (i := 2) rfl
        have zu2 := HH.out.frozen 2
        have u3 := HH.out.cell (i := 3) rfl
        have zu3 := HH.out.frozen 3
        have u4 := HH.out.cell (i := 4) rfl
        have zu4 := HH.out.frozen 4
        have u5 := HH.out.cell (i := 5) rfl
        have zu5 := HH.out.frozen 5
        have u6 := HH.out.cell (i := 6) rfl
        have zu6 := HH.out.frozen 6
        go_simp
        clear u0 zu0 u1 zu1 u2 zu2 u3 zu3 u4 zu4 u5 zu5 u6 zu6
        replace HL2 := Lib.hid (fun (a : Addr) (ha : A2 = some a) => Nat.lt_of_lt_of_le (HL2.out a ha) ((((((((Kept.refl (fun i => i = bh) Y5).setCell (a := ⟨bh, 0, none⟩) (fun _ => rfl) (.int .u64 (nid : Int))).setCell (a := ⟨bh, 1, none⟩) (fun _ => rfl) (.int .u64 1)).setCell (a := ⟨bh, 2, none⟩) (fun _ => rfl) (.int .i64 (lv : Int))).setCell (a := ⟨bh, 3, none⟩) (fun _ => rfl) (.slice A2 n c2)).setCell (a := ⟨bh, 4, none⟩) (fun _ => rfl) (.string hi)).setCell (a := ⟨bh, 5, none⟩) (fun _ => rfl) (.bool la)).setCell (a := ⟨bh, 6, none⟩) (fun _ => rfl) (.int .u64 (rt : Int))).size)
        replace HR2 := Lib.hid (HR2.out.keptF ((((((((Kept.refl (fun i => i = bh) Y5).setCell (a := ⟨bh, 0, none⟩) (fun _ => rfl) (.int .u64 (nid : Int))).setCell (a := ⟨bh, 1, none⟩) (fun _ => rfl) (.int .u64 1)).setCell (a := ⟨bh, 2, none⟩) (fun _ => rfl) (.int .i64 (lv : Int))).setCell (a := ⟨bh, 3, none⟩) (fun _ => rfl) (.slice A2 n c2)).setCell (a := ⟨bh, 4, none⟩) (fun _ => rfl) (.string hi)).setCell (a := ⟨bh, 5, none⟩) (fun _ => rfl) (.bool la)).setCell (a := ⟨bh, 6, none⟩) (fun _ => rfl) (.int .u64 (rt : Int))) (fun a ha e => HNE.out a ha e))
        replace HH := Lib.hid (((((((HH.out.set 0 (.int .u64 (nid : Int))).set 1 (.int .u64 1)).set 2 (.int .i64 (lv : Int))).set 3 (.slice A2 n c2)).set 4 (.string hi)).set 5 (.bool la)).set 6 (.int .u64 (rt : Int)))
        replace HBC := Lib.hid (((((((HBC.out.setCell (p := ⟨bh, 0, none⟩) HBH.out.1 (.int .u64 (nid : Int))).setCell (p := ⟨bh, 1, none⟩) HBH.out.1 (.int .u64 1)).setCell (p := ⟨bh, 2, none⟩) HBH.out.1 (.int .i64 (lv : Int))).setCell (p := ⟨bh, 3, none⟩) HBH.out.1 (.slice A2 n c2)).setCell (p := ⟨bh, 4, none⟩) HBH.out.1 (.string hi)).setCell (p := ⟨bh, 5, none⟩) HBH.out.1 (.bool la)).setCell (p := ⟨bh, 6, none⟩) HBH.out.1 (.int .u64 (rt : Int)))
        refine hK.out _ _ ?_ (fun hHeld2 => ?_)
        · exact HS.out.below HBC.out LTS.out
        clear hK KK hHeld
        have hHeld := hHeld2
        clear hHeld2
        try simp only [Act.put, List.setIfInBounds_toArray, List.set_cons_zero, List.set_cons_succ]
        refine wpAnyH_done (by kernel_rfl) ?_ _
        clear hHeld
        go_wp2
        go_meet
        exact ⟨bh, A2, c2, rfl, HBH.out.1, HH.out, HR2.out, fun a ha => ⟨HA2.out a ha, HNE.out a ha, HL2.out a ha⟩, HBC.out.kept0⟩
      · go_simp
        have HH := Lib.hid (Blk.new G [.int .u64 0, .int .u64 0, .int .i64 0, .slice none 0 0, .string ⟨#[]⟩, .bool false, .int .u64 0] 48)
        have hsz5 : W.heap.size ≤ G.heap.size := HBC.out.size
        have hbhl : G.heap.size < (G.alloc (.cells #[.int .u64 0, .int .u64 0, .int .i64 0, .slice none 0 0, .string ⟨#[]⟩, .bool false, .int .u64 0] 48)).heap.size := by rw [nblk_alloc]; omega
        replace HBC := Lib.hid (HBC.out.alloc hsz5 (.cells #[.int .u64 0, .int .u64 0, .int .i64 0, .slice none 0 0, .string ⟨#[]⟩, .bool false, .int .u64 0] 48))
        generalize G.alloc (.cells #[.int .u64 0, .int .u64 0, .int .i64 0, .slice none 0 0, .string ⟨#[]⟩, .bool false, .int .u64 0] 48) = Y5 at *
        generalize G.heap.size = bh at *
        have HBH := Lib.hid (And.intro hsz5 hbhl)
        clear hsz5 hbhl
        refine hK.out _ _ ?_ (fun hHeld2 => ?_)
        · exact HS.out.below HBC.out LTS.out
        clear hK KK hHeld
        have hHeld := hHeld2
        clear hHeld2
        try simp only [Act.put, List.setIfInBounds_toArray, List.set_cons_zero, List.set_cons_succ]
        refine wpAnyH_ready (rs := [3]) (by kernel_rfl) (by simp) ?_
        refine AllReadyH.cons (o := ⟨some 11, _, _, _, _, _⟩) rfl (fun KK hK => ?_) AllReadyH.nil
        go_simp
        go_at_call 40
        refine (copied_any lv A c hi la rt xs _ n hn (by omega) (HRW.out.below (HB.out.trans (HBC.out.mono HWS2.out)) (Nat.le_refl _))).mono ?_; rintro e w9 ⟨A2, c2, rfl, hO9, hB9⟩
        have hsz9 : W.heap.size ≤ Y5.heap.size := HBC.out.size
        replace HBC := Lib.hid (HBC.out.trans (hB9.mono hsz9))
        obtain ⟨A9, c9, e9, _, hR9, hA9⟩ := Rs.own hO9
        cases e9
        have HL2 := Lib.hid (show ∀ a, A2 = some a → a.block < w9.heap.size from fun a ha => (hO9.lt a.block (by subst ha; rfl)).2)
        have HR2 := Lib.hid hR9
        have HA2 := Lib.hid (show ∀ a, A2 = some a → W.heap.size ≤ a.block from fun a ha => Nat.le_trans hsz9 (hA9 a ha))
        replace HH := Lib.hid (HH.out.below hB9 HBH.out.2)
        have HNE := Lib.hid (show ∀ a, A2 = some a → a.block ≠ bh from fun a ha e => by have := hA9 a ha; have := HBH.out.2; omega)
        clear hO9 hB9 hsz9 hR9 hA9
        refine hK.out _ _ ?_ (fun hHeld2 => ?_)
        · exact HS.out.below HBC.out LTS.out
        clear hK KK hHeld
        have hHeld := hHeld2
        clear hHeld2
        try simp only [Act.put, List.setIfInBounds_toArray, List.set_cons_zero, List.set_cons_succ]
        refine wpAnyH_take (i := 4) (oi := ⟨some 12, _, _, _, _, _⟩) (v := ?_) rfl (by kernel_rfl) (by kernel_rfl) (by kernel_rfl) (fun _ _ _ h => h) (Or.inl ⟨by rfl, ?_⟩) hHeld ?_
        rotate_left
        · (intro wq hSw; go_simp; try with_reducible rfl)
        try simp only [Act.put, List.setIfInBounds_toArray, List.set_cons_zero, List.set_cons_succ]
        refine wpAnyH_ready (rs := [6]) (by kernel_rfl) (by simp) ?_
        refine AllReadyH.cons (o := ⟨none, _, _, _, _, _⟩) rfl (fun KK hK => ?_) AllReadyH.nil
        have u0 := HH.out.cell (i := 0) rfl
        have zu0 := HH.out.frozen 0
        have u1 := HH.out.cell (i := 1) rfl
        have zu1 := HH.out.frozen 1
        have u2 := HH.out.cell (i := 2) rfl
        have zu2 := HH.out.frozen 2
        have u3 := HH.out.cell (i := 3) rfl
        have zu3 := HH.out.frozen 3
        have u4 := HH.out.cell (i := 4) rfl
        have zu4 := HH.out.frozen 4
        have u5 := HH.out.cell (i := 5) rfl
        have zu5 := HH.out.frozen 5
        have u6 := HH.out.cell (i := 6) rfl
        have zu6 := HH.out.frozen 6
        go_simp
        clear u0 zu0 u1 zu1 u2 zu2 u3 zu3 u4 zu4 u5 zu5 u6 zu6
        replace HL2 := Lib.hid (fun (a : Addr) (ha : A2 = some a) => Nat.lt_of_lt_of_le (HL2.out a ha) ((((((((Kept.refl (fun i => i = bh) w9).setCell (a := ⟨bh, 0, none⟩) (fun _ => rfl) (.int .u64 (nid : Int))).setCell (a := ⟨bh, 1, none⟩) (fun _ => rfl) (.int .u64 1)).setCell (a := ⟨bh, 2, none⟩) (fun _ => rfl) (.int .i64 (lv : Int))).setCell (a := ⟨bh, 3, none⟩) (fun _ => rfl) (.slice A2 n c2)).setCell (a := ⟨bh, 4, none⟩) (fun _ => rfl) (.string hi)).setCell (a := ⟨bh, 5, none⟩) (fun _ => rfl) (.bool la)).setCell (a := ⟨bh, 6, none⟩) (fun _ => rfl) (.int .u64 (rt : Int))).size)
        replace HR2 := Lib.hid (HR2.out.keptF ((((((((Kept.refl (fun i => i = bh) w9).setCell (a := ⟨bh, 0, none⟩) (fun _ => rfl) (.int .u64 (nid : Int))).setCell (a := ⟨bh, 1, none⟩) (fun _ => rfl) (.int .u64 1)).setCell (a := ⟨bh, 2, none⟩) (fun _ => rfl) (.int .i64 (lv : Int))).setCell (a := ⟨bh, 3, none⟩) (fun _ => rfl) (.slice A2 n c2)).setCell (a := ⟨bh, 4, none⟩) (fun _ => rfl) (.string hi)).setCell (a := ⟨bh, 5, none⟩) (fun _ => rfl) (.bool la)).setCell (a := ⟨bh, 6, none⟩) (fun _ => rfl) (.int .u64 (rt : Int))) (fun a ha e => HNE.out a ha e))
        replace HH := Lib.hid (((((((HH.out.set 0 (.int .u64 (nid : Int))).set 1 (.int .u64 1)).set 2 (.int .i64 (lv : Int))).set 3 (.slice A2 n c2)).set 4 (.string hi)).set 5 (.bool la)).set 6 (.int .u64 (rt : Int)))
        replace HBC := Lib.hid (((((((HBC.out.setCell (p := ⟨bh, 0, none⟩) HBH.out.1 (.int .u64 (nid : Int))).setCell (p := ⟨bh, 1, none⟩) HBH.out.1 (.int .u64 1)).setCell (p := ⟨bh, 2, none⟩) HBH.out.1 (.int .i64 (lv : Int))).setCell (p := ⟨bh, 3, none⟩) HBH.out.1 (.slice A2 n c2)).setCell (p := ⟨bh, 4, none⟩) HBH.out.1 (.string hi)).setCell (p := ⟨bh, 5, none⟩) HBH.out.1 (.bool la)).setCell (p := ⟨bh, 6, none⟩) HBH.out.1 (.int .u64 (rt : Int)))
        refine hK.out _ _ ?_ (fun hHeld2 => ?_)
        · exact HS.out.below HBC.out LTS.out
        clear hK KK hHeld
        have hHeld := hHeld2
        clear hHeld2
        try simp only [Act.put, List.setIfInBounds_toArray, List.set_cons_zero, List.set_cons_succ]
        refine wpAnyH_done (by kernel_rfl) ?_ _
        clear hHeld
        go_wp2
        go_meet
        exact ⟨bh, A2, c2, rfl, HBH.out.1, HH.out, HR2.out, fun a ha => ⟨HA2.out a ha, HNE.out a ha, HL2.out a ha⟩, HBC.out.kept0⟩
    · go_simp
      have HH := Lib.hid (Blk.new G [.int .u64 0, .int .u64 0, .int .i64 0, .slice none 0 0, .string ⟨#[]⟩, .bool false, .int .u64 0] 48)
      have hsz5 : W.heap.size ≤ G.heap.size := HBC.out.size
      have hbhl : G.heap.size < (G.alloc (.cells #[.int .u64 0, .int .u64 0, .int .i64 0, .slice none 0 0, .string ⟨#[]⟩, .bool false, .int .u64 0] 48)).heap.size := by rw [nblk_alloc]; omega
      replace HBC := Lib.hid (HBC.out.alloc hsz5 (.cells #[.int .u64 0, .int .u64 0, .int .i64 0, .slice none 0 0, .string ⟨#[]⟩, .bool false, .int .u64 0] 48))
      generalize G.alloc (.cells #[.int .u64 0, .int .u64 0, .int .i64 0, .slice none 0 0, .string ⟨#[]⟩, .bool false, .int .u64 0] 48) = Y5 at *
      generalize G.heap.size = bh at *
      have HBH := Lib.hid (And.intro hsz5 hbhl)
      clear hsz5 hbhl
      refine hK.out _ _ ?_ (fun hHeld2 => ?_)
      · exact HS.out.below HBC.out LTS.out
      clear hK KK hHeld
      have hHeld := hHeld2
      clear hHeld2
      try simp only [Act.put, List.setIfInBounds_toArray, List.set_cons_zero, List.set_cons_succ]
      refine wpAnyH_ready (rs := [1]) (by kernel_rfl) (by simp) ?_
      refine AllReadyH.cons (o := ⟨some 9, _, _, _, _, _⟩) rfl (fun KK hK => ?_) AllReadyH.nil
      go_simp
      go_at_call 18
      refine (lock_of 0 1 (by omega) (by rfl) _).mono ?_; rintro e w8 ⟨rfl, rfl⟩
      refine hK.out _ _ ?_ (fun hHeld2 => ?_)
      · exact HS.out.below HBC.out LTS.out
      clear hK KK hHeld
      have hHeld := hHeld2
      clear hHeld2
      try simp only [Act.put, List.setIfInBounds_toArray, List.set_cons_zero, List.set_cons_succ]
      refine wpAnyH_ready (rs := [3]) (by kernel_rfl) (by simp) ?_
      refine AllReadyH.cons (o := ⟨some 11, _, _, _, _, _⟩) rfl (fun KK hK => ?_) AllReadyH.nil
      go_simp
      go_at_call 40
      refine (copied_any lv A c hi la rt xs _ n hn (by omega) (HRW.out.below (HB.out.trans (HBC.out.mono HWS2.out)) (Nat.le_refl _))).mono ?_; rintro e w9 ⟨A2, c2, rfl, hO9, hB9⟩
      have hsz9 : W.heap.size ≤ Y5.heap.size := HBC.out.size
      replace HBC := Lib.hid (HBC.out.trans (hB9.mono hsz9))
      obtain ⟨A9, c9, e9, _, hR9, hA9⟩ := Rs.own hO9
      cases e9
      have HL2 := Lib.hid (show ∀ a, A2 = some a → a.block < w9.heap.size from fun a ha => (hO9.lt a.block (by subst ha; rfl)).2)
      have HR2 := Lib.hid hR9
      have HA2 := Lib.hid (show ∀ a, A2 = some a → W.heap.size ≤ a.block from fun a ha => Nat.le_trans hsz9 (hA9 a ha))
      replace HH := Lib.hid (HH.out.below hB9 HBH.out.2)
      have HNE := Lib.hid (show ∀ a, A2 = some a → a.block ≠ bh from fun a ha e => by have := hA9 a ha; have := HBH.out.2; omega)
      clear hO9 hB9 hsz9 hR9 hA9
      refine hK.out _ _ ?_ (fun hHeld2 => ?_)
      · exact HS.out.below HBC.out LTS.out
      clear hK KK hHeld
      have hHeld := hHeld2
      clear hHeld2
      try simp only [Act.put, List.setIfInBounds_toArray, List.set_cons_zero, List.set_cons_succ]
      refine wpAnyH_take (i := 4) (oi := ⟨some 12, _, _, _, _, _⟩) (v := ?_) rfl (by kernel_rfl) (by kernel_rfl) (by kernel_rfl) (fun _ _ _ h => h) (Or.inl ⟨by rfl, ?_⟩) hHeld ?_
      rotate_left
      · (intro wq hSw; go_simp; try with_reducible rfl)
      try simp only [Act.put, List.setIfInBounds_toArray, List.set_cons_zero, List.set_cons_succ]
      refine wpAnyH_ready (rs := [6]) (by kernel_rfl) (by simp) ?_
      refine AllReadyH.cons (o := ⟨none, _, _, _, _, _⟩) rfl (fun KK hK => ?_) AllReadyH.nil
      have u0 := HH.out.cell (i := 0) rfl
      have zu0 := HH.out.frozen 0
      have u1 := HH.out.cell (i := 1) rfl
      have zu1 := HH.out.frozen 1
      have u2 := HH.out.cell (i := 2) rfl
      have zu2 := HH.out.frozen 2
      have u3 := HH.out.cell (i := 3) rfl
      have zu3 := HH.out.frozen 3
      have u4 := HH.out.cell (i := 4) rfl
      have zu4 := HH.out.frozen 4
      have u5 := HH.out.cell (i := 5) rfl
      have zu5 := HH.out.frozen 5
      have u6 := HH.out.cell (i := 6) rfl
      have zu6 := HH.out.frozen 6
      go_simp
      clear u0 zu0 u1 zu1 u2 zu2 u3 zu3 u4 zu4 u5 zu5 u6 zu6
      replace HL2 := Lib.hid (fun (a : Addr) (ha : A2 = some a) => Nat.lt_of_lt_of_le (HL2.out a ha) ((((((((Kept.refl (fun i => i = bh) w9).setCell (a := ⟨bh, 0, none⟩) (fun _ => rfl) (.int .u64 (nid : Int))).setCell (a := ⟨bh, 1, none⟩) (fun _ => rfl) (.int .u64 1)).setCell (a := ⟨bh, 2, none⟩) (fun _ => rfl) (.int .i64 (lv : Int))).setCell (a := ⟨bh, 3, none⟩) (fun _ => rfl) (.slice A2 n c2)).setCell (a := ⟨bh, 4, none⟩) (fun _ => rfl) (.string hi)).setCell (a := ⟨bh, 5, none⟩) (fun _ => rfl) (.bool la)).setCell (a := ⟨bh, 6, none⟩) (fun _ => rfl) (.int .u64 (rt : Int))).size)
      replace HR2 := Lib.hid (HR2.out.keptF ((((((((Kept.refl (fun i => i = bh) w9).setCell (a := ⟨bh, 0, none⟩) (fun _ => rfl) (.int .u64 (nid : Int))).setCell (a := ⟨bh, 1, none⟩) (fun _ => rfl) (.int .u64 1)).setCell (a := ⟨bh, 2, none⟩) (fun _ => rfl) (.int .i64 (lv : Int))).setCell (a := ⟨bh, 3, none⟩) (fun _ => rfl) (.slice A2 n c2)).setCell (a := ⟨bh, 4, none⟩) (fun _ => rfl) (.string hi)).setCell (a := ⟨bh, 5, none⟩) (fun _ => rfl) (.bool la)).setCell (a := ⟨bh, 6, none⟩) (fun _ => rfl) (.int .u64 (rt : Int))) (fun a ha e => HNE.out a ha e))
      replace HH := Lib.hid (((((((HH.out.set 0 (.int .u64 (nid : Int))).set 1 (.int .u64 1)).set 2 (.int .i64 (lv : Int))).set 3 (.slice A2 n c2)).set 4 (.string hi)).set 5 (.bool la)).set 6 (.int .u64 (rt : Int)))
      replace HBC := Lib.hid (((((((HBC.out.setCell (p := ⟨bh, 0, none⟩) HBH.out.1 (.int .u64 (nid : Int))).setCell (p := ⟨bh, 1, none⟩) HBH.out.1 (.int .u64 1)).setCell (p := ⟨bh, 2, none⟩) HBH.out.1 (.int .i64 (lv : Int))).setCell (p := ⟨bh, 3, none⟩) HBH.out.1 (.slice A2 n c2)).setCell (p := ⟨bh, 4, none⟩) HBH.out.1 (.string hi)).setCell (p := ⟨bh, 5, none⟩) HBH.out.1 (.bool la)).setCell (p := ⟨bh, 6, none⟩) HBH.out.1 (.int .u64 (rt : Int)))
      refine hK.out _ _ ?_ (fun hHeld2 => ?_)
      · exact HS.out.below HBC.out LTS.out
      clear hK KK hHeld
      have hHeld := hHeld2
      clear hHeld2
      try simp only [Act.put, List.setIfInBounds_toArray, List.set_cons_zero, List.set_cons_succ]
      refine wpAnyH_done (by kernel_rfl) ?_ _
      clear hHeld
      go_wp2
      go_meet
      exact ⟨bh, A2, c2, rfl, HBH.out.1, HH.out, HR2.out, fun a ha => ⟨HA2.out a ha, HNE.out a ha, HL2.out a ha⟩, HBC.out.kept0⟩
  case rest =>
    obtain ⟨bh, A2, c2, rfl, hbh, hH, hR2, hA2, hK⟩ := hcut
    rename World => Wc
    have hbW := hK.below (B := W.heap.size) (Nat.le_refl _) (fun _ h => h.elim)
    have HPc := Lib.hid (hK.blk HP.out (fun h => h))
    have HSc := Lib.hid (hK.blk HS.out (fun h => h))
    have HHc := Lib.hid hH
    have HRc := Lib.hid hR2
    have HAc := Lib.hid hA2
    have HLA := Lib.hid (show ∀ a, A2 = some a → a.block < Wc.heap.size from fun a ha => (hA2 a ha).2.2)
    have HBc := Lib.hid (HB.out.trans (hbW.mono HB.out.size))
    have HRA := Lib.hid (HRW.out.below HBc.out (Nat.le_refl _))
    have LB := Lib.hid (show w.heap.size ≤ bh ∧ bh < Wc.heap.size from ⟨Nat.le_trans HB.out.size hbh, hH.lt⟩)
    have LP := Lib.hid (show w.heap.size < Wc.heap.size ∧ b1 < Wc.heap.size from ⟨HPc.out.lt, HSc.out.lt⟩)
    have HWc := Lib.hid (show w.heap.size ≤ Wc.heap.size from HBc.out.size)
    have HWA := Lib.hid (show w.heap.size ≤ W.heap.size from HB.out.size)
    clear hbW hH hR2 hA2 hK HP HS HB hbh
    go_upto_region 2 with fail
    refine wp_region_held_drew (S := (fun w' => Blk w' w.heap.size 30 [.int .i64 T, .int .i64 S, .int .i64 N, .int .i64 C, .int .i64 R, .int .i64 (F : Int), .int .u64 K, .int .i64 fa, .int .i64 fb, .int .i64 fd] ∧ Blk w' b1 25 [.int .i64 (lv : Int), .slice A n c, .string hi, .bool la, .int .u64 (rt : Int)] ∧ Blk w' bh 48 [.int .u64 (nid : Int), .int .u64 (1 : Int), .int .i64 (lv : Int), .slice A2 n c2, .string hi, .bool la, .int .u64 (rt : Int)])) (by kernel_rfl) ?_ (fun hHeld => ?_)
    · exact ⟨HPc.out.of rfl, HSc.out.of rfl, HHc.out.of rfl⟩
    have HBC := Lib.hid ((Below.refl Wc.heap.size Wc).drew)
    generalize Wc.drew = G at *
    refine wpAnyH_take (i := 0) (oi := ⟨some 13, _, _, _, _, _⟩) (v := ?_) rfl (by kernel_rfl) (by kernel_rfl) (by kernel_rfl) (fun _ _ _ h => h) (Or.inl ⟨by rfl, ?_⟩) hHeld ?_
    rotate_left
    · (intro wq hSw; have hb9 := hSw.1; have hc9 := hSw.2.1; have hd9 := hSw.2.2; have x0 := hb9.cell (i := 0) rfl; have x1 := hb9.cell (i := 1) rfl; have x2 := hb9.cell (i := 2) rfl; have x3 := hb9.cell (i := 3) rfl; have x4 := hb9.cell (i := 4) rfl; have x5 := hb9.cell (i := 5) rfl; have x6 := hb9.cell (i := 6) rfl; have x7 := hb9.cell (i := 7) rfl; have x8 := hb9.cell (i := 8) rfl; have x9 := hb9.cell (i := 9) rfl; have y0 := hc9.cell (i := 0) rfl; have y1 := hc9.cell (i := 1) rfl; have y2 := hc9.cell (i := 2) rfl; have y3 := hc9.cell (i := 3) rfl; have y4 := hc9.cell (i := 4) rfl; have v0 := hd9.cell (i := 0) rfl; have v1 := hd9.cell (i := 1) rfl; have v2 := hd9.cell (i := 2) rfl; have v3 := hd9.cell (i := 3) rfl; have v4 := hd9.cell (i := 4) rfl; have v5 := hd9.cell (i := 5) rfl; have v6 := hd9.cell (i := 6) rfl; clear hb9 hc9 hd9; go_simp; try with_reducible rfl)
    try simp only [Act.put, List.setIfInBounds_toArray, List.set_cons_zero, List.set_cons_succ]
    refine wpAnyH_take (i := 1) (oi := ⟨some 14, _, _, _, _, _⟩) (v := ?_) rfl (by kernel_rfl) (by kernel_rfl) (by kernel_rfl) (fun _ _ _ h => h) (Or.inl ⟨by rfl, ?_⟩) hHeld ?_
    rotate_left
    · (intro wq hSw; go_simp; try with_reducible rfl)
    try simp only [Act.put, List.setIfInBounds_toArray, List.set_cons_zero, List.set_cons_succ]
    refine wpAnyH_take (i := 2) (oi := ⟨some 15, _, _, _, _, _⟩) (v := ?_) rfl (by kernel_rfl) (by kernel_rfl) (by kernel_rfl) (fun _ _ _ h => h) (Or.inl ⟨by rfl, ?_⟩) hHeld ?_
    rotate_left
    · (intro wq hSw; have hb9 := hSw.1; have hc9 := hSw.2.1; have hd9 := hSw.2.2; have x0 := hb9.cell (i := 0) rfl; have x1 := hb9.cell (i := 1) rfl; have x2 := hb9.cell (i := 2) rfl; have x3 := hb9.cell (i := 3) rfl; have x4 := hb9.cell (i := 4) rfl; have x5 := hb9.cell (i := 5) rfl; have x6 := hb9.cell (i := 6) rfl; have x7 := hb9.cell (i := 7) rfl; have x8 := hb9.cell (i := 8) rfl; have x9 := hb9.cell (i := 9) rfl; have y0 := hc9.cell (i := 0) rfl; have y1 := hc9.cell (i := 1) rfl; have y2 := hc9.cell (i := 2) rfl; have y3 := hc9.cell (i := 3) rfl; have y4 := hc9.cell (i := 4) rfl; have v0 := hd9.cell (i := 0) rfl; have v1 := hd9.cell (i := 1) rfl; have v2 := hd9.cell (i := 2) rfl; have v3 := hd9.cell (i := 3) rfl; have v4 := hd9.cell (i := 4) rfl; have v5 := hd9.cell (i := 5) rfl; have v6 := hd9.cell (i := 6) rfl; clear hb9 hc9 hd9; go_simp; try with_reducible rfl)
    try simp only [Act.put, List.setIfInBounds_toArray, List.set_cons_zero, List.set_cons_succ]
    refine wpAnyH_take (i := 4) (oi := ⟨some 17, _, _, _, _, _⟩) (v := ?_) rfl (by kernel_rfl) (by kernel_rfl) (by kernel_rfl) (fun _ _ _ h => h) (Or.inl ⟨by rfl, ?_⟩) hHeld ?_
    rotate_left
    · (intro wq hSw; have hb9 := hSw.1; have hc9 := hSw.2.1; have hd9 := hSw.2.2; have x0 := hb9.cell (i := 0) rfl; have x1 := hb9.cell (i := 1) rfl; have x2 := hb9.cell (i := 2) rfl; have x3 := hb9.cell (i := 3) rfl; have x4 := hb9.cell (i := 4) rfl; have x5 := hb9.cell (i := 5) rfl; have x6 := hb9.cell (i := 6) rfl; have x7 := hb9.cell (i := 7) rfl; have x8 := hb9.cell (i := 8) rfl; have x9 := hb9.cell (i := 9) rfl; have y0 := hc9.cell (i := 0) rfl; have y1 := hc9.cell (i := 1) rfl; have y2 := hc9.cell (i := 2) rfl; have y3 := hc9.cell (i := 3) rfl; have y4 := hc9.cell (i := 4) rfl; have v0 := hd9.cell (i := 0) rfl; have v1 := hd9.cell (i := 1) rfl; have v2 := hd9.cell (i := 2) rfl; have v3 := hd9.cell (i := 3) rfl; have v4 := hd9.cell (i := 4) rfl; have v5 := hd9.cell (i := 5) rfl; have v6 := hd9.cell (i := 6) rfl; clear hb9 hc9 hd9; go_simp; try with_reducible rfl)
    try simp only [Act.put, List.setIfInBounds_toArray, List.set_cons_zero, List.set_cons_succ]
    refine wpAnyH_take (i := 5) (oi := ⟨some 18, _, _, _, _, _⟩) (v := ?_) rfl (by kernel_rfl) (by kernel_rfl) (by kernel_rfl) (fun _ _ _ h => h) (Or.inl ⟨by rfl, ?_⟩) hHeld ?_
    rotate_left
    · (intro wq hSw; have hb9 := hSw.1; have hc9 := hSw.2.1; have hd9 := hSw.2.2; have x0 := hb9.cell (i := 0) rfl; have x1 := hb9.cell (i := 1) rfl; have x2 := hb9.cell (i := 2) rfl; have x3 := hb9.cell (i := 3) rfl; have x4 := hb9.cell (i := 4) rfl; have x5 := hb9.cell (i := 5) rfl; have x6 := hb9.cell (i := 6) rfl; have x7 := hb9.cell (i := 7) rfl; have x8 := hb9.cell (i := 8) rfl; have x9 := hb9.cell (i := 9) rfl; have y0 := hc9.cell (i := 0) rfl; have y1 := hc9.cell (i := 1) rfl; have y2 := hc9.cell (i := 2) rfl; have y3 := hc9.cell (i := 3) rfl; have y4 := hc9.cell (i := 4) rfl; have v0 := hd9.cell (i := 0) rfl; have v1 := hd9.cell (i := 1) rfl; have v2 := hd9.cell (i := 2) rfl; have v3 := hd9.cell (i := 3) rfl; have v4 := hd9.cell (i := 4) rfl; have v5 := hd9.cell (i := 5) rfl; have v6 := hd9.cell (i := 6) rfl; clear hb9 hc9 hd9; go_simp; try with_reducible rfl)
    try simp only [Act.put, List.setIfInBounds_toArray, List.set_cons_zero, List.set_cons_succ]
    refine wpAnyH_take (i := 9) (oi := ⟨some 22, _, _, _, _, _⟩) (v := ?_) rfl (by kernel_rfl) (by kernel_rfl) (by kernel_rfl) (fun _ _ _ h => h) (Or.inl ⟨by rfl, ?_⟩) hHeld ?_
    rotate_left
    · (intro wq hSw; have hb9 := hSw.1; have hc9 := hSw.2.1; have hd9 := hSw.2.2; have x0 := hb9.cell (i := 0) rfl; have x1 := hb9.cell (i := 1) rfl; have x2 := hb9.cell (i := 2) rfl; have x3 := hb9.cell (i := 3) rfl; have x4 := hb9.cell (i := 4) rfl; have x5 := hb9.cell (i := 5) rfl; have x6 := hb9.cell (i := 6) rfl; have x7 := hb9.cell (i := 7) rfl; have x8 := hb9.cell (i := 8) rfl; have x9 := hb9.cell (i := 9) rfl; have y0 := hc9.cell (i := 0) rfl; have y1 := hc9.cell (i := 1) rfl; have y2 := hc9.cell (i := 2) rfl; have y3 := hc9.cell (i := 3) rfl; have y4 := hc9.cell (i := 4) rfl; have v0 := hd9.cell (i := 0) rfl; have v1 := hd9.cell (i := 1) rfl; have v2 := hd9.cell (i := 2) rfl; have v3 := hd9.cell (i := 3) rfl; have v4 := hd9.cell (i := 4) rfl; have v5 := hd9.cell (i := 5) rfl; have v6 := hd9.cell (i := 6) rfl; clear hb9 hc9 hd9; go_simp; try with_reducible rfl)
    try simp only [Act.put, List.setIfInBounds_toArray, List.set_cons_zero, List.set_cons_succ]
    refine wpAnyH_ready (rs := [3]) (by kernel_rfl) (by simp) ?_
    refine AllReadyH.cons (o := ⟨some 16, _, _, _, _, _⟩) rfl (fun KK hK => ?_) AllReadyH.nil
    go_simp
    go_at_call 41
    refine (pageStores_any T S N C R F K fa fb fd hl hd nid lv A c hi la rt xs _ n hn (by omega) hlv (HRA.out.below HBC.out (Nat.le_refl _))).mono ?_; rintro e w3 ⟨g3, cap3, rfl, hO3, hB3⟩
    have hs3 := HBC.out.size
    replace HBC := Lib.hid (HBC.out.trans (hB3.mono hs3))
    have HO := Lib.hid (own_less hO3 hs3)
    clear hO3 hB3 hs3
    refine hK.out _ _ ?_ (fun hHeld2 => ?_)
    · exact ⟨HPc.out.below HBC.out LP.out.1, HSc.out.below HBC.out LP.out.2, HHc.out.below HBC.out LB.out.2⟩
    clear hK KK hHeld
    have hHeld := hHeld2
    clear hHeld2
    try simp only [Act.put, List.setIfInBounds_toArray, List.set_cons_zero, List.set_cons_succ]
    refine wpAnyH_ready (rs := [6]) (by kernel_rfl) (by simp) ?_
    refine AllReadyH.cons (o := ⟨some 19, _, _, _, _, _⟩) rfl (fun KK hK => ?_) AllReadyH.nil
    go_simp
    go_at_call 42
    refine (latchStore_any T S N C R F K fa fb fd hl hd nid 1 lv A2 n c2 hi la rt lat HLAT.out _).mono ?_; rintro e w4 ⟨rfl, hK4⟩
    have hs4 := HBC.out.size
    have hB4 := hK4.below (Nat.le_refl _) (fun _ h => h.elim)
    replace HBC := Lib.hid (HBC.out.trans (hB4.mono hs4))
    replace HO := Lib.hid (own_below HO.out hB4 (Nat.le_refl _))
    clear hK4 hB4 hs4
    refine hK.out _ _ ?_ (fun hHeld2 => ?_)
    · exact ⟨HPc.out.below HBC.out LP.out.1, HSc.out.below HBC.out LP.out.2, HHc.out.below HBC.out LB.out.2⟩
    clear hK KK hHeld
    have hHeld := hHeld2
    clear hHeld2
    try simp only [Act.put, List.setIfInBounds_toArray, List.set_cons_zero, List.set_cons_succ]
    refine wpAnyH_ready (rs := [7]) (by kernel_rfl) (by simp) ?_
    refine AllReadyH.cons (o := ⟨some 20, _, _, _, _, _⟩) rfl (fun KK hK => ?_) AllReadyH.nil
    go_simp
    have HNb := Lib.hid (show (w4.alloc (.cells #[.int .i64 lat, .int .u64 1, .string ⟨#[]⟩, .int .u64 0] 79)).heap[w4.heap.size]? = some (.cells #[.int .i64 lat, .int .u64 1, .string ⟨#[]⟩, .int .u64 0] 79 (0, 0)) from Blk.new w4 [.int .i64 lat, .int .u64 1, .string ⟨#[]⟩, .int .u64 0] 79)
    have hs5 := HBC.out.size
    have hbl := (Below.refl w4.heap.size w4).alloc (Nat.le_refl _) (.cells #[.int .i64 lat, .int .u64 1, .string ⟨#[]⟩, .int .u64 0] 79)
    replace HO := Lib.hid (own_below HO.out hbl (Nat.le_refl _))
    replace HBC := Lib.hid (HBC.out.trans (hbl.mono hs5))
    have hs6 : Wc.heap.size ≤ (w4.alloc (.cells #[.int .i64 lat, .int .u64 1, .string ⟨#[]⟩, .int .u64 0] 79)).heap.size := HBC.out.size
    clear hbl hs5
    generalize w4.alloc (.cells #[.int .i64 lat, .int .u64 1, .string ⟨#[]⟩, .int .u64 0] 79) = V6 at *
    refine hK.out _ _ ?_ (fun hHeld2 => ?_)
    · exact ⟨HPc.out.below HBC.out LP.out.1, HSc.out.below HBC.out LP.out.2, HHc.out.below HBC.out LB.out.2⟩
    clear hK KK hHeld
    have hHeld := hHeld2
    clear hHeld2
    try simp only [Act.put, List.setIfInBounds_toArray, List.set_cons_zero, List.set_cons_succ]
    refine wpAnyH_ready (rs := [8]) (by kernel_rfl) (by simp) ?_
    refine AllReadyH.cons (o := ⟨some 21, _, _, _, _, _⟩) rfl (fun KK hK => ?_) AllReadyH.nil
    refine step_append_lies _ (by rfl) (.tmp 16) (.tmp 20) 76 (by rfl) Wc.heap.size 79 i0 _ 4 40 Try.underlying76 HI0.out HI1.out HI2.out HI3.out rfl (by decide) _ (3 + n) _ (by rfl) HO.out ⟨w4.heap.size, 0, none⟩ 1 1 [.int .i64 lat, .int .u64 1, .string ⟨#[]⟩, .int .u64 0] (by rfl) (by rfl) (World.news_of_block HNb.out) (one_sto _ _ _ _) (by omega) (by unfold maxLen; omega) (by omega) hs6 _ rfl ?_
    intro g7 cap7 w7 hown7 hgrow7 hat7 hlt7
    have hbel := (Below.refl Wc.heap.size V6).grown hgrow7 hs6 (fun k hk => (World.ownsRow.lt HO.out k hk).1)
    replace HBC := Lib.hid (HBC.out.trans hbel)
    replace HO := Lib.hid hown7
    have HG := Lib.hid (show Wc.heap.size ≤ g7 ∧ g7 < w7.heap.size from hown7.lt g7 rfl)
    clear hown7 hgrow7 hat7 hlt7 HNb hbel hs6
    refine hK.out _ _ ?_ (fun hHeld2 => ?_)
    · exact ⟨HPc.out.below HBC.out LP.out.1, HSc.out.below HBC.out LP.out.2, HHc.out.below HBC.out LB.out.2⟩
    clear hK KK hHeld
    have hHeld := hHeld2
    clear hHeld2
    try simp only [Act.put, List.setIfInBounds_toArray, List.set_cons_zero, List.set_cons_succ]
    refine wpAnyH_take (i := 10) (oi := ⟨some 23, _, _, _, _, _⟩) (v := ?_) rfl (by kernel_rfl) (by kernel_rfl) (by kernel_rfl) (fun _ _ _ h => h) (Or.inl ⟨by rfl, ?_⟩) hHeld ?_
    rotate_left
    · (intro wq hSw; go_simp; try with_reducible rfl)
    try simp only [Act.put, List.setIfInBounds_toArray, List.set_cons_zero, List.set_cons_succ]
    refine wpAnyH_take (i := 11) (oi := ⟨some 24, _, _, _, _, _⟩) (v := ?_) rfl (by kernel_rfl) (by kernel_rfl) (by kernel_rfl) (fun _ _ _ h => h) (Or.inl ⟨by rfl, ?_⟩) hHeld ?_
    rotate_left
    · (intro wq hSw; go_simp; try with_reducible rfl)
    try simp only [Act.put, List.setIfInBounds_toArray, List.set_cons_zero, List.set_cons_succ]
    refine wpAnyH_ready (rs := [12]) (by kernel_rfl) (by simp) ?_
    refine AllReadyH.cons (o := ⟨some 25, _, _, _, _, _⟩) rfl (fun KK hK => ?_) AllReadyH.nil
    go_simp
    have hs8 := HBC.out.size
    have HQ := Lib.hid (Blk.new w7 [.slice (some ⟨g7, 0, none⟩) (3 + n + 1) cap7, .int .i64 0, .int .u64 (nid : Int), .int .u64 1, .int .i64 (lv : Int), .slice A2 n c2, .string hi, .bool la, .int .u64 (rt : Int)] 84)
    have HK8 := Lib.hid ((Kept.refl (fun _ => False) w7).alloc (.cells #[.slice (some ⟨g7, 0, none⟩) (3 + n + 1) cap7, .int .i64 0, .int .u64 (nid : Int), .int .u64 1, .int .i64 (lv : Int), .slice A2 n c2, .string hi, .bool la, .int .u64 (rt : Int)] 84))
    have HBQ := Lib.hid (HBC.out.alloc hs8 (.cells #[.slice (some ⟨g7, 0, none⟩) (3 + n + 1) cap7, .int .i64 0, .int .u64 (nid : Int), .int .u64 1, .int .i64 (lv : Int), .slice A2 n c2, .string hi, .bool la, .int .u64 (rt : Int)] 84))
    have hqw : Wc.heap.size ≤ w7.heap.size := hs8
    generalize w7.alloc (.cells #[.slice (some ⟨g7, 0, none⟩) (3 + n + 1) cap7, .int .i64 0, .int .u64 (nid : Int), .int .u64 1, .int .i64 (lv : Int), .slice A2 n c2, .string hi, .bool la, .int .u64 (rt : Int)] 84) = W8 at *
    generalize hq8 : w7.heap.size = q at *
    have HQ8 := Lib.hid (show q = w7.heap.size from hq8.symm)
    clear hq8 hs8 HBC
    refine hK.out _ _ ?_ (fun hHeld2 => ?_)
    · exact ⟨HPc.out.below HBQ.out LP.out.1, HSc.out.below HBQ.out LP.out.2, HHc.out.below HBQ.out LB.out.2⟩
    clear hK KK hHeld
    have hHeld := hHeld2
    clear hHeld2
    try simp only [Act.put, List.setIfInBounds_toArray, List.set_cons_zero, List.set_cons_succ]
    refine wpAnyH_take (i := 13) (oi := ⟨some 6, _, _, _, _, _⟩) (v := ?_) rfl (by kernel_rfl) (by kernel_rfl) (by kernel_rfl) (fun _ _ _ h => h) (Or.inl ⟨by rfl, ?_⟩) hHeld ?_
    rotate_left
    · (intro wq hSw; go_simp; try with_reducible rfl)
    try simp only [Act.put, List.setIfInBounds_toArray, List.set_cons_zero, List.set_cons_succ]
    refine wpAnyH_done (by kernel_rfl) ?_ _
    clear hHeld
    go_wp2
    go_ret
    have hlen : ((pst (adr N F fa nid) (⟨lv, hi, la, rt, xs⟩ : Pg)) ++ [(lat, ((1 : Int), (⟨#[]⟩ : ByteArray), (0 : Int)))]).length = 3 + n + 1 := by rw [List.length_append, pst_length]; show xs.length + 3 + 1 = _; omega
    have hflat : flat4 ((pst (adr N F fa nid) (⟨lv, hi, la, rt, xs⟩ : Pg)) ++ [(lat, ((1 : Int), (⟨#[]⟩ : ByteArray), (0 : Int)))]) = flat4 (pst (adr N F fa nid) (⟨lv, hi, la, rt, xs⟩ : Pg)) ++ [.int .i64 lat, .int .u64 1, .string ⟨#[]⟩, .int .u64 0] := by rw [flat4_append]; rfl
    have hO8 := own_kept HO.out HK8.out (fun _ _ h => h)
    have hR8 : Rs W8 A2 c2 xs := HRc.out.below HBQ.out (Nat.le_refl _)
    refine ⟨q, fun i => i = q ∨ i = g7 ∨ ∃ a, A2 = some a ∧ a.block = i, rfl, ⟨fun i hi => ?_, .inl rfl, g7, cap7, A2, c2, ?_, ?_, .inr (.inl rfl), hR8, fun a ha => ⟨.inr (.inr ⟨a, ha, rfl⟩), ?_⟩⟩, fun i hi => ?_, (HBc.out.trans (HBQ.out.mono HWc.out)).kept0⟩
    · rcases hi with rfl | rfl | ⟨a, ha, rfl⟩
      · exact HQ.out.lt
      · have := HG.out.2; have := HK8.out.size; have := HQ8.out; omega
      · have := HRc.out; have := HLA.out a ha; have := HBQ.out.size; omega
    · show Blk W8 q 84 (stv (.slice (some ⟨g7, 0, none⟩) ((pst (adr N F fa nid) (⟨lv, hi, la, rt, xs⟩ : Pg)) ++ [(lat, ((1 : Int), (⟨#[]⟩ : ByteArray), (0 : Int)))]).length cap7) 0 nid 1 lv (.slice A2 xs.length c2) hi la rt)
      rw [hlen, hn]; exact HQ.out
    · rw [hlen, hflat]; exact own_less hO8 (Nat.zero_le _)
    · intro e; have := HLA.out a ha; have := HQ8.out; omega
    · rcases hi with rfl | rfl | ⟨a, ha, rfl⟩
      · have := HWc.out; omega
      · have := HG.out.1; have := HWc.out; omega
      · have := (HAc.out a ha).1; have := HWA.out; omega

end Go.Proofs.Ytlehpcbhfdnkdaa
