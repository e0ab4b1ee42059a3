/-
 NewFresh and NewWrite of package node. Condition: a layout within its limits.
-/
import Derived.Test.YtjnodgebpklaoaaGreatLkSto
namespace Go.Proofs.YtjnodgebpklaoaaGreat
set_option maxHeartbeats 8000000
set_option maxRecDepth 100000
section
open Go.RowKit Go.Deep Plain
set_option linter.unusedVariables false

theorem newFresh_any (T S N C R : Int) (F : Nat) (K fa fb fd : Int) (hl : Lim T S N C R (F : Int)) (hd : Reach3 fa fb fd) (nid : Nat) (lv : Nat) (A : Option Addr) (c : Nat) (hi : ByteArray) (la : Bool) (rt : Nat) (xs : List Sl) (w : World) (n : Nat) (hn : xs.length = n) (h40 : n ≤ 1000) (hlv : lv < 9223372036854775808) (hR : Rs w A c xs) :
  Calls Tryz.prog 115 #[.agg #[.int .i64 T, .int .i64 S, .int .i64 N, .int .i64 C, .int .i64 R, .int .i64 (F : Int), .int .u64 K, .int .i64 fa, .int .i64 fb, .int .i64 fd], .int .u64 (nid : Int), .agg #[.int .i64 (lv : Int), .slice A n c, .string hi, .bool la, .int .u64 (rt : Int)]] w fun e w' => ∃ (q : Nat) (Z : Nat → Prop), e = .returned (.pointer (some ⟨q, 0, none⟩)) ∧ Stm Z w' q 165 ((pst (adr N F fa nid) (⟨lv, hi, la, rt, xs⟩ : Pg)) ++ [(nodeAt N (F : Int) fa (nid : Int) 0, ((1 : Int), (⟨#[]⟩ : ByteArray), (0 : Int)))]) 0 nid 1 (⟨lv, hi, la, rt, xs⟩ : Pg) ∧ (∀ i, Z i → w.heap.size ≤ i) ∧ Kept (fun _ => False) w w' := by
 obtain ⟨P0, S0, B0, Z0⟩ := box_two w [.int .i64 T, .int .i64 S, .int .i64 N, .int .i64 C, .int .i64 R, .int .i64 (F : Int), .int .u64 K, .int .i64 fa, .int .i64 fb, .int .i64 fd] [.int .i64 (lv : Int), .slice A n c, .string hi, .bool la, .int .u64 (rt : Int)] 28 38
 obtain ⟨lat, hlat⟩ : ∃ x, nodeAt N (F : Int) fa (nid : Int) 0 = x := ⟨_, rfl⟩
 rw [hlat]
 have HLAT := Hd hlat
 have HRW := Hd hR
 have HP := Hd P0
 have HS := Hd S0
 have HB := Hd B0
 have HZ := Hd Z0
 clear P0 S0 B0 Z0 hR hlat
 obtain ⟨i0, hi0, hz0, hz1, hz2⟩ := info_parts Tryz.info198
 have HI0 := Hd hi0
 have HI1 := Hd hz0
 have HI2 := Hd hz1
 have HI3 := Hd hz2
 clear hi0 hz0 hz1 hz2
 go_enter Tryz.func115, Tryz.ntmps115
 go_upto_region 1 with fail
 generalize (w.alloc (.cells #[.int .i64 T, .int .i64 S, .int .i64 N, .int .i64 C, .int .i64 R, .int .i64 (F : Int), .int .u64 K, .int .i64 fa, .int .i64 fb, .int .i64 fd] 28)).alloc (.cells #[.int .i64 (lv : Int), .slice A n c, .string hi, .bool la, .int .u64 (rt : Int)] 38) = W at *
 generalize hb1 : w.heap.size + 1 = b1 at *
 have HB1 := Hd hb1
 clear hb1
 have hWs := HZ.out
 have HWS := Hd hWs
 clear hWs
 go_cut [7] (fun p wx => ∃ (bh : Nat) (A2 : Option Addr) (c2 : Nat), p = .pointer (some ⟨bh, 0, none⟩) ∧ W.heap.size ≤ bh ∧ Blk wx bh 40 [.int .u64 (nid : Int), .int .u64 (1 : Int), .int .i64 (lv : Int), .slice A2 n c2, .string hi, .bool la, .int .u64 (rt : Int)] ∧ Rs wx A2 c2 xs ∧ (∀ a, A2 = some a → W.heap.size ≤ a.block ∧ a.block ≠ bh ∧ a.block < wx.heap.size) ∧ Kept (fun _ => False) W wx)
 case first =>
  refine wp_region_held_drew (S := (fun w' => Blk w' b1 38 [.int .i64 (lv : Int), .slice A n c, .string hi, .bool la, .int .u64 (rt : Int)])) (by kernel_rfl) ?_ (fun hHeld => ?_)
  ·exact HS.out.of rfl
  have HBC := Hd ((Below.refl W.heap.size W).drew)
  have LTS := Hd HS.out.lt
  have HWS2 := Hd (show w.heap.size ≤ W.heap.size from HB.out.size)
  generalize W.drew = G at *
  refine tkH 0 8 ?_ rfl ?_ hHeld ?_
  rotate_left
  ·(intro wq hSw; go_simp; try with_reducible rfl)
  try simp only [aP,aA,aZ,aS]
  refine tkH 2 10 ?_ rfl ?_ hHeld ?_
  rotate_left
  ·(intro wq hSw; obtain ⟨y0, y1, y2, y3, y4⟩ := hSw.c5; go_simp; try with_reducible rfl)
  try simp only [aP,aA,aZ,aS]
  refine wpAnyH_ready (rs := [1, 5]) (by kernel_rfl) (by simp) ?_
  refine AllReadyH.cons (o := ⟨some 9, _, _, _, _, _⟩) rfl (fun KK hK => ?_) (AllReadyH.cons (o := ⟨some 7, _, _, _, _, _⟩) rfl (fun KK hK => ?_) AllReadyH.nil)
  ·go_simp
   go_at_call 47
   refine (lock_of 0 1 (by omega) (by rfl) _).mono ?_; rintro e w8 ⟨rfl, rfl⟩
   refine hK.out _ _ ?_ (fun hHeld2 => ?_)
   ·exact HS.out.below HBC.out LTS.out
   clear hK KK hHeld
   have hHeld := hHeld2
   clear hHeld2
   try simp only [aP,aA,aZ,aS]
   refine wpAnyH_ready (rs := [3, 5]) (by kernel_rfl) (by simp) ?_
   refine AllReadyH.cons (o := ⟨some 11, _, _, _, _, _⟩) rfl (fun KK hK => ?_) (AllReadyH.cons (o := ⟨some 7, _, _, _, _, _⟩) rfl (fun KK hK => ?_) AllReadyH.nil)
   ·go_simp
    go_at_call 106
    refine (copied_any lv A c hi la rt xs _ n hn (by omega) (HRW.out.below (HB.out.trans (HBC.out.mono HWS2.out)) (Nat.le_refl _))).mono ?_; rintro e w9 ⟨A2, c2, rfl, hO9, hB9⟩
    have hsz9 : W.heap.size ≤ G.heap.size := HBC.out.size
    replace HBC := Hd (HBC.out.trans (hB9.mono hsz9))
    obtain ⟨A9, c9, e9, _, hR9, hA9⟩ := Rs.own hO9
    cases e9
    have HL2 := Hd (show ∀ a, A2 = some a → a.block < w9.heap.size from fun a ha => (hO9.lt a.block (by subst ha; rfl)).2)
    have HR2 := Hd hR9
    have HA2 := Hd (show ∀ a, A2 = some a → W.heap.size ≤ a.block from fun a ha => Nat.le_trans hsz9 (hA9 a ha))
    clear hO9 hB9 hsz9 hR9 hA9
    refine hK.out _ _ ?_ (fun hHeld2 => ?_)
    ·exact HS.out.below HBC.out LTS.out
    clear hK KK hHeld
    have hHeld := hHeld2
    clear hHeld2
    try simp only [aP,aA,aZ,aS]
    refine tkH 4 12 ?_ rfl ?_ hHeld ?_
    rotate_left
    ·(intro wq hSw; go_simp; try with_reducible rfl)
    try simp only [aP,aA,aZ,aS]
    refine wpAnyH_ready (rs := [5]) (by kernel_rfl) (by simp) ?_
    refine AllReadyH.cons (o := ⟨some 7, _, _, _, _, _⟩) rfl (fun KK hK => ?_) AllReadyH.nil
    go_simp
    have HH := Hd (Blk.new w9 [.int .u64 0, .int .u64 0, .int .i64 0, .slice none 0 0, .string ⟨#[]⟩, .bool false, .int .u64 0] 40)
    have HNE := Hd (show ∀ a, A2 = some a → a.block ≠ w9.heap.size from fun a ha e => by have := HL2.out a ha; omega)
    replace HR2 := Hd (HR2.out.keptF ((Kept.refl (fun _ => False) w9).alloc (.cells #[.int .u64 0, .int .u64 0, .int .i64 0, .slice none 0 0, .string ⟨#[]⟩, .bool false, .int .u64 0] 40)) (fun _ _ h => h))
    replace HL2 := Hd (show ∀ a, A2 = some a → a.block < (w9.alloc (.cells #[.int .u64 0, .int .u64 0, .int .i64 0, .slice none 0 0, .string ⟨#[]⟩, .bool false, .int .u64 0] 40)).heap.size from fun a ha => by rw [nblk_alloc]; have := HL2.out a ha; omega)
    have hsz5 : W.heap.size ≤ w9.heap.size := HBC.out.size
    have hbhl : w9.heap.size < (w9.alloc (.cells #[.int .u64 0, .int .u64 0, .int .i64 0, .slice none 0 0, .string ⟨#[]⟩, .bool false, .int .u64 0] 40)).heap.size := by rw [nblk_alloc]; omega
    replace HBC := Hd (HBC.out.alloc hsz5 (.cells #[.int .u64 0, .int .u64 0, .int .i64 0, .slice none 0 0, .string ⟨#[]⟩, .bool false, .int .u64 0] 40))
    generalize w9.alloc (.cells #[.int .u64 0, .int .u64 0, .int .i64 0, .slice none 0 0, .string ⟨#[]⟩, .bool false, .int .u64 0] 40) = Y5 at *
    generalize w9.heap.size = bh at *
    have HBH := Hd (And.intro hsz5 hbhl)
    clear hsz5 hbhl
    refine hK.out _ _ ?_ (fun hHeld2 => ?_)
    ·exact HS.out.below HBC.out LTS.out
    clear hK KK hHeld
    have hHeld := hHeld2
    clear hHeld2
    try simp only [aP,aA,aZ,aS]
    refine wpAnyH_ready (rs := [6]) (by kernel_rfl) (by simp) ?_
    refine AllReadyH.cons (o := ⟨none, _, _, _, _, _⟩) rfl (fun KK hK => ?_) AllReadyH.nil
    have u0 := HH.out.k 0 rfl
    have zu0 := HH.out.frozen 0
    have u1 := HH.out.k 1 rfl
    have zu1 := HH.out.frozen 1
    have u2 := HH.out.k 2 rfl
    have zu2 := HH.out.frozen 2
    have u3 := HH.out.k 3 rfl
    have zu3 := HH.out.frozen 3
    have u4 := HH.out.k 4 rfl
    have zu4 := HH.out.frozen 4
    have u5 := HH.out.k 5 rfl
    have zu5 := HH.out.frozen 5
    have u6 := HH.out.k 6 rfl
    have zu6 := HH.out.frozen 6
    go_simp
    clear u0 zu0 u1 zu1 u2 zu2 u3 zu3 u4 zu4 u5 zu5 u6 zu6
    replace HL2 := Hd (fun (a : Addr) (ha : A2 = some a) => Nat.lt_of_lt_of_le (HL2.out a ha) ((((((((Kept.refl (fun i => i = bh) Y5).setCell (a := ⟨bh, 0, none⟩) (fun _ => rfl) (.int .u64 (nid : Int))).setCell (a := ⟨bh, 1, none⟩) (fun _ => rfl) (.int .u64 1)).setCell (a := ⟨bh, 2, none⟩) (fun _ => rfl) (.int .i64 (lv : Int))).setCell (a := ⟨bh, 3, none⟩) (fun _ => rfl) (.slice A2 n c2)).setCell (a := ⟨bh, 4, none⟩) (fun _ => rfl) (.string hi)).setCell (a := ⟨bh, 5, none⟩) (fun _ => rfl) (.bool la)).setCell (a := ⟨bh, 6, none⟩) (fun _ => rfl) (.int .u64 (rt : Int))).size)
    replace HR2 := Hd (HR2.out.keptF ((((((((Kept.refl (fun i => i = bh) Y5).setCell (a := ⟨bh, 0, none⟩) (fun _ => rfl) (.int .u64 (nid : Int))).setCell (a := ⟨bh, 1, none⟩) (fun _ => rfl) (.int .u64 1)).setCell (a := ⟨bh, 2, none⟩) (fun _ => rfl) (.int .i64 (lv : Int))).setCell (a := ⟨bh, 3, none⟩) (fun _ => rfl) (.slice A2 n c2)).setCell (a := ⟨bh, 4, none⟩) (fun _ => rfl) (.string hi)).setCell (a := ⟨bh, 5, none⟩) (fun _ => rfl) (.bool la)).setCell (a := ⟨bh, 6, none⟩) (fun _ => rfl) (.int .u64 (rt : Int))) (fun a ha e => HNE.out a ha e))
    replace HH := Hd (((((((HH.out.set 0 (.int .u64 (nid : Int))).set 1 (.int .u64 1)).set 2 (.int .i64 (lv : Int))).set 3 (.slice A2 n c2)).set 4 (.string hi)).set 5 (.bool la)).set 6 (.int .u64 (rt : Int)))
    replace HBC := Hd (((((((HBC.out.setCell (p := ⟨bh, 0, none⟩) HBH.out.1 (.int .u64 (nid : Int))).setCell (p := ⟨bh, 1, none⟩) HBH.out.1 (.int .u64 1)).setCell (p := ⟨bh, 2, none⟩) HBH.out.1 (.int .i64 (lv : Int))).setCell (p := ⟨bh, 3, none⟩) HBH.out.1 (.slice A2 n c2)).setCell (p := ⟨bh, 4, none⟩) HBH.out.1 (.string hi)).setCell (p := ⟨bh, 5, none⟩) HBH.out.1 (.bool la)).setCell (p := ⟨bh, 6, none⟩) HBH.out.1 (.int .u64 (rt : Int)))
    refine hK.out _ _ ?_ (fun hHeld2 => ?_)
    ·exact HS.out.below HBC.out LTS.out
    clear hK KK hHeld
    have hHeld := hHeld2
    clear hHeld2
    try simp only [aP,aA,aZ,aS]
    refine wpAnyH_done (by kernel_rfl) ?_ _
    clear hHeld
    go_wp2
    go_meet
    exact ⟨bh, A2, c2, rfl, HBH.out.1, HH.out, HR2.out, fun a ha => ⟨HA2.out a ha, HNE.out a ha, HL2.out a ha⟩, HBC.out.kept0⟩
   ·go_simp
    have HH := Hd (Blk.new G [.int .u64 0, .int .u64 0, .int .i64 0, .slice none 0 0, .string ⟨#[]⟩, .bool false, .int .u64 0] 40)
    have hsz5 : W.heap.size ≤ G.heap.size := HBC.out.size
    have hbhl : G.heap.size < (G.alloc (.cells #[.int .u64 0, .int .u64 0, .int .i64 0, .slice none 0 0, .string ⟨#[]⟩, .bool false, .int .u64 0] 40)).heap.size := by rw [nblk_alloc]; omega
    replace HBC := Hd (HBC.out.alloc hsz5 (.cells #[.int .u64 0, .int .u64 0, .int .i64 0, .slice none 0 0, .string ⟨#[]⟩, .bool false, .int .u64 0] 40))
    generalize G.alloc (.cells #[.int .u64 0, .int .u64 0, .int .i64 0, .slice none 0 0, .string ⟨#[]⟩, .bool false, .int .u64 0] 40) = Y5 at *
    generalize G.heap.size = bh at *
    have HBH := Hd (And.intro hsz5 hbhl)
    clear hsz5 hbhl
    refine hK.out _ _ ?_ (fun hHeld2 => ?_)
    ·exact HS.out.below HBC.out LTS.out
    clear hK KK hHeld
    have hHeld := hHeld2
    clear hHeld2
    try simp only [aP,aA,aZ,aS]
    refine wpAnyH_ready (rs := [3]) (by kernel_rfl) (by simp) ?_
    refine AllReadyH.cons (o := ⟨some 11, _, _, _, _, _⟩) rfl (fun KK hK => ?_) AllReadyH.nil
    go_simp
    go_at_call 106
    refine (copied_any lv A c hi la rt xs _ n hn (by omega) (HRW.out.below (HB.out.trans (HBC.out.mono HWS2.out)) (Nat.le_refl _))).mono ?_; rintro e w9 ⟨A2, c2, rfl, hO9, hB9⟩
    have hsz9 : W.heap.size ≤ Y5.heap.size := HBC.out.size
    replace HBC := Hd (HBC.out.trans (hB9.mono hsz9))
    obtain ⟨A9, c9, e9, _, hR9, hA9⟩ := Rs.own hO9
    cases e9
    have HL2 := Hd (show ∀ a, A2 = some a → a.block < w9.heap.size from fun a ha => (hO9.lt a.block (by subst ha; rfl)).2)
    have HR2 := Hd hR9
    have HA2 := Hd (show ∀ a, A2 = some a → W.heap.size ≤ a.block from fun a ha => Nat.le_trans hsz9 (hA9 a ha))
    replace HH := Hd (HH.out.below hB9 HBH.out.2)
    have HNE := Hd (show ∀ a, A2 = some a → a.block ≠ bh from fun a ha e => by have := hA9 a ha; have := HBH.out.2; omega)
    clear hO9 hB9 hsz9 hR9 hA9
    refine hK.out _ _ ?_ (fun hHeld2 => ?_)
    ·exact HS.out.below HBC.out LTS.out
    clear hK KK hHeld
    have hHeld := hHeld2
    clear hHeld2
    try simp only [aP,aA,aZ,aS]
    refine tkH 4 12 ?_ rfl ?_ hHeld ?_
    rotate_left
    ·(intro wq hSw; go_simp; try with_reducible rfl)
    try simp only [aP,aA,aZ,aS]
    refine wpAnyH_ready (rs := [6]) (by kernel_rfl) (by simp) ?_
    refine AllReadyH.cons (o := ⟨none, _, _, _, _, _⟩) rfl (fun KK hK => ?_) AllReadyH.nil
    have u0 := HH.out.k 0 rfl
    have zu0 := HH.out.frozen 0
    have u1 := HH.out.k 1 rfl
    have zu1 := HH.out.frozen 1
    have u2 := HH.out.k 2 rfl
    have zu2 := HH.out.frozen 2
    have u3 := HH.out.k 3 rfl
    have zu3 := HH.out.frozen 3
    have u4 := HH.out.k 4 rfl
    have zu4 := HH.out.frozen 4
    have u5 := HH.out.k 5 rfl
    have zu5 := HH.out.frozen 5
    have u6 := HH.out.k 6 rfl
    have zu6 := HH.out.frozen 6
    go_simp
    clear u0 zu0 u1 zu1 u2 zu2 u3 zu3 u4 zu4 u5 zu5 u6 zu6
    replace HL2 := Hd (fun (a : Addr) (ha : A2 = some a) => Nat.lt_of_lt_of_le (HL2.out a ha) ((((((((Kept.refl (fun i => i = bh) w9).setCell (a := ⟨bh, 0, none⟩) (fun _ => rfl) (.int .u64 (nid : Int))).setCell (a := ⟨bh, 1, none⟩) (fun _ => rfl) (.int .u64 1)).setCell (a := ⟨bh, 2, none⟩) (fun _ => rfl) (.int .i64 (lv : Int))).setCell (a := ⟨bh, 3, none⟩) (fun _ => rfl) (.slice A2 n c2)).setCell (a := ⟨bh, 4, none⟩) (fun _ => rfl) (.string hi)).setCell (a := ⟨bh, 5, none⟩) (fun _ => rfl) (.bool la)).setCell (a := ⟨bh, 6, none⟩) (fun _ => rfl) (.int .u64 (rt : Int))).size)
    replace HR2 := Hd (HR2.out.keptF ((((((((Kept.refl (fun i => i = bh) w9).setCell (a := ⟨bh, 0, none⟩) (fun _ => rfl) (.int .u64 (nid : Int))).setCell (a := ⟨bh, 1, none⟩) (fun _ => rfl) (.int .u64 1)).setCell (a := ⟨bh, 2, none⟩) (fun _ => rfl) (.int .i64 (lv : Int))).setCell (a := ⟨bh, 3, none⟩) (fun _ => rfl) (.slice A2 n c2)).setCell (a := ⟨bh, 4, none⟩) (fun _ => rfl) (.string hi)).setCell (a := ⟨bh, 5, none⟩) (fun _ => rfl) (.bool la)).setCell (a := ⟨bh, 6, none⟩) (fun _ => rfl) (.int .u64 (rt : Int))) (fun a ha e => HNE.out a ha e))
    replace HH := Hd (((((((HH.out.set 0 (.int .u64 (nid : Int))).set 1 (.int .u64 1)).set 2 (.int .i64 (lv : Int))).set 3 (.slice A2 n c2)).set 4 (.string hi)).set 5 (.bool la)).set 6 (.int .u64 (rt : Int)))
    replace HBC := Hd (((((((HBC.out.setCell (p := ⟨bh, 0, none⟩) HBH.out.1 (.int .u64 (nid : Int))).setCell (p := ⟨bh, 1, none⟩) HBH.out.1 (.int .u64 1)).setCell (p := ⟨bh, 2, none⟩) HBH.out.1 (.int .i64 (lv : Int))).setCell (p := ⟨bh, 3, none⟩) HBH.out.1 (.slice A2 n c2)).setCell (p := ⟨bh, 4, none⟩) HBH.out.1 (.string hi)).setCell (p := ⟨bh, 5, none⟩) HBH.out.1 (.bool la)).setCell (p := ⟨bh, 6, none⟩) HBH.out.1 (.int .u64 (rt : Int)))
    refine hK.out _ _ ?_ (fun hHeld2 => ?_)
    ·exact HS.out.below HBC.out LTS.out
    clear hK KK hHeld
    have hHeld := hHeld2
    clear hHeld2
    try simp only [aP,aA,aZ,aS]
    refine wpAnyH_done (by kernel_rfl) ?_ _
    clear hHeld
    go_wp2
    go_meet
    exact ⟨bh, A2, c2, rfl, HBH.out.1, HH.out, HR2.out, fun a ha => ⟨HA2.out a ha, HNE.out a ha, HL2.out a ha⟩, HBC.out.kept0⟩
  ·go_simp
   have HH := Hd (Blk.new G [.int .u64 0, .int .u64 0, .int .i64 0, .slice none 0 0, .string ⟨#[]⟩, .bool false, .int .u64 0] 40)
   have hsz5 : W.heap.size ≤ G.heap.size := HBC.out.size
   have hbhl : G.heap.size < (G.alloc (.cells #[.int .u64 0, .int .u64 0, .int .i64 0, .slice none 0 0, .string ⟨#[]⟩, .bool false, .int .u64 0] 40)).heap.size := by rw [nblk_alloc]; omega
   replace HBC := Hd (HBC.out.alloc hsz5 (.cells #[.int .u64 0, .int .u64 0, .int .i64 0, .slice none 0 0, .string ⟨#[]⟩, .bool false, .int .u64 0] 40))
   generalize G.alloc (.cells #[.int .u64 0, .int .u64 0, .int .i64 0, .slice none 0 0, .string ⟨#[]⟩, .bool false, .int .u64 0] 40) = Y5 at *
   generalize G.heap.size = bh at *
   have HBH := Hd (And.intro hsz5 hbhl)
   clear hsz5 hbhl
   refine hK.out _ _ ?_ (fun hHeld2 => ?_)
   ·exact HS.out.below HBC.out LTS.out
   clear hK KK hHeld
   have hHeld := hHeld2
   clear hHeld2
   try simp only [aP,aA,aZ,aS]
   refine wpAnyH_ready (rs := [1]) (by kernel_rfl) (by simp) ?_
   refine AllReadyH.cons (o := ⟨some 9, _, _, _, _, _⟩) rfl (fun KK hK => ?_) AllReadyH.nil
   go_simp
   go_at_call 47
   refine (lock_of 0 1 (by omega) (by rfl) _).mono ?_; rintro e w8 ⟨rfl, rfl⟩
   refine hK.out _ _ ?_ (fun hHeld2 => ?_)
   ·exact HS.out.below HBC.out LTS.out
   clear hK KK hHeld
   have hHeld := hHeld2
   clear hHeld2
   try simp only [aP,aA,aZ,aS]
   refine wpAnyH_ready (rs := [3]) (by kernel_rfl) (by simp) ?_
   refine AllReadyH.cons (o := ⟨some 11, _, _, _, _, _⟩) rfl (fun KK hK => ?_) AllReadyH.nil
   go_simp
   go_at_call 106
   refine (copied_any lv A c hi la rt xs _ n hn (by omega) (HRW.out.below (HB.out.trans (HBC.out.mono HWS2.out)) (Nat.le_refl _))).mono ?_; rintro e w9 ⟨A2, c2, rfl, hO9, hB9⟩
   have hsz9 : W.heap.size ≤ Y5.heap.size := HBC.out.size
   replace HBC := Hd (HBC.out.trans (hB9.mono hsz9))
   obtain ⟨A9, c9, e9, _, hR9, hA9⟩ := Rs.own hO9
   cases e9
   have HL2 := Hd (show ∀ a, A2 = some a → a.block < w9.heap.size from fun a ha => (hO9.lt a.block (by subst ha; rfl)).2)
   have HR2 := Hd hR9
   have HA2 := Hd (show ∀ a, A2 = some a → W.heap.size ≤ a.block from fun a ha => Nat.le_trans hsz9 (hA9 a ha))
   replace HH := Hd (HH.out.below hB9 HBH.out.2)
   have HNE := Hd (show ∀ a, A2 = some a → a.block ≠ bh from fun a ha e => by have := hA9 a ha; have := HBH.out.2; omega)
   clear hO9 hB9 hsz9 hR9 hA9
   refine hK.out _ _ ?_ (fun hHeld2 => ?_)
   ·exact HS.out.below HBC.out LTS.out
   clear hK KK hHeld
   have hHeld := hHeld2
   clear hHeld2
   try simp only [aP,aA,aZ,aS]
   refine tkH 4 12 ?_ rfl ?_ hHeld ?_
   rotate_left
   ·(intro wq hSw; go_simp; try with_reducible rfl)
   try simp only [aP,aA,aZ,aS]
   refine wpAnyH_ready (rs := [6]) (by kernel_rfl) (by simp) ?_
   refine AllReadyH.cons (o := ⟨none, _, _, _, _, _⟩) rfl (fun KK hK => ?_) AllReadyH.nil
   have u0 := HH.out.k 0 rfl
   have zu0 := HH.out.frozen 0
   have u1 := HH.out.k 1 rfl
   have zu1 := HH.out.frozen 1
   have u2 := HH.out.k 2 rfl
   have zu2 := HH.out.frozen 2
   have u3 := HH.out.k 3 rfl
   have zu3 := HH.out.frozen 3
   have u4 := HH.out.k 4 rfl
   have zu4 := HH.out.frozen 4
   have u5 := HH.out.k 5 rfl
   have zu5 := HH.out.frozen 5
   have u6 := HH.out.k 6 rfl
   have zu6 := HH.out.frozen 6
   go_simp
   clear u0 zu0 u1 zu1 u2 zu2 u3 zu3 u4 zu4 u5 zu5 u6 zu6
   replace HL2 := Hd (fun (a : Addr) (ha : A2 = some a) => Nat.lt_of_lt_of_le (HL2.out a ha) ((((((((Kept.refl (fun i => i = bh) w9).setCell (a := ⟨bh, 0, none⟩) (fun _ => rfl) (.int .u64 (nid : Int))).setCell (a := ⟨bh, 1, none⟩) (fun _ => rfl) (.int .u64 1)).setCell (a := ⟨bh, 2, none⟩) (fun _ => rfl) (.int .i64 (lv : Int))).setCell (a := ⟨bh, 3, none⟩) (fun _ => rfl) (.slice A2 n c2)).setCell (a := ⟨bh, 4, none⟩) (fun _ => rfl) (.string hi)).setCell (a := ⟨bh, 5, none⟩) (fun _ => rfl) (.bool la)).setCell (a := ⟨bh, 6, none⟩) (fun _ => rfl) (.int .u64 (rt : Int))).size)
   replace HR2 := Hd (HR2.out.keptF ((((((((Kept.refl (fun i => i = bh) w9).setCell (a := ⟨bh, 0, none⟩) (fun _ => rfl) (.int .u64 (nid : Int))).setCell (a := ⟨bh, 1, none⟩) (fun _ => rfl) (.int .u64 1)).setCell (a := ⟨bh, 2, none⟩) (fun _ => rfl) (.int .i64 (lv : Int))).setCell (a := ⟨bh, 3, none⟩) (fun _ => rfl) (.slice A2 n c2)).setCell (a := ⟨bh, 4, none⟩) (fun _ => rfl) (.string hi)).setCell (a := ⟨bh, 5, none⟩) (fun _ => rfl) (.bool la)).setCell (a := ⟨bh, 6, none⟩) (fun _ => rfl) (.int .u64 (rt : Int))) (fun a ha e => HNE.out a ha e))
   replace HH := Hd (((((((HH.out.set 0 (.int .u64 (nid : Int))).set 1 (.int .u64 1)).set 2 (.int .i64 (lv : Int))).set 3 (.slice A2 n c2)).set 4 (.string hi)).set 5 (.bool la)).set 6 (.int .u64 (rt : Int)))
   replace HBC := Hd (((((((HBC.out.setCell (p := ⟨bh, 0, none⟩) HBH.out.1 (.int .u64 (nid : Int))).setCell (p := ⟨bh, 1, none⟩) HBH.out.1 (.int .u64 1)).setCell (p := ⟨bh, 2, none⟩) HBH.out.1 (.int .i64 (lv : Int))).setCell (p := ⟨bh, 3, none⟩) HBH.out.1 (.slice A2 n c2)).setCell (p := ⟨bh, 4, none⟩) HBH.out.1 (.string hi)).setCell (p := ⟨bh, 5, none⟩) HBH.out.1 (.bool la)).setCell (p := ⟨bh, 6, none⟩) HBH.out.1 (.int .u64 (rt : Int)))
   refine hK.out _ _ ?_ (fun hHeld2 => ?_)
   ·exact HS.out.below HBC.out LTS.out
   clear hK KK hHeld
   have hHeld := hHeld2
   clear hHeld2
   try simp only [aP,aA,aZ,aS]
   refine wpAnyH_done (by kernel_rfl) ?_ _
   clear hHeld
   go_wp2
   go_meet
   exact ⟨bh, A2, c2, rfl, HBH.out.1, HH.out, HR2.out, fun a ha => ⟨HA2.out a ha, HNE.out a ha, HL2.out a ha⟩, HBC.out.kept0⟩
 case rest =>
  obtain ⟨bh, A2, c2, rfl, hbh, hH, hR2, hA2, hK⟩ := hcut
  rename World => Wc
  have hbW := hK.below (B := W.heap.size) (Nat.le_refl _) (fun _ h => h.elim)
  have HPc := Hd (hK.blk HP.out (fun h => h))
  have HSc := Hd (hK.blk HS.out (fun h => h))
  have HHc := Hd hH
  have HRc := Hd hR2
  have HAc := Hd hA2
  have HLA := Hd (show ∀ a, A2 = some a → a.block < Wc.heap.size from fun a ha => (hA2 a ha).2.2)
  have HBc := Hd (HB.out.trans (hbW.mono HB.out.size))
  have HRA := Hd (HRW.out.below HBc.out (Nat.le_refl _))
  have LB := Hd (show w.heap.size ≤ bh ∧ bh < Wc.heap.size from ⟨Nat.le_trans HB.out.size hbh, hH.lt⟩)
  have LP := Hd (show w.heap.size < Wc.heap.size ∧ b1 < Wc.heap.size from ⟨HPc.out.lt, HSc.out.lt⟩)
  have HWc := Hd (show w.heap.size ≤ Wc.heap.size from HBc.out.size)
  have HWA := Hd (show w.heap.size ≤ W.heap.size from HB.out.size)
  clear hbW hH hR2 hA2 hK HP HS HB hbh
  go_upto_region 2 with fail
  refine wp_region_held_drew (S := (fun w' => Blk w' w.heap.size 28 [.int .i64 T, .int .i64 S, .int .i64 N, .int .i64 C, .int .i64 R, .int .i64 (F : Int), .int .u64 K, .int .i64 fa, .int .i64 fb, .int .i64 fd] ∧ Blk w' b1 38 [.int .i64 (lv : Int), .slice A n c, .string hi, .bool la, .int .u64 (rt : Int)] ∧ Blk w' bh 40 [.int .u64 (nid : Int), .int .u64 (1 : Int), .int .i64 (lv : Int), .slice A2 n c2, .string hi, .bool la, .int .u64 (rt : Int)])) (by kernel_rfl) ?_ (fun hHeld => ?_)
  ·exact ⟨HPc.out.of rfl, HSc.out.of rfl, HHc.out.of rfl⟩
  have HBC := Hd ((Below.refl Wc.heap.size Wc).drew)
  generalize Wc.drew = G at *
  refine tkH 0 13 ?_ rfl ?_ hHeld ?_
  rotate_left
  ·(intro wq hSw; have hb9 := hSw.1; have hc9 := hSw.2.1; have hd9 := hSw.2.2; obtain ⟨x0, x1, x2, x3, x4, x5, x6, x7, x8, x9⟩ := hb9.c10; obtain ⟨y0, y1, y2, y3, y4⟩ := hc9.c5; obtain ⟨v0, v1, v2, v3, v4, v5, v6⟩ := hd9.c7; clear hb9 hc9 hd9; go_simp; try with_reducible rfl)
  try simp only [aP,aA,aZ,aS]
  refine tkH 1 14 ?_ rfl ?_ hHeld ?_
  rotate_left
  ·(intro wq hSw; go_simp; try with_reducible rfl)
  try simp only [aP,aA,aZ,aS]
  refine tkH 2 15 ?_ rfl ?_ hHeld ?_
  rotate_left
  ·(intro wq hSw; have hb9 := hSw.1; have hc9 := hSw.2.1; have hd9 := hSw.2.2; obtain ⟨x0, x1, x2, x3, x4, x5, x6, x7, x8, x9⟩ := hb9.c10; obtain ⟨y0, y1, y2, y3, y4⟩ := hc9.c5; obtain ⟨v0, v1, v2, v3, v4, v5, v6⟩ := hd9.c7; clear hb9 hc9 hd9; go_simp; try with_reducible rfl)
  try simp only [aP,aA,aZ,aS]
  refine tkH 4 17 ?_ rfl ?_ hHeld ?_
  rotate_left
  ·(intro wq hSw; have hb9 := hSw.1; have hc9 := hSw.2.1; have hd9 := hSw.2.2; obtain ⟨x0, x1, x2, x3, x4, x5, x6, x7, x8, x9⟩ := hb9.c10; obtain ⟨y0, y1, y2, y3, y4⟩ := hc9.c5; obtain ⟨v0, v1, v2, v3, v4, v5, v6⟩ := hd9.c7; clear hb9 hc9 hd9; go_simp; try with_reducible rfl)
  try simp only [aP,aA,aZ,aS]
  refine tkH 5 18 ?_ rfl ?_ hHeld ?_
  rotate_left
  ·(intro wq hSw; have hb9 := hSw.1; have hc9 := hSw.2.1; have hd9 := hSw.2.2; obtain ⟨x0, x1, x2, x3, x4, x5, x6, x7, x8, x9⟩ := hb9.c10; obtain ⟨y0, y1, y2, y3, y4⟩ := hc9.c5; obtain ⟨v0, v1, v2, v3, v4, v5, v6⟩ := hd9.c7; clear hb9 hc9 hd9; go_simp; try with_reducible rfl)
  try simp only [aP,aA,aZ,aS]
  refine tkH 9 22 ?_ rfl ?_ hHeld ?_
  rotate_left
  ·(intro wq hSw; have hb9 := hSw.1; have hc9 := hSw.2.1; have hd9 := hSw.2.2; obtain ⟨x0, x1, x2, x3, x4, x5, x6, x7, x8, x9⟩ := hb9.c10; obtain ⟨y0, y1, y2, y3, y4⟩ := hc9.c5; obtain ⟨v0, v1, v2, v3, v4, v5, v6⟩ := hd9.c7; clear hb9 hc9 hd9; go_simp; try with_reducible rfl)
  try simp only [aP,aA,aZ,aS]
  refine wpAnyH_ready (rs := [3]) (by kernel_rfl) (by simp) ?_
  refine AllReadyH.cons (o := ⟨some 16, _, _, _, _, _⟩) rfl (fun KK hK => ?_) AllReadyH.nil
  go_simp
  go_at_call 156
  refine (pageStores_any T S N C R F K fa fb fd hl hd nid lv A c hi la rt xs _ n hn (by omega) hlv (HRA.out.below HBC.out (Nat.le_refl _))).mono ?_; rintro e w3 ⟨g3, cap3, rfl, hO3, hB3⟩
  have hs3 := HBC.out.size
  replace HBC := Hd (HBC.out.trans (hB3.mono hs3))
  have HO := Hd (own_less hO3 hs3)
  clear hO3 hB3 hs3
  refine hK.out _ _ ?_ (fun hHeld2 => ?_)
  ·exact ⟨HPc.out.below HBC.out LP.out.1, HSc.out.below HBC.out LP.out.2, HHc.out.below HBC.out LB.out.2⟩
  clear hK KK hHeld
  have hHeld := hHeld2
  clear hHeld2
  try simp only [aP,aA,aZ,aS]
  refine wpAnyH_ready (rs := [6]) (by kernel_rfl) (by simp) ?_
  refine AllReadyH.cons (o := ⟨some 19, _, _, _, _, _⟩) rfl (fun KK hK => ?_) AllReadyH.nil
  go_simp
  go_at_call 154
  refine (latchStore_any T S N C R F K fa fb fd hl hd nid 1 lv A2 n c2 hi la rt lat HLAT.out _).mono ?_; rintro e w4 ⟨rfl, hK4⟩
  have hs4 := HBC.out.size
  have hB4 := hK4.below (Nat.le_refl _) (fun _ h => h.elim)
  replace HBC := Hd (HBC.out.trans (hB4.mono hs4))
  replace HO := Hd (own_below HO.out hB4 (Nat.le_refl _))
  clear hK4 hB4 hs4
  refine hK.out _ _ ?_ (fun hHeld2 => ?_)
  ·exact ⟨HPc.out.below HBC.out LP.out.1, HSc.out.below HBC.out LP.out.2, HHc.out.below HBC.out LB.out.2⟩
  clear hK KK hHeld
  have hHeld := hHeld2
  clear hHeld2
  try simp only [aP,aA,aZ,aS]
  refine wpAnyH_ready (rs := [7]) (by kernel_rfl) (by simp) ?_
  refine AllReadyH.cons (o := ⟨some 20, _, _, _, _, _⟩) rfl (fun KK hK => ?_) AllReadyH.nil
  go_simp
  have HNb := Hd (show (w4.alloc (.cells #[.int .i64 lat, .int .u64 1, .string ⟨#[]⟩, .int .u64 0] 198)).heap[w4.heap.size]? = some (.cells #[.int .i64 lat, .int .u64 1, .string ⟨#[]⟩, .int .u64 0] 198 (0, 0)) from Blk.new w4 [.int .i64 lat, .int .u64 1, .string ⟨#[]⟩, .int .u64 0] 198)
  have hs5 := HBC.out.size
  have hbl := (Below.refl w4.heap.size w4).alloc (Nat.le_refl _) (.cells #[.int .i64 lat, .int .u64 1, .string ⟨#[]⟩, .int .u64 0] 198)
  replace HO := Hd (own_below HO.out hbl (Nat.le_refl _))
  replace HBC := Hd (HBC.out.trans (hbl.mono hs5))
  have hs6 : Wc.heap.size ≤ (w4.alloc (.cells #[.int .i64 lat, .int .u64 1, .string ⟨#[]⟩, .int .u64 0] 198)).heap.size := HBC.out.size
  clear hbl hs5
  generalize w4.alloc (.cells #[.int .i64 lat, .int .u64 1, .string ⟨#[]⟩, .int .u64 0] 198) = V6 at *
  refine hK.out _ _ ?_ (fun hHeld2 => ?_)
  ·exact ⟨HPc.out.below HBC.out LP.out.1, HSc.out.below HBC.out LP.out.2, HHc.out.below HBC.out LB.out.2⟩
  clear hK KK hHeld
  have hHeld := hHeld2
  clear hHeld2
  try simp only [aP,aA,aZ,aS]
  refine wpAnyH_ready (rs := [8]) (by kernel_rfl) (by simp) ?_
  refine AllReadyH.cons (o := ⟨some 21, _, _, _, _, _⟩) rfl (fun KK hK => ?_) AllReadyH.nil
  refine step_append_lies _ (by rfl) (.tmp 16) (.tmp 20) 161 (by rfl) Wc.heap.size 198 i0 _ 4 40 Tryz.underlying161 HI0.out HI1.out HI2.out HI3.out rfl (by decide) _ (3 + n) _ (by rfl) HO.out ⟨w4.heap.size, 0, none⟩ 1 1 [.int .i64 lat, .int .u64 1, .string ⟨#[]⟩, .int .u64 0] (by rfl) (by rfl) (World.news_of_block HNb.out) (one_sto _ _ _ _) (by omega) (by unfold maxLen; omega) (by omega) hs6 _ rfl ?_
  intro g7 cap7 w7 hown7 hgrow7 hat7 hlt7
  have hbel := (Below.refl Wc.heap.size V6).grown hgrow7 hs6 (fun k hk => (World.ownsRow.lt HO.out k hk).1)
  replace HBC := Hd (HBC.out.trans hbel)
  replace HO := Hd hown7
  have HG := Hd (show Wc.heap.size ≤ g7 ∧ g7 < w7.heap.size from hown7.lt g7 rfl)
  clear hown7 hgrow7 hat7 hlt7 HNb hbel hs6
  refine hK.out _ _ ?_ (fun hHeld2 => ?_)
  ·exact ⟨HPc.out.below HBC.out LP.out.1, HSc.out.below HBC.out LP.out.2, HHc.out.below HBC.out LB.out.2⟩
  clear hK KK hHeld
  have hHeld := hHeld2
  clear hHeld2
  try simp only [aP,aA,aZ,aS]
  refine tkH 10 23 ?_ rfl ?_ hHeld ?_
  rotate_left
  ·(intro wq hSw; go_simp; try with_reducible rfl)
  try simp only [aP,aA,aZ,aS]
  refine tkH 11 24 ?_ rfl ?_ hHeld ?_
  rotate_left
  ·(intro wq hSw; go_simp; try with_reducible rfl)
  try simp only [aP,aA,aZ,aS]
  refine wpAnyH_ready (rs := [12]) (by kernel_rfl) (by simp) ?_
  refine AllReadyH.cons (o := ⟨some 25, _, _, _, _, _⟩) rfl (fun KK hK => ?_) AllReadyH.nil
  go_simp
  have hs8 := HBC.out.size
  have HQ := Hd (Blk.new w7 [.slice (some ⟨g7, 0, none⟩) (3 + n + 1) cap7, .int .i64 0, .int .u64 (nid : Int), .int .u64 1, .int .i64 (lv : Int), .slice A2 n c2, .string hi, .bool la, .int .u64 (rt : Int)] 165)
  have HK8 := Hd ((Kept.refl (fun _ => False) w7).alloc (.cells #[.slice (some ⟨g7, 0, none⟩) (3 + n + 1) cap7, .int .i64 0, .int .u64 (nid : Int), .int .u64 1, .int .i64 (lv : Int), .slice A2 n c2, .string hi, .bool la, .int .u64 (rt : Int)] 165))
  have HBQ := Hd (HBC.out.alloc hs8 (.cells #[.slice (some ⟨g7, 0, none⟩) (3 + n + 1) cap7, .int .i64 0, .int .u64 (nid : Int), .int .u64 1, .int .i64 (lv : Int), .slice A2 n c2, .string hi, .bool la, .int .u64 (rt : Int)] 165))
  have hqw : Wc.heap.size ≤ w7.heap.size := hs8
  generalize w7.alloc (.cells #[.slice (some ⟨g7, 0, none⟩) (3 + n + 1) cap7, .int .i64 0, .int .u64 (nid : Int), .int .u64 1, .int .i64 (lv : Int), .slice A2 n c2, .string hi, .bool la, .int .u64 (rt : Int)] 165) = W8 at *
  generalize hq8 : w7.heap.size = q at *
  have HQ8 := Hd (show q = w7.heap.size from hq8.symm)
  clear hq8 hs8 HBC
  refine hK.out _ _ ?_ (fun hHeld2 => ?_)
  ·exact ⟨HPc.out.below HBQ.out LP.out.1, HSc.out.below HBQ.out LP.out.2, HHc.out.below HBQ.out LB.out.2⟩
  clear hK KK hHeld
  have hHeld := hHeld2
  clear hHeld2
  try simp only [aP,aA,aZ,aS]
  refine tkH 13 6 ?_ rfl ?_ hHeld ?_
  rotate_left
  ·(intro wq hSw; go_simp; try with_reducible rfl)
  try simp only [aP,aA,aZ,aS]
  refine wpAnyH_done (by kernel_rfl) ?_ _
  clear hHeld
  go_wp2
  go_ret
  have hlen : ((pst (adr N F fa nid) (⟨lv, hi, la, rt, xs⟩ : Pg)) ++ [(lat, ((1 : Int), (⟨#[]⟩ : ByteArray), (0 : Int)))]).length = 3 + n + 1 := by rw [List.length_append, pst_length]; show xs.length + 3 + 1 = _; omega
  have hflat : flat4 ((pst (adr N F fa nid) (⟨lv, hi, la, rt, xs⟩ : Pg)) ++ [(lat, ((1 : Int), (⟨#[]⟩ : ByteArray), (0 : Int)))]) = flat4 (pst (adr N F fa nid) (⟨lv, hi, la, rt, xs⟩ : Pg)) ++ [.int .i64 lat, .int .u64 1, .string ⟨#[]⟩, .int .u64 0] := by rw [flat4_append]; rfl
  have hO8 := own_kept HO.out HK8.out (fun _ _ h => h)
  have hR8 : Rs W8 A2 c2 xs := HRc.out.below HBQ.out (Nat.le_refl _)
  refine ⟨q, fun i => i = q ∨ i = g7 ∨ ∃ a, A2 = some a ∧ a.block = i, rfl, ⟨fun i hi => ?_, .inl rfl, g7, cap7, A2, c2, ?_, ?_, .inr (.inl rfl), hR8, fun a ha => ⟨.inr (.inr ⟨a, ha, rfl⟩), ?_⟩⟩, fun i hi => ?_, (HBc.out.trans (HBQ.out.mono HWc.out)).kept0⟩
  ·rcases hi with rfl | rfl | ⟨a, ha, rfl⟩
   ·exact HQ.out.lt
   ·have := HG.out.2; have := HK8.out.size; have := HQ8.out; omega
   ·have := HRc.out; have := HLA.out a ha; have := HBQ.out.size; omega
  ·show Blk W8 q 165 (stv (.slice (some ⟨g7, 0, none⟩) ((pst (adr N F fa nid) (⟨lv, hi, la, rt, xs⟩ : Pg)) ++ [(lat, ((1 : Int), (⟨#[]⟩ : ByteArray), (0 : Int)))]).length cap7) 0 nid 1 lv (.slice A2 xs.length c2) hi la rt)
   rw [hlen, hn]; exact HQ.out
  ·rw [hlen, hflat]; exact own_less hO8 (Nat.zero_le _)
  ·intro e; have := HLA.out a ha; have := HQ8.out; omega
  ·rcases hi with rfl | rfl | ⟨a, ha, rfl⟩
   ·have := HWc.out; omega
   ·have := HG.out.1; have := HWc.out; omega
   ·have := (HAc.out a ha).1; have := HWA.out; omega
end

section
open Go.RowKit Go.Deep Plain
set_option linter.unusedVariables false

theorem row_cells {w : World} {base g n cap : Nat} {ss : List Sto} (h : w.ownsRow base 198 4 (.slice (some ⟨g, 0, none⟩) n cap) n (flat4 ss)) : g < w.heap.size ∧ ∀ i u, (flat4 ss)[i]? = some u → w.cell? ⟨g, i, none⟩ = some u :=
 ⟨(h.lt g rfl).2, fun i u hu => by have := h.cells (g := g) rfl i u hu; rw [Addr.add_lit, Nat.zero_add] at this; exact this⟩
theorem pst_same (ad : Nat → Int) (P Q : Pg) : ∀ (i : Nat) (s t : Sto), (pst ad P)[i]? = some s → (pst ad Q)[i]? = some t → s.1 = t.1 := fun i s t h1 h2 => by
 have l1 := (List.getElem?_eq_some_iff.1 h1).1
 have l2 := (List.getElem?_eq_some_iff.1 h2).1
 rw [pst_length] at l1 l2
 rw [pst_at ad P i l1] at h1
 rw [pst_at ad Q i l2] at h2
 cases h1; cases h2; rfl
def wsto (lat : Int) (wb we : Nat) (cs : List Sto) : List Sto := ((lat, ((wb : Int), (⟨#[]⟩ : ByteArray), (0 : Int))) :: cs) ++ [(lat, ((we : Int), (⟨#[]⟩ : ByteArray), (0 : Int)))]
def chgL (fr tg : List Sto) : Nat := (chg fr tg).length + 1

theorem newWrite_any (T S N C R : Int) (F : Nat) (K fa fb fd : Int) (hl : Lim T S N C R (F : Int)) (hd : Reach3 fa fb fd) (hid hw : Nat) (lv2 : Nat) (A2 : Option Addr) (c2 : Nat) (hi2 : ByteArray) (la2 : Bool) (rt2 : Nat) (xs2 : List Sl) (lv : Nat) (A : Option Addr) (c : Nat) (hi : ByteArray) (la : Bool) (rt : Nat) (xs : List Sl) (w : World) (n2 n : Nat) (hn2 : xs2.length = n2) (hn : xs.length = n) (h402 : n2 ≤ 1000) (h40 : n ≤ 1000) (hlv2 : lv2 < 9223372036854775808) (hlv : lv < 9223372036854775808) (hhw : hw < 18446744073709551616) (hR2 : Rs w A2 c2 xs2) (hR : Rs w A c xs) :
  Calls Tryz.prog 109 #[.agg #[.int .i64 T, .int .i64 S, .int .i64 N, .int .i64 C, .int .i64 R, .int .i64 (F : Int), .int .u64 K, .int .i64 fa, .int .i64 fb, .int .i64 fd], .agg #[.int .u64 (hid : Int), .int .u64 (hw : Int), .int .i64 (lv2 : Int), .slice A2 n2 c2, .string hi2, .bool la2, .int .u64 (rt2 : Int)], .agg #[.int .i64 (lv : Int), .slice A n c, .string hi, .bool la, .int .u64 (rt : Int)]] w fun e w' => ∃ (q : Nat) (Z : Nat → Prop), e = .returned (.pointer (some ⟨q, 0, none⟩)) ∧ Stm Z w' q 166 (wsto (nodeAt N (F : Int) fa (hid : Int) 0) (beginW hw) (endW (beginW hw)) (chg (pst (adr N F fa hid) (⟨lv2, hi2, la2, rt2, xs2⟩ : Pg)) (pst (adr N F fa hid) (⟨lv, hi, la, rt, xs⟩ : Pg)))) 0 hid (endW (beginW hw)) (⟨lv, hi, la, rt, xs⟩ : Pg) ∧ (∀ i, Z i → w.heap.size ≤ i) ∧ Kept (fun _ => False) w w' := by
 obtain ⟨lat, hlat⟩ : ∃ x, nodeAt N (F : Int) fa (hid : Int) 0 = x := ⟨_, rfl⟩
 rw [hlat]
 obtain ⟨wb, hwb⟩ : ∃ x, beginW hw = x := ⟨_, rfl⟩
 have hwb1 : wb < 18446744073709551616 := by rw [← hwb]; exact beginW_lt hhw
 obtain ⟨we, hwe⟩ : ∃ x, endW wb = x := ⟨_, rfl⟩
 rw [hwb, hwe]
 have HLAT := Hd hlat
 have HWB := Hd hwb
 have HWE := Hd hwe
 have HRW := Hd hR
 have HRW2 := Hd hR2
 have hL0 : Blk (((w.alloc (.cells #[.int .i64 T, .int .i64 S, .int .i64 N, .int .i64 C, .int .i64 R, .int .i64 (F : Int), .int .u64 K, .int .i64 fa, .int .i64 fb, .int .i64 fd] 28)).alloc (.cells #[.int .u64 (hid : Int), .int .u64 (hw : Int), .int .i64 (lv2 : Int), .slice A2 n2 c2, .string hi2, .bool la2, .int .u64 (rt2 : Int)] 40)).alloc (.cells #[.int .i64 (lv : Int), .slice A n c, .string hi, .bool la, .int .u64 (rt : Int)] 38)) w.heap.size 28 [.int .i64 T, .int .i64 S, .int .i64 N, .int .i64 C, .int .i64 R, .int .i64 (F : Int), .int .u64 K, .int .i64 fa, .int .i64 fb, .int .i64 fd] := ((Blk.new w [.int .i64 T, .int .i64 S, .int .i64 N, .int .i64 C, .int .i64 R, .int .i64 (F : Int), .int .u64 K, .int .i64 fa, .int .i64 fb, .int .i64 fd] 28).alloc _).alloc _
 have hH0 : Blk (((w.alloc (.cells #[.int .i64 T, .int .i64 S, .int .i64 N, .int .i64 C, .int .i64 R, .int .i64 (F : Int), .int .u64 K, .int .i64 fa, .int .i64 fb, .int .i64 fd] 28)).alloc (.cells #[.int .u64 (hid : Int), .int .u64 (hw : Int), .int .i64 (lv2 : Int), .slice A2 n2 c2, .string hi2, .bool la2, .int .u64 (rt2 : Int)] 40)).alloc (.cells #[.int .i64 (lv : Int), .slice A n c, .string hi, .bool la, .int .u64 (rt : Int)] 38)) (w.heap.size + 1) 40 [.int .u64 (hid : Int), .int .u64 (hw : Int), .int .i64 (lv2 : Int), .slice A2 n2 c2, .string hi2, .bool la2, .int .u64 (rt2 : Int)] := by have := (Blk.new (w.alloc (.cells #[.int .i64 T, .int .i64 S, .int .i64 N, .int .i64 C, .int .i64 R, .int .i64 (F : Int), .int .u64 K, .int .i64 fa, .int .i64 fb, .int .i64 fd] 28)) [.int .u64 (hid : Int), .int .u64 (hw : Int), .int .i64 (lv2 : Int), .slice A2 n2 c2, .string hi2, .bool la2, .int .u64 (rt2 : Int)] 40).alloc (.cells #[.int .i64 (lv : Int), .slice A n c, .string hi, .bool la, .int .u64 (rt : Int)] 38); rw [nblk_alloc] at this; exact this
 have hP0 : Blk (((w.alloc (.cells #[.int .i64 T, .int .i64 S, .int .i64 N, .int .i64 C, .int .i64 R, .int .i64 (F : Int), .int .u64 K, .int .i64 fa, .int .i64 fb, .int .i64 fd] 28)).alloc (.cells #[.int .u64 (hid : Int), .int .u64 (hw : Int), .int .i64 (lv2 : Int), .slice A2 n2 c2, .string hi2, .bool la2, .int .u64 (rt2 : Int)] 40)).alloc (.cells #[.int .i64 (lv : Int), .slice A n c, .string hi, .bool la, .int .u64 (rt : Int)] 38)) (w.heap.size + 1 + 1) 38 [.int .i64 (lv : Int), .slice A n c, .string hi, .bool la, .int .u64 (rt : Int)] := by have := Blk.new ((w.alloc (.cells #[.int .i64 T, .int .i64 S, .int .i64 N, .int .i64 C, .int .i64 R, .int .i64 (F : Int), .int .u64 K, .int .i64 fa, .int .i64 fb, .int .i64 fd] 28)).alloc (.cells #[.int .u64 (hid : Int), .int .u64 (hw : Int), .int .i64 (lv2 : Int), .slice A2 n2 c2, .string hi2, .bool la2, .int .u64 (rt2 : Int)] 40)) [.int .i64 (lv : Int), .slice A n c, .string hi, .bool la, .int .u64 (rt : Int)] 38; rw [nblk_alloc, nblk_alloc] at this; exact this
 have HL := Hd hL0
 have HH := Hd hH0
 have HP := Hd hP0
 have HB := Hd ((((Below.refl w.heap.size w).alloc (Nat.le_refl _) (.cells #[.int .i64 T, .int .i64 S, .int .i64 N, .int .i64 C, .int .i64 R, .int .i64 (F : Int), .int .u64 K, .int .i64 fa, .int .i64 fb, .int .i64 fd] 28)).alloc (by rw [nblk_alloc]; omega) (.cells #[.int .u64 (hid : Int), .int .u64 (hw : Int), .int .i64 (lv2 : Int), .slice A2 n2 c2, .string hi2, .bool la2, .int .u64 (rt2 : Int)] 40)).alloc (by rw [nblk_alloc, nblk_alloc]; omega) (.cells #[.int .i64 (lv : Int), .slice A n c, .string hi, .bool la, .int .u64 (rt : Int)] 38))
 clear hL0 hH0 hP0 hR hR2 hlat hwb hwe
 obtain ⟨i0, hi0, hz0, hz1, hz2⟩ := info_parts Tryz.info198
 have HI0 := Hd hi0
 have HI1 := Hd hz0
 have HI2 := Hd hz1
 have HI3 := Hd hz2
 clear hi0 hz0 hz1 hz2
 go_enter Tryz.func109, Tryz.ntmps109
 go_wp2_with fail
 generalize ((w.alloc (.cells #[.int .i64 T, .int .i64 S, .int .i64 N, .int .i64 C, .int .i64 R, .int .i64 (F : Int), .int .u64 K, .int .i64 fa, .int .i64 fb, .int .i64 fd] 28)).alloc (.cells #[.int .u64 (hid : Int), .int .u64 (hw : Int), .int .i64 (lv2 : Int), .slice A2 n2 c2, .string hi2, .bool la2, .int .u64 (rt2 : Int)] 40)).alloc (.cells #[.int .i64 (lv : Int), .slice A n c, .string hi, .bool la, .int .u64 (rt : Int)] 38) = Wa at *
 generalize hb2 : w.heap.size + 1 + 1 = b2 at *
 generalize hb1 : w.heap.size + 1 = b1 at *
 generalize hb0 : w.heap.size = b0 at HL ⊢
 have HBB := Hd (show w.heap.size ≤ b0 ∧ w.heap.size ≤ b1 ∧ w.heap.size ≤ b2 by omega)
 have hne : b0 ≠ b1 ∧ b0 ≠ b2 ∧ b1 ≠ b2 := by omega
 have HNE := Hd hne
 clear hb0 hb1 hb2 hne
 refine (begin_of hw wb hhw HWB.out _).mono ?_; rintro e w1 ⟨rfl, rfl⟩
 have y1 := HH.out.k 1 rfl
 have zy1 := HH.out.frozen 1
 go_upto_region 2 with fail
 clear y1 zy1
 have hk9 := ((Kept.refl (fun i => i = b1) Wa).setCell (a := ⟨b1, 1, none⟩) (fun _ => rfl) (.int .u64 (wb : Int)))
 replace HL := Hd (hk9.blk HL.out HNE.out.1)
 replace HH := Hd (HH.out.set 1 (.int .u64 (wb : Int)))
 replace HP := Hd (hk9.blk HP.out (fun e => HNE.out.2.2 e.symm))
 replace HB := Hd (HB.out.setCell (p := ⟨b1, 1, none⟩) HBB.out.2.1 (.int .u64 (wb : Int)))
 clear hk9
 generalize (Wa.setCell ⟨b1, 1, none⟩ (.int .u64 (wb : Int))) = W1 at *
 obtain ⟨x0, x1, x2, x3, x4, x5, x6, x7, x8, x9⟩ := HL.out.c10
 obtain ⟨y0, y1, y2, y3, y4, y5, y6⟩ := HH.out.c7
 go_wp2_with fail
 refine (latchStore_any T S N C R F K fa fb fd hl hd hid wb lv2 A2 n2 c2 hi2 la2 rt2 lat HLAT.out _).mono ?_; rintro e w2 ⟨rfl, hK9⟩
 clear x0 x1 x2 x3 x4 x5 x6 x7 x8 x9
 clear y0 y1 y2 y3 y4 y5 y6
 have hB9 := hK9.below (Nat.le_refl _) (fun _ h => h.elim)
 replace HL := Hd (HL.out.below hB9 HL.out.lt)
 replace HH := Hd (HH.out.below hB9 HH.out.lt)
 replace HP := Hd (HP.out.below hB9 HP.out.lt)
 replace HB := Hd (HB.out.trans (hB9.mono HB.out.size))
 clear hB9 hK9
 go_upto_region 3 with fail
 have hO := World.ownsRow_lit (base := w.heap.size) (e := 198) (size := 4) w2 #[.int .i64 lat, .int .u64 (wb : Int), .string ⟨#[]⟩, .int .u64 0] 1 HB.out.size (by unfold maxLen; omega) rfl
 have HO := Hd hO
 clear hO
 have hB9 := (Below.refl w2.heap.size w2).alloc (Nat.le_refl _) (.cells #[.int .i64 lat, .int .u64 (wb : Int), .string ⟨#[]⟩, .int .u64 0] 198)
 replace HL := Hd (HL.out.below hB9 HL.out.lt)
 replace HH := Hd (HH.out.below hB9 HH.out.lt)
 replace HP := Hd (HP.out.below hB9 HP.out.lt)
 replace HB := Hd (HB.out.trans (hB9.mono HB.out.size))
 clear hB9
 generalize w2.alloc (.cells #[.int .i64 lat, .int .u64 (wb : Int), .string ⟨#[]⟩, .int .u64 0] 198) = W3 at *
 generalize w2.heap.size = g0 at *
 have hB9 := (Below.refl W3.heap.size W3).drew
 replace HL := Hd (HL.out.below hB9 HL.out.lt)
 replace HH := Hd (HH.out.below hB9 HH.out.lt)
 replace HP := Hd (HP.out.below hB9 HP.out.lt)
 replace HO := Hd (own_below HO.out hB9 (Nat.le_refl _))
 replace HB := Hd (HB.out.trans (hB9.mono HB.out.size))
 clear hB9
 have HLEN := Hd (show (chg (pst (adr N F fa hid) (⟨lv2, hi2, la2, rt2, xs2⟩ : Pg)) (pst (adr N F fa hid) (⟨lv, hi, la, rt, xs⟩ : Pg))).length ≤ n + 3 by have := chg_length (pst (adr N F fa hid) (⟨lv2, hi2, la2, rt2, xs2⟩ : Pg)) (pst (adr N F fa hid) (⟨lv, hi, la, rt, xs⟩ : Pg)); rw [pst_length] at this; have hx : (⟨lv, hi, la, rt, xs⟩ : Pg).xs.length = n := hn; omega)
 refine wp_region_held_drew (S := (fun w' => Blk w' b0 28 [.int .i64 T, .int .i64 S, .int .i64 N, .int .i64 C, .int .i64 R, .int .i64 (F : Int), .int .u64 K, .int .i64 fa, .int .i64 fb, .int .i64 fd] ∧ Blk w' b1 40 [.int .u64 (hid : Int), .int .u64 (wb : Int), .int .i64 (lv2 : Int), .slice A2 n2 c2, .string hi2, .bool la2, .int .u64 (rt2 : Int)] ∧ Blk w' b2 38 [.int .i64 (lv : Int), .slice A n c, .string hi, .bool la, .int .u64 (rt : Int)])) (by kernel_rfl) ?_ (fun hHeld => ?_)
 ·exact ⟨HL.out, HH.out, HP.out⟩
 generalize W3.drew = G at *
 refine tkH 0 16 ?_ rfl ?_ hHeld ?_
 rotate_left
 ·(intro wq hSw; go_simp; try with_reducible rfl)
 try simp only [aP,aA,aZ,aS]
 refine tkH 1 17 ?_ rfl ?_ hHeld ?_
 rotate_left
 ·(intro wq hSw; have hb9 := hSw.1; have hc9 := hSw.2.1; have hd9 := hSw.2.2; obtain ⟨x0, x1, x2, x3, x4, x5, x6, x7, x8, x9⟩ := hb9.c10; obtain ⟨y0, y1, y2, y3, y4, y5, y6⟩ := hc9.c7; obtain ⟨v0, v1, v2, v3, v4⟩ := hd9.c5; clear hb9 hc9 hd9; go_simp; try with_reducible rfl)
 try simp only [aP,aA,aZ,aS]
 refine tkH 2 18 ?_ rfl ?_ hHeld ?_
 rotate_left
 ·(intro wq hSw; go_simp; try with_reducible rfl)
 try simp only [aP,aA,aZ,aS]
 refine tkH 3 19 ?_ rfl ?_ hHeld ?_
 rotate_left
 ·(intro wq hSw; have hb9 := hSw.1; have hc9 := hSw.2.1; have hd9 := hSw.2.2; obtain ⟨x0, x1, x2, x3, x4, x5, x6, x7, x8, x9⟩ := hb9.c10; obtain ⟨y0, y1, y2, y3, y4, y5, y6⟩ := hc9.c7; obtain ⟨v0, v1, v2, v3, v4⟩ := hd9.c5; clear hb9 hc9 hd9; go_simp; try with_reducible rfl)
 try simp only [aP,aA,aZ,aS]
 refine tkH 4 20 ?_ rfl ?_ hHeld ?_
 rotate_left
 ·(intro wq hSw; go_simp; try with_reducible rfl)
 try simp only [aP,aA,aZ,aS]
 refine tkH 5 21 ?_ rfl ?_ hHeld ?_
 rotate_left
 ·(intro wq hSw; have hb9 := hSw.1; have hc9 := hSw.2.1; have hd9 := hSw.2.2; obtain ⟨x0, x1, x2, x3, x4, x5, x6, x7, x8, x9⟩ := hb9.c10; obtain ⟨y0, y1, y2, y3, y4, y5, y6⟩ := hc9.c7; obtain ⟨v0, v1, v2, v3, v4⟩ := hd9.c5; clear hb9 hc9 hd9; go_simp; try with_reducible rfl)
 try simp only [aP,aA,aZ,aS]
 refine tkH 7 23 ?_ rfl ?_ hHeld ?_
 rotate_left
 ·(intro wq hSw; have hb9 := hSw.1; have hc9 := hSw.2.1; have hd9 := hSw.2.2; obtain ⟨x0, x1, x2, x3, x4, x5, x6, x7, x8, x9⟩ := hb9.c10; obtain ⟨y0, y1, y2, y3, y4, y5, y6⟩ := hc9.c7; obtain ⟨v0, v1, v2, v3, v4⟩ := hd9.c5; clear hb9 hc9 hd9; go_simp; try with_reducible rfl)
 try simp only [aP,aA,aZ,aS]
 refine tkH 8 24 ?_ rfl ?_ hHeld ?_
 rotate_left
 ·(intro wq hSw; go_simp; try with_reducible rfl)
 try simp only [aP,aA,aZ,aS]
 refine tkH 9 25 ?_ rfl ?_ hHeld ?_
 rotate_left
 ·(intro wq hSw; have hb9 := hSw.1; have hc9 := hSw.2.1; have hd9 := hSw.2.2; obtain ⟨x0, x1, x2, x3, x4, x5, x6, x7, x8, x9⟩ := hb9.c10; obtain ⟨y0, y1, y2, y3, y4, y5, y6⟩ := hc9.c7; obtain ⟨v0, v1, v2, v3, v4⟩ := hd9.c5; clear hb9 hc9 hd9; go_simp; try with_reducible rfl)
 try simp only [aP,aA,aZ,aS]
 refine tkH 10 26 ?_ rfl ?_ hHeld ?_
 rotate_left
 ·(intro wq hSw; have hb9 := hSw.1; have hc9 := hSw.2.1; have hd9 := hSw.2.2; obtain ⟨x0, x1, x2, x3, x4, x5, x6, x7, x8, x9⟩ := hb9.c10; obtain ⟨y0, y1, y2, y3, y4, y5, y6⟩ := hc9.c7; obtain ⟨v0, v1, v2, v3, v4⟩ := hd9.c5; clear hb9 hc9 hd9; go_simp; try with_reducible rfl)
 try simp only [aP,aA,aZ,aS]
 refine wpAnyH_ready (rs := [6]) (by kernel_rfl) (by simp) ?_
 refine AllReadyH.cons (o := ⟨some 22, _, _, _, _, _⟩) rfl (fun KK hK => ?_) AllReadyH.nil
 go_simp
 go_at_call 156
 refine (pageStores_any T S N C R F K fa fb fd hl hd hid lv2 A2 c2 hi2 la2 rt2 xs2 _ n2 hn2 (by omega) hlv2 (HRW2.out.below HB.out (Nat.le_refl _))).mono ?_; rintro e w4 ⟨g1, cap1, rfl, hO9, hB9⟩
 replace HL := Hd (HL.out.below hB9 HL.out.lt)
 replace HH := Hd (HH.out.below hB9 HH.out.lt)
 replace HP := Hd (HP.out.below hB9 HP.out.lt)
 replace HO := Hd (own_below HO.out hB9 (Nat.le_refl _))
 replace HB := Hd (HB.out.trans (hB9.mono HB.out.size))
 have HO1 := Hd hO9
 clear hO9 hB9
 refine hK.out _ _ ?_ (fun hHeld2 => ?_)
 ·exact ⟨HL.out, HH.out, HP.out⟩
 clear hK KK hHeld
 have hHeld := hHeld2
 clear hHeld2
 try simp only [aP,aA,aZ,aS]
 refine wpAnyH_ready (rs := [11]) (by kernel_rfl) (by simp) ?_
 refine AllReadyH.cons (o := ⟨some 27, _, _, _, _, _⟩) rfl (fun KK hK => ?_) AllReadyH.nil
 go_simp
 go_at_call 156
 refine (pageStores_any T S N C R F K fa fb fd hl hd hid lv A c hi la rt xs _ n hn (by omega) hlv (HRW.out.below HB.out (Nat.le_refl _))).mono ?_; rintro e w5 ⟨g2, cap2, rfl, hO9, hB9⟩
 replace HL := Hd (HL.out.below hB9 HL.out.lt)
 replace HH := Hd (HH.out.below hB9 HH.out.lt)
 replace HP := Hd (HP.out.below hB9 HP.out.lt)
 replace HO := Hd (own_below HO.out hB9 (Nat.le_refl _))
 replace HO1 := Hd (own_below HO1.out hB9 (Nat.le_refl _))
 replace HB := Hd (HB.out.trans (hB9.mono HB.out.size))
 have HO2 := Hd hO9
 clear hO9 hB9
 refine hK.out _ _ ?_ (fun hHeld2 => ?_)
 ·exact ⟨HL.out, HH.out, HP.out⟩
 clear hK KK hHeld
 have hHeld := hHeld2
 clear hHeld2
 try simp only [aP,aA,aZ,aS]
 refine wpAnyH_ready (rs := [12]) (by kernel_rfl) (by simp) ?_
 refine AllReadyH.cons (o := ⟨some 28, _, _, _, _, _⟩) rfl (fun KK hK => ?_) AllReadyH.nil
 go_simp
 go_at_call 155
 refine (changes_any (pst (adr N F fa hid) (⟨lv2, hi2, la2, rt2, xs2⟩ : Pg)) (pst (adr N F fa hid) (⟨lv, hi, la, rt, xs⟩ : Pg)) g1 g2 cap1 cap2 (3 + n2) (3 + n) _ (by rw [pst_length]; show xs2.length + 3 = _; omega) (by rw [pst_length]; show xs.length + 3 = _; omega) (by omega) (by omega) (row_cells HO1.out) (row_cells HO2.out) (pst_same _ _ _)).mono ?_; rintro e w6 ⟨v6, rfl, hO9, hB9⟩
 replace HL := Hd (HL.out.below hB9 HL.out.lt)
 replace HH := Hd (HH.out.below hB9 HH.out.lt)
 replace HP := Hd (HP.out.below hB9 HP.out.lt)
 replace HO := Hd (own_below HO.out hB9 (Nat.le_refl _))
 replace HB := Hd (HB.out.trans (hB9.mono HB.out.size))
 have HO6 := Hd hO9
 clear hO9 hB9 HO1 HO2
 refine hK.out _ _ ?_ (fun hHeld2 => ?_)
 ·exact ⟨HL.out, HH.out, HP.out⟩
 clear hK KK hHeld
 have hHeld := hHeld2
 clear hHeld2
 try simp only [aP,aA,aZ,aS]
 refine wpAnyH_ready (rs := [13]) (by kernel_rfl) (by simp) ?_
 refine AllReadyH.cons (o := ⟨some 29, _, _, _, _, _⟩) rfl (fun KK hK => ?_) AllReadyH.nil
 refine step_append_any _ (by rfl) (.tmp 16) (.tmp 28) 161 (by rfl) w.heap.size 198 i0 _ 4 40 Tryz.underlying161 HI0.out HI1.out HI2.out HI3.out rfl (by decide) _ 1 _ (by rfl) HO.out _ v6 (chg (pst (adr N F fa hid) (⟨lv2, hi2, la2, rt2, xs2⟩ : Pg)) (pst (adr N F fa hid) (⟨lv, hi, la, rt, xs⟩ : Pg))).length _ (by rfl) HO6.out (flat4_one _) (by have := HLEN.out; unfold maxLen; omega) (by have := HLEN.out; omega) HB.out.size ?_
 intro v7 w7 hown7 hgrow7
 have hbel := (Below.refl w.heap.size w6).grown hgrow7 HB.out.size (fun k hk => (World.ownsRow.lt HO.out k hk).1)
 have hl7 := own_far HO.out HL.out (by decide)
 have hh7 := own_far HO.out HH.out (by decide)
 have hp7 := own_far HO.out HP.out (by decide)
 replace HL := Hd (HL.out.of (hgrow7.block _ HL.out.lt (fun e => hl7 e.symm)))
 replace HH := Hd (HH.out.of (hgrow7.block _ HH.out.lt (fun e => hh7 e.symm)))
 replace HP := Hd (HP.out.of (hgrow7.block _ HP.out.lt (fun e => hp7 e.symm)))
 replace HB := Hd (HB.out.trans hbel)
 replace HO := Hd (show w7.ownsRow w.heap.size 198 4 v7 (chgL (pst (adr N F fa hid) (⟨lv2, hi2, la2, rt2, xs2⟩ : Pg)) (pst (adr N F fa hid) (⟨lv, hi, la, rt, xs⟩ : Pg))) (flat4 ((lat, ((wb : Int), (⟨#[]⟩ : ByteArray), (0 : Int))) :: chg (pst (adr N F fa hid) (⟨lv2, hi2, la2, rt2, xs2⟩ : Pg)) (pst (adr N F fa hid) (⟨lv, hi, la, rt, xs⟩ : Pg)))) by have h9 := hown7; rw [Nat.add_comm] at h9; exact h9)
 clear hown7 hgrow7 hbel hl7 hh7 hp7 HO6
 refine hK.out _ _ ?_ (fun hHeld2 => ?_)
 ·exact ⟨HL.out, HH.out, HP.out⟩
 clear hK KK hHeld
 have hHeld := hHeld2
 clear hHeld2
 try simp only [aP,aA,aZ,aS]
 refine tkH 14 7 ?_ rfl ?_ hHeld ?_
 rotate_left
 ·(intro wq hSw; go_simp; try with_reducible rfl)
 try simp only [aP,aA,aZ,aS]
 refine wpAnyH_done (by kernel_rfl) ?_ _
 clear hHeld
 have y1 := HH.out.k 1 rfl
 have zy1 := HH.out.frozen 1
 go_wp2_with fail
 refine (end_of wb we hwb1 HWE.out _).mono ?_; rintro e w8 ⟨rfl, rfl⟩
 go_upto_region 5 with fail
 clear y1 zy1
 have hk9 := ((Kept.refl (fun i => i = b1) w7).setCell (a := ⟨b1, 1, none⟩) (fun _ => rfl) (.int .u64 (we : Int)))
 replace HO := Hd (own_kept HO.out hk9 (fun i hi e => own_far HO.out HH.out (by decide) (by rw [hi, e])))
 replace HL := Hd (hk9.blk HL.out HNE.out.1)
 replace HH := Hd (HH.out.set 1 (.int .u64 (we : Int)))
 replace HP := Hd (hk9.blk HP.out (fun e => HNE.out.2.2 e.symm))
 replace HB := Hd (HB.out.setCell (p := ⟨b1, 1, none⟩) HBB.out.2.1 (.int .u64 (we : Int)))
 clear hk9
 generalize (w7.setCell ⟨b1, 1, none⟩ (.int .u64 (we : Int))) = W8 at *
 obtain ⟨v0, v1, v2, v3, v4⟩ := HP.out.c5
 go_wp2_with fail
 refine (copied_any lv A c hi la rt xs _ n hn (by omega) (HRW.out.below HB.out (Nat.le_refl _))).mono ?_; rintro e w9 ⟨A5, c5, rfl, hO9, hB9⟩
 clear v0 v1 v2 v3 v4
 have hsz9 : w.heap.size ≤ W8.heap.size := HB.out.size
 have HOW := HO
 have HBX := Hd (show b1 < W8.heap.size from HH.out.lt)
 replace HL := Hd (HL.out.below hB9 HL.out.lt)
 replace HH := Hd (HH.out.below hB9 HH.out.lt)
 replace HP := Hd (HP.out.below hB9 HP.out.lt)
 replace HO := Hd (own_below HO.out hB9 (Nat.le_refl _))
 replace HB := Hd (HB.out.trans (hB9.mono HB.out.size))
 obtain ⟨A9, c9, e9, _, hR9, hA9⟩ := Rs.own hO9
 cases e9
 have HR5 := Hd hR9
 have HAT := Hd (show ∀ a, A5 = some a → ¬ (v7.ownBlock = some a.block) from fun a ha e => by have h1 := hA9 a ha; have h2 := (HOW.out.lt _ e).2; omega)
 have HA5 := Hd (show ∀ a, A5 = some a → w.heap.size ≤ a.block ∧ a.block ≠ b1 ∧ a.block < w9.heap.size from fun a ha => ⟨Nat.le_trans hsz9 (hA9 a ha), by have := hA9 a ha; have := HBX.out; omega, (hO9.lt a.block (by subst ha; rfl)).2⟩)
 clear hO9 hB9 hR9 hA9 hsz9 HBX HOW
 have y2 := HH.out.k 2 rfl
 have zy2 := HH.out.frozen 2
 have y3 := HH.out.k 3 rfl
 have zy3 := HH.out.frozen 3
 have y4 := HH.out.k 4 rfl
 have zy4 := HH.out.frozen 4
 have y5 := HH.out.k 5 rfl
 have zy5 := HH.out.frozen 5
 have y6 := HH.out.k 6 rfl
 have zy6 := HH.out.frozen 6
 go_upto_region 6 with fail
 clear y2 zy2 y3 zy3 y4 zy4 y5 zy5 y6 zy6
 replace HR5 := Hd (HR5.out.keptF ((((((Kept.refl (fun i => i = b1) w9).setCell (a := ⟨b1, 2, none⟩) (fun _ => rfl) (.int .i64 (lv : Int))).setCell (a := ⟨b1, 3, none⟩) (fun _ => rfl) (.slice A5 n c5)).setCell (a := ⟨b1, 4, none⟩) (fun _ => rfl) (.string hi)).setCell (a := ⟨b1, 5, none⟩) (fun _ => rfl) (.bool la)).setCell (a := ⟨b1, 6, none⟩) (fun _ => rfl) (.int .u64 (rt : Int))) (fun a ha e => (HA5.out a ha).2.1 e))
 replace HA5 := Hd (fun (a : Addr) (ha : A5 = some a) => (⟨(HA5.out a ha).1, Nat.lt_of_lt_of_le (HA5.out a ha).2.2 ((((((Kept.refl (fun i => i = b1) w9).setCell (a := ⟨b1, 2, none⟩) (fun _ => rfl) (.int .i64 (lv : Int))).setCell (a := ⟨b1, 3, none⟩) (fun _ => rfl) (.slice A5 n c5)).setCell (a := ⟨b1, 4, none⟩) (fun _ => rfl) (.string hi)).setCell (a := ⟨b1, 5, none⟩) (fun _ => rfl) (.bool la)).setCell (a := ⟨b1, 6, none⟩) (fun _ => rfl) (.int .u64 (rt : Int))).size⟩ : w.heap.size ≤ a.block ∧ a.block < _))
 have hk9 := ((((((Kept.refl (fun i => i = b1) w9).setCell (a := ⟨b1, 2, none⟩) (fun _ => rfl) (.int .i64 (lv : Int))).setCell (a := ⟨b1, 3, none⟩) (fun _ => rfl) (.slice A5 n c5)).setCell (a := ⟨b1, 4, none⟩) (fun _ => rfl) (.string hi)).setCell (a := ⟨b1, 5, none⟩) (fun _ => rfl) (.bool la)).setCell (a := ⟨b1, 6, none⟩) (fun _ => rfl) (.int .u64 (rt : Int)))
 replace HO := Hd (own_kept HO.out hk9 (fun i hi e => own_far HO.out HH.out (by decide) (by rw [hi, e])))
 replace HL := Hd (hk9.blk HL.out HNE.out.1)
 replace HH := Hd (((((HH.out.set 2 (.int .i64 (lv : Int))).set 3 (.slice A5 n c5)).set 4 (.string hi)).set 5 (.bool la)).set 6 (.int .u64 (rt : Int)))
 replace HP := Hd (hk9.blk HP.out (fun e => HNE.out.2.2 e.symm))
 replace HB := Hd (((((HB.out.setCell (p := ⟨b1, 2, none⟩) HBB.out.2.1 (.int .i64 (lv : Int))).setCell (p := ⟨b1, 3, none⟩) HBB.out.2.1 (.slice A5 n c5)).setCell (p := ⟨b1, 4, none⟩) HBB.out.2.1 (.string hi)).setCell (p := ⟨b1, 5, none⟩) HBB.out.2.1 (.bool la)).setCell (p := ⟨b1, 6, none⟩) HBB.out.2.1 (.int .u64 (rt : Int)))
 clear hk9
 generalize (((((w9.setCell ⟨b1, 2, none⟩ (.int .i64 (lv : Int))).setCell ⟨b1, 3, none⟩ (.slice A5 n c5)).setCell ⟨b1, 4, none⟩ (.string hi)).setCell ⟨b1, 5, none⟩ (.bool la)).setCell ⟨b1, 6, none⟩ (.int .u64 (rt : Int))) = Wc at *
 have HRc := HR5
 have HAc := HA5
 clear HR5 HA5
 have HWc := Hd (show w.heap.size ≤ Wc.heap.size from HB.out.size)
 have HBc := HB
 clear HB HP
 have HHc := HH
 have HLc := HL
 clear HH HL
 have LB := Hd (show b0 < Wc.heap.size ∧ b1 < Wc.heap.size from ⟨HLc.out.lt, HHc.out.lt⟩)
 have HAV := Hd (show ∀ a, A5 = some a → ¬ (v7.ownBlock = some a.block) from fun a ha => HAT.out a ha)
 refine wp_region_held_drew (S := (fun w' => Blk w' b0 28 [.int .i64 T, .int .i64 S, .int .i64 N, .int .i64 C, .int .i64 R, .int .i64 (F : Int), .int .u64 K, .int .i64 fa, .int .i64 fb, .int .i64 fd] ∧ Blk w' b1 40 [.int .u64 (hid : Int), .int .u64 (we : Int), .int .i64 (lv : Int), .slice A5 n c5, .string hi, .bool la, .int .u64 (rt : Int)])) (by kernel_rfl) ?_ (fun hHeld => ?_)
 ·exact ⟨HLc.out.of rfl, HHc.out.of rfl⟩
 have hB9 := (Below.refl Wc.heap.size Wc).drew
 have HL6 := Hd (HLc.out.below hB9 HLc.out.lt)
 have HH6 := Hd (HHc.out.below hB9 HHc.out.lt)
 have HR6 := Hd (HRc.out.below hB9 (Nat.le_refl _))
 have HB6 := Hd (HBc.out.trans (hB9.mono HBc.out.size))
 have HS6 := Hd (show Wc.heap.size ≤ Wc.drew.heap.size from hB9.size)
 replace HO := Hd (own_below HO.out hB9 (Nat.le_refl _))
 clear hB9 HLc HHc HRc HBc
 generalize Wc.drew = G at *
 refine tkH 0 37 ?_ rfl ?_ hHeld ?_
 rotate_left
 ·(intro wq hSw; go_simp; try with_reducible rfl)
 try simp only [aP,aA,aZ,aS]
 refine tkH 1 38 ?_ rfl ?_ hHeld ?_
 rotate_left
 ·(intro wq hSw; have hb9 := hSw.1; have hc9 := hSw.2; obtain ⟨x0, x1, x2, x3, x4, x5, x6, x7, x8, x9⟩ := hb9.c10; obtain ⟨y0, y1, y2, y3, y4, y5, y6⟩ := hc9.c7; clear hb9 hc9; go_simp; try with_reducible rfl)
 try simp only [aP,aA,aZ,aS]
 refine tkH 2 39 ?_ rfl ?_ hHeld ?_
 rotate_left
 ·(intro wq hSw; have hb9 := hSw.1; have hc9 := hSw.2; obtain ⟨x0, x1, x2, x3, x4, x5, x6, x7, x8, x9⟩ := hb9.c10; obtain ⟨y0, y1, y2, y3, y4, y5, y6⟩ := hc9.c7; clear hb9 hc9; go_simp; try with_reducible rfl)
 try simp only [aP,aA,aZ,aS]
 refine tkH 6 43 ?_ rfl ?_ hHeld ?_
 rotate_left
 ·(intro wq hSw; have hb9 := hSw.1; have hc9 := hSw.2; obtain ⟨x0, x1, x2, x3, x4, x5, x6, x7, x8, x9⟩ := hb9.c10; obtain ⟨y0, y1, y2, y3, y4, y5, y6⟩ := hc9.c7; clear hb9 hc9; go_simp; try with_reducible rfl)
 try simp only [aP,aA,aZ,aS]
 refine wpAnyH_ready (rs := [3]) (by kernel_rfl) (by simp) ?_
 refine AllReadyH.cons (o := ⟨some 40, _, _, _, _, _⟩) rfl (fun KK hK => ?_) AllReadyH.nil
 go_simp
 go_at_call 154
 refine (latchStore_any T S N C R F K fa fb fd hl hd hid we lv A5 n c5 hi la rt lat HLAT.out _).mono ?_; rintro e w4 ⟨rfl, hK4⟩
 have hB4 := hK4.below (Nat.le_refl _) (fun _ h => h.elim)
 replace HL6 := Hd (HL6.out.below hB4 HL6.out.lt)
 replace HH6 := Hd (HH6.out.below hB4 HH6.out.lt)
 replace HO := Hd (own_below HO.out hB4 (Nat.le_refl _))
 replace HR6 := Hd (HR6.out.below hB4 (Nat.le_refl _))
 replace HS6 := Hd (Nat.le_trans HS6.out hB4.size)
 replace HB6 := Hd (HB6.out.trans (hB4.mono HB6.out.size))
 clear hK4 hB4
 refine hK.out _ _ ?_ (fun hHeld2 => ?_)
 ·exact ⟨HL6.out, HH6.out⟩
 clear hK KK hHeld
 have hHeld := hHeld2
 clear hHeld2
 try simp only [aP,aA,aZ,aS]
 refine wpAnyH_ready (rs := [4]) (by kernel_rfl) (by simp) ?_
 refine AllReadyH.cons (o := ⟨some 41, _, _, _, _, _⟩) rfl (fun KK hK => ?_) AllReadyH.nil
 go_simp
 have HNb := Hd (show (w4.alloc (.cells #[.int .i64 lat, .int .u64 (we : Int), .string ⟨#[]⟩, .int .u64 0] 198)).heap[w4.heap.size]? = some (.cells #[.int .i64 lat, .int .u64 (we : Int), .string ⟨#[]⟩, .int .u64 0] 198 (0, 0)) from Blk.new w4 [.int .i64 lat, .int .u64 (we : Int), .string ⟨#[]⟩, .int .u64 0] 198)
 have hbl := (Below.refl w4.heap.size w4).alloc (Nat.le_refl _) (.cells #[.int .i64 lat, .int .u64 (we : Int), .string ⟨#[]⟩, .int .u64 0] 198)
 replace HL6 := Hd (HL6.out.below hbl HL6.out.lt)
 replace HH6 := Hd (HH6.out.below hbl HH6.out.lt)
 replace HO := Hd (own_below HO.out hbl (Nat.le_refl _))
 replace HR6 := Hd (HR6.out.below hbl (Nat.le_refl _))
 replace HS6 := Hd (Nat.le_trans HS6.out hbl.size)
 replace HB6 := Hd (HB6.out.trans (hbl.mono HB6.out.size))
 clear hbl
 generalize w4.alloc (.cells #[.int .i64 lat, .int .u64 (we : Int), .string ⟨#[]⟩, .int .u64 0] 198) = V6 at *
 refine hK.out _ _ ?_ (fun hHeld2 => ?_)
 ·exact ⟨HL6.out, HH6.out⟩
 clear hK KK hHeld
 have hHeld := hHeld2
 clear hHeld2
 try simp only [aP,aA,aZ,aS]
 refine wpAnyH_ready (rs := [5]) (by kernel_rfl) (by simp) ?_
 refine AllReadyH.cons (o := ⟨some 42, _, _, _, _, _⟩) rfl (fun KK hK => ?_) AllReadyH.nil
 refine step_append_lies _ (by rfl) (.tmp 37) (.tmp 41) 161 (by rfl) w.heap.size 198 i0 _ 4 40 Tryz.underlying161 HI0.out HI1.out HI2.out HI3.out rfl (by decide) _ (chgL (pst (adr N F fa hid) (⟨lv2, hi2, la2, rt2, xs2⟩ : Pg)) (pst (adr N F fa hid) (⟨lv, hi, la, rt, xs⟩ : Pg))) _ (by rfl) HO.out ⟨w4.heap.size, 0, none⟩ 1 1 [.int .i64 lat, .int .u64 (we : Int), .string ⟨#[]⟩, .int .u64 0] (by rfl) (by rfl) (World.news_of_block HNb.out) (one_sto _ _ _ _) (by omega) (by have := HLEN.out; unfold chgL maxLen; omega) (by have := HLEN.out; unfold chgL; omega) HB6.out.size _ rfl ?_
 intro g7 cap7 w7 hown7 hgrow7 hat7 hlt7
 have hbel := (Below.refl w.heap.size V6).grown hgrow7 HB6.out.size (fun k hk => (World.ownsRow.lt HO.out k hk).1)
 have hl7 := own_far HO.out HL6.out (by decide)
 have hh7 := own_far HO.out HH6.out (by decide)
 replace HL6 := Hd (HL6.out.of (hgrow7.block _ HL6.out.lt (fun e => hl7 e.symm)))
 replace HH6 := Hd (HH6.out.of (hgrow7.block _ HH6.out.lt (fun e => hh7 e.symm)))
 replace HR6 := Hd (HR6.out.keptF ((Kept.refl (fun i => v7.ownBlock = some i) V6).grown hgrow7 (fun k hk _ => hk)) (fun a ha => HAV.out a ha))
 replace HS6 := Hd (Nat.le_trans HS6.out hgrow7.size)
 replace HB6 := Hd (HB6.out.trans hbel)
 replace HO := Hd hown7
 have HG := Hd (show w.heap.size ≤ g7 ∧ g7 < w7.heap.size from hown7.lt g7 rfl)
 clear hown7 hgrow7 hat7 hlt7 HNb hbel hl7 hh7
 refine hK.out _ _ ?_ (fun hHeld2 => ?_)
 ·exact ⟨HL6.out, HH6.out⟩
 clear hK KK hHeld
 have hHeld := hHeld2
 clear hHeld2
 try simp only [aP,aA,aZ,aS]
 refine tkH 7 44 ?_ rfl ?_ hHeld ?_
 rotate_left
 ·(intro wq hSw; go_simp; try with_reducible rfl)
 try simp only [aP,aA,aZ,aS]
 refine tkH 8 45 ?_ rfl ?_ hHeld ?_
 rotate_left
 ·(intro wq hSw; go_simp; try with_reducible rfl)
 try simp only [aP,aA,aZ,aS]
 refine wpAnyH_ready (rs := [9]) (by kernel_rfl) (by simp) ?_
 refine AllReadyH.cons (o := ⟨some 46, _, _, _, _, _⟩) rfl (fun KK hK => ?_) AllReadyH.nil
 go_simp
 have HSQ := Hd (show Wc.heap.size ≤ w7.heap.size from HS6.out)
 have HQ := Hd (Blk.new w7 [.slice (some ⟨g7, 0, none⟩) (chgL (pst (adr N F fa hid) (⟨lv2, hi2, la2, rt2, xs2⟩ : Pg)) (pst (adr N F fa hid) (⟨lv, hi, la, rt, xs⟩ : Pg)) + 1) cap7, .int .i64 0, .int .u64 (hid : Int), .int .u64 (we : Int), .int .i64 (lv : Int), .slice A5 n c5, .string hi, .bool la, .int .u64 (rt : Int)] 166)
 have hbl := (Below.refl w7.heap.size w7).alloc (Nat.le_refl _) (.cells #[.slice (some ⟨g7, 0, none⟩) (chgL (pst (adr N F fa hid) (⟨lv2, hi2, la2, rt2, xs2⟩ : Pg)) (pst (adr N F fa hid) (⟨lv, hi, la, rt, xs⟩ : Pg)) + 1) cap7, .int .i64 0, .int .u64 (hid : Int), .int .u64 (we : Int), .int .i64 (lv : Int), .slice A5 n c5, .string hi, .bool la, .int .u64 (rt : Int)] 166)
 replace HL6 := Hd (HL6.out.below hbl HL6.out.lt)
 replace HH6 := Hd (HH6.out.below hbl HH6.out.lt)
 replace HO := Hd (own_below HO.out hbl (Nat.le_refl _))
 replace HR6 := Hd (HR6.out.below hbl (Nat.le_refl _))
 replace HS6 := Hd (Nat.le_trans HS6.out hbl.size)
 replace HB6 := Hd (HB6.out.trans (hbl.mono HB6.out.size))
 clear hbl
 have HK8 := Hd (show w7.heap.size ≤ (w7.alloc (.cells #[.slice (some ⟨g7, 0, none⟩) (chgL (pst (adr N F fa hid) (⟨lv2, hi2, la2, rt2, xs2⟩ : Pg)) (pst (adr N F fa hid) (⟨lv, hi, la, rt, xs⟩ : Pg)) + 1) cap7, .int .i64 0, .int .u64 (hid : Int), .int .u64 (we : Int), .int .i64 (lv : Int), .slice A5 n c5, .string hi, .bool la, .int .u64 (rt : Int)] 166)).heap.size by rw [nblk_alloc]; omega)
 generalize w7.alloc (.cells #[.slice (some ⟨g7, 0, none⟩) (chgL (pst (adr N F fa hid) (⟨lv2, hi2, la2, rt2, xs2⟩ : Pg)) (pst (adr N F fa hid) (⟨lv, hi, la, rt, xs⟩ : Pg)) + 1) cap7, .int .i64 0, .int .u64 (hid : Int), .int .u64 (we : Int), .int .i64 (lv : Int), .slice A5 n c5, .string hi, .bool la, .int .u64 (rt : Int)] 166) = W9 at *
 generalize hq8 : w7.heap.size = q at *
 have HQ8 := Hd (show q = w7.heap.size from hq8.symm)
 clear hq8
 refine hK.out _ _ ?_ (fun hHeld2 => ?_)
 ·exact ⟨HL6.out, HH6.out⟩
 clear hK KK hHeld
 have hHeld := hHeld2
 clear hHeld2
 try simp only [aP,aA,aZ,aS]
 refine tkH 10 6 ?_ rfl ?_ hHeld ?_
 rotate_left
 ·(intro wq hSw; go_simp; try with_reducible rfl)
 try simp only [aP,aA,aZ,aS]
 refine wpAnyH_done (by kernel_rfl) ?_ _
 clear hHeld
 go_wp2
 go_ret
 have hlen : (wsto lat wb we (chg (pst (adr N F fa hid) (⟨lv2, hi2, la2, rt2, xs2⟩ : Pg)) (pst (adr N F fa hid) (⟨lv, hi, la, rt, xs⟩ : Pg)))).length = chgL (pst (adr N F fa hid) (⟨lv2, hi2, la2, rt2, xs2⟩ : Pg)) (pst (adr N F fa hid) (⟨lv, hi, la, rt, xs⟩ : Pg)) + 1 := by unfold chgL wsto; rw [List.length_append]; rfl
 have hflat : flat4 (wsto lat wb we (chg (pst (adr N F fa hid) (⟨lv2, hi2, la2, rt2, xs2⟩ : Pg)) (pst (adr N F fa hid) (⟨lv, hi, la, rt, xs⟩ : Pg)))) = flat4 ((lat, ((wb : Int), (⟨#[]⟩ : ByteArray), (0 : Int))) :: chg (pst (adr N F fa hid) (⟨lv2, hi2, la2, rt2, xs2⟩ : Pg)) (pst (adr N F fa hid) (⟨lv, hi, la, rt, xs⟩ : Pg))) ++ [.int .i64 lat, .int .u64 (we : Int), .string ⟨#[]⟩, .int .u64 0] := by unfold wsto; rw [flat4_append]; rfl
 refine ⟨q, fun i => i = q ∨ i = g7 ∨ ∃ a, A5 = some a ∧ a.block = i, rfl, ⟨fun i hi => ?_, .inl rfl, g7, cap7, A5, c5, ?_, ?_, .inr (.inl rfl), HR6.out, fun a ha => ⟨.inr (.inr ⟨a, ha, rfl⟩), ?_⟩⟩, fun i hi => ?_, HB6.out.kept0⟩
 ·rcases hi with rfl | rfl | ⟨a, ha, rfl⟩
  ·exact HQ.out.lt
  ·have := HG.out.2; have := HK8.out; have := HQ8.out; omega
  ·have := (HAc.out a ha).2; have := HS6.out; omega
 ·show Blk W9 q 166 (stv (.slice (some ⟨g7, 0, none⟩) (wsto lat wb we (chg (pst (adr N F fa hid) (⟨lv2, hi2, la2, rt2, xs2⟩ : Pg)) (pst (adr N F fa hid) (⟨lv, hi, la, rt, xs⟩ : Pg)))).length cap7) 0 hid we lv (.slice A5 xs.length c5) hi la rt)
  rw [hlen, hn]; exact HQ.out
 ·rw [hlen, hflat]; exact own_less HO.out (Nat.zero_le _)
 ·intro e; have := (HAc.out a ha).2; have := HQ8.out; have := HSQ.out; omega
 ·rcases hi with rfl | rfl | ⟨a, ha, rfl⟩
  ·have := HQ8.out; have := HSQ.out; have := HWc.out; omega
  ·have := HG.out.1; omega
  ·exact (HAc.out a ha).1
end
end Go.Proofs.YtjnodgebpklaoaaGreat
