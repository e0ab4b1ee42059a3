/-
 What Split of package page answers for a page with two slots or more. Condition: pages within the model's reach.
-/
import Derived.Test.YtjnodgebpklaoaaGreatInPag
import Derived.Test.YtjnodgebpklaoaaGreatMgPlant
import Derived.Deep.RegionHeld3
namespace Go.Proofs.YtjnodgebpklaoaaGreat
set_option maxHeartbeats 8000000
set_option maxRecDepth 100000
open Go.RowKit Go.Deep Plain
set_option linter.unusedVariables false

section
open Go.RowKit Go.Deep Plain
set_option linter.unusedVariables false

def Sepr (lv : Nat) (xs : List Sl) (k : Nat) (sp : ByteArray) : Prop := ∀ x0 x1, xs[k - 1]? = some x0 → xs[k]? = some x1 → (if lv = 0 then sepB x0.1 x1.1 else x1.1) = sp
theorem separatorAt_any (lv : Nat) (A : Option Addr) (c : Nat) (hi : ByteArray) (la : Bool) (rt : Nat) (xs : List Sl) (k : Nat) (w : World) (n : Nat) (hn : xs.length = n) (h40 : n ≤ 1000) (hR : Rs w A c xs) (hsz : ∀ x ∈ xs, x.1.size ≤ 1000) (hk : 0 < k) (hkn : k < n) (sp : ByteArray) (hs : Sepr lv xs k sp) :
  Calls Tryz.prog 158 #[.agg #[.int .i64 (lv : Int), .slice A n c, .string hi, .bool la, .int .u64 (rt : Int)], .int .i64 (k : Int)] w fun e w' => e = .returned (.string sp) ∧ Kept (fun _ => False) w w' := by
 obtain ⟨u0, hx0⟩ : ∃ x, xs[k - 1]? = some x := ⟨_, List.getElem?_eq_getElem (by omega)⟩
 obtain ⟨u1, hx1⟩ : ∃ x, xs[k]? = some x := ⟨_, List.getElem?_eq_getElem (by omega)⟩
 have hsp := hs u0 u1 hx0 hx1
 by_cases hl : lv = 0
 ·subst hl
  rw [if_pos rfl] at hsp
  refine (separatorAt_leaf 0 A c hi la rt xs k w n hn (by omega) hR u0 u1 hk hx0 hx1 (by have := hsz _ (List.mem_of_getElem? hx0); unfold maxLen; omega) (by have := hsz _ (List.mem_of_getElem? hx1); unfold maxLen; omega) rfl sp hsp).mono ?_
  rintro e w' ⟨rfl, hB⟩
  exact ⟨rfl, Below.kept hB (fun i hi h => by omega)⟩
 ·rw [if_neg hl] at hsp
  obtain ⟨P0, B0, Z0⟩ := box_one w (.int .i64 (lv : Int) :: .slice A n c :: .string hi :: .bool la :: .int .u64 (rt : Int) :: []) 38
  have hBK := Below.kept B0 (S := fun _ => False) (fun i hi h => by omega)
  obtain ⟨g, off, rfl, hg, hcell⟩ := (hR.keptF hBK (fun _ _ h => h)).at (by omega)
  have d0 := (hcell k u1 hx1).1
  have e0 : ((lv : Int) == 0) = false := by simp; omega
  have e1 : (!((lv : Int) == 0)) = true := by rw [e0]; rfl
  have hkI : (k : Int) < (n : Int) := by omega
  have HB := Hd hBK
  clear hcell hx0 hx1 B0 Z0 hR hs hsz hBK
  go_enter Tryz.func158, Tryz.ntmps158
  have x0 := P0.k 0 rfl
  have x1 := P0.k 1 rfl
  clear P0
  go_wp2
  go_ret
  exact ⟨rfl, HB.out⟩

theorem psplit_any (lv : Nat) (A : Option Addr) (c : Nat) (hi : ByteArray) (la : Bool) (rt right : Nat) (xs : List Sl) (n k : Nat) (sp : ByteArray) (w : World) (hn : xs.length = n) (h2 : 2 ≤ n) (h40 : n ≤ 1000) (hk : k = n - n / 2) (hR : Rs w A c xs) (hsz : ∀ x ∈ xs, x.1.size ≤ 1000) (hsp : Sepr lv xs k sp) :
  Calls Tryz.prog 114 #[.agg #[.int .i64 (lv : Int), .slice A n c, .string hi, .bool la, .int .u64 (rt : Int)], .int .u64 (right : Int)] w fun e w' => ∃ A1 c1 A2 c2, e = .returned (.tuple #[.agg #[.int .i64 (lv : Int), .slice A1 k c1, .string sp, .bool false, .int .u64 (right : Int)], .agg #[.int .i64 (lv : Int), .slice A2 (n - k) c2, .string hi, .bool la, .int .u64 (rt : Int)], .string sp, .bool true]) ∧ Rs w' A1 c1 (xs.take k) ∧ Rs w' A2 c2 (xs.drop k) ∧ (∀ a, A1 = some a → w.heap.size ≤ a.block) ∧ (∀ a, A2 = some a → w.heap.size ≤ a.block) ∧ Kept (fun _ => False) w w' := by
 have HRI := Hd hR
 obtain ⟨g, o, rfl, hg, hcl⟩ := hR.at (by omega)
 have hkk : k < n ∧ 1 ≤ k ∧ n ≤ c ∧ c ≤ 9223372036854775807 := by have h1 := hR.le; have h2 := hR.max; unfold maxLen at h2; omega
 have HGG := Hd (show g < w.heap.size from hg)
 have HRL := Hd (show Rs w (some ⟨g, o, none⟩) c (xs.take k) from hR.take k)
 have HRR' := Hd (show Rs w (some ⟨g, o + k * 2, none⟩) (c - k) (xs.drop k) from by
  have := hR.drop k (by omega)
  rw [if_neg (by omega)] at this
  simp [Addr.add] at this
  rw [if_neg (by omega)] at this
  exact this)
 obtain ⟨m, hm⟩ : ∃ m, n / 2 = m := ⟨_, rfl⟩
 have hm1 : (n : Int).tdiv 2 = (m : Int) := by rw [← hm]; rfl
 have hm2 : (n : Int) / 2 = (m : Int) := by omega
 have hm3 : IntKind.i64.wrap ((n : Int) - (m : Int)) = (k : Int) := by rw [IntKind.wrap_i64]; omega
 have hm4 : IntKind.i64.wrap (m : Int) = (m : Int) := by rw [IntKind.wrap_i64]; omega
 have hn2 : ¬ (n : Int) < 2 := by omega
 have hkn : (k : Int) < (n : Int) := by omega
 have HSP := Hd hsp
 have HSZ := Hd hsz
 have HN := Hd hn
 clear hcl hR hsz hsp hm hk hn
 go_enter Tryz.func114, Tryz.ntmps114
 go_upto_region 1 with fail
 have h1 := (Kept.refl (fun _ => False) w).alloc (.cells #[.int .i64 (lv : Int), .slice (some ⟨g, o, none⟩) n c, .string hi, .bool la, .int .u64 (rt : Int)] 38)
 have B2 := Blk.new w [.int .i64 (lv : Int), .slice (some ⟨g, o, none⟩) n c, .string hi, .bool la, .int .u64 (rt : Int)] 38
 have z1 : (w.alloc (.cells #[.int .i64 (lv : Int), .slice (some ⟨g, o, none⟩) n c, .string hi, .bool la, .int .u64 (rt : Int)] 38)).heap.size = w.heap.size + 1 := nblk_alloc _ _
 generalize w.alloc (.cells #[.int .i64 (lv : Int), .slice (some ⟨g, o, none⟩) n c, .string hi, .bool la, .int .u64 (rt : Int)] 38) = V1 at *
 have h2' := h1.alloc (.cells #[.int .i64 0, .slice none 0 0, .string ⟨#[]⟩, .bool false, .int .u64 0] 38)
 have B4 := Blk.new V1 [.int .i64 0, .slice none 0 0, .string ⟨#[]⟩, .bool false, .int .u64 0] 38
 replace B2 := B2.alloc (.cells #[.int .i64 0, .slice none 0 0, .string ⟨#[]⟩, .bool false, .int .u64 0] 38)
 have z2 : (V1.alloc (.cells #[.int .i64 0, .slice none 0 0, .string ⟨#[]⟩, .bool false, .int .u64 0] 38)).heap.size = V1.heap.size + 1 := nblk_alloc _ _
 generalize V1.alloc (.cells #[.int .i64 0, .slice none 0 0, .string ⟨#[]⟩, .bool false, .int .u64 0] 38) = V2 at *
 have h3 := h2'.alloc (.cells #[.int .i64 0, .slice none 0 0, .string ⟨#[]⟩, .bool false, .int .u64 0] 38)
 have B5 := Blk.new V2 [.int .i64 0, .slice none 0 0, .string ⟨#[]⟩, .bool false, .int .u64 0] 38
 replace B2 := B2.alloc (.cells #[.int .i64 0, .slice none 0 0, .string ⟨#[]⟩, .bool false, .int .u64 0] 38)
 replace B4 := B4.alloc (.cells #[.int .i64 0, .slice none 0 0, .string ⟨#[]⟩, .bool false, .int .u64 0] 38)
 generalize V2.alloc (.cells #[.int .i64 0, .slice none 0 0, .string ⟨#[]⟩, .bool false, .int .u64 0] 38) = V3 at *
 obtain ⟨r2, hr2⟩ : ∃ r, w.heap.size = r := ⟨_, rfl⟩
 rw [z2, z1, hr2] at B5
 rw [z1, hr2] at B4
 rw [hr2] at B2 ⊢
 clear z1 z2
 generalize hr4 : r2 + 1 = r4 at *
 generalize hr5 : r4 + 1 = r5 at *
 have HRR := Hd (show w.heap.size = r2 ∧ r4 = r2 + 1 ∧ r5 = r4 + 1 from ⟨hr2, by omega, by omega⟩)
 have HK := Hd h3
 have HB2 := Hd B2
 have HB4 := Hd B4
 have HB5 := Hd B5
 replace HRI := Hd (HRI.out.keptF h3 (fun _ _ h => h))
 replace HRL := Hd (HRL.out.keptF h3 (fun _ _ h => h))
 replace HRR' := Hd (HRR'.out.keptF h3 (fun _ _ h => h))
 clear h1 h2' h3 B2 B4 B5 hr2 hr4 hr5
 have hb9 := HB2.out
 obtain ⟨x0, x1, x2, x3, x4⟩ := hb9.c5
 clear hb9
 go_wp2_with fail
 refine (separatorAt_any lv (some ⟨g, o, none⟩) c hi la rt xs k _ n HN.out h40 HRI.out HSZ.out (by omega) (by omega) sp HSP.out).mono ?_; rintro e V4 ⟨rfl, hKa⟩
 replace HK := Hd (HK.out.trans hKa (fun _ _ h => h))
 replace HB2 := Hd (hKa.blk HB2.out (fun h => h))
 replace HB4 := Hd (hKa.blk HB4.out (fun h => h))
 replace HB5 := Hd (hKa.blk HB5.out (fun h => h))
 replace HRL := Hd (HRL.out.keptF hKa (fun _ _ h => h))
 replace HRR' := Hd (HRR'.out.keptF hKa (fun _ _ h => h))
 clear hKa x0 x1 x2 x3 x4 HSP HSZ HRI
 go_upto_region 6 with fail
 have hb9 := HB2.out
 obtain ⟨x0, x1, x2, x3, x4⟩ := hb9.c5
 clear hb9
 go_upto_region 7 with fail
 have hKa := (Kept.refl (fun _ => False) V4).alloc (.cells #[.int .i64 (lv : Int), .slice (some ⟨g, o, none⟩) n c, .string hi, .bool la, .int .u64 (rt : Int)] 38)
 have HB11 := Hd (Blk.new V4 [.int .i64 (lv : Int), .slice (some ⟨g, o, none⟩) n c, .string hi, .bool la, .int .u64 (rt : Int)] 38)
 have hl5 := HB5.out.lt
 have HR11 := Hd (show r5 < V4.heap.size from hl5)
 replace HK := Hd (HK.out.trans hKa (fun _ _ h => h))
 replace HB2 := Hd (hKa.blk HB2.out (fun h => h))
 replace HB4 := Hd (hKa.blk HB4.out (fun h => h))
 replace HB5 := Hd (hKa.blk HB5.out (fun h => h))
 replace HRL := Hd (HRL.out.keptF hKa (fun _ _ h => h))
 replace HRR' := Hd (HRR'.out.keptF hKa (fun _ _ h => h))
 clear hKa x0 x1 x2 x3 x4 hl5
 generalize V4.heap.size = r11 at *
 generalize V4.alloc (.cells #[.int .i64 (lv : Int), .slice (some ⟨g, o, none⟩) n c, .string hi, .bool la, .int .u64 (rt : Int)] 38) = V5 at *
 have HZ5 := Hd HB11.out.lt
 have hb9 := HB2.out
 obtain ⟨x0, x1, x2, x3, x4⟩ := hb9.c5
 clear hb9
 have hkc : (k : Int) ≤ (n : Int) := by omega
 go_wp2_with fail
 refine (pcopied_any (some ⟨g, o + k * 2, none⟩) (c - k) (xs.drop k) _ (n - k) (by rw [List.length_drop, HN.out]) (by omega) HRR'.out).mono ?_; rintro e V6 ⟨v2, rfl, hO2, hBl⟩
 have hKa := Below.kept hBl (S := fun _ => False) (fun i hi h => by omega)
 replace HK := Hd (HK.out.trans hKa (fun _ _ h => h))
 replace HB2 := Hd (hKa.blk HB2.out (fun h => h))
 replace HB4 := Hd (hKa.blk HB4.out (fun h => h))
 replace HB5 := Hd (hKa.blk HB5.out (fun h => h))
 replace HRL := Hd (HRL.out.keptF hKa (fun _ _ h => h))
 replace HRR' := Hd (HRR'.out.keptF hKa (fun _ _ h => h))
 replace HB11 := Hd (hKa.blk HB11.out (fun h => h))
 obtain ⟨A2, c2, rfl, hl2, hR2, hA2⟩ := Rs.own hO2
 have HA2 := Hd (show ∀ a, A2 = some a → r11 < a.block from fun a ha => by have h1 := hA2 a ha; have h2 := HZ5.out; omega)
 have HR2 := Hd hR2
 clear hO2 hBl hKa hl2 hR2 hA2 HZ5 x0 x1 x2 x3 x4
 have hb9 := HB11.out
 have y1 := hb9.k 1 rfl
 have w1 := hb9.frozen 1
 clear hb9
 go_upto_region 8 with fail
 have hks := (Kept.refl (fun i => i = r11) V6).setCell (a := ⟨r11, 1, none⟩) (fun _ => rfl) (.slice A2 (n - k) c2)
 replace HB11 := Hd (show Blk (V6.setCell ⟨r11, 1, none⟩ (.slice A2 (n - k) c2)) r11 38 [.int .i64 (lv : Int), .slice A2 (n - k) c2, .string hi, .bool la, .int .u64 (rt : Int)] from HB11.out.set 1 _)
 replace HB2 := Hd (hks.blk HB2.out (fun h => by have h1 := HR11.out; have h2 := HRR.out; omega))
 replace HB4 := Hd (hks.blk HB4.out (fun h => by have h1 := HR11.out; have h2 := HRR.out; omega))
 replace HB5 := Hd (hks.blk HB5.out (fun h => by have h1 := HR11.out; omega))
 replace HR2 := Hd (HR2.out.keptF hks (fun a ha h => by have := HA2.out a ha; omega))
 replace HRL := Hd (Rs.keptF HRL.out hks (fun a ha h => by have h0 := HGG.out; have h1 := HR11.out; have h2 := HRR.out; cases ha; have h3 : g = r11 := h; omega))
 replace HK := Hd (HK.out.trans hks (fun i hi h => by have h1 := HR11.out; have h2 := HRR.out; omega))
 clear hks y1 w1
 generalize V6.setCell ⟨r11, 1, none⟩ (.slice A2 (n - k) c2) = V7 at *
 have HZ7 := Hd (show r11 < V7.heap.size from HB11.out.lt)
 refine wp_region_held_drew (S := (fun w' => Kept (fun _ => False) V7 w')) (by kernel_rfl) ?_ (fun hHeld => ?_)
 ·exact (Kept.refl _ _).drew
 have HW := Hd ((Kept.refl (fun _ => False) V7).drew)
 generalize V7.drew = G at *
 refine tkH 0 34 ?_ rfl ?_ hHeld ?_
 rotate_left
 ·(intro wq hSw; go_simp; try with_reducible rfl)
 try simp only [aP,aA,aZ,aS]
 refine tkH 1 35 ?_ rfl ?_ hHeld ?_
 rotate_left
 ·(intro wq hSw; have hb9 := hSw.blk HB2.out (fun h => h); obtain ⟨x0, x1, x2, x3, x4⟩ := hb9.c5; clear hb9; go_simp; try with_reducible rfl)
 try simp only [aP,aA,aZ,aS]
 refine tkH 2 36 ?_ rfl ?_ hHeld ?_
 rotate_left
 ·(intro wq hSw; go_simp; try with_reducible rfl)
 try simp only [aP,aA,aZ,aS]
 refine tkH 3 37 ?_ rfl ?_ hHeld ?_
 rotate_left
 ·(intro wq hSw; have hb9 := hSw.blk HB2.out (fun h => h); obtain ⟨x0, x1, x2, x3, x4⟩ := hb9.c5; clear hb9; go_simp; try with_reducible rfl)
 try simp only [aP,aA,aZ,aS]
 refine tkH 4 38 ?_ rfl ?_ hHeld ?_
 rotate_left
 ·(intro wq hSw; go_simp; try with_reducible rfl)
 try simp only [aP,aA,aZ,aS]
 refine tkH 5 39 (.slice (some ⟨g, o, none⟩) k c) rfl ?_ hHeld ?_
 ·(intro wq hSw; go_simp; try first | (with_reducible rfl) | (simp; omega) | (intros; omega) | simp [*])
 try simp only [aP,aA,aZ,aS]
 refine tkH 7 41 ?_ rfl ?_ hHeld ?_
 rotate_left
 ·(intro wq hSw; go_simp; try with_reducible rfl)
 try simp only [aP,aA,aZ,aS]
 refine tkH 8 42 ?_ rfl ?_ hHeld ?_
 rotate_left
 ·(intro wq hSw; go_simp; try with_reducible rfl)
 try simp only [aP,aA,aZ,aS]
 refine wpAnyH_ready (rs := [6, 10]) (by kernel_rfl) (by simp) ?_
 refine AllReadyH.cons (o := ⟨some 40, _, _, _, _, _⟩) rfl (fun KK hK => ?_) (AllReadyH.cons (o := ⟨some 12, _, _, _, _, _⟩) rfl (fun KK hK => ?_) (AllReadyH.nil))
 ·go_simp
  go_at_call 108
  refine (pcopied_any (some ⟨g, o, none⟩) c (xs.take k) _ k (by rw [List.length_take, HN.out]; omega) (by omega) (HRL.out.keptF HW.out (fun _ _ h => h))).mono ?_; rintro e G1 ⟨v1, rfl, hO1, hBl⟩
  have hKa := Below.kept hBl (S := fun _ => False) (fun i hi h => by omega)
  obtain ⟨A1, c1, rfl, hl1, hR1, hA1⟩ := Rs.own hO1
  have HR1 := Hd hR1
  have HA1 := Hd (show ∀ a, A1 = some a → V7.heap.size ≤ a.block from fun a ha => Nat.le_trans HW.out.size (hA1 a ha))
  have HA1B := Hd (show ∀ a, A1 = some a → a.block < G1.heap.size from fun a ha => by
   obtain ⟨g9, o9, e9, h9, -⟩ := hR1.at (by rw [List.length_take, HN.out]; omega)
   rw [e9] at ha; cases ha; exact h9)
  try have HNE := Hd (show ∀ a, A1 = some a → a.block ≠ r12 from fun a ha => by have h1 := hA1 a ha; have h2 := HSL.out.lt; omega)
  try replace HSL := Hd (hKa.blk HSL.out (fun h => h))
  replace HW := Hd (HW.out.trans hKa (fun _ _ h => h))
  clear hO1 hBl hKa hl1 hR1 hA1
  rename World => G
  refine hK.out _ _ ?_ (fun hHeld2 => ?_)
  ·exact HW.out
  clear hK KK hHeld
  have hHeld := hHeld2
  clear hHeld2
  try simp only [aP,aA,aZ,aS]
  refine tkH 9 43 ?_ rfl ?_ hHeld ?_
  rotate_left
  ·(intro wq hSw; go_simp; try with_reducible rfl)
  try simp only [aP,aA,aZ,aS]
  refine wpAnyH_ready (rs := [10]) (by kernel_rfl) (by simp) ?_
  refine AllReadyH.cons (o := ⟨some 12, _, _, _, _, _⟩) rfl (fun KK hK => ?_) (AllReadyH.nil)
  go_simp
  have hr1 : V7.heap.size ≤ G.heap.size := HW.out.size
  have hKa := (Kept.refl (fun _ => False) G).alloc (.cells #[.int .i64 0, .slice none 0 0, .string ⟨#[]⟩, .bool false, .int .u64 0] 38)
  replace HW := Hd (HW.out.trans hKa (fun _ _ h => h))
  have HSL := Hd (Blk.new G [.int .i64 0, .slice none 0 0, .string ⟨#[]⟩, .bool false, .int .u64 0] 38)
  try have HNE := Hd (show ∀ a, A1 = some a → a.block ≠ G.heap.size from fun a ha => by have := HA1B.out a ha; omega)
  try replace HR1 := Hd (HR1.out.keptF hKa (fun _ _ h => h))
  clear hKa
  generalize G.heap.size = r12 at *
  have HR12 := Hd hr1
  clear hr1
  generalize G.alloc (.cells #[.int .i64 0, .slice none 0 0, .string ⟨#[]⟩, .bool false, .int .u64 0] 38) = G at *
  refine hK.out _ _ ?_ (fun hHeld2 => ?_)
  ·exact HW.out
  clear hK KK hHeld
  have hHeld := hHeld2
  clear hHeld2
  try simp only [aP,aA,aZ,aS]
  refine wpAnyH_ready (rs := [11]) (by kernel_rfl) (by simp) ?_
  refine AllReadyH.cons (o := ⟨none, _, _, _, _, _⟩) rfl (fun KK hK => ?_) (AllReadyH.nil)
  have hs9 := HSL.out
  obtain ⟨s0, s1, s2, s3, s4⟩ := hs9.c5
  have z0 := hs9.frozen 0
  have z1 := hs9.frozen 1
  have z2 := hs9.frozen 2
  have z3 := hs9.frozen 3
  have z4 := hs9.frozen 4
  clear hs9
  go_simp
  have hks := (((((Kept.refl (fun i => i = r12) G).setCell (a := ⟨r12, 0, none⟩) (fun _ => rfl) (.int .i64 (lv : Int))).setCell (a := ⟨r12, 1, none⟩) (fun _ => rfl) (.slice A1 k c1)).setCell (a := ⟨r12, 2, none⟩) (fun _ => rfl) (.string sp)).setCell (a := ⟨r12, 3, none⟩) (fun _ => rfl) (.bool false)).setCell (a := ⟨r12, 4, none⟩) (fun _ => rfl) (.int .u64 (right : Int))
  replace HR1 := Hd (HR1.out.keptF hks (fun a ha h => HNE.out a ha h))
  replace HW := Hd ((((((HW.out).setNew HR12.out 0 (.int .i64 (lv : Int))).setNew HR12.out 1 (.slice A1 k c1)).setNew HR12.out 2 (.string sp)).setNew HR12.out 3 (.bool false)).setNew HR12.out 4 (.int .u64 (right : Int)))
  replace HSL := Hd ((((((HSL.out).set 0 (.int .i64 (lv : Int))).set 1 (.slice A1 k c1)).set 2 (.string sp)).set 3 (.bool false)).set 4 (.int .u64 (right : Int)))
  clear s0 s1 s2 s3 s4 z0 z1 z2 z3 z4 hks
  generalize (((((G).setCell ⟨r12, 0, none⟩ (.int .i64 (lv : Int))).setCell ⟨r12, 1, none⟩ (.slice A1 k c1)).setCell ⟨r12, 2, none⟩ (.string sp)).setCell ⟨r12, 3, none⟩ (.bool false)).setCell ⟨r12, 4, none⟩ (.int .u64 (right : Int)) = G at *
  refine hK.out _ _ ?_ (fun hHeld2 => ?_)
  ·exact HW.out
  clear hK KK hHeld
  have hHeld := hHeld2
  clear hHeld2
  try simp only [aP,aA,aZ,aS]
  refine wpAnyH_done (by kernel_rfl) ?_ _
  clear hHeld
  have hkw := HW.out
  replace HSL := Hd (show Blk G r12 38 [.int .i64 (lv : Int), .slice A1 k c1, .string sp, .bool false, .int .u64 (right : Int)] from HSL.out)
  replace HB4 := Hd (hkw.blk HB4.out (fun h => h))
  replace HB5 := Hd (hkw.blk HB5.out (fun h => h))
  replace HB11 := Hd (hkw.blk HB11.out (fun h => h))
  replace HR2 := Hd (HR2.out.keptF hkw (fun _ _ h => h))
  replace HK := Hd (HK.out.trans hkw (fun _ _ h => h))
  clear hkw HW HRL HRR' HB2
  try clear hHeld
  try clear hHeld2
  rename World => V8
  go_upto_region 9 with fail
  refine wp_region_held_drew (S := (fun w' => Kept (fun i => i = r4 ∨ i = r5) V8 w')) (by kernel_rfl) ?_ (fun hHeld => ?_)
  ·exact ((Kept.refl (fun _ => False) _).drew).mono (fun _ h => h.elim)
  have hdr := (Kept.refl (fun _ => False) V8).drew
  have HW := Hd (hdr.mono (T := fun i => i = r4 ∨ i = r5) (fun _ h => h.elim))
  replace HB4 := Hd (hdr.blk HB4.out (fun h => h))
  replace HB5 := Hd (hdr.blk HB5.out (fun h => h))
  clear hdr
  generalize V8.drew = G at *
  refine tkH 0 44 ?_ rfl ?_ hHeld ?_
  rotate_left
  ·(intro wq hSw; have hb9 := hSw.blk HSL.out (fun h => by have h1 := HR11.out; have h2 := HR12.out; have h3 := HRR.out; have h4 := HZ7.out; omega); obtain ⟨x0, x1, x2, x3, x4⟩ := hb9.c5; clear hb9; have hb9 := hSw.blk HB11.out (fun h => by have h1 := HR11.out; have h2 := HR12.out; have h3 := HRR.out; have h4 := HZ7.out; omega); obtain ⟨y0, y1, y2, y3, y4⟩ := hb9.c5; clear hb9; go_simp; try with_reducible rfl)
  try simp only [aP,aA,aZ,aS]
  refine tkH 1 45 ?_ rfl ?_ hHeld ?_
  rotate_left
  ·(intro wq hSw; have hb9 := hSw.blk HSL.out (fun h => by have h1 := HR11.out; have h2 := HR12.out; have h3 := HRR.out; have h4 := HZ7.out; omega); obtain ⟨x0, x1, x2, x3, x4⟩ := hb9.c5; clear hb9; have hb9 := hSw.blk HB11.out (fun h => by have h1 := HR11.out; have h2 := HR12.out; have h3 := HRR.out; have h4 := HZ7.out; omega); obtain ⟨y0, y1, y2, y3, y4⟩ := hb9.c5; clear hb9; go_simp; try with_reducible rfl)
  try simp only [aP,aA,aZ,aS]
  refine tkH 2 46 ?_ rfl ?_ hHeld ?_
  rotate_left
  ·(intro wq hSw; go_simp; try with_reducible rfl)
  try simp only [aP,aA,aZ,aS]
  refine wpAnyH_ready (rs := [3]) (by kernel_rfl) (by simp) ?_
  refine AllReadyH.cons (o := ⟨none, _, _, _, _, _⟩) rfl (fun KK hK => ?_) AllReadyH.nil
  have hs9 := HB4.out
  obtain ⟨s0, s1, s2, s3, s4⟩ := hs9.c5
  have z0 := hs9.frozen 0
  have z1 := hs9.frozen 1
  have z2 := hs9.frozen 2
  have z3 := hs9.frozen 3
  have z4 := hs9.frozen 4
  clear hs9
  go_simp
  replace HW := Hd ((((((HW.out).setCell (a := ⟨r4, 0, none⟩) (fun _ => .inl rfl) (.int .i64 (lv : Int))).setCell (a := ⟨r4, 1, none⟩) (fun _ => .inl rfl) (.slice A1 k c1)).setCell (a := ⟨r4, 2, none⟩) (fun _ => .inl rfl) (.string sp)).setCell (a := ⟨r4, 3, none⟩) (fun _ => .inl rfl) (.bool false)).setCell (a := ⟨r4, 4, none⟩) (fun _ => .inl rfl) (.int .u64 (right : Int)))
  replace HB4 := Hd ((((((HB4.out).set 0 (.int .i64 (lv : Int))).set 1 (.slice A1 k c1)).set 2 (.string sp)).set 3 (.bool false)).set 4 (.int .u64 (right : Int)))
  replace HB5 := Hd ((((((HB5.out).other (a := ⟨r4, 0, none⟩) (show r5 ≠ r4 by have := HRR.out; omega) (.int .i64 (lv : Int))).other (a := ⟨r4, 1, none⟩) (show r5 ≠ r4 by have := HRR.out; omega) (.slice A1 k c1)).other (a := ⟨r4, 2, none⟩) (show r5 ≠ r4 by have := HRR.out; omega) (.string sp)).other (a := ⟨r4, 3, none⟩) (show r5 ≠ r4 by have := HRR.out; omega) (.bool false)).other (a := ⟨r4, 4, none⟩) (show r5 ≠ r4 by have := HRR.out; omega) (.int .u64 (right : Int)))
  clear s0 s1 s2 s3 s4 z0 z1 z2 z3 z4
  generalize (((((G).setCell ⟨r4, 0, none⟩ (.int .i64 (lv : Int))).setCell ⟨r4, 1, none⟩ (.slice A1 k c1)).setCell ⟨r4, 2, none⟩ (.string sp)).setCell ⟨r4, 3, none⟩ (.bool false)).setCell ⟨r4, 4, none⟩ (.int .u64 (right : Int)) = G at *
  refine hK.out _ _ ?_ (fun hHeld2 => ?_)
  ·exact HW.out
  clear hK KK hHeld
  have hHeld := hHeld2
  clear hHeld2
  try simp only [aP,aA,aZ,aS]
  refine wpAnyH_ready (rs := [4]) (by kernel_rfl) (by simp) ?_
  refine AllReadyH.cons (o := ⟨none, _, _, _, _, _⟩) rfl (fun KK hK => ?_) AllReadyH.nil
  have hs9 := HB5.out
  obtain ⟨s0, s1, s2, s3, s4⟩ := hs9.c5
  have z0 := hs9.frozen 0
  have z1 := hs9.frozen 1
  have z2 := hs9.frozen 2
  have z3 := hs9.frozen 3
  have z4 := hs9.frozen 4
  clear hs9
  go_simp
  replace HW := Hd ((((((HW.out).setCell (a := ⟨r5, 0, none⟩) (fun _ => .inr rfl) (.int .i64 (lv : Int))).setCell (a := ⟨r5, 1, none⟩) (fun _ => .inr rfl) (.slice A2 (n - k) c2)).setCell (a := ⟨r5, 2, none⟩) (fun _ => .inr rfl) (.string hi)).setCell (a := ⟨r5, 3, none⟩) (fun _ => .inr rfl) (.bool la)).setCell (a := ⟨r5, 4, none⟩) (fun _ => .inr rfl) (.int .u64 (rt : Int)))
  replace HB5 := Hd ((((((HB5.out).set 0 (.int .i64 (lv : Int))).set 1 (.slice A2 (n - k) c2)).set 2 (.string hi)).set 3 (.bool la)).set 4 (.int .u64 (rt : Int)))
  replace HB4 := Hd ((((((HB4.out).other (a := ⟨r5, 0, none⟩) (show r4 ≠ r5 by have := HRR.out; omega) (.int .i64 (lv : Int))).other (a := ⟨r5, 1, none⟩) (show r4 ≠ r5 by have := HRR.out; omega) (.slice A2 (n - k) c2)).other (a := ⟨r5, 2, none⟩) (show r4 ≠ r5 by have := HRR.out; omega) (.string hi)).other (a := ⟨r5, 3, none⟩) (show r4 ≠ r5 by have := HRR.out; omega) (.bool la)).other (a := ⟨r5, 4, none⟩) (show r4 ≠ r5 by have := HRR.out; omega) (.int .u64 (rt : Int)))
  clear s0 s1 s2 s3 s4 z0 z1 z2 z3 z4
  generalize (((((G).setCell ⟨r5, 0, none⟩ (.int .i64 (lv : Int))).setCell ⟨r5, 1, none⟩ (.slice A2 (n - k) c2)).setCell ⟨r5, 2, none⟩ (.string hi)).setCell ⟨r5, 3, none⟩ (.bool la)).setCell ⟨r5, 4, none⟩ (.int .u64 (rt : Int)) = G at *
  refine hK.out _ _ ?_ (fun hHeld2 => ?_)
  ·exact HW.out
  clear hK KK hHeld
  have hHeld := hHeld2
  clear hHeld2
  try simp only [aP,aA,aZ,aS]
  refine tkH 5 6 ?_ rfl ?_ hHeld ?_
  rotate_left
  ·(intro wq hSw; go_simp; try with_reducible rfl)
  try simp only [aP,aA,aZ,aS]
  refine tkH 6 7 ?_ rfl ?_ hHeld ?_
  rotate_left
  ·(intro wq hSw; go_simp; try with_reducible rfl)
  try simp only [aP,aA,aZ,aS]
  refine wpAnyH_done (by kernel_rfl) ?_ _
  clear hHeld
  have hkw := HW.out
  have HKz := Hd (HK.out.trans hkw (fun i hi h => by have := HRR.out; omega))
  have HQ1 := Hd (HR1.out.keptF hkw (fun a ha h => by have h1 := HA1.out a ha; have h2 := HZ7.out; have h3 := HR11.out; have h4 := HRR.out; omega))
  have HQ2 := Hd (HR2.out.keptF hkw (fun a ha h => by have h1 := HA2.out a ha; have h3 := HR11.out; have h4 := HRR.out; omega))
  have hB4 : Blk _ r4 38 [.int .i64 (lv : Int), .slice A1 k c1, .string sp, .bool false, .int .u64 (right : Int)] := HB4.out
  have hB5 : Blk _ r5 38 [.int .i64 (lv : Int), .slice A2 (n - k) c2, .string hi, .bool la, .int .u64 (rt : Int)] := HB5.out
  obtain ⟨a0, a1, a2, a3, a4⟩ := hB4.c5
  obtain ⟨b0, b1, b2, b3, b4⟩ := hB5.c5
  clear hB4 hB5 hkw
  have HO := Hd (show (∀ a, A1 = some a → w.heap.size ≤ a.block) ∧ (∀ a, A2 = some a → w.heap.size ≤ a.block) from ⟨fun a ha => by have h1 := HA1.out a ha; have h2 := HZ7.out; have h3 := HR11.out; have h4 := HRR.out; omega, fun a ha => by have h1 := HA2.out a ha; have h3 := HR11.out; have h4 := HRR.out; omega⟩)
  clear HR1 HR2 HA1 HA2 HSL HB11 HB4 HB5
  go_wp2
  refine bodyPost_ret (v := .tuple #[.agg #[.int .i64 (lv : Int), .slice A1 k c1, .string sp, .bool false, .int .u64 (right : Int)], .agg #[.int .i64 (lv : Int), .slice A2 (n - k) c2, .string hi, .bool la, .int .u64 (rt : Int)], .string sp, .bool true]) (by simp [results, Tryz.results114, go_sem, a0, a1, a2, a3, a4, b0, b1, b2, b3, b4]) rfl ⟨A1, c1, A2, c2, rfl, HQ1.out, HQ2.out, HO.out.1, HO.out.2, HKz.out⟩
 ·go_simp
  have hr1 : V7.heap.size ≤ G.heap.size := HW.out.size
  have hKa := (Kept.refl (fun _ => False) G).alloc (.cells #[.int .i64 0, .slice none 0 0, .string ⟨#[]⟩, .bool false, .int .u64 0] 38)
  replace HW := Hd (HW.out.trans hKa (fun _ _ h => h))
  have HSL := Hd (Blk.new G [.int .i64 0, .slice none 0 0, .string ⟨#[]⟩, .bool false, .int .u64 0] 38)
  try have HNE := Hd (show ∀ a, A1 = some a → a.block ≠ G.heap.size from fun a ha => by have := HA1B.out a ha; omega)
  try replace HR1 := Hd (HR1.out.keptF hKa (fun _ _ h => h))
  clear hKa
  generalize G.heap.size = r12 at *
  have HR12 := Hd hr1
  clear hr1
  generalize G.alloc (.cells #[.int .i64 0, .slice none 0 0, .string ⟨#[]⟩, .bool false, .int .u64 0] 38) = G at *
  refine hK.out _ _ ?_ (fun hHeld2 => ?_)
  ·exact HW.out
  clear hK KK hHeld
  have hHeld := hHeld2
  clear hHeld2
  try simp only [aP,aA,aZ,aS]
  refine wpAnyH_ready (rs := [6]) (by kernel_rfl) (by simp) ?_
  refine AllReadyH.cons (o := ⟨some 40, _, _, _, _, _⟩) rfl (fun KK hK => ?_) (AllReadyH.nil)
  go_simp
  go_at_call 108
  refine (pcopied_any (some ⟨g, o, none⟩) c (xs.take k) _ k (by rw [List.length_take, HN.out]; omega) (by omega) (HRL.out.keptF HW.out (fun _ _ h => h))).mono ?_; rintro e G1 ⟨v1, rfl, hO1, hBl⟩
  have hKa := Below.kept hBl (S := fun _ => False) (fun i hi h => by omega)
  obtain ⟨A1, c1, rfl, hl1, hR1, hA1⟩ := Rs.own hO1
  have HR1 := Hd hR1
  have HA1 := Hd (show ∀ a, A1 = some a → V7.heap.size ≤ a.block from fun a ha => Nat.le_trans HW.out.size (hA1 a ha))
  have HA1B := Hd (show ∀ a, A1 = some a → a.block < G1.heap.size from fun a ha => by
   obtain ⟨g9, o9, e9, h9, -⟩ := hR1.at (by rw [List.length_take, HN.out]; omega)
   rw [e9] at ha; cases ha; exact h9)
  try have HNE := Hd (show ∀ a, A1 = some a → a.block ≠ r12 from fun a ha => by have h1 := hA1 a ha; have h2 := HSL.out.lt; omega)
  try replace HSL := Hd (hKa.blk HSL.out (fun h => h))
  replace HW := Hd (HW.out.trans hKa (fun _ _ h => h))
  clear hO1 hBl hKa hl1 hR1 hA1
  rename World => G
  refine hK.out _ _ ?_ (fun hHeld2 => ?_)
  ·exact HW.out
  clear hK KK hHeld
  have hHeld := hHeld2
  clear hHeld2
  try simp only [aP,aA,aZ,aS]
  refine tkH 9 43 ?_ rfl ?_ hHeld ?_
  rotate_left
  ·(intro wq hSw; go_simp; try with_reducible rfl)
  try simp only [aP,aA,aZ,aS]
  refine wpAnyH_ready (rs := [11]) (by kernel_rfl) (by simp) ?_
  refine AllReadyH.cons (o := ⟨none, _, _, _, _, _⟩) rfl (fun KK hK => ?_) (AllReadyH.nil)
  have hs9 := HSL.out
  obtain ⟨s0, s1, s2, s3, s4⟩ := hs9.c5
  have z0 := hs9.frozen 0
  have z1 := hs9.frozen 1
  have z2 := hs9.frozen 2
  have z3 := hs9.frozen 3
  have z4 := hs9.frozen 4
  clear hs9
  go_simp
  have hks := (((((Kept.refl (fun i => i = r12) G).setCell (a := ⟨r12, 0, none⟩) (fun _ => rfl) (.int .i64 (lv : Int))).setCell (a := ⟨r12, 1, none⟩) (fun _ => rfl) (.slice A1 k c1)).setCell (a := ⟨r12, 2, none⟩) (fun _ => rfl) (.string sp)).setCell (a := ⟨r12, 3, none⟩) (fun _ => rfl) (.bool false)).setCell (a := ⟨r12, 4, none⟩) (fun _ => rfl) (.int .u64 (right : Int))
  replace HR1 := Hd (HR1.out.keptF hks (fun a ha h => HNE.out a ha h))
  replace HW := Hd ((((((HW.out).setNew HR12.out 0 (.int .i64 (lv : Int))).setNew HR12.out 1 (.slice A1 k c1)).setNew HR12.out 2 (.string sp)).setNew HR12.out 3 (.bool false)).setNew HR12.out 4 (.int .u64 (right : Int)))
  replace HSL := Hd ((((((HSL.out).set 0 (.int .i64 (lv : Int))).set 1 (.slice A1 k c1)).set 2 (.string sp)).set 3 (.bool false)).set 4 (.int .u64 (right : Int)))
  clear s0 s1 s2 s3 s4 z0 z1 z2 z3 z4 hks
  generalize (((((G).setCell ⟨r12, 0, none⟩ (.int .i64 (lv : Int))).setCell ⟨r12, 1, none⟩ (.slice A1 k c1)).setCell ⟨r12, 2, none⟩ (.string sp)).setCell ⟨r12, 3, none⟩ (.bool false)).setCell ⟨r12, 4, none⟩ (.int .u64 (right : Int)) = G at *
  refine hK.out _ _ ?_ (fun hHeld2 => ?_)
  ·exact HW.out
  clear hK KK hHeld
  have hHeld := hHeld2
  clear hHeld2
  try simp only [aP,aA,aZ,aS]
  refine wpAnyH_done (by kernel_rfl) ?_ _
  clear hHeld
  have hkw := HW.out
  replace HSL := Hd (show Blk G r12 38 [.int .i64 (lv : Int), .slice A1 k c1, .string sp, .bool false, .int .u64 (right : Int)] from HSL.out)
  replace HB4 := Hd (hkw.blk HB4.out (fun h => h))
  replace HB5 := Hd (hkw.blk HB5.out (fun h => h))
  replace HB11 := Hd (hkw.blk HB11.out (fun h => h))
  replace HR2 := Hd (HR2.out.keptF hkw (fun _ _ h => h))
  replace HK := Hd (HK.out.trans hkw (fun _ _ h => h))
  clear hkw HW HRL HRR' HB2
  try clear hHeld
  try clear hHeld2
  rename World => V8
  go_upto_region 9 with fail
  refine wp_region_held_drew (S := (fun w' => Kept (fun i => i = r4 ∨ i = r5) V8 w')) (by kernel_rfl) ?_ (fun hHeld => ?_)
  ·exact ((Kept.refl (fun _ => False) _).drew).mono (fun _ h => h.elim)
  have hdr := (Kept.refl (fun _ => False) V8).drew
  have HW := Hd (hdr.mono (T := fun i => i = r4 ∨ i = r5) (fun _ h => h.elim))
  replace HB4 := Hd (hdr.blk HB4.out (fun h => h))
  replace HB5 := Hd (hdr.blk HB5.out (fun h => h))
  clear hdr
  generalize V8.drew = G at *
  refine tkH 0 44 ?_ rfl ?_ hHeld ?_
  rotate_left
  ·(intro wq hSw; have hb9 := hSw.blk HSL.out (fun h => by have h1 := HR11.out; have h2 := HR12.out; have h3 := HRR.out; have h4 := HZ7.out; omega); obtain ⟨x0, x1, x2, x3, x4⟩ := hb9.c5; clear hb9; have hb9 := hSw.blk HB11.out (fun h => by have h1 := HR11.out; have h2 := HR12.out; have h3 := HRR.out; have h4 := HZ7.out; omega); obtain ⟨y0, y1, y2, y3, y4⟩ := hb9.c5; clear hb9; go_simp; try with_reducible rfl)
  try simp only [aP,aA,aZ,aS]
  refine tkH 1 45 ?_ rfl ?_ hHeld ?_
  rotate_left
  ·(intro wq hSw; have hb9 := hSw.blk HSL.out (fun h => by have h1 := HR11.out; have h2 := HR12.out; have h3 := HRR.out; have h4 := HZ7.out; omega); obtain ⟨x0, x1, x2, x3, x4⟩ := hb9.c5; clear hb9; have hb9 := hSw.blk HB11.out (fun h => by have h1 := HR11.out; have h2 := HR12.out; have h3 := HRR.out; have h4 := HZ7.out; omega); obtain ⟨y0, y1, y2, y3, y4⟩ := hb9.c5; clear hb9; go_simp; try with_reducible rfl)
  try simp only [aP,aA,aZ,aS]
  refine tkH 2 46 ?_ rfl ?_ hHeld ?_
  rotate_left
  ·(intro wq hSw; go_simp; try with_reducible rfl)
  try simp only [aP,aA,aZ,aS]
  refine wpAnyH_ready (rs := [3]) (by kernel_rfl) (by simp) ?_
  refine AllReadyH.cons (o := ⟨none, _, _, _, _, _⟩) rfl (fun KK hK => ?_) AllReadyH.nil
  have hs9 := HB4.out
  obtain ⟨s0, s1, s2, s3, s4⟩ := hs9.c5
  have z0 := hs9.frozen 0
  have z1 := hs9.frozen 1
  have z2 := hs9.frozen 2
  have z3 := hs9.frozen 3
  have z4 := hs9.frozen 4
  clear hs9
  go_simp
  replace HW := Hd ((((((HW.out).setCell (a := ⟨r4, 0, none⟩) (fun _ => .inl rfl) (.int .i64 (lv : Int))).setCell (a := ⟨r4, 1, none⟩) (fun _ => .inl rfl) (.slice A1 k c1)).setCell (a := ⟨r4, 2, none⟩) (fun _ => .inl rfl) (.string sp)).setCell (a := ⟨r4, 3, none⟩) (fun _ => .inl rfl) (.bool false)).setCell (a := ⟨r4, 4, none⟩) (fun _ => .inl rfl) (.int .u64 (right : Int)))
  replace HB4 := Hd ((((((HB4.out).set 0 (.int .i64 (lv : Int))).set 1 (.slice A1 k c1)).set 2 (.string sp)).set 3 (.bool false)).set 4 (.int .u64 (right : Int)))
  replace HB5 := Hd ((((((HB5.out).other (a := ⟨r4, 0, none⟩) (show r5 ≠ r4 by have := HRR.out; omega) (.int .i64 (lv : Int))).other (a := ⟨r4, 1, none⟩) (show r5 ≠ r4 by have := HRR.out; omega) (.slice A1 k c1)).other (a := ⟨r4, 2, none⟩) (show r5 ≠ r4 by have := HRR.out; omega) (.string sp)).other (a := ⟨r4, 3, none⟩) (show r5 ≠ r4 by have := HRR.out; omega) (.bool false)).other (a := ⟨r4, 4, none⟩) (show r5 ≠ r4 by have := HRR.out; omega) (.int .u64 (right : Int)))
  clear s0 s1 s2 s3 s4 z0 z1 z2 z3 z4
  generalize (((((G).setCell ⟨r4, 0, none⟩ (.int .i64 (lv : Int))).setCell ⟨r4, 1, none⟩ (.slice A1 k c1)).setCell ⟨r4, 2, none⟩ (.string sp)).setCell ⟨r4, 3, none⟩ (.bool false)).setCell ⟨r4, 4, none⟩ (.int .u64 (right : Int)) = G at *
  refine hK.out _ _ ?_ (fun hHeld2 => ?_)
  ·exact HW.out
  clear hK KK hHeld
  have hHeld := hHeld2
  clear hHeld2
  try simp only [aP,aA,aZ,aS]
  refine wpAnyH_ready (rs := [4]) (by kernel_rfl) (by simp) ?_
  refine AllReadyH.cons (o := ⟨none, _, _, _, _, _⟩) rfl (fun KK hK => ?_) AllReadyH.nil
  have hs9 := HB5.out
  obtain ⟨s0, s1, s2, s3, s4⟩ := hs9.c5
  have z0 := hs9.frozen 0
  have z1 := hs9.frozen 1
  have z2 := hs9.frozen 2
  have z3 := hs9.frozen 3
  have z4 := hs9.frozen 4
  clear hs9
  go_simp
  replace HW := Hd ((((((HW.out).setCell (a := ⟨r5, 0, none⟩) (fun _ => .inr rfl) (.int .i64 (lv : Int))).setCell (a := ⟨r5, 1, none⟩) (fun _ => .inr rfl) (.slice A2 (n - k) c2)).setCell (a := ⟨r5, 2, none⟩) (fun _ => .inr rfl) (.string hi)).setCell (a := ⟨r5, 3, none⟩) (fun _ => .inr rfl) (.bool la)).setCell (a := ⟨r5, 4, none⟩) (fun _ => .inr rfl) (.int .u64 (rt : Int)))
  replace HB5 := Hd ((((((HB5.out).set 0 (.int .i64 (lv : Int))).set 1 (.slice A2 (n - k) c2)).set 2 (.string hi)).set 3 (.bool la)).set 4 (.int .u64 (rt : Int)))
  replace HB4 := Hd ((((((HB4.out).other (a := ⟨r5, 0, none⟩) (show r4 ≠ r5 by have := HRR.out; omega) (.int .i64 (lv : Int))).other (a := ⟨r5, 1, none⟩) (show r4 ≠ r5 by have := HRR.out; omega) (.slice A2 (n - k) c2)).other (a := ⟨r5, 2, none⟩) (show r4 ≠ r5 by have := HRR.out; omega) (.string hi)).other (a := ⟨r5, 3, none⟩) (show r4 ≠ r5 by have := HRR.out; omega) (.bool la)).other (a := ⟨r5, 4, none⟩) (show r4 ≠ r5 by have := HRR.out; omega) (.int .u64 (rt : Int)))
  clear s0 s1 s2 s3 s4 z0 z1 z2 z3 z4
  generalize (((((G).setCell ⟨r5, 0, none⟩ (.int .i64 (lv : Int))).setCell ⟨r5, 1, none⟩ (.slice A2 (n - k) c2)).setCell ⟨r5, 2, none⟩ (.string hi)).setCell ⟨r5, 3, none⟩ (.bool la)).setCell ⟨r5, 4, none⟩ (.int .u64 (rt : Int)) = G at *
  refine hK.out _ _ ?_ (fun hHeld2 => ?_)
  ·exact HW.out
  clear hK KK hHeld
  have hHeld := hHeld2
  clear hHeld2
  try simp only [aP,aA,aZ,aS]
  refine tkH 5 6 ?_ rfl ?_ hHeld ?_
  rotate_left
  ·(intro wq hSw; go_simp; try with_reducible rfl)
  try simp only [aP,aA,aZ,aS]
  refine tkH 6 7 ?_ rfl ?_ hHeld ?_
  rotate_left
  ·(intro wq hSw; go_simp; try with_reducible rfl)
  try simp only [aP,aA,aZ,aS]
  refine wpAnyH_done (by kernel_rfl) ?_ _
  clear hHeld
  have hkw := HW.out
  have HKz := Hd (HK.out.trans hkw (fun i hi h => by have := HRR.out; omega))
  have HQ1 := Hd (HR1.out.keptF hkw (fun a ha h => by have h1 := HA1.out a ha; have h2 := HZ7.out; have h3 := HR11.out; have h4 := HRR.out; omega))
  have HQ2 := Hd (HR2.out.keptF hkw (fun a ha h => by have h1 := HA2.out a ha; have h3 := HR11.out; have h4 := HRR.out; omega))
  have hB4 : Blk _ r4 38 [.int .i64 (lv : Int), .slice A1 k c1, .string sp, .bool false, .int .u64 (right : Int)] := HB4.out
  have hB5 : Blk _ r5 38 [.int .i64 (lv : Int), .slice A2 (n - k) c2, .string hi, .bool la, .int .u64 (rt : Int)] := HB5.out
  obtain ⟨a0, a1, a2, a3, a4⟩ := hB4.c5
  obtain ⟨b0, b1, b2, b3, b4⟩ := hB5.c5
  clear hB4 hB5 hkw
  have HO := Hd (show (∀ a, A1 = some a → w.heap.size ≤ a.block) ∧ (∀ a, A2 = some a → w.heap.size ≤ a.block) from ⟨fun a ha => by have h1 := HA1.out a ha; have h2 := HZ7.out; have h3 := HR11.out; have h4 := HRR.out; omega, fun a ha => by have h1 := HA2.out a ha; have h3 := HR11.out; have h4 := HRR.out; omega⟩)
  clear HR1 HR2 HA1 HA2 HSL HB11 HB4 HB5
  go_wp2
  refine bodyPost_ret (v := .tuple #[.agg #[.int .i64 (lv : Int), .slice A1 k c1, .string sp, .bool false, .int .u64 (right : Int)], .agg #[.int .i64 (lv : Int), .slice A2 (n - k) c2, .string hi, .bool la, .int .u64 (rt : Int)], .string sp, .bool true]) (by simp [results, Tryz.results114, go_sem, a0, a1, a2, a3, a4, b0, b1, b2, b3, b4]) rfl ⟨A1, c1, A2, c2, rfl, HQ1.out, HQ2.out, HO.out.1, HO.out.2, HKz.out⟩

end
end Go.Proofs.YtjnodgebpklaoaaGreat
