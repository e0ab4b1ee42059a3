/-
 A View's Keys of such a tree. Condition: a fanout of four to six.
-/
import Derived.Test.YtjnodgebpklaoaaGreatTgSndA
import Derived.Test.YtjnodgebpklaoaaGreatMgTwo
namespace Go.Proofs.YtjnodgebpklaoaaGreat
set_option maxHeartbeats 8000000
set_option maxRecDepth 100000
section
open Go.RowKit Go.Deep Plain
set_option linter.unusedVariables false

theorem strv_read {w : World} {base n : Nat} {v : Value} {ks : List ByteArray} (h : w.ownsRow base 9 1 v n (strv ks)) : ∃ A c, v = .slice A ks.length c ∧ Kr w A ks ∧ ∀ a, A = some a → base ≤ a.block ∧ a.block < w.heap.size := by
 have e : strv ks = PlainE.keyCells (ks.map fun k => (k, (⟨#[]⟩ : ByteArray))) := by
  unfold strv PlainE.keyCells; rw [List.map_map]; rfl
 have e2 : (ks.map fun k => (k, (⟨#[]⟩ : ByteArray))).map (·.1) = ks := by rw [List.map_map]; exact List.map_id ks
 rw [e] at h
 have := keys_read h
 rw [e2] at this; exact this
theorem strv_step {ks : List ByteArray} {i : Nat} {k : ByteArray} (h : ks[i]? = some k) : strv (ks.take (i + 1)) = strv (ks.take i) ++ [.string k] := by
 unfold strv
 rw [List.take_add_one, h, List.map_append]; rfl
theorem vkeys_anyG (F : Nat) (h4 : 4 ≤ F) (h6 : F ≤ 6) (g n : Nat) (l : List Cel) (hl : l.length = n) (H : Nat) (kk : Nat) (nd : Nat → Nat → Nat) (mm : Nat → Nat) (lo : Nat → Nat → ByteArray) (pg : Nat → Nat → Pg) (T : TrG F l H kk nd mm lo pg) (h0 : 0 < H) (ks : List ByteArray) (r : Nat → Nat) (off : Nat → Nat) (hlv : LeavesG ks r (mm 0) (lo 0) (pg 0) off) (hk40 : ks.length ≤ 100) (w : World) (hv : Blk w g 54 (flat3 l)) :
  Calls Tryz.prog 29 #[.agg #[.int .i64 1, .int .i64 2, .int .i64 100, .int .i64 100, .int .i64 200, .int .i64 (F : Int), .int .u64 1000, .slice (some ⟨g, 0, none⟩) n n]] w fun e w' => ∃ (A : Option Addr) (c : Nat), e = .returned (.slice A ks.length c) ∧ Kr w' A ks ∧ Kept (fun _ => False) w w' := by
 obtain ⟨i0, hi0, hz0, hz1, hz2⟩ := info_parts infoStr
 have HI0 := Hd hi0
 have HI1 := Hd hz0
 have HI2 := Hd hz1
 have HI3 := Hd hz2
 clear hi0 hz0 hz1 hz2
 have HLV := Hd hlv
 clear hlv
 have HV0 := Hd hv
 clear hv
 go_enter Tryz.func29, Tryz.ntmps29
 go_wp2_with fail
 have hal := (Kept.refl (fun _ => False) w).alloc (.cells #[.int .i64 1, .int .i64 2, .int .i64 100, .int .i64 100, .int .i64 200, .int .i64 (F : Int), .int .u64 1000, .slice (some ⟨g, 0, none⟩) n n] 63)
 have HB := Hd (Blk.new w [.int .i64 1, .int .i64 2, .int .i64 100, .int .i64 100, .int .i64 200, .int .i64 (F : Int), .int .u64 1000, .slice (some ⟨g, 0, none⟩) n n] 63)
 have HV := Hd (hal.blk HV0.out (fun h => h))
 have HK := Hd hal
 clear hal
 generalize w.alloc (.cells #[.int .i64 1, .int .i64 2, .int .i64 100, .int .i64 100, .int .i64 200, .int .i64 (F : Int), .int .u64 1000, .slice (some ⟨g, 0, none⟩) n n] 63) = W at *
 generalize hr0 : w.heap.size = r0 at *
 have HR0 := Hd hr0
 clear hr0
 have hb9 := HB.out
 obtain ⟨x0, x1, x2, x3, x4, x5, x6, x7⟩ := hb9.c8
 clear hb9
 have hmp := (T.lev 0 h0).pos
 have hmt := (T.lev 0 h0).top
 refine (vlevel_inG F h4 h6 g n l hl H kk nd mm lo pg T 0 h0 _ HV.out).mono ?_; rintro e Z ⟨AL, cL, rfl, hAL, hK9⟩
 obtain ⟨gL, oL, rfl, hgL, -, hcL⟩ := hAL (by omega)
 have HBz := Hd (hK9.blk HB.out (fun h => h))
 have HVz := Hd (hK9.blk HV.out (fun h => h))
 have HKz := Hd (HK.out.trans hK9 (fun _ _ h => h))
 obtain ⟨m, hm⟩ : ∃ m, mm 0 = m := ⟨_, rfl⟩
 rw [hm] at hcL hmp hmt
 rw [hm]
 have HMM := Hd hm
 have HCLz := Hd (show ∀ i, i < m → Z.cell? ⟨gL, oL + i, none⟩ = some (.int .u64 ((nd 0 i : Nat) : Int)) from fun i hi => hcL i _ (idsG_at hi))
 clear hcL hAL hK9 HB HV HK hm x0 x1 x2 x3 x4 x5 x6 x7
 go_wp2_with fail
 go_loopw [3, 5] (fun ov iv wr => ∃ i : Nat, i ≤ m ∧ iv = .int .i64 (i : Int) ∧ slLen ov = off i ∧ wr.ownsRow Z.heap.size 9 1 ov (off i) (strv (ks.take (off i))) ∧ Below Z.heap.size Z wr) (fun _ iv _ => m - (intOf iv).toNat)
 case atStart => exact ⟨0, Nat.zero_le _, rfl, HLV.out.zero.symm, by rw [HLV.out.zero]; exact World.ownsRow_nil _ _ _ _, Below.refl _ _⟩
 case round =>
  rename World => V3
  obtain ⟨i, him0, rfl, hsl, hO, hBl⟩ := hrel
  have HO := Hd hO
  have HBl := Hd hBl
  have hzr := hBl.size
  obtain ⟨A0, c0, rfl⟩ := strs_slice hO
  have HOB := Hd (fun k hk => hO.lt k hk)
  have HBr := Hd (HBz.out.below hBl HBz.out.lt)
  have HVr := Hd (HVz.out.below hBl HVz.out.lt)
  have hgLr : gL < V3.heap.size := Nat.lt_of_lt_of_le hgL hzr
  clear hO hBl hsl
  by_cases himm : i < m
  ·have him : i < mm 0 := by rw [HMM.out]; exact himm
   obtain ⟨nid, hnid⟩ : ∃ nid, nd 0 i = nid := ⟨_, rfl⟩
   have hcl := HCLz.out i himm
   rw [hnid] at hcl
   have HCL := Hd ((HBl.out.cell (p := ⟨gL, oL + i, none⟩) hgL).trans hcl)
   obtain ⟨P, hP⟩ : ∃ P, pg 0 i = P := ⟨_, rfl⟩
   obtain ⟨la3, hla3⟩ : ∃ x, P.la = x := ⟨_, rfl⟩
   obtain ⟨hi3, hhi3⟩ : ∃ x, P.hi = x := ⟨_, rfl⟩
   obtain ⟨n3, hn3⟩ : ∃ x, P.xs.length = x := ⟨_, rfl⟩
   obtain ⟨rt3, hrt3⟩ : ∃ x, P.rt = x := ⟨_, rfl⟩
   have HPP := Hd hP
   have HN3 := Hd hn3
   have hn3b : n3 ≤ 6 := by rw [← hn3, ← hP]; have := ((T.lev 0 h0).nd i him).len; omega
   have HPAGE := Hd (show ∀ W', Kept (fun _ => False) V3 W' → Calls Tryz.prog 81 #[.agg #[.int .i64 1, .int .i64 2, .int .i64 100, .int .i64 100, .int .i64 200, .int .i64 (F : Int), .int .u64 1000, .slice (some ⟨g, 0, none⟩) n n], .int .u64 (nid : Int)] W' fun e w' => ∃ (A : Option Addr) (c : Nat), e = .returned (.agg #[.int .i64 0, .slice A n3 c, .string hi3, .bool la3, .int .u64 (rt3 : Int)]) ∧ Rs w' A c P.xs ∧ (∀ a, A = some a → W'.heap.size ≤ a.block) ∧ Kept (fun _ => False) W' w' from fun W' hW => by
    refine (tpage_anyG F h4 h6 g n l hl H kk nd mm lo pg T 0 i nid h0 him hnid.symm 0 rfl W' (hW.blk HVr.out (fun h => h))).mono ?_
    rintro e w' ⟨A, c, rfl, hr, ha, hk⟩
    rw [hP] at hr ⊢
    rw [hhi3, hla3, hn3, hrt3]
    exact ⟨A, c, rfl, hr, ha, hk⟩)
   have himI : (i : Int) < (m : Int) := by omega
   clear hcl hnid hP hla3 hhi3 hn3 hrt3
   go_upto_region 6 with fail
   refine wp_region_held_drew (S := (fun w' => Kept (fun _ => False) V3 w')) (by kernel_rfl) ?_ (fun hHeld => ?_)
   ·exact (Kept.refl _ _).drew
   have HW := Hd ((Kept.refl (fun _ => False) V3).drew)
   generalize V3.drew = G at *
   refine tkH 0 16 ?_ rfl ?_ hHeld ?_
   rotate_left
   ·(intro wq hSw; have hb9 := hSw.blk HBr.out (fun h => h); obtain ⟨x0, x1, x2, x3, x4, x5, x6, x7⟩ := hb9.c8; clear hb9; have hc9 := (hSw.cell (p := ⟨gL, oL + i, none⟩) hgLr (fun h => h)).trans HCL.out; go_simp; try with_reducible rfl)
   try simp only [aP,aA,aZ,aS]
   refine tkH 1 17 ?_ rfl ?_ hHeld ?_
   rotate_left
   ·(intro wq hSw; go_simp; try with_reducible rfl)
   try simp only [aP,aA,aZ,aS]
   refine tkH 2 18 ?_ rfl ?_ hHeld ?_
   rotate_left
   ·(intro wq hSw; go_simp; try with_reducible rfl)
   try simp only [aP,aA,aZ,aS]
   refine tkH 3 19 ?_ rfl ?_ hHeld ?_
   rotate_left
   ·(intro wq hSw; go_simp; try with_reducible rfl)
   try simp only [aP,aA,aZ,aS]
   refine tkH 4 20 ?_ rfl ?_ hHeld ?_
   rotate_left
   ·(intro wq hSw; have hb9 := hSw.blk HBr.out (fun h => h); obtain ⟨x0, x1, x2, x3, x4, x5, x6, x7⟩ := hb9.c8; clear hb9; have hc9 := (hSw.cell (p := ⟨gL, oL + i, none⟩) hgLr (fun h => h)).trans HCL.out; go_simp; try with_reducible rfl)
   try simp only [aP,aA,aZ,aS]
   refine wpAnyH_ready (rs := [5, 6]) (by kernel_rfl) (by simp) ?_
   refine AllReadyH.cons (o := ⟨some 21, _, _, _, _, _⟩) rfl (fun KK hK => ?_) (AllReadyH.cons (o := ⟨some 6, _, _, _, _, _⟩) rfl (fun KK hK => ?_) (AllReadyH.nil))
   ·go_simp
    go_at_call 81
    have hsz4 := HW.out.size
    refine (HPAGE.out _ HW.out).mono ?_; rintro e G ⟨A3, c3, rfl, hR3, hA3, hK3⟩
    try have HRQ := Hd (show 0 < P.xs.length → ∀ a, A3 = some a → a.block ≠ rq from fun _ a ha => by have h1 := hA3 a ha; have h2 := HSL.out.lt; omega)
    try replace HSL := Hd (hK3.blk HSL.out (fun h => h))
    replace HW := Hd (HW.out.trans hK3 (fun _ _ h => h))
    have HR3 := Hd hR3
    have HA3 := Hd (show ∀ a, A3 = some a → V3.heap.size ≤ a.block from fun a ha => Nat.le_trans hsz4 (hA3 a ha))
    clear hK3 hR3 hA3 hsz4
    refine hK.out _ _ ?_ (fun hHeld2 => ?_)
    ·exact HW.out
    clear hK KK hHeld
    have hHeld := hHeld2
    clear hHeld2
    try simp only [aP,aA,aZ,aS]
    refine wpAnyH_ready (rs := [6]) (by kernel_rfl) (by simp) ?_
    refine AllReadyH.cons (o := ⟨some 6, _, _, _, _, _⟩) rfl (fun KK hK => ?_) (AllReadyH.nil)
    go_simp
    have hr1 : V3.heap.size ≤ G.heap.size := HW.out.size
    replace HW := Hd (HW.out.alloc (.cells #[.int .i64 0, .slice none 0 0, .string ⟨#[]⟩, .bool false, .int .u64 0] 38))
    have HSL := Hd (Blk.new G [.int .i64 0, .slice none 0 0, .string ⟨#[]⟩, .bool false, .int .u64 0] 38)
    try have HRQ := Hd (show 0 < P.xs.length → ∀ a, A3 = some a → a.block ≠ G.heap.size from fun hp a ha => by
     obtain ⟨g9, off9, he9, hg9, -⟩ := HR3.out.at hp
     rw [ha] at he9; cases he9; exact Nat.ne_of_lt hg9)
    try replace HR3 := Hd (HR3.out.keptF ((Kept.refl (fun _ => False) G).alloc (.cells #[.int .i64 0, .slice none 0 0, .string ⟨#[]⟩, .bool false, .int .u64 0] 38)) (fun _ _ h => h))
    generalize G.heap.size = rq at *
    have HR1 := Hd hr1
    clear hr1
    generalize G.alloc (.cells #[.int .i64 0, .slice none 0 0, .string ⟨#[]⟩, .bool false, .int .u64 0] 38) = G at *
    refine hK.out _ _ ?_ (fun hHeld2 => ?_)
    ·exact HW.out
    clear hK KK hHeld
    have hHeld := hHeld2
    clear hHeld2
    try simp only [aP,aA,aZ,aS]
    refine wpAnyH_ready (rs := [7]) (by kernel_rfl) (by simp) ?_
    refine AllReadyH.cons (o := ⟨none, _, _, _, _, _⟩) rfl (fun KK hK => ?_) (AllReadyH.nil)
    have hs9 := HSL.out
    obtain ⟨s0, s1, s2, s3, s4⟩ := hs9.c5
    have z0 := hs9.frozen 0
    have z1 := hs9.frozen 1
    have z2 := hs9.frozen 2
    have z3 := hs9.frozen 3
    have z4 := hs9.frozen 4
    clear hs9
    go_simp
    have hKs5 := (((((Kept.refl (fun i => i = rq) G).setCell (a := ⟨rq, 0, none⟩) (fun _ => rfl) (.int .i64 0)).setCell (a := ⟨rq, 1, none⟩) (fun _ => rfl) (.slice A3 n3 c3)).setCell (a := ⟨rq, 2, none⟩) (fun _ => rfl) (.string hi3)).setCell (a := ⟨rq, 3, none⟩) (fun _ => rfl) (.bool la3)).setCell (a := ⟨rq, 4, none⟩) (fun _ => rfl) (.int .u64 (rt3 : Int))
    replace HR3 := Hd (HR3.out.keptP hKs5 (fun hp a ha e => HRQ.out hp a ha e))
    replace HW := Hd ((((((HW.out).setNew HR1.out 0 (.int .i64 0)).setNew HR1.out 1 (.slice A3 n3 c3)).setNew HR1.out 2 (.string hi3)).setNew HR1.out 3 (.bool la3)).setNew HR1.out 4 (.int .u64 (rt3 : Int)))
    replace HSL := Hd ((((((HSL.out).set 0 (.int .i64 0)).set 1 (.slice A3 n3 c3)).set 2 (.string hi3)).set 3 (.bool la3)).set 4 (.int .u64 (rt3 : Int)))
    clear hKs5 s0 s1 s2 s3 s4 z0 z1 z2 z3 z4
    generalize (((((G).setCell ⟨rq, 0, none⟩ (.int .i64 0)).setCell ⟨rq, 1, none⟩ (.slice A3 n3 c3)).setCell ⟨rq, 2, none⟩ (.string hi3)).setCell ⟨rq, 3, none⟩ (.bool la3)).setCell ⟨rq, 4, none⟩ (.int .u64 (rt3 : Int)) = G at *
    refine hK.out _ _ ?_ (fun hHeld2 => ?_)
    ·exact HW.out
    clear hK KK hHeld
    have hHeld := hHeld2
    clear hHeld2
    try simp only [aP,aA,aZ,aS]
    refine wpAnyH_done (by kernel_rfl) ?_ _
    clear hHeld
    replace HBl := Hd (HBl.out.trans ((HW.out.below (Nat.le_refl _) (fun _ h => h.elim)).mono hzr))
    replace HO := Hd (own_kept HO.out HW.out (fun _ _ h => h))
    replace HBr := Hd (HW.out.blk HBr.out (fun h => h))
    have hzG : Z.heap.size ≤ G.heap.size := Nat.le_trans hzr HW.out.size
    have HZR := Hd hzG
    have HVG := Hd HW.out.size
    clear HW HCL HPAGE hzr hzG
    go_wp2_with fail
    go_loopw [3, 7] (fun ov qv wr => ∃ q : Nat, q ≤ n3 ∧ qv = .int .i64 (q : Int) ∧ slLen ov = off i + q ∧ wr.ownsRow Z.heap.size 9 1 ov (off i + q) (strv (ks.take (off i + q))) ∧ Below Z.heap.size Z wr ∧ (∀ k, ov.ownBlock = some k → (Z.heap.size ≤ k ∧ k < V3.heap.size) ∨ G.heap.size ≤ k) ∧ Kept (fun k => Z.heap.size ≤ k ∧ k < V3.heap.size) G wr) (fun _ qv _ => n3 - (intOf qv).toNat)
    case atStart => exact ⟨0, Nat.zero_le _, rfl, by rw [Nat.add_zero]; rfl, by rw [Nat.add_zero]; exact HO.out, HBl.out, fun k hk => .inl (HOB.out k hk), Kept.refl _ _⟩
    case round =>
     rename World => U
     obtain ⟨q, hq, rfl, hsl2, hO2, hBl2, hob2, hBG2⟩ := hrel
     have HOB2 := Hd hob2
     clear hob2
     have HO2 := Hd hO2
     have HBl2 := Hd hBl2
     have HBG2 := Hd hBG2
     have hzu := hBl2.size
     obtain ⟨A1, c1, rfl⟩ := strs_slice hO2
     have HRQV := Hd (show ¬ (Z.heap.size ≤ rq ∧ rq < V3.heap.size) by have := HR1.out; omega)
     have hs9 := hBG2.blk HSL.out HRQV.out
     obtain ⟨s0, s1, s2, s3, s4⟩ := hs9.c5
     clear hs9 hO2 hBl2 hBG2 hsl2
     by_cases hqn : q < n3
     ·obtain ⟨x, hx⟩ : ∃ x, P.xs[q]? = some x := ⟨_, List.getElem?_eq_getElem (by have := HN3.out; omega)⟩
      obtain ⟨g3, o3, rfl, hg3, hc3⟩ := (HR3.out.keptP HBG2.out (fun _ a ha e => by have := HA3.out a ha; omega)).at (by have := HN3.out; omega)
      obtain ⟨y0, y1⟩ := hc3 q x hx
      have hxk := (HLV.out.slot i him q x (by rw [HPP.out]; exact hx)).1
      obtain ⟨km, hkm⟩ : ∃ km, x.1 = km := ⟨_, rfl⟩
      rw [hkm] at hxk
      rw [hkm] at y0
      have hqI : (q : Int) < (n3 : Int) := by omega
      obtain ⟨m1, hm1⟩ : ∃ m1, off i + q = m1 := ⟨_, rfl⟩
      rw [hm1] at hxk
      have HXK := Hd hxk
      rw [hm1] at HO2 HOB2
      rw [hm1]
      have HM1 := Hd hm1
      have hm100 : m1 < ks.length := by have := (List.getElem?_eq_some_iff.1 (HLV.out.slot i him q x (by rw [HPP.out]; exact hx)).1).1; omega
      clear hc3 hx hxk hkm hm1
      have hown := HO2.out
      go_wp2_with (at_builtin; go_must (refine wpList_append_lies _ rfl (.tmp 29) (.tmp 36) 22 rfl Z.heap.size 9 i0 _ 1 16 Tryz.underlying22 HI0.out HI1.out HI2.out HI3.out rfl (by decide) _ _ _ rfl (hown.alloc _) ⟨U.heap.size, 0, none⟩ 1 1 [.string km] rfl rfl ?a1 ?b1 (by omega) ?c1 ?d1 ?e1 _ rfl ?_))
      try case a1 =>
       intro q' u hu
       match q', hu with
       | 0, hu => simp at hu; subst hu; simp [Addr.add]
       | q' + 1, hu => simp at hu
      case b1 => first | exact rfl | (intro u hu; simp at hu; subst hu; rfl)
      case c1 => unfold maxLen; omega
      case d1 => omega
      case e1 => first | omega | (simp; omega)
      intro g1 cap1 we hown1 hgr1 hat1 hlt1
      have hal := (Below.refl U.heap.size U).alloc (Nat.le_refl _) (.cells #[.string km] 9)
      have hBe := Below.grown (hal.mono hzu) hgr1 (by rw [nblk_alloc]; omega) fun q hq => (hown.lt q hq).1
      replace HBl2 := Hd (HBl2.out.trans hBe)
      have hO1 : we.ownsRow Z.heap.size 9 1 (.slice (some ⟨g1, 0, none⟩) (m1 + 1) cap1) (m1 + 1) (strv (ks.take (m1 + 1))) := by
       rw [strv_step HXK.out]; exact hown1
      have hK7 := ((Kept.refl (fun k => (Value.slice A1 m1 c1).ownBlock = some k) U).alloc (.cells #[.string km] 9)).grown hgr1 (fun k hk _ => hk)
      have HOBn := Hd (show ∀ k, (Value.slice (some (⟨g1, 0, none⟩ : Addr)) (m1 + 1) cap1).ownBlock = some k → (Z.heap.size ≤ k ∧ k < V3.heap.size) ∨ G.heap.size ≤ k from fun k hk => by
       have e : g1 = k := by simpa [Value.ownBlock] using hk
       subst e
       rcases hat1 with h | h
       ·exact HOB2.out _ h
       ·right; have h2 := HBG2.out.size; rw [h]; omega)
      replace HBG2 := Hd (HBG2.out.trans hK7 (fun k hk h => (HOB2.out k h).resolve_right (by omega)))
      have HOn := Hd hO1
      clear s0 s1 s2 s3 s4 y0 y1 hal hown1 hgr1 hO1 hown hBe hK7 hat1 hlt1
      go_wp2
      go_roundw
      case rel => exact ⟨q + 1, by omega, by go_num, by have := HM1.out; show m1 + 1 = off i + (q + 1); omega, by have e := HM1.out; rw [show off i + (q + 1) = m1 + 1 by omega]; exact HOn.out, HBl2.out, HOBn.out, HBG2.out⟩
      case measure => simp [intOf]; omega
     ·have hqI : ¬ (q : Int) < (n3 : Int) := by omega
      obtain hqe : q = n3 := by omega
      have HQE := Hd hqe
      have hstep := HLV.out.step i him
      rw [HPP.out, HN3.out] at hstep
      have HST := Hd hstep
      clear hqe hstep
      go_wp2
      go_roundw
      case rel => exact ⟨i + 1, by omega, by go_num, by have e1 := HST.out; have e2 := HQE.out; show off i + q = _; omega, by have e1 := HST.out; have e2 := HQE.out; rw [show off (i + 1) = off i + q by omega]; exact HO2.out, HBl2.out⟩
      case measure => simp [intOf]; omega
   ·go_simp
    have hr1 : V3.heap.size ≤ G.heap.size := HW.out.size
    replace HW := Hd (HW.out.alloc (.cells #[.int .i64 0, .slice none 0 0, .string ⟨#[]⟩, .bool false, .int .u64 0] 38))
    have HSL := Hd (Blk.new G [.int .i64 0, .slice none 0 0, .string ⟨#[]⟩, .bool false, .int .u64 0] 38)
    try have HRQ := Hd (show 0 < P.xs.length → ∀ a, A3 = some a → a.block ≠ G.heap.size from fun hp a ha => by
     obtain ⟨g9, off9, he9, hg9, -⟩ := HR3.out.at hp
     rw [ha] at he9; cases he9; exact Nat.ne_of_lt hg9)
    try replace HR3 := Hd (HR3.out.keptF ((Kept.refl (fun _ => False) G).alloc (.cells #[.int .i64 0, .slice none 0 0, .string ⟨#[]⟩, .bool false, .int .u64 0] 38)) (fun _ _ h => h))
    generalize G.heap.size = rq at *
    have HR1 := Hd hr1
    clear hr1
    generalize G.alloc (.cells #[.int .i64 0, .slice none 0 0, .string ⟨#[]⟩, .bool false, .int .u64 0] 38) = G at *
    refine hK.out _ _ ?_ (fun hHeld2 => ?_)
    ·exact HW.out
    clear hK KK hHeld
    have hHeld := hHeld2
    clear hHeld2
    try simp only [aP,aA,aZ,aS]
    refine wpAnyH_ready (rs := [5]) (by kernel_rfl) (by simp) ?_
    refine AllReadyH.cons (o := ⟨some 21, _, _, _, _, _⟩) rfl (fun KK hK => ?_) (AllReadyH.nil)
    go_simp
    go_at_call 81
    have hsz4 := HW.out.size
    refine (HPAGE.out _ HW.out).mono ?_; rintro e G ⟨A3, c3, rfl, hR3, hA3, hK3⟩
    try have HRQ := Hd (show 0 < P.xs.length → ∀ a, A3 = some a → a.block ≠ rq from fun _ a ha => by have h1 := hA3 a ha; have h2 := HSL.out.lt; omega)
    try replace HSL := Hd (hK3.blk HSL.out (fun h => h))
    replace HW := Hd (HW.out.trans hK3 (fun _ _ h => h))
    have HR3 := Hd hR3
    have HA3 := Hd (show ∀ a, A3 = some a → V3.heap.size ≤ a.block from fun a ha => Nat.le_trans hsz4 (hA3 a ha))
    clear hK3 hR3 hA3 hsz4
    refine hK.out _ _ ?_ (fun hHeld2 => ?_)
    ·exact HW.out
    clear hK KK hHeld
    have hHeld := hHeld2
    clear hHeld2
    try simp only [aP,aA,aZ,aS]
    refine wpAnyH_ready (rs := [7]) (by kernel_rfl) (by simp) ?_
    refine AllReadyH.cons (o := ⟨none, _, _, _, _, _⟩) rfl (fun KK hK => ?_) (AllReadyH.nil)
    have hs9 := HSL.out
    obtain ⟨s0, s1, s2, s3, s4⟩ := hs9.c5
    have z0 := hs9.frozen 0
    have z1 := hs9.frozen 1
    have z2 := hs9.frozen 2
    have z3 := hs9.frozen 3
    have z4 := hs9.frozen 4
    clear hs9
    go_simp
    have hKs5 := (((((Kept.refl (fun i => i = rq) G).setCell (a := ⟨rq, 0, none⟩) (fun _ => rfl) (.int .i64 0)).setCell (a := ⟨rq, 1, none⟩) (fun _ => rfl) (.slice A3 n3 c3)).setCell (a := ⟨rq, 2, none⟩) (fun _ => rfl) (.string hi3)).setCell (a := ⟨rq, 3, none⟩) (fun _ => rfl) (.bool la3)).setCell (a := ⟨rq, 4, none⟩) (fun _ => rfl) (.int .u64 (rt3 : Int))
    replace HR3 := Hd (HR3.out.keptP hKs5 (fun hp a ha e => HRQ.out hp a ha e))
    replace HW := Hd ((((((HW.out).setNew HR1.out 0 (.int .i64 0)).setNew HR1.out 1 (.slice A3 n3 c3)).setNew HR1.out 2 (.string hi3)).setNew HR1.out 3 (.bool la3)).setNew HR1.out 4 (.int .u64 (rt3 : Int)))
    replace HSL := Hd ((((((HSL.out).set 0 (.int .i64 0)).set 1 (.slice A3 n3 c3)).set 2 (.string hi3)).set 3 (.bool la3)).set 4 (.int .u64 (rt3 : Int)))
    clear hKs5 s0 s1 s2 s3 s4 z0 z1 z2 z3 z4
    generalize (((((G).setCell ⟨rq, 0, none⟩ (.int .i64 0)).setCell ⟨rq, 1, none⟩ (.slice A3 n3 c3)).setCell ⟨rq, 2, none⟩ (.string hi3)).setCell ⟨rq, 3, none⟩ (.bool la3)).setCell ⟨rq, 4, none⟩ (.int .u64 (rt3 : Int)) = G at *
    refine hK.out _ _ ?_ (fun hHeld2 => ?_)
    ·exact HW.out
    clear hK KK hHeld
    have hHeld := hHeld2
    clear hHeld2
    try simp only [aP,aA,aZ,aS]
    refine wpAnyH_done (by kernel_rfl) ?_ _
    clear hHeld
    replace HBl := Hd (HBl.out.trans ((HW.out.below (Nat.le_refl _) (fun _ h => h.elim)).mono hzr))
    replace HO := Hd (own_kept HO.out HW.out (fun _ _ h => h))
    replace HBr := Hd (HW.out.blk HBr.out (fun h => h))
    have hzG : Z.heap.size ≤ G.heap.size := Nat.le_trans hzr HW.out.size
    have HZR := Hd hzG
    have HVG := Hd HW.out.size
    clear HW HCL HPAGE hzr hzG
    go_wp2_with fail
    go_loopw [3, 7] (fun ov qv wr => ∃ q : Nat, q ≤ n3 ∧ qv = .int .i64 (q : Int) ∧ slLen ov = off i + q ∧ wr.ownsRow Z.heap.size 9 1 ov (off i + q) (strv (ks.take (off i + q))) ∧ Below Z.heap.size Z wr ∧ (∀ k, ov.ownBlock = some k → (Z.heap.size ≤ k ∧ k < V3.heap.size) ∨ G.heap.size ≤ k) ∧ Kept (fun k => Z.heap.size ≤ k ∧ k < V3.heap.size) G wr) (fun _ qv _ => n3 - (intOf qv).toNat)
    case atStart => exact ⟨0, Nat.zero_le _, rfl, by rw [Nat.add_zero]; rfl, by rw [Nat.add_zero]; exact HO.out, HBl.out, fun k hk => .inl (HOB.out k hk), Kept.refl _ _⟩
    case round =>
     rename World => U
     obtain ⟨q, hq, rfl, hsl2, hO2, hBl2, hob2, hBG2⟩ := hrel
     have HOB2 := Hd hob2
     clear hob2
     have HO2 := Hd hO2
     have HBl2 := Hd hBl2
     have HBG2 := Hd hBG2
     have hzu := hBl2.size
     obtain ⟨A1, c1, rfl⟩ := strs_slice hO2
     have HRQV := Hd (show ¬ (Z.heap.size ≤ rq ∧ rq < V3.heap.size) by have := HR1.out; omega)
     have hs9 := hBG2.blk HSL.out HRQV.out
     obtain ⟨s0, s1, s2, s3, s4⟩ := hs9.c5
     clear hs9 hO2 hBl2 hBG2 hsl2
     by_cases hqn : q < n3
     ·obtain ⟨x, hx⟩ : ∃ x, P.xs[q]? = some x := ⟨_, List.getElem?_eq_getElem (by have := HN3.out; omega)⟩
      obtain ⟨g3, o3, rfl, hg3, hc3⟩ := (HR3.out.keptP HBG2.out (fun _ a ha e => by have := HA3.out a ha; omega)).at (by have := HN3.out; omega)
      obtain ⟨y0, y1⟩ := hc3 q x hx
      have hxk := (HLV.out.slot i him q x (by rw [HPP.out]; exact hx)).1
      obtain ⟨km, hkm⟩ : ∃ km, x.1 = km := ⟨_, rfl⟩
      rw [hkm] at hxk
      rw [hkm] at y0
      have hqI : (q : Int) < (n3 : Int) := by omega
      obtain ⟨m1, hm1⟩ : ∃ m1, off i + q = m1 := ⟨_, rfl⟩
      rw [hm1] at hxk
      have HXK := Hd hxk
      rw [hm1] at HO2 HOB2
      rw [hm1]
      have HM1 := Hd hm1
      have hm100 : m1 < ks.length := by have := (List.getElem?_eq_some_iff.1 (HLV.out.slot i him q x (by rw [HPP.out]; exact hx)).1).1; omega
      clear hc3 hx hxk hkm hm1
      have hown := HO2.out
      go_wp2_with (at_builtin; go_must (refine wpList_append_lies _ rfl (.tmp 29) (.tmp 36) 22 rfl Z.heap.size 9 i0 _ 1 16 Tryz.underlying22 HI0.out HI1.out HI2.out HI3.out rfl (by decide) _ _ _ rfl (hown.alloc _) ⟨U.heap.size, 0, none⟩ 1 1 [.string km] rfl rfl ?a1 ?b1 (by omega) ?c1 ?d1 ?e1 _ rfl ?_))
      try case a1 =>
       intro q' u hu
       match q', hu with
       | 0, hu => simp at hu; subst hu; simp [Addr.add]
       | q' + 1, hu => simp at hu
      case b1 => first | exact rfl | (intro u hu; simp at hu; subst hu; rfl)
      case c1 => unfold maxLen; omega
      case d1 => omega
      case e1 => first | omega | (simp; omega)
      intro g1 cap1 we hown1 hgr1 hat1 hlt1
      have hal := (Below.refl U.heap.size U).alloc (Nat.le_refl _) (.cells #[.string km] 9)
      have hBe := Below.grown (hal.mono hzu) hgr1 (by rw [nblk_alloc]; omega) fun q hq => (hown.lt q hq).1
      replace HBl2 := Hd (HBl2.out.trans hBe)
      have hO1 : we.ownsRow Z.heap.size 9 1 (.slice (some ⟨g1, 0, none⟩) (m1 + 1) cap1) (m1 + 1) (strv (ks.take (m1 + 1))) := by
       rw [strv_step HXK.out]; exact hown1
      have hK7 := ((Kept.refl (fun k => (Value.slice A1 m1 c1).ownBlock = some k) U).alloc (.cells #[.string km] 9)).grown hgr1 (fun k hk _ => hk)
      have HOBn := Hd (show ∀ k, (Value.slice (some (⟨g1, 0, none⟩ : Addr)) (m1 + 1) cap1).ownBlock = some k → (Z.heap.size ≤ k ∧ k < V3.heap.size) ∨ G.heap.size ≤ k from fun k hk => by
       have e : g1 = k := by simpa [Value.ownBlock] using hk
       subst e
       rcases hat1 with h | h
       ·exact HOB2.out _ h
       ·right; have h2 := HBG2.out.size; rw [h]; omega)
      replace HBG2 := Hd (HBG2.out.trans hK7 (fun k hk h => (HOB2.out k h).resolve_right (by omega)))
      have HOn := Hd hO1
      clear s0 s1 s2 s3 s4 y0 y1 hal hown1 hgr1 hO1 hown hBe hK7 hat1 hlt1
      go_wp2
      go_roundw
      case rel => exact ⟨q + 1, by omega, by go_num, by have := HM1.out; show m1 + 1 = off i + (q + 1); omega, by have e := HM1.out; rw [show off i + (q + 1) = m1 + 1 by omega]; exact HOn.out, HBl2.out, HOBn.out, HBG2.out⟩
      case measure => simp [intOf]; omega
     ·have hqI : ¬ (q : Int) < (n3 : Int) := by omega
      obtain hqe : q = n3 := by omega
      have HQE := Hd hqe
      have hstep := HLV.out.step i him
      rw [HPP.out, HN3.out] at hstep
      have HST := Hd hstep
      clear hqe hstep
      go_wp2
      go_roundw
      case rel => exact ⟨i + 1, by omega, by go_num, by have e1 := HST.out; have e2 := HQE.out; show off i + q = _; omega, by have e1 := HST.out; have e2 := HQE.out; rw [show off (i + 1) = off i + q by omega]; exact HO2.out, HBl2.out⟩
      case measure => simp [intOf]; omega
  ·have himI : ¬ (i : Int) < (m : Int) := by omega
   obtain rfl : i = m := by omega
   go_wp2
   go_ret
   have hal := HLV.out.all
   rw [HMM.out] at hal
   have hO5 := HO.out
   rw [hal, List.take_of_length_le (Nat.le_refl _)] at hO5
   obtain ⟨A9, c9, he9, hw9, -⟩ := strv_read hO5
   rw [hal]
   have hz9 := HKz.out.size
   have hr9 := HR0.out
   have hb9 := HBl.out
   have hKz := HKz.out.trans (Below.kept hb9 (S := fun _ => False) (fun i hi h => by omega)) (fun _ _ h => h)
   have hwr : Kr V3 A0 ks := by cases he9; exact hw9
   exact ⟨A0, ⟨c0, rfl⟩, hwr, hKz⟩

end
end Go.Proofs.YtjnodgebpklaoaaGreat
