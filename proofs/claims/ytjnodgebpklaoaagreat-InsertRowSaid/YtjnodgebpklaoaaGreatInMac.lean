/-
 Package insert: the parts of an Insert. Condition: a layout within its limits.
-/
import Derived.Test.YtjnodgebpklaoaaGreatInCop
import Derived.Test.YtjnodgebpklaoaaGreatInTake
import Derived.Test.YtjnodgebpklaoaaGreatLkNew
import Derived.Test.YtjnodgebpklaoaaGreatMgPlant
import Derived.Deep.RegionHeld3
namespace Go.Proofs.YtjnodgebpklaoaaGreat
set_option maxHeartbeats 8000000
set_option maxRecDepth 100000
open Go.RowKit Go.Deep Plain
set_option linter.unusedVariables false

section
open Go.RowKit Go.Deep Plain
set_option linter.unusedVariables false

theorem ichange_any (N : Int) (F : Nat) (fb fd : Int) (hl : Lim 1 2 N 100 200 (F : Int)) (hd : Reach3 10 fb fd) (i id wd : Nat) (P X : Pg) (A : Option Addr) (c : Nat) (A2 : Option Addr) (c2 : Nat) (ph : Int) (tk fr wp : Value) (sp : ByteArray) (w : World) (h : Blk w i 104 (insv N F fb fd id wd P A c X A2 c2 ph tk fr wp sp)) (hP : P.xs.length ≤ 1000) (hX : X.xs.length ≤ 1000) (hPl : P.lv < 9223372036854775808) (hXl : X.lv < 9223372036854775808) (hwd : wd < 18446744073709551616) (hR : Rs w A c P.xs) (hR2 : Rs w A2 c2 X.xs) :
  Calls Tryz.prog 62 #[.pointer (some ⟨i, 0, none⟩)] w fun e w' => e = .returned (.tuple #[]) ∧ ∃ (q : Nat) (Zw : Nat → Prop), Blk w' i 104 (insv N F fb fd id wd P A c X A2 c2 2 tk fr (.pointer (some ⟨q, 0, none⟩)) sp) ∧ Stm Zw w' q 166 (wsto (nodeAt N (F : Int) 10 (id : Int) 0) (beginW wd) (endW (beginW wd)) (chg (pst (adr N F 10 id) P) (pst (adr N F 10 id) X))) 0 id (endW (beginW wd)) X ∧ (∀ k, Zw k → w.heap.size ≤ k) ∧ Kept (fun k => k = i) w w' := by
 have HI := Hd h
 have HR := Hd hR
 have HR2 := Hd hR2
 clear h hR hR2
 go_enter Tryz.func62, Tryz.ntmps62
 refine wp_region_held_drew (S := (fun w' => Kept (fun k => k = i) w w' ∧ ∃ (ph' : Int) (wp' : Value), Blk w' i 104 (insv N F fb fd id wd P A c X A2 c2 ph' tk fr wp' sp))) (by kernel_rfl) ?_ (fun hHeld => ?_)
 ·exact ⟨(Kept.refl _ _).drew, ph, wp, ((Kept.refl (fun _ => False) w).drew).blk HI.out (fun h => h)⟩
 have HW := Hd ((Kept.refl (fun k => k = i) w).drew)
 have hdr := (Kept.refl (fun _ => False) w).drew
 replace HI := Hd (hdr.blk HI.out (fun h => h))
 replace HR := Hd (HR.out.keptF hdr (fun _ _ h => h))
 replace HR2 := Hd (HR2.out.keptF hdr (fun _ _ h => h))
 clear hdr
 generalize w.drew = G at *
 refine tkH 0 2 ?_ rfl ?_ hHeld ?_
 rotate_left
 ·(intro wq hSw; go_simp; try with_reducible rfl)
 try simp only [aP,aA,aZ,aS]
 refine tkH 1 3 ?_ rfl ?_ hHeld ?_
 rotate_left
 ·(intro wq hSw; go_simp; try with_reducible rfl)
 try simp only [aP,aA,aZ,aS]
 refine tkH 2 4 ?_ rfl ?_ hHeld ?_
 rotate_left
 ·(intro wq hSw; go_simp; try with_reducible rfl)
 try simp only [aP,aA,aZ,aS]
 refine tkH 3 5 ?_ rfl ?_ hHeld ?_
 rotate_left
 ·(intro wq hSw; go_simp; try with_reducible rfl)
 try simp only [aP,aA,aZ,aS]
 refine tkH 4 6 ?_ rfl ?_ hHeld ?_
 rotate_left
 ·(intro wq hSw; go_simp; try with_reducible rfl)
 try simp only [aP,aA,aZ,aS]
 refine tkH 5 7 ?_ rfl ?_ hHeld ?_
 rotate_left
 ·(intro wq hSw; obtain ⟨ph9, wp9, hb9⟩ := hSw.2; obtain ⟨x0, x1, x2, x3, x4, x5, x6, x7, x8, x9, x10, x11, x12, x13, x14, x15, x16, x17, x18, x19, x20, x21⟩ := hb9.c22; clear hb9; go_simp; try with_reducible rfl)
 try simp only [aP,aA,aZ,aS]
 refine tkH 6 8 ?_ rfl ?_ hHeld ?_
 rotate_left
 ·(intro wq hSw; go_simp; try with_reducible rfl)
 try simp only [aP,aA,aZ,aS]
 refine tkH 7 9 ?_ rfl ?_ hHeld ?_
 rotate_left
 ·(intro wq hSw; go_simp; try with_reducible rfl)
 try simp only [aP,aA,aZ,aS]
 refine tkH 8 10 ?_ rfl ?_ hHeld ?_
 rotate_left
 ·(intro wq hSw; go_simp; try with_reducible rfl)
 try simp only [aP,aA,aZ,aS]
 refine tkH 9 11 ?_ rfl ?_ hHeld ?_
 rotate_left
 ·(intro wq hSw; obtain ⟨ph9, wp9, hb9⟩ := hSw.2; obtain ⟨x0, x1, x2, x3, x4, x5, x6, x7, x8, x9, x10, x11, x12, x13, x14, x15, x16, x17, x18, x19, x20, x21⟩ := hb9.c22; clear hb9; go_simp; try with_reducible rfl)
 try simp only [aP,aA,aZ,aS]
 refine tkH 10 12 ?_ rfl ?_ hHeld ?_
 rotate_left
 ·(intro wq hSw; go_simp; try with_reducible rfl)
 try simp only [aP,aA,aZ,aS]
 refine tkH 11 13 ?_ rfl ?_ hHeld ?_
 rotate_left
 ·(intro wq hSw; go_simp; try with_reducible rfl)
 try simp only [aP,aA,aZ,aS]
 refine tkH 12 14 ?_ rfl ?_ hHeld ?_
 rotate_left
 ·(intro wq hSw; go_simp; try with_reducible rfl)
 try simp only [aP,aA,aZ,aS]
 refine tkH 13 15 ?_ rfl ?_ hHeld ?_
 rotate_left
 ·(intro wq hSw; obtain ⟨ph9, wp9, hb9⟩ := hSw.2; obtain ⟨x0, x1, x2, x3, x4, x5, x6, x7, x8, x9, x10, x11, x12, x13, x14, x15, x16, x17, x18, x19, x20, x21⟩ := hb9.c22; clear hb9; go_simp; try with_reducible rfl)
 try simp only [aP,aA,aZ,aS]
 refine wpAnyH_ready (rs := [14]) (by kernel_rfl) (by simp) ?_
 refine AllReadyH.cons (o := ⟨some 16, _, _, _, _, _⟩) rfl (fun KK hK => ?_) AllReadyH.nil
 go_simp
 go_at_call 109
 refine (newWrite_any 1 2 N 100 200 F 1000 10 fb fd hl hd id wd P.lv A c P.hi P.la P.rt P.xs X.lv A2 c2 X.hi X.la X.rt X.xs _ P.xs.length X.xs.length rfl rfl hP hX hPl hXl hwd HR.out HR2.out).mono ?_; rintro e G1 ⟨q, Zw, rfl, hS, hZ, hK⟩
 have HS := Hd (show Stm Zw G1 q 166 (wsto (nodeAt N (F : Int) 10 (id : Int) 0) (beginW wd) (endW (beginW wd)) (chg (pst (adr N F 10 id) P) (pst (adr N F 10 id) X))) 0 id (endW (beginW wd)) X from hS)
 have HZ := Hd (show ∀ k, Zw k → w.heap.size ≤ k from fun k hk => Nat.le_trans HW.out.size (hZ k hk))
 have HIL := Hd (show ∀ k, Zw k → k ≠ i from fun k hk e => by have h1 := hZ k hk; have h2 := HI.out.lt; omega)
 replace HI := Hd (hK.blk HI.out (fun h => h))
 replace HW := Hd (HW.out.trans hK (fun _ _ h => h.elim))
 clear hS hZ hK HR HR2
 rename World => G
 refine hK.out _ _ ?_ (fun hHeld2 => ?_)
 ·exact ⟨HW.out, ph, wp, HI.out⟩
 clear hK KK hHeld
 have hHeld := hHeld2
 clear hHeld2
 try simp only [aP,aA,aZ,aS]
 refine tkH 15 17 ?_ rfl ?_ hHeld ?_
 rotate_left
 ·(intro wq hSw; go_simp; try with_reducible rfl)
 try simp only [aP,aA,aZ,aS]
 refine tkH 16 18 ?_ rfl ?_ hHeld ?_
 rotate_left
 ·(intro wq hSw; go_simp; try with_reducible rfl)
 try simp only [aP,aA,aZ,aS]
 refine wpAnyH_ready (rs := [17]) (by kernel_rfl) (by simp) ?_
 refine AllReadyH.cons (o := ⟨none, _, _, _, _, _⟩) rfl (fun KK hK => ?_) AllReadyH.nil
 have hs9 := HI.out
 have s9 := hs9.k 25 rfl
 have z9 := hs9.frozen 25
 clear hs9
 go_simp
 have hks := (Kept.refl (fun k => k = i) G).setCell (a := ⟨i, 25, none⟩) (fun _ => rfl) (.pointer (some ⟨q, 0, none⟩))
 replace HI := Hd (show Blk (G.setCell ⟨i, 25, none⟩ (.pointer (some ⟨q, 0, none⟩))) i 104 (insv N F fb fd id wd P A c X A2 c2 ph tk fr (.pointer (some ⟨q, 0, none⟩)) sp) from HI.out.set 25 (.pointer (some ⟨q, 0, none⟩)))
 replace HW := Hd (HW.out.trans hks (fun _ _ h => h))
 replace HS := Hd (HS.out.kept hks (fun k hk h => HIL.out k hk h))
 clear s9 z9 hks
 generalize G.setCell ⟨i, 25, none⟩ (.pointer (some ⟨q, 0, none⟩)) = G at *
 refine hK.out _ _ ?_ (fun hHeld2 => ?_)
 ·exact ⟨HW.out, ph, _, HI.out⟩
 clear hK KK hHeld
 have hHeld := hHeld2
 clear hHeld2
 try simp only [aP,aA,aZ,aS]
 refine tkH 18 19 ?_ rfl ?_ hHeld ?_
 rotate_left
 ·(intro wq hSw; go_simp; try with_reducible rfl)
 try simp only [aP,aA,aZ,aS]
 refine tkH 19 20 ?_ rfl ?_ hHeld ?_
 rotate_left
 ·(intro wq hSw; go_simp; try with_reducible rfl)
 try simp only [aP,aA,aZ,aS]
 refine wpAnyH_ready (rs := [20]) (by kernel_rfl) (by simp) ?_
 refine AllReadyH.cons (o := ⟨none, _, _, _, _, _⟩) rfl (fun KK hK => ?_) AllReadyH.nil
 have hs9 := HI.out
 have s9 := hs9.k 22 rfl
 have z9 := hs9.frozen 22
 clear hs9
 go_simp
 have hks := (Kept.refl (fun k => k = i) G).setCell (a := ⟨i, 22, none⟩) (fun _ => rfl) (.int .i64 2)
 replace HI := Hd (show Blk (G.setCell ⟨i, 22, none⟩ (.int .i64 2)) i 104 (insv N F fb fd id wd P A c X A2 c2 2 tk fr (.pointer (some ⟨q, 0, none⟩)) sp) from HI.out.set 22 (.int .i64 2))
 replace HW := Hd (HW.out.trans hks (fun _ _ h => h))
 replace HS := Hd (HS.out.kept hks (fun k hk h => HIL.out k hk h))
 clear s9 z9 hks
 generalize G.setCell ⟨i, 22, none⟩ (.int .i64 2) = G at *
 refine hK.out _ _ ?_ (fun hHeld2 => ?_)
 ·exact ⟨HW.out, 2, _, HI.out⟩
 clear hK KK hHeld
 have hHeld := hHeld2
 clear hHeld2
 try simp only [aP,aA,aZ,aS]
 refine wpAnyH_done (by kernel_rfl) ?_ _
 clear hHeld
 go_wp2
 go_end0
 exact ⟨rfl, q, Zw, HI.out, HS.out, HZ.out, HW.out⟩

end
end Go.Proofs.YtjnodgebpklaoaaGreat
