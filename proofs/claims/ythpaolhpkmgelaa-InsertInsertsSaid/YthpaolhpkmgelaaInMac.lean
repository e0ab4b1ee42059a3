/-
  Package insert: the parts of an Insert. Condition: a layout within its limits.
-/
import Derived.Test.YthpaolhpkmgelaaInCop
import Derived.Test.YthpaolhpkmgelaaInTake
import Derived.Test.YthpaolhpkmgelaaLkNew
import Derived.Test.YthpaolhpkmgelaaLkAux
import Derived.Deep.RegionHeld3
namespace Go.Proofs.Ythpaolhpkmgelaa
open Go.RowKit Go.Deep Plain
set_option linter.unusedVariables false

section
open Go.RowKit Go.Deep Plain
set_option linter.unusedVariables false

set_option maxRecDepth 100000 in
set_option maxHeartbeats 2000000 in
theorem ichange_any (N : Int) (F : Nat) (fb fd : Int) (hl : Lim 1 2 N 100 200 (F : Int)) (hd : Reach3 10 fb fd) (i id wd : Nat) (P X : Pg) (A : Option Addr) (c : Nat) (A2 : Option Addr) (c2 : Nat) (ph : Int) (tk fr wp : Value) (sp : ByteArray) (w : World) (h : Blk w i 82 (insv N F fb fd id wd P A c X A2 c2 ph tk fr wp sp)) (hP : P.xs.length ≤ 1000) (hX : X.xs.length ≤ 1000) (hPl : P.lv < 9223372036854775808) (hXl : X.lv < 9223372036854775808) (hwd : wd < 18446744073709551616) (hR : Rs w A c P.xs) (hR2 : Rs w A2 c2 X.xs) :
    Calls Try.prog 39 #[.pointer (some ⟨i, 0, none⟩)] w fun e w' => e = .returned (.tuple #[]) ∧ ∃ (q : Nat) (Zw : Nat → Prop), Blk w' i 82 (insv N F fb fd id wd P A c X A2 c2 2 tk fr (.pointer (some ⟨q, 0, none⟩)) sp) ∧ Stm Zw w' q 113 (wsto (nodeAt N (F : Int) 10 (id : Int) 0) (beginW wd) (endW (beginW wd)) (chg (pst (adr N F 10 id) P) (pst (adr N F 10 id) X))) 0 id (endW (beginW wd)) X ∧ (∀ k, Zw k → w.heap.size ≤ k) ∧ Kept (fun k => k = i) w w' := by
  have HI := Lib.hid h
  have HR := Lib.hid hR
  have HR2 := Lib.hid hR2
  clear h hR hR2
  go_enter Try.func39, Try.ntmps39
  refine wp_region_held_drew (S := (fun w' => Kept (fun k => k = i) w w' ∧ ∃ (ph' : Int) (wp' : Value), Blk w' i 82 (insv N F fb fd id wd P A c X A2 c2 ph' tk fr wp' sp))) (by kernel_rfl) ?_ (fun hHeld => ?_)
  · exact ⟨(Kept.refl _ _).drew, ph, wp, ((Kept.refl (fun _ => False) w).drew).blk HI.out (fun h => h)⟩
  have HW := Lib.hid ((Kept.refl (fun k => k = i) w).drew)
  have hdr := (Kept.refl (fun _ => False) w).drew
  replace HI := Lib.hid (hdr.blk HI.out (fun h => h))
  replace HR := Lib.hid (HR.out.keptF hdr (fun _ _ h => h))
  replace HR2 := Lib.hid (HR2.out.keptF hdr (fun _ _ h => h))
  clear hdr
  generalize w.drew = G at *
  refine wpAnyH_take (i := 0) (oi := ⟨some 2, _, _, _, _, _⟩) (v := ?_) rfl (by kernel_rfl) (by kernel_rfl) (by kernel_rfl) (fun _ _ _ h => h) (Or.inl ⟨by rfl, ?_⟩) hHeld ?_
  rotate_left
  · (intro wq hSw; go_simp; try with_reducible rfl)
  try simp only [Act.put, List.setIfInBounds_toArray, List.set_cons_zero, List.set_cons_succ]
  refine wpAnyH_take (i := 1) (oi := ⟨some 3, _, _, _, _, _⟩) (v := ?_) rfl (by kernel_rfl) (by kernel_rfl) (by kernel_rfl) (fun _ _ _ h => h) (Or.inl ⟨by rfl, ?_⟩) hHeld ?_
  rotate_left
  · (intro wq hSw; go_simp; try with_reducible rfl)
  try simp only [Act.put, List.setIfInBounds_toArray, List.set_cons_zero, List.set_cons_succ]
  refine wpAnyH_take (i := 2) (oi := ⟨some 4, _, _, _, _, _⟩) (v := ?_) rfl (by kernel_rfl) (by kernel_rfl) (by kernel_rfl) (fun _ _ _ h => h) (Or.inl ⟨by rfl, ?_⟩) hHeld ?_
  rotate_left
  · (intro wq hSw; go_simp; try with_reducible rfl)
  try simp only [Act.put, List.setIfInBounds_toArray, List.set_cons_zero, List.set_cons_succ]
  refine wpAnyH_take (i := 3) (oi := ⟨some 5, _, _, _, _, _⟩) (v := ?_) rfl (by kernel_rfl) (by kernel_rfl) (by kernel_rfl) (fun _ _ _ h => h) (Or.inl ⟨by rfl, ?_⟩) hHeld ?_
  rotate_left
  · (intro wq hSw; go_simp; try with_reducible rfl)
  try simp only [Act.put, List.setIfInBounds_toArray, List.set_cons_zero, List.set_cons_succ]
  refine wpAnyH_take (i := 4) (oi := ⟨some 6, _, _, _, _, _⟩) (v := ?_) rfl (by kernel_rfl) (by kernel_rfl) (by kernel_rfl) (fun _ _ _ h => h) (Or.inl ⟨by rfl, ?_⟩) hHeld ?_
  rotate_left
  · (intro wq hSw; go_simp; try with_reducible rfl)
  try simp only [Act.put, List.setIfInBounds_toArray, List.set_cons_zero, List.set_cons_succ]
  refine wpAnyH_take (i := 5) (oi := ⟨some 7, _, _, _, _, _⟩) (v := ?_) rfl (by kernel_rfl) (by kernel_rfl) (by kernel_rfl) (fun _ _ _ h => h) (Or.inl ⟨by rfl, ?_⟩) hHeld ?_
  rotate_left
  · (intro wq hSw; obtain ⟨ph9, wp9, hb9⟩ := hSw.2; have x0 := hb9.cell (i := 0) rfl; have x1 := hb9.cell (i := 1) rfl; have x2 := hb9.cell (i := 2) rfl; have x3 := hb9.cell (i := 3) rfl; have x4 := hb9.cell (i := 4) rfl; have x5 := hb9.cell (i := 5) rfl; have x6 := hb9.cell (i := 6) rfl; have x7 := hb9.cell (i := 7) rfl; have x8 := hb9.cell (i := 8) rfl; have x9 := hb9.cell (i := 9) rfl; have x10 := hb9.cell (i := 10) rfl; have x11 := hb9.cell (i := 11) rfl; have x12 := hb9.cell (i := 12) rfl; have x13 := hb9.cell (i := 13) rfl; have x14 := hb9.cell (i := 14) rfl; have x15 := hb9.cell (i := 15) rfl; have x16 := hb9.cell (i := 16) rfl; have x17 := hb9.cell (i := 17) rfl; have x18 := hb9.cell (i := 18) rfl; have x19 := hb9.cell (i := 19) rfl; have x20 := hb9.cell (i := 20) rfl; have x21 := hb9.cell (i := 21) rfl; clear hb9; go_simp; try with_reducible rfl)
  try simp only [Act.put, List.setIfInBounds_toArray, List.set_cons_zero, List.set_cons_succ]
  refine wpAnyH_take (i := 6) (oi := ⟨some 8, _, _, _, _, _⟩) (v := ?_) rfl (by kernel_rfl) (by kernel_rfl) (by kernel_rfl) (fun _ _ _ h => h) (Or.inl ⟨by rfl, ?_⟩) hHeld ?_
  rotate_left
  · (intro wq hSw; go_simp; try with_reducible rfl)
  try simp only [Act.put, List.setIfInBounds_toArray, List.set_cons_zero, List.set_cons_succ]
  refine wpAnyH_take (i := 7) (oi := ⟨some 9, _, _, _, _, _⟩) (v := ?_) rfl (by kernel_rfl) (by kernel_rfl) (by kernel_rfl) (fun _ _ _ h => h) (Or.inl ⟨by rfl, ?_⟩) hHeld ?_
  rotate_left
  · (intro wq hSw; go_simp; try with_reducible rfl)
  try simp only [Act.put, List.setIfInBounds_toArray, List.set_cons_zero, List.set_cons_succ]
  refine wpAnyH_take (i := 8) (oi := ⟨some 10, _, _, _, _, _⟩) (v := ?_) rfl (by kernel_rfl) (by kernel_rfl) (by kernel_rfl) (fun _ _ _ h => h) (Or.inl ⟨by rfl, ?_⟩) hHeld ?_
  rotate_left
  · (intro wq hSw; go_simp; try with_reducible rfl)
  try simp only [Act.put, List.setIfInBounds_toArray, List.set_cons_zero, List.set_cons_succ]
  refine wpAnyH_take (i := 9) (oi := ⟨some 11, _, _, _, _, _⟩) (v := ?_) rfl (by kernel_rfl) (by kernel_rfl) (by kernel_rfl) (fun _ _ _ h => h) (Or.inl ⟨by rfl, ?_⟩) hHeld ?_
  rotate_left
  · (intro wq hSw; obtain ⟨ph9, wp9, hb9⟩ := hSw.2; have x0 := hb9.cell (i := 0) rfl; have x1 := hb9.cell (i := 1) rfl; have x2 := hb9.cell (i := 2) rfl; have x3 := hb9.cell (i := 3) rfl; have x4 := hb9.cell (i := 4) rfl; have x5 := hb9.cell (i := 5) rfl; have x6 := hb9.cell (i := 6) rfl; have x7 := hb9.cell (i := 7) rfl; have x8 := hb9.cell (i := 8) rfl; have x9 := hb9.cell (i := 9) rfl; have x10 := hb9.cell (i := 10) rfl; have x11 := hb9.cell (i := 11) rfl; have x12 := hb9.cell (i := 12) rfl; have x13 := hb9.cell (i := 13) rfl; have x14 := hb9.cell (i := 14) rfl; have x15 := hb9.cell (i := 15) rfl; have x16 := hb9.cell (i := 16) rfl; have x17 := hb9.cell (i := 17) rfl; have x18 := hb9.cell (i := 18) rfl; have x19 := hb9.cell (i := 19) rfl; have x20 := hb9.cell (i := 20) rfl; have x21 := hb9.cell (i := 21) rfl; clear hb9; go_simp; try with_reducible rfl)
  try simp only [Act.put, List.setIfInBounds_toArray, List.set_cons_zero, List.set_cons_succ]
  refine wpAnyH_take (i := 10) (oi := ⟨some 12, _, _, _, _, _⟩) (v := ?_) rfl (by kernel_rfl) (by kernel_rfl) (by kernel_rfl) (fun _ _ _ h => h) (Or.inl ⟨by rfl, ?_⟩) hHeld ?_
  rotate_left
  · (intro wq hSw; go_simp; try with_reducible rfl)
  try simp only [Act.put, List.setIfInBounds_toArray, List.set_cons_zero, List.set_cons_succ]
  refine wpAnyH_take (i := 11) (oi := ⟨some 13, _, _, _, _, _⟩) (v := ?_) rfl (by kernel_rfl) (by kernel_rfl) (by kernel_rfl) (fun _ _ _ h => h) (Or.inl ⟨by rfl, ?_⟩) hHeld ?_
  rotate_left
  · (intro wq hSw; go_simp; try with_reducible rfl)
  try simp only [Act.put, List.setIfInBounds_toArray, List.set_cons_zero, List.set_cons_succ]
  refine wpAnyH_take (i := 12) (oi := ⟨some 14, _, _, _, _, _⟩) (v := ?_) rfl (by kernel_rfl) (by kernel_rfl) (by kernel_rfl) (fun _ _ _ h => h) (Or.inl ⟨by rfl, ?_⟩) hHeld ?_
  rotate_left
  · (intro wq hSw; go_simp; try with_reducible rfl)
  try simp only [Act.put, List.setIfInBounds_toArray, List.set_cons_zero, List.set_cons_succ]
  refine wpAnyH_take (i := 13) (oi := ⟨some 15, _, _, _, _, _⟩) (v := ?_) rfl (by kernel_rfl) (by kernel_rfl) (by kernel_rfl) (fun _ _ _ h => h) (Or.inl ⟨by rfl, ?_⟩) hHeld ?_
  rotate_left
  · (intro wq hSw; obtain ⟨ph9, wp9, hb9⟩ := hSw.2; have x0 := hb9.cell (i := 0) rfl; have x1 := hb9.cell (i := 1) rfl; have x2 := hb9.cell (i := 2) rfl; have x3 := hb9.cell (i := 3) rfl; have x4 := hb9.cell (i := 4) rfl; have x5 := hb9.cell (i := 5) rfl; have x6 := hb9.cell (i := 6) rfl; have x7 := hb9.cell (i := 7) rfl; have x8 := hb9.cell (i := 8) rfl; have x9 := hb9.cell (i := 9) rfl; have x10 := hb9.cell (i := 10) rfl; have x11 := hb9.cell (i := 11) rfl; have x12 := hb9.cell (i := 12) rfl; have x13 := hb9.cell (i := 13) rfl; have x14 := hb9.cell (i := 14) rfl; have x15 := hb9.cell (i := 15) rfl; have x16 := hb9.cell (i := 16) rfl; have x17 := hb9.cell (i := 17) rfl; have x18 := hb9.cell (i := 18) rfl; have x19 := hb9.cell (i := 19) rfl; have x20 := hb9.cell (i := 20) rfl; have x21 := hb9.cell (i := 21) rfl; clear hb9; go_simp; try with_reducible rfl)
  try simp only [Act.put, List.setIfInBounds_toArray, List.set_cons_zero, List.set_cons_succ]
  refine wpAnyH_ready (rs := [14]) (by kernel_rfl) (by simp) ?_
  refine AllReadyH.cons (o := ⟨some 16, _, _, _, _, _⟩) rfl (fun KK hK => ?_) AllReadyH.nil
  go_simp
  go_at_call 55
  refine (newWrite_any 1 2 N 100 200 F 1000 10 fb fd hl hd id wd P.lv A c P.hi P.la P.rt P.xs X.lv A2 c2 X.hi X.la X.rt X.xs _ P.xs.length X.xs.length rfl rfl hP hX hPl hXl hwd HR.out HR2.out).mono ?_; rintro e G1 ⟨q, Zw, rfl, hS, hZ, hK⟩
  have HS := Lib.hid (show Stm Zw G1 q 113 (wsto (nodeAt N (F : Int) 10 (id : Int) 0) (beginW wd) (endW (beginW wd)) (chg (pst (adr N F 10 id) P) (pst (adr N F 10 id) X))) 0 id (endW (beginW wd)) X from hS)
  have HZ := Lib.hid (show ∀ k, Zw k → w.heap.size ≤ k from fun k hk => Nat.le_trans HW.out.size (hZ k hk))
  have HIL := Lib.hid (show ∀ k, Zw k → k ≠ i from fun k hk e => by have h1 := hZ k hk; have h2 := HI.out.lt; omega)
  replace HI := Lib.hid (hK.blk HI.out (fun h => h))
  replace HW := Lib.hid (HW.out.trans hK (fun _ _ h => h.elim))
  clear hS hZ hK HR HR2
  rename World => G
  refine hK.out _ _ ?_ (fun hHeld2 => ?_)
  · exact ⟨HW.out, ph, wp, HI.out⟩
  clear hK KK hHeld
  have hHeld := hHeld2
  clear hHeld2
  try simp only [Act.put, List.setIfInBounds_toArray, List.set_cons_zero, List.set_cons_succ]
  refine wpAnyH_take (i := 15) (oi := ⟨some 17, _, _, _, _, _⟩) (v := ?_) rfl (by kernel_rfl) (by kernel_rfl) (by kernel_rfl) (fun _ _ _ h => h) (Or.inl ⟨by rfl, ?_⟩) hHeld ?_
  rotate_left
  · (intro wq hSw; go_simp; try with_reducible rfl)
  try simp only [Act.put, List.setIfInBounds_toArray, List.set_cons_zero, List.set_cons_succ]
  refine wpAnyH_take (i := 16) (oi := ⟨some 18, _, _, _, _, _⟩) (v := ?_) rfl (by kernel_rfl) (by kernel_rfl) (by kernel_rfl) (fun _ _ _ h => h) (Or.inl ⟨by rfl, ?_⟩) hHeld ?_
  rotate_left
  · (intro wq hSw; go_simp; try with_reducible rfl)
  try simp only [Act.put, List.setIfInBounds_toArray, List.set_cons_zero, List.set_cons_succ]
  refine wpAnyH_ready (rs := [17]) (by kernel_rfl) (by simp) ?_
  refine AllReadyH.cons (o := ⟨none, _, _, _, _, _⟩) rfl (fun KK hK => ?_) AllReadyH.nil
  have hs9 := HI.out
  have s9 := hs9.cell (i := 25) rfl
  have z9 := hs9.frozen 25
  clear hs9
  go_simp
  have hks := (Kept.refl (fun k => k = i) G).setCell (a := ⟨i, 25, none⟩) (fun _ => rfl) (.pointer (some ⟨q, 0, none⟩))
  replace HI := Lib.hid (show Blk (G.setCell ⟨i, 25, none⟩ (.pointer (some ⟨q, 0, none⟩))) i 82 (insv N F fb fd id wd P A c X A2 c2 ph tk fr (.pointer (some ⟨q, 0, none⟩)) sp) from HI.out.set 25 (.pointer (some ⟨q, 0, none⟩)))
  replace HW := Lib.hid (HW.out.trans hks (fun _ _ h => h))
  replace HS := Lib.hid (HS.out.kept hks (fun k hk h => HIL.out k hk h))
  clear s9 z9 hks
  generalize G.setCell ⟨i, 25, none⟩ (.pointer (some ⟨q, 0, none⟩)) = G at *
  refine hK.out _ _ ?_ (fun hHeld2 => ?_)
  · exact ⟨HW.out, ph, _, HI.out⟩
  clear hK KK hHeld
  have hHeld := hHeld2
  clear hHeld2
  try simp only [Act.put, List.setIfInBounds_toArray, List.set_cons_zero, List.set_cons_succ]
  refine wpAnyH_take (i := 18) (oi := ⟨some 19, _, _, _, _, _⟩) (v := ?_) rfl (by kernel_rfl) (by kernel_rfl) (by kernel_rfl) (fun _ _ _ h => h) (Or.inl ⟨by rfl, ?_⟩) hHeld ?_
  rotate_left
  · (intro wq hSw; go_simp; try with_reducible rfl)
  try simp only [Act.put, List.setIfInBounds_toArray, List.set_cons_zero, List.set_cons_succ]
  refine wpAnyH_take (i := 19) (oi := ⟨some 20, _, _, _, _, _⟩) (v := ?_) rfl (by kernel_rfl) (by kernel_rfl) (by kernel_rfl) (fun _ _ _ h => h) (Or.inl ⟨by rfl, ?_⟩) hHeld ?_
  rotate_left
  · (intro wq hSw; go_simp; try with_reducible rfl)
  try simp only [Act.put, List.setIfInBounds_toArray, List.set_cons_zero, List.set_cons_succ]
  refine wpAnyH_ready (rs := [20]) (by kernel_rfl) (by simp) ?_
  refine AllReadyH.cons (o := ⟨none, _, _, _, _, _⟩) rfl (fun KK hK => ?_) AllReadyH.nil
  have hs9 := HI.out
  have s9 := hs9.cell (i := 22) rfl
  have z9 := hs9.frozen 22
  clear hs9
  go_simp
  have hks := (Kept.refl (fun k => k = i) G).setCell (a := ⟨i, 22, none⟩) (fun _ => rfl) (.int .i64 2)
  replace HI := Lib.hid (show Blk (G.setCell ⟨i, 22, none⟩ (.int .i64 2)) i 82 (insv N F fb fd id wd P A c X A2 c2 2 tk fr (.pointer (some ⟨q, 0, none⟩)) sp) from HI.out.set 22 (.int .i64 2))
  replace HW := Lib.hid (HW.out.trans hks (fun _ _ h => h))
  replace HS := Lib.hid (HS.out.kept hks (fun k hk h => HIL.out k hk h))
  clear s9 z9 hks
  generalize G.setCell ⟨i, 22, none⟩ (.int .i64 2) = G at *
  refine hK.out _ _ ?_ (fun hHeld2 => ?_)
  · exact ⟨HW.out, 2, _, HI.out⟩
  clear hK KK hHeld
  have hHeld := hHeld2
  clear hHeld2
  try simp only [Act.put, List.setIfInBounds_toArray, List.set_cons_zero, List.set_cons_succ]
  refine wpAnyH_done (by kernel_rfl) ?_ _
  clear hHeld
  go_wp2
  go_end0
  exact ⟨rfl, q, Zw, HI.out, HS.out, HZ.out, HW.out⟩

end
end Go.Proofs.Ythpaolhpkmgelaa
