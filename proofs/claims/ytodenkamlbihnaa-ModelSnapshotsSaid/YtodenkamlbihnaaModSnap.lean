/-
  What New, Open, Release, Watermark and Raise of a model answer. Condition: fewer than 2^60 stores; threads 0 to 2 and numbers 0 and 1.
-/
import Derived.Test.YtodenkamlbihnaaModGet
import Derived.StillTailTactics
import Derived.Deep.Cut
namespace Go.Proofs.Ytodenkamlbihnaa
open Go.RowKit Go.Deep Plain PlainE
set_option linter.unusedVariables false

set_option maxHeartbeats 1000000 in
theorem mnew_any (w : World) : Calls Try.prog 8 #[] w fun e w' => ∃ p, e = .returned (.pointer (some ⟨p, 0, none⟩)) ∧ MdS w' p w.heap.size (fun i => w.heap.size ≤ i ∧ i < w'.heap.size) 0 [] 0 (fun _ => none) ∧ Below w.heap.size w w' := by
  have hmm := @run_makeMap Try.prog
  go_enter Try.func8, Try.ntmps8
  go_wp2
  go_ret
  have hb := (((Below.refl w.heap.size w).alloc (Nat.le_refl _) (.map #[] 0)).alloc (by rw [nblk_alloc]; omega) (.map #[] 0)).alloc (by rw [nblk_alloc, nblk_alloc]; omega) (.cells #[.int .u64 0, .int .u64 0, .map (some w.heap.size), .map (some (w.heap.size + 1))] 65)
  have e1 : (w.alloc (.map #[] 0)).heap.size = w.heap.size + 1 := nblk_alloc _ _
  have e2 : ((w.alloc (.map #[] 0)).alloc (.map #[] 0)).heap.size = w.heap.size + 2 := by rw [nblk_alloc, e1]
  have e3 : (((w.alloc (.map #[] 0)).alloc (.map #[] 0)).alloc (.cells #[.int .u64 0, .int .u64 0, .map (some w.heap.size), .map (some (w.heap.size + 1))] 65)).heap.size = w.heap.size + 3 := by rw [nblk_alloc, e2]
  refine ⟨_, rfl, ⟨w.heap.size, w.heap.size + 1, 0, 0, .map [], .map [], fun _ => .slice none 0 0, fun _ => [], ?_, ?_, ?_, Chs.empty, Nat.le_refl _, Nat.le_refl _, by omega, ⟨by omega, by omega⟩, ⟨by omega, by omega⟩, ⟨by omega, by omega⟩, (fun k g h => by cases h), fun i hi => hi⟩, hb⟩
  · rw [← e2]; exact Blk.new _ _ _
  · exact (ChM.new w w.heap.size).of (by rw [blk_alloc_lt _ _ _ (by omega), blk_alloc_lt _ _ _ (by omega)]) (fun k g h => by cases h)
  · have h1 := SnM.new (w.alloc (.map #[] 0))
    rw [e1] at h1
    exact h1.of (by rw [blk_alloc_lt _ _ _ (by omega)])

theorem MdS.nop {w : World} {p q n B : Nat} {t : TypeId} {xs : List Value} {D : DataW Value} {R : Value → Option (DataW Value × List MemPlace)} {k : TypeId} (hp : Blk w p t xs) (h : w.ownsMap Try.prog k R q n D) : q ≠ p := by
  obtain ⟨es, clock, h1, _⟩ := h
  intro e
  rw [e] at h1
  have h2 : w.heap[p]? = some (.cells ⟨xs⟩ t (0, 0)) := hp
  rw [h1] at h2; cases h2

set_option maxHeartbeats 1000000 in
theorem mwater_any {p B m : Nat} {Z : Nat → Prop} {bs : List (List Wri)} {fl : Nat} {sn : Lit → Option Nat} (w : World) (h : MdS w p B Z m bs fl sn) :
    Calls Try.prog 25 #[.pointer (some ⟨p, 0, none⟩)] w fun e w' => ∃ x : Nat, e = .returned (.int .u64 (x : Int)) ∧ IsWm sn bs.length x ∧ Below w.heap.size w w' := by
  obtain ⟨bc, bn, nc, nn, Dc, Dn, sl, ch, hp, hc, hs, h1, h2, h3, h4, h5, h6, h7, h8, hz⟩ := h
  have c0 := hp.cell (i := 0) rfl
  have c3 := hp.cell (i := 3) rfl
  have hown := hs.own
  have HS := Lib.hid hs
  clear h1 h2 h3 h4 h5 h6 h7 h8 hz hc hs hp
  go_enter Try.func25, Try.ntmps25
  go_wp2_with (first | (at_range; refine wpList_range_own _ rfl _ 63 rfl 67 23 keyedP Try.underlying63 _ bn nn Dn rfl hown ?_; intro w0 hrg0 hg0 hs0) | fail)
  go_frame
  have HB0 := Lib.hid ((Below.refl w.heap.size w).grown hg0 (Nat.le_refl _) (fun k hk => by cases hk))
  clear c0 c3 hown
  go_loopw [3] (fun l wr => ∃ (left : Lit → Bool) (cnt x : Nat), l = .int .u64 (x : Int) ∧ wr.ranges Try.prog 67 (plainElem Try.prog 23) bn w.heap.size nn Dn left cnt ∧ x ≤ bs.length ∧ (∀ kl y, sn kl = some y → left kl = false → x ≤ y) ∧ (x = bs.length ∨ ∃ kl, sn kl = some x) ∧ Below w.heap.size w wr ∧ w.heap.size ≤ wr.heap.size) (fun _ wr => wr.rangeLeft bn w.heap.size)
  case atStart => exact ⟨_, _, bs.length, rfl, hrg0, Nat.le_refl _, (fun kl y hy hl => by rw [HS.out.has, hy] at hl; cases hl), .inl rfl, HB0.out, by omega⟩
  case round =>
    obtain ⟨left, cnt, x, rfl, hrg, hx1, hx2, hx3, hbel, hsz⟩ := hrel
    have HX := Lib.hid hx1
    have HX2 := Lib.hid hx2
    have HX3 := Lib.hid hx3
    have HB := Lib.hid hbel
    have HRG := Lib.hid hrg
    clear hx1 hx2 hx3 hbel hg0 hrg0
    go_wp2_with (first | (at_next; refine wpList_next_ranges _ rfl _ rfl 67 keyedP (plainElem Try.prog 23) (fun v : Value => v) (fun c : Nat => Value.int .u64 (c : Int)) (fun key kl _ => ⟨key, rfl⟩) ?_ bn w.heap.size nn Dn left cnt rfl hrg ?_ ?_) | fail)
    · intro v y hv
      obtain ⟨a, rfl, _, hw⟩ := plainElem_int_inv Try.underlying23 hv
      have : 0 ≤ a := by
        simp [Lit.wf, IntKind.min, IntKind.max, IntKind.signed, IntKind.bits] at hw
        omega
      exact ⟨a.toNat, by rw [Int.toNat_of_nonneg this]⟩
    · intro hc0 hl0
      clear hrg
      go_wp2
      go_ret
      exact ⟨x, by first | rfl | simp, ⟨HX.out, fun kl y hy => HX2.out kl y hy (hl0 kl), HX3.out⟩, HB.out⟩
    · intro key c kl yd yp w1 cnt1 hkey hlk hy hat hrg1 hlt hg1 hs1 hen
      have hsn : sn kl = some c := by
        have h1 := (HS.out.has kl).symm
        have hh : Maps.has Dn kl = true := Maps.has_true_of_atKey hat
        rw [hh] at h1
        cases hs : sn kl with
        | none => rw [hs] at h1; cases h1
        | some d =>
          have h2 := HS.out.val kl d hs .nil
          have h2 := (hat .nil).symm.trans h2
          obtain ⟨a, ha, hya, _⟩ := plainElem_int_inv Try.underlying23 hy
          have h2 := (Prod.mk.inj hya).1.symm.trans h2
          have e1 : a = (c : Int) := by cases ha; rfl
          rw [e1] at h2
          have e2 : Lit.int .u64 (c : Int) = Lit.int .u64 (d : Int) := DataW.lit.inj h2
          have e3 : (c : Int) = (d : Int) := (Lit.int.inj e2).2
          rw [Int.ofNat_inj.1 e3]
      have HSN := Lib.hid hsn
      have HRG1 := Lib.hid hrg1
      have HB1 := Lib.hid (HB.out.grown hg1 hsz (fun k hk => by cases hk; exact Nat.le_refl _))
      have HM := Lib.hid (show w1.rangeLeft bn w.heap.size < wr.rangeLeft bn w.heap.size by rw [hrg1.left_eq, HRG.out.left_eq]; exact hlt)
      clear hsn hrg1 hg1 hkey hlk hy hat hrg hlt
      by_cases hcx : (x : Int) ≤ (c : Int)
      · go_wp2
        go_roundw
        case rel => exact ⟨_, _, x, by first | rfl | simp, HRG1.out, HX.out, fun kl' y' hy' hl' => by
            by_cases e : kl' = kl
            · subst e; rw [HSN.out] at hy'; cases hy'; omega
            · exact HX2.out kl' y' hy' (by simpa [Maps.sameKey_ne e] using hl'), HX3.out, HB1.out, by omega⟩
        case measure => exact HM.out
      · go_wp2
        go_roundw
        case rel => exact ⟨_, _, c, by first | rfl | simp, HRG1.out, by have := HX.out; omega, fun kl' y' hy' hl' => by
            by_cases e : kl' = kl
            · subst e; rw [HSN.out] at hy'; cases hy'; omega
            · have := HX2.out kl' y' hy' (by simpa [Maps.sameKey_ne e] using hl'); omega, .inr ⟨kl, HSN.out⟩, HB1.out, by omega⟩
        case measure => exact HM.out

theorem MdS.setFloor {w : World} {p B m : Nat} {Z : Nat → Prop} {bs : List (List Wri)} {fl : Nat} {sn : Lit → Option Nat} (h : MdS w p B Z m bs fl sn) (f : Nat) : MdS (w.setCell ⟨p, 1, none⟩ (.int .u64 (f : Int))) p B Z m bs f sn := by
  obtain ⟨bc, bn, nc, nn, Dc, Dn, sl, ch, hp, hc, hs, h1, h2, h3, h4, h5, h6, h7, h8, hz⟩ := h
  have ne1 := MdS.nop (B := 0) hp hc.own
  have ne2 := MdS.nop (B := 0) hp hs.own
  have hk : Kept (fun i => i = p) w (w.setCell ⟨p, 1, none⟩ (.int .u64 (f : Int))) := (Kept.refl (fun i => i = p) w).setCell (a := ⟨p, 1, none⟩) (fun _ => rfl) _
  have hrow : ∀ k g, (sl k).ownBlock = some g → g ≠ p := fun k g hg e => by
    obtain ⟨_, _, cur, hh⟩ := own_cells (hc.row k) hg
    have h2 : w.heap[p]? = some (.cells _ 65 (0, 0)) := hp
    rw [e, h2] at hh
    cases hh
  refine ⟨bc, bn, nc, nn, Dc, Dn, sl, ch, hp.set 1 _, hc.of (hk.block bc hc.own.lt ne1) (fun k g hg => hk.block g (hz g (h8 k g hg)).2 (hrow k g hg)), hs.of (hk.block bn hs.own.lt ne2), h1, h2, h3, h4, h5, h6, h7, h8, fun i hi => ⟨(hz i hi).1, Nat.lt_of_lt_of_le (hz i hi).2 hk.size⟩⟩

set_option maxHeartbeats 1000000 in
theorem mraise_any {p B m : Nat} {Z : Nat → Prop} {bs : List (List Wri)} {fl : Nat} {sn : Lit → Option Nat} (w : World) (h : MdS w p B Z m bs fl sn) (to : Nat) :
    Calls Try.prog 16 #[.pointer (some ⟨p, 0, none⟩), .int .u64 (to : Int)] w fun e w' => ∃ x, IsWm sn bs.length x ∧ e = .returned (.bool (decide (to ≤ x))) ∧ MdS w' p B Z m bs (if to ≤ x then max fl to else fl) sn ∧ Kept Z w w' := by
  have HM := Lib.hid h
  have con := fun W (hW : MdS W p B Z m bs fl sn) => mwater_any W hW
  go_enter Try.func16, Try.ntmps16
  go_wp2_with fail
  refine (con _ HM.out).mono ?_; rintro e w1 ⟨x, rfl, hwm, hB1⟩
  have HM1 := Lib.hid (HM.out.below hB1 (Nat.le_refl _))
  have HK := Lib.hid (Below.kept hB1 (S := Z) (fun i hi hB => absurd hi (by omega)))
  have HW := Lib.hid hwm
  clear con hwm hB1 h
  by_cases hx : to ≤ x
  · have hx1 : ¬ (x : Int) < (to : Int) := by omega
    obtain ⟨bc, bn, nc, nn, Dc, Dn, sl, ch, hp, _, _, _, _, _, _, hzp, _⟩ := HM1.out
    have c1 := hp.cell (i := 1) rfl
    have f1 := hp.frozen 1
    clear hp
    by_cases hf : (fl : Int) < (to : Int)
    · go_wp2
      go_ret
      refine ⟨x, HW.out, by first | rfl | simp [hx], ?_, HK.out.trans ((Kept.refl Z w1).setCell (fun _ => hzp) _) (fun _ _ h => h)⟩
      rw [if_pos hx, show max fl to = to by omega]
      exact HM1.out.setFloor to
    · go_wp2
      go_ret
      refine ⟨x, HW.out, by first | rfl | simp [hx], ?_, HK.out.trans ((Kept.refl Z w1).setCell (fun _ => hzp) _) (fun _ _ h => h)⟩
      rw [if_pos hx, show max fl to = fl by omega]
      exact HM1.out.setFloor fl
  · have hx1 : (x : Int) < (to : Int) := by omega
    go_wp2
    go_ret
    exact ⟨x, HW.out, by first | rfl | simp [hx], by rw [if_neg hx]; exact HM1.out, HK.out⟩

theorem MdS.snap {w w' : World} {p B m : Nat} {Z : Nat → Prop} {bs : List (List Wri)} {fl : Nat} {sn : Lit → Option Nat} {bc bn nc nn nn' : Nat} {Dc Dn Dn' : DataW Value} {sl : ByteArray → Value} {ch : ByteArray → List Chg} {sn' : Lit → Option Nat}
    (hp : Blk w p 65 [.int .u64 (bs.length : Int), .int .u64 (fl : Int), .map (some bc), .map (some bn)]) (hc : ChM w bc B nc Dc sl ch) (h1 : Chs bs ch) (h2 : nc ≤ m) (h4 : bc ≠ bn) (h5 : Z p) (h6 : Z bc) (h7 : Z bn) (h8 : ∀ k g, (sl k).ownBlock = some g → Z g) (hz : ∀ i, Z i → B ≤ i ∧ i < w.heap.size)
    (hs0 : SnM w bn nn Dn sn) (hs : SnM w' bn nn' Dn' sn') (hg : w.grownBy w' (some bn)) (hn : nn' ≤ m + 1) : MdS w' p B Z (m + 1) bs fl sn' ∧ Kept Z w w' := by
  have hrow : ∀ k g, (sl k).ownBlock = some g → g ≠ bn := fun k g hg e => by
    obtain ⟨_, _, cur, hh⟩ := own_cells (hc.row k) hg
    obtain ⟨es, clock, hm, _⟩ := hs0.own
    rw [e, hm] at hh
    cases hh
  have ne2 := MdS.nop (B := 0) hp hs0.own
  refine ⟨⟨bc, bn, nc, nn', Dc, Dn', sl, ch, hp.of (hg.block p hp.lt (fun e => ne2 (by injection e with e; exact e.symm))), hc.of (hg.block bc hc.own.lt (fun e => h4 (by injection e))) (fun k g hk => hg.block g (hz g (h8 k g hk)).2 (fun e => hrow k g hk (by injection e))), hs, h1, by omega, hn, h4, h5, h6, h7, h8, fun i hi => ⟨(hz i hi).1, Nat.lt_of_lt_of_le (hz i hi).2 hg.size⟩⟩, ?_⟩
  exact (Kept.refl Z w).grown hg (fun k hk _ => by cases hk; exact h7)

set_option maxRecDepth 100000 in
set_option maxHeartbeats 1000000 in
theorem mopen_any {p B m : Nat} {Z : Nat → Prop} {bs : List (List Wri)} {fl : Nat} {sn : Lit → Option Nat} (w : World) (h : MdS w p B Z m bs fl sn) (hT : bs.length ≤ 1000000) (hm : m ≤ 1000000) (t j : Int) (ht : 0 ≤ t ∧ t < 3) (hj : 0 ≤ j ∧ j < 2) :
    Calls Try.prog 11 #[.pointer (some ⟨p, 0, none⟩), .int .i64 t, .int .i64 j] w fun e w' => e = .returned (.int .u64 (bs.length : Int)) ∧ MdS w' p B Z (m + 1) bs fl (updL sn (litP t j) (some bs.length)) ∧ Kept Z w w' := by
  have hkey := keyOf_pair ht hj
  obtain ⟨bc, bn, nc, nn, Dc, Dn, sl, ch, hp, hc, hs, h1, h2, h3, h4, h5, h6, h7, h8, hz⟩ := h
  have c0 := hp.cell (i := 0) rfl
  have c3 := hp.cell (i := 3) rfl
  have hown := hs.own
  have ne2 := Lib.hid (MdS.nop (B := 0) hp hs.own)
  have hal := fun (w' : World) nn' Dn' sn' => MdS.snap (w := w) (w' := w') (nn' := nn') (Dn' := Dn') (sn' := sn') hp hc h1 h2 h4 h5 h6 h7 h8 hz hs
  have hput := fun (w' : World) => hs.put (w' := w') (keyedP.key hkey) (x := bs.length)
  have hn : nn < maxLen := by unfold maxLen; omega
  have hle : nn + 1 ≤ m + 1 := by omega
  have HAL := Lib.hid hal
  have HPUT := Lib.hid hput
  have HP := Lib.hid hp
  clear h1 h2 h3 h4 h5 h6 h7 h8 hz hc hs hp ht hj hal hput
  go_enter Try.func11, Try.ntmps11
  go_upto_region 1 with fail
  go_still_tail 11, (by kernel_rfl)
  change wpList _ _ _ _ _ w.drew
  have d0 : w.drew.cell? ⟨p, 0, none⟩ = _ := c0
  have d3 : w.drew.cell? ⟨p, 3, none⟩ = _ := c3
  have HX := Lib.hid (show ∀ w1, w.drew.grownBy w1 (some bn) → w1.cell? ⟨p, 0, none⟩ = some (.int .u64 (bs.length : Int)) from fun w1 hg => (World.cell?_of_block (w := w) (a := ⟨p, 0, none⟩) (hg.block p HP.out.lt (fun e => ne2.out (by injection e with e; exact e.symm)))).trans c0)
  go_wp2_with (first
    | (at_mapUpdate; refine wpList_mapUpdate_own _ rfl _ _ _ 63 rfl 67 23 keyedP Try.underlying63 _ bn nn Dn rfl hown.drew hn _ _ _ rfl rfl hkey _ [] (plainElem_int Try.underlying23 (WalkArith.wf_u64 (by omega))) ?_; intro w1 hown1 hgrow1; have x0 := HX.out w1 hgrow1)
    | fail)
  have hg : w.grownBy w1 (some bn) := ⟨hgrow1.os, hgrow1.tape, hgrow1.output, hgrow1.size, hgrow1.block⟩
  have HR := Lib.hid (HAL.out w1 _ _ _ (HPUT.out w1 hown1) hg hle)
  clear c0 c3 d0 d3 hown hown1 hgrow1 hg
  go_ret
  exact ⟨by first | rfl | simp, HR.out⟩

set_option maxHeartbeats 1000000 in
theorem mrelease_any {p B m : Nat} {Z : Nat → Prop} {bs : List (List Wri)} {fl : Nat} {sn : Lit → Option Nat} (w : World) (h : MdS w p B Z m bs fl sn) (t j : Int) (ht : 0 ≤ t ∧ t < 3) (hj : 0 ≤ j ∧ j < 2) :
    Calls Try.prog 13 #[.pointer (some ⟨p, 0, none⟩), .int .i64 t, .int .i64 j] w fun e w' => e = .returned (.tuple #[]) ∧ MdS w' p B Z (m + 1) bs fl (updL sn (litP t j) none) ∧ Kept Z w w' := by
  have hkey := keyOf_pair ht hj
  obtain ⟨bc, bn, nc, nn, Dc, Dn, sl, ch, hp, hc, hs, h1, h2, h3, h4, h5, h6, h7, h8, hz⟩ := h
  have c3 := hp.cell (i := 3) rfl
  have hown := hs.own
  have hal := fun (w' : World) nn' Dn' sn' => MdS.snap (w := w) (w' := w') (nn' := nn') (Dn' := Dn') (sn' := sn') hp hc h1 h2 h4 h5 h6 h7 h8 hz hs
  have hput := fun (w' : World) => hs.del (w' := w') (keyedP.key hkey)
  have hle : nn ≤ m + 1 := by omega
  have HAL := Lib.hid hal
  have HPUT := Lib.hid hput
  clear h1 h2 h3 h4 h5 h6 h7 h8 hz hc hs hp ht hj hal hput
  go_enter Try.func13, Try.ntmps13
  go_wp2_with (first
    | (at_delete; refine wpList_delete_own _ rfl _ _ 63 67 rfl 23 keyedP Try.underlying63 _ bn nn Dn rfl hown _ _ rfl hkey ?_; intro w1 hown1 hturn1)
    | fail)
  have HR := Lib.hid (HAL.out w1 _ _ _ (HPUT.out w1 hown1) hturn1.grown hle)
  clear c3 hown hown1 hturn1
  go_wp2
  go_end0
  exact ⟨by first | rfl | simp, HR.out⟩
end Go.Proofs.Ytodenkamlbihnaa
