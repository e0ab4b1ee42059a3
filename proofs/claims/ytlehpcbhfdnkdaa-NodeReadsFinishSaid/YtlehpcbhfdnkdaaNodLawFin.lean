/-
  The walk of the statement of layer 8 'a reader does not finish while the latch is changing, and finishes when nothing changes'. Condition: words below 2^64, a byte below 256.
-/
import Derived.Test.YtlehpcbhfdnkdaaNodRows
namespace Go.Proofs.Ytlehpcbhfdnkdaa
open Go.RowKit Go.Deep Plain
set_option linter.unusedVariables false

/-- A Read that has read the page P answers it. -/
theorem rread_page {Z : Nat → Prop} {w : World} {F : Nat} {fb fd : Int} {q nid we : Nat} {P : Pg} (h : Rd Z w F fb fd q nid ⟨3, we, got P (P.xs.length + 3)⟩) (hl : P.xs.length ≤ 1000) :
    Calls Try.prog 30 #[.pointer (some ⟨q, 0, none⟩)] w fun e w' => ∃ (A : Option Addr) (c : Nat), e = .returned (.agg #[.int .i64 (P.lv : Int), .slice A P.xs.length c, .string P.hi, .bool P.la, .int .u64 (P.rt : Int)]) ∧ Rs w' A c P.xs ∧ Kept (fun _ => False) w w' := by
  have hg := got_end P
  have e1 : (got P (P.xs.length + 3)).lv = P.lv := by
    show (got P (P.xs.length + 3)).pg.lv = P.lv; rw [hg]
  have e2 : (got P (P.xs.length + 3)).hi = P.hi := by
    show (got P (P.xs.length + 3)).pg.hi = P.hi; rw [hg]
  have e3 : (got P (P.xs.length + 3)).la = P.la := by
    show (got P (P.xs.length + 3)).pg.la = P.la; rw [hg]
  have e4 : (got P (P.xs.length + 3)).rt = P.rt := by
    show (got P (P.xs.length + 3)).pg.rt = P.rt; rw [hg]
  have e5 : (got P (P.xs.length + 3)).xs = P.xs := by
    show (got P (P.xs.length + 3)).pg.xs = P.xs; rw [hg]
  refine (rpage_any Z 1 2 100 100 200 F 1000 10 fb fd q nid _ w h rfl (by show (got P (P.xs.length + 3)).xs.length ≤ _; rw [e5]; omega)).mono ?_
  rintro e w' ⟨A, c, he, hR, _, hK⟩
  simp only [e1, e2, e3, e4, e5] at he hR
  exact ⟨A, c, he, hR, hK⟩

set_option maxRecDepth 100000 in
set_option maxHeartbeats 8000000 in
theorem lawFinish (f : Int) (F : Nat) (h4 : 4 ≤ F) (h6 : F ≤ 6) (hf : 4 + f % 3 = (F : Int)) (plv : Int) (A : Option Addr) (c : Nat) (hi : ByteArray) (la : Bool) (rt : Nat) (hrt : rt < 18446744073709551616) (xs : List Sl) (hxr : ∀ x ∈ xs, x.2 < 18446744073709551616) (wd : Nat) (hwd : wd < 18446744073709551616) (st : Nat) (hst0 : st < 256) (w : World) (n : Nat) (hn : xs.length = n) (hR : Rs w A c xs) :
    Calls Try.prog 5 #[.int .i64 f, .agg #[.int .i64 plv, .slice A n c, .string hi, .bool la, .int .u64 (rt : Int)], .int .u64 (wd : Int), .int .u8 (st : Int)] w fun e w' => e = .returned (.bool true) ∧ Below w.heap.size w w' := by
  obtain ⟨n60, hs60⟩ : ∃ n60 : Nat, st % 60 = n60 := ⟨_, rfl⟩
  have hs2 : (st : Int).tmod 60 = (n60 : Int) := by rw [Int.tmod_eq_emod_of_nonneg (by omega)]; omega
  have hs3 : (st : Int) % 60 = (n60 : Int) := by omega
  have hn60 : n60 < 60 := by omega
  obtain ⟨wb, hwb⟩ : ∃ x, beginW wd = x := ⟨_, rfl⟩
  have hwb1 : wb < 18446744073709551616 := by rw [← hwb]; exact beginW_lt hwd
  have hwb2 : wb / 2 % 2 = 1 := by rw [← hwb]; unfold beginW; omega
  obtain ⟨we, hwe⟩ : ∃ x, endW wb = x := ⟨_, rfl⟩
  have hwe1 : we < 18446744073709551616 := by rw [← hwe]; exact endW_lt _
  have hwe2 : ¬ we / 2 % 2 = 1 := by rw [← hwe]; unfold endW; omega
  obtain ⟨P, hP⟩ : ∃ P, cut F 0 hi la rt xs = P := ⟨_, rfl⟩
  have HWB := Lib.hid hwb
  have HWE := Lib.hid hwe
  have HWF := Lib.hid (show Wf P by rw [← hP]; exact cut_wf _ _ _ _ _ _)
  have HPL := Lib.hid (show P.xs.length ≤ F by rw [← hP]; exact cut_len _ _ _ _ _ _)
  have HFT := Lib.hid (show Fits P by rw [← hP]; exact cut_fits (by omega) (by omega) hrt hxr)
  have HWX := Lib.hid (And.intro hwb2 hwe2)
  have HPC := Lib.hid hP
  have HFL := Lib.hid (show P.xs.length ≤ 1000 by have := HPL.out; omega)
  clear hwb hwe hP hwb2 hwe2 hs60 hxr
  have qx : Blk (w.alloc (.cells #[.int .i64 plv, .slice A n c, .string hi, .bool la, .int .u64 (rt : Int)] 25)) (w.heap.size) 25 [.int .i64 plv, .slice A n c, .string hi, .bool la, .int .u64 (rt : Int)] := by
    have := Blk.new w [.int .i64 plv, .slice A n c, .string hi, .bool la, .int .u64 (rt : Int)] 25
    exact this
  have Px := Lib.hid qx
  have HK := Lib.hid ((Kept.refl (fun _ => False) w).alloc (.cells #[.int .i64 plv, .slice A n c, .string hi, .bool la, .int .u64 (rt : Int)] 25))
  clear qx
  go_enter Try.func5, Try.ntmps5
  go_wp2_with fail
  generalize (w.alloc (.cells #[.int .i64 plv, .slice A n c, .string hi, .bool la, .int .u64 (rt : Int)] 25)) = W0 at *
  generalize hpx : w.heap.size = px at Px ⊢
  have HPx := Lib.hid (show w.heap.size ≤ px by omega)
  clear hpx
  refine (kitConfig_any 1 f F hf _).mono ?_; rintro e w1 ⟨rfl, hK1⟩
  replace Px := Lib.hid (hK1.blk Px.out (fun h => h))
  replace HK := Lib.hid (HK.out.trans hK1 (fun _ _ h => h.elim))
  clear hK1
  go_wp2_with fail
  have hal := (Kept.refl (fun _ => False) w1).alloc (.cells #[.int .i64 1, .int .i64 2, .int .i64 100, .int .i64 100, .int .i64 200, .int .i64 (F : Int), .int .u64 1000] 27)
  have B9 := Lib.hid (Blk.new w1 [.int .i64 1, .int .i64 2, .int .i64 100, .int .i64 100, .int .i64 200, .int .i64 (F : Int), .int .u64 1000] 27)
  replace Px := Lib.hid (hal.blk Px.out (fun h => h))
  replace HK := Lib.hid (HK.out.trans hal (fun _ _ h => h.elim))
  clear hal
  generalize w1.alloc (.cells #[.int .i64 1, .int .i64 2, .int .i64 100, .int .i64 100, .int .i64 200, .int .i64 (F : Int), .int .u64 1000] 27) = W1 at *
  generalize w1.heap.size = b9 at *
  refine (kitMem F h4 h6 _).mono ?_
  intro e w2 hok
  obtain ⟨b, g, l, fb, fd, rfl, hM2, hS2, hd, hb2, hg2, hK2⟩ := hok
  have HM := Lib.hid hM2
  have HST := Lib.hid hS2
  have HD := Lib.hid hd
  have HBG := Lib.hid (show w.heap.size ≤ b ∧ w.heap.size ≤ g ∧ b9 < b ∧ b9 < g by have := HK.out.size; have := B9.out.lt; omega)
  have HNx := Lib.hid (show ¬ Own b g px by have := Px.out.lt; unfold Own; omega)
  replace B9 := Lib.hid (hK2.blk B9.out (fun h => h))
  replace Px := Lib.hid (hK2.blk Px.out (fun h => h))
  replace HK := Lib.hid (HK.out.trans hK2 (fun _ _ h => h.elim))
  clear hM2 hS2 hd hb2 hg2 hK2
  go_wp2_with fail
  have hal := (Kept.refl (fun _ => False) w2).alloc (.cells #[.int .i64 1, .int .i64 2, .int .i64 100, .int .i64 100, .int .i64 200, .int .i64 (F : Int), .int .u64 1000, .int .i64 10, .int .i64 fb, .int .i64 fd] 30)
  have B10 := Lib.hid (Blk.new w2 [.int .i64 1, .int .i64 2, .int .i64 100, .int .i64 100, .int .i64 200, .int .i64 (F : Int), .int .u64 1000, .int .i64 10, .int .i64 fb, .int .i64 fd] 30)
  have HN10 := Lib.hid (show ¬ Own b g w2.heap.size by have := HM.out.obj.lt; have := HM.out.row.lt; unfold Own; omega)
  replace B9 := Lib.hid (hal.blk B9.out (fun h => h))
  replace HM := Lib.hid (HM.out.kept hal (fun h => h) (fun h => h))
  replace Px := Lib.hid (hal.blk Px.out (fun h => h))
  replace HK := Lib.hid (HK.out.trans hal (fun _ _ h => h.elim))
  clear hal
  generalize w2.alloc (.cells #[.int .i64 1, .int .i64 2, .int .i64 100, .int .i64 100, .int .i64 200, .int .i64 (F : Int), .int .u64 1000, .int .i64 10, .int .i64 fb, .int .i64 fd] 30) = W2 at *
  generalize w2.heap.size = b10 at *
  refine (awake_any _).mono ?_; rintro e w4 ⟨rfl, hK4⟩
  replace B9 := Lib.hid (hK4.blk B9.out (fun h => h))
  replace B10 := Lib.hid (hK4.blk B10.out (fun h => h))
  replace HM := Lib.hid (HM.out.kept hK4 (fun h => h) (fun h => h))
  replace Px := Lib.hid (hK4.blk Px.out (fun h => h))
  replace HK := Lib.hid (HK.out.trans hK4 (fun _ _ h => h.elim))
  clear hK4
  have E := Lib.hid (show Ev w w4 F fb fd b g b9 b10 from ⟨B9.out, B10.out, HK.out, ⟨HBG.out.1, HBG.out.2.1⟩, by have := HBG.out; unfold Own; omega, HN10.out⟩)
  clear B9 B10 HK HN10
  have x0 := E.out.cfg.cell (i := 0) rfl
  have x1 := E.out.cfg.cell (i := 1) rfl
  have x2 := E.out.cfg.cell (i := 2) rfl
  have x3 := E.out.cfg.cell (i := 3) rfl
  have x4 := E.out.cfg.cell (i := 4) rfl
  have x5 := E.out.cfg.cell (i := 5) rfl
  have x6 := E.out.cfg.cell (i := 6) rfl
  have y0 := Px.out.cell (i := 0) rfl
  have y1 := Px.out.cell (i := 1) rfl
  have y2 := Px.out.cell (i := 2) rfl
  have y3 := Px.out.cell (i := 3) rfl
  have y4 := Px.out.cell (i := 4) rfl
  have HRW := Lib.hid (hR.below (E.out.kept.below (Nat.le_refl _) (fun _ h => h.elim)) (Nat.le_refl _))
  go_wp2_with fail
  refine (content_any F plv A c hi la rt xs 0 _ n hn (by omega) HRW.out P HPC.out).mono ?_; rintro e w5 ⟨A5, c5, rfl, hR5, hA5, hK5⟩
  clear x0 x1 x2 x3 x4 x5 x6
  clear y0 y1 y2 y3 y4
  have HA5 := Lib.hid (show ∀ a, A5 = some a → ¬ Own b g a.block from fun a ha e => by have := hA5 a ha; have := HM.out.obj.lt; have := HM.out.row.lt; unfold Own at e; omega)
  replace E := Lib.hid (E.out.none hK5)
  replace HM := Lib.hid (HM.out.kept hK5 (fun h => h) (fun h => h))
  have HR5 := Lib.hid hR5
  clear hR5 hA5 hK5 HRW Px HNx HPx
  have h9l : b9 < w5.heap.size := E.out.cfg.lt
  have z0 := E.out.cfg.cell (i := 0) rfl
  have z1 := E.out.cfg.cell (i := 1) rfl
  have z2 := E.out.cfg.cell (i := 2) rfl
  have z3 := E.out.cfg.cell (i := 3) rfl
  have z4 := E.out.cfg.cell (i := 4) rfl
  have z5 := E.out.cfg.cell (i := 5) rfl
  have z6 := E.out.cfg.cell (i := 6) rfl
  go_upto_region 6 with fail
  clear h9l z0 z1 z2 z3 z4 z5 z6
  have hal := (Kept.refl (fun _ => False) w5).alloc (.cells #[.int .i64 (P.lv : Int), .slice A5 P.xs.length c5, .string P.hi, .bool P.la, .int .u64 (P.rt : Int)] 25)
  have X := Lib.hid (show Px b g (w5.alloc (.cells #[.int .i64 (P.lv : Int), .slice A5 P.xs.length c5, .string P.hi, .bool P.la, .int .u64 (P.rt : Int)] 25)) w5.heap.size P A5 c5 from ⟨Blk.new w5 _ _, HR5.out.keptF hal (fun _ _ h => h), by have := HM.out.obj.lt; have := HM.out.row.lt; unfold Own; omega, HA5.out⟩)
  replace E := Lib.hid (E.out.none hal)
  replace HM := Lib.hid (HM.out.kept hal (fun h => h) (fun h => h))
  clear hal HR5 HA5
  generalize w5.alloc (.cells #[.int .i64 (P.lv : Int), .slice A5 P.xs.length c5, .string P.hi, .bool P.la, .int .u64 (P.rt : Int)] 25) = W5 at *
  generalize w5.heap.size = bx at *
  have x0 := E.out.cfg.cell (i := 0) rfl
  have x1 := E.out.cfg.cell (i := 1) rfl
  have x2 := E.out.cfg.cell (i := 2) rfl
  have x3 := E.out.cfg.cell (i := 3) rfl
  have x4 := E.out.cfg.cell (i := 4) rfl
  have x5 := E.out.cfg.cell (i := 5) rfl
  have x6 := E.out.cfg.cell (i := 6) rfl
  have y0 := X.out.blk.cell (i := 0) rfl
  have y1 := X.out.blk.cell (i := 1) rfl
  have y2 := X.out.blk.cell (i := 2) rfl
  have y3 := X.out.blk.cell (i := 3) rfl
  have y4 := X.out.blk.cell (i := 4) rfl
  go_wp2_with fail
  refine (put_any F 1 h4 h6 (by omega) (by omega) P HWF.out HPL.out HFT.out.lv A5 c5 b g l 0 _ HM.out X.out.row X.out.nr).mono ?_; rintro e w6 ⟨rfl, hM6, hK6⟩
  clear x0 x1 x2 x3 x4 x5 x6
  clear y0 y1 y2 y3 y4
  obtain ⟨l6, hl6⟩ : ∃ x, app l (pst (nad F 1) P) = x := ⟨_, rfl⟩
  rw [hl6] at hM6
  have HADS := Lib.hid (HST.out.ads (nid := 1) h4 h6 (by omega) (by omega))
  have HN6 := Lib.hid (show Nats l6 by rw [← hl6]; exact HST.out.nats.app (HFT.out.pstN _))
  have HH6 := Lib.hid (show Holds (nad F 1) l6 P by rw [← hl6]; intro r hr; have := pst_holds HADS.out rfl HPL.out (P.xs.length + 3) (Nat.le_refl _) r hr; rw [← pst_length (nad F 1) P, List.take_length] at this; exact this)
  have HL6 := Lib.hid (show l6.length = l.length by rw [← hl6, app_length])
  replace HM := Lib.hid hM6
  replace E := Lib.hid (E.out.own hK6)
  replace X := Lib.hid (X.out.own hK6)
  clear hl6 hM6 hK6
  have x0 := E.out.cfg.cell (i := 0) rfl
  have x1 := E.out.cfg.cell (i := 1) rfl
  have x2 := E.out.cfg.cell (i := 2) rfl
  have x3 := E.out.cfg.cell (i := 3) rfl
  have x4 := E.out.cfg.cell (i := 4) rfl
  have x5 := E.out.cfg.cell (i := 5) rfl
  have x6 := E.out.cfg.cell (i := 6) rfl
  go_wp2_with fail
  refine (ref_to F 1 0 h4 h6 (by omega) (nla F 1) rfl _).mono ?_; rintro e w7 ⟨rfl, hK7⟩
  clear x0 x1 x2 x3 x4 x5 x6
  replace HM := Lib.hid (HM.out.kept hK7 (fun h => h) (fun h => h))
  replace E := Lib.hid (E.out.none hK7)
  replace X := Lib.hid (X.out.none hK7)
  clear hK7
  obtain ⟨la0, hla0⟩ : ∃ x, nla F 1 = x := ⟨_, rfl⟩
  rw [hla0]
  have HLA := Lib.hid hla0
  clear hla0
  go_wp2_with fail
  refine (begin_of wd wb hwd HWB.out _).mono ?_; rintro e w8 ⟨rfl, rfl⟩
  go_wp2_with fail
  refine (poke_any b g l6 0 la0 (wb : Int) 0 ⟨#[]⟩ _ HM.out).mono ?_; rintro e w8 ⟨rfl, hM8, hK8⟩
  obtain ⟨l8, hl8⟩ : ∃ x, putAt l6 la0 ((wb : Int), ⟨#[]⟩, 0) = x := ⟨_, rfl⟩
  rw [hl8] at hM8
  have HN8 := Lib.hid (show Nats l8 by rw [← hl8]; exact HN6.out.put _ ⟨wb, 0, _, rfl, hwb1, by omega⟩)
  have HW8 := Lib.hid (show (cellAt l8 (nla F 1)).1 = (wb : Int) by rw [← hl8, ← HLA.out, cellAt_same (by rw [HL6.out]; exact HADS.out.lat)])
  have HE8 := Lib.hid hl8
  replace HM := Lib.hid hM8
  replace E := Lib.hid (E.out.own hK8)
  replace X := Lib.hid (X.out.own hK8)
  clear hl8 hM8 hK8
  have x0 := E.out.lay.cell (i := 0) rfl
  have x1 := E.out.lay.cell (i := 1) rfl
  have x2 := E.out.lay.cell (i := 2) rfl
  have x3 := E.out.lay.cell (i := 3) rfl
  have x4 := E.out.lay.cell (i := 4) rfl
  have x5 := E.out.lay.cell (i := 5) rfl
  have x6 := E.out.lay.cell (i := 6) rfl
  have x7 := E.out.lay.cell (i := 7) rfl
  have x8 := E.out.lay.cell (i := 8) rfl
  have x9 := E.out.lay.cell (i := 9) rfl
  go_wp2_with fail
  refine (newRead_any 1 2 100 100 200 F 1000 10 fb fd (limF h4 h6) HD.out 1 _).mono ?_; rintro e w9 ⟨q, rfl, hC9, hq9, hK9⟩
  clear x0 x1 x2 x3 x4 x5 x6 x7 x8 x9
  obtain ⟨s0, hs0⟩ : ∃ x, w8.heap.size = x := ⟨_, rfl⟩
  have HOX0 := Lib.hid (show Pold s0 bx P A5 by rw [← hs0]; exact X.out.old)
  have HOE0 := Lib.hid (show b9 < s0 ∧ b10 < s0 ∧ w.heap.size ≤ s0 by rw [← hs0]; exact ⟨E.out.cfg.lt, E.out.lay.lt, E.out.kept.size⟩)
  have HOM0 := Lib.hid (show b < s0 ∧ g < s0 by rw [← hs0]; exact ⟨HM.out.obj.lt, HM.out.row.lt⟩)
  have HOS := Lib.hid (show s0 ≤ w9.heap.size by rw [← hs0]; exact hK9.size)
  have HZ := Lib.hid (show ∀ i, i = q → s0 ≤ i from fun i e => by omega)
  have HC := Lib.hid (show Rd (fun i => i = q) w9 F fb fd q 1 ⟨0, 0, cs0⟩ from hC9)
  replace HM := Lib.hid (HM.out.kept hK9 (fun h => h) (fun h => h))
  replace E := Lib.hid (E.out.none hK9)
  replace X := Lib.hid (X.out.none hK9)
  clear hs0 hC9 hq9 hK9
  go_wp2_with fail
  go_loopw [15] (fun i wr => ∃ (k wk : Nat) (Z : Nat → Prop), k ≤ n60 ∧ i = .int .i64 k ∧ wk < 18446744073709551616 ∧ Rd Z wr F fb fd q 1 ⟨0, wk, cs0⟩ ∧ (∀ i, Z i → s0 ≤ i) ∧ Mem wr b g l8 k ∧ Ev w wr F fb fd b g b9 b10 ∧ Px b g wr bx P A5 c5 ∧ s0 ≤ wr.heap.size) (fun i _ => n60 - (intOf i).toNat)
  case atStart => exact ⟨0, 0, _, by omega, rfl, by omega, HC.out, HZ.out, HM.out, E.out, X.out, HOS.out⟩
  case round =>
    obtain ⟨k, wk, Z, hk, rfl, hwk, hC, hZ, hM, hE, hX, hS⟩ := hrel
    clear HC HZ HM E X HOS
    rename World => wr
    have HC := Lib.hid hC
    have HZ := Lib.hid hZ
    have HM := Lib.hid hM
    have E := Lib.hid hE
    have X := Lib.hid hX
    have HOS := Lib.hid hS
    clear hC hZ hM hE hX hS
    by_cases hlt : k < n60
    · have hst : Calls Try.prog 28 #[.pointer (some ⟨q, 0, none⟩), .pointer (some ⟨b, 0, none⟩)] wr _ :=
        rstep_go Z F h4 h6 fb fd HD.out q 1 ⟨0, wk, cs0⟩ ⟨0, wb, cs0⟩ wr HC.out ⟨by simp, hwk, oks0 F, fun h => by simp at h⟩ b g l8 k (k + 1) HM.out (fun h => by have := HZ.out b h; have := HOM0.out; omega) (fun h => by have := HZ.out g h; have := HOM0.out; omega) (by omega) HN8.out (rgo_wait rfl rfl HW8.out HWX.out.1) (if_pos (show (0 : Nat) < 3 by decide)) false rfl
      have HSTP := Lib.hid hst
      clear hst
      go_wp2_with fail
      refine HSTP.out.mono ?_; rintro e w10 ⟨rfl, hM, Z5, hC, hK, hn⟩
      have HE2 := Lib.hid (E.out.step HZ.out HOE0.out hK)
      have HX2 := Lib.hid (X.out.step HZ.out HOX0.out hK)
      have HZ2 := Lib.hid (zold HZ.out hn HOS.out)
      have HS2 := Lib.hid (Nat.le_trans HOS.out hK.size)
      have HM2 := Lib.hid hM
      have HC2 := Lib.hid hC
      clear hM hC hK hn HSTP E X HZ HOS HM HC
      go_wp2
      go_roundw
      case rel => exact ⟨k + 1, wb, Z5, by omega, by go_num, hwb1, HC2.out, HZ2.out, HM2.out, HE2.out, HX2.out, HS2.out⟩
      case measure => simp [intOf]; omega
    · obtain rfl : k = n60 := by omega
      go_wp2_with fail
      refine (begin_of wd wb hwd HWB.out _).mono ?_; rintro e w10 ⟨rfl, rfl⟩
      go_wp2_with fail
      refine (end_of wb we hwb1 HWE.out _).mono ?_; rintro e w10 ⟨rfl, rfl⟩
      go_wp2_with fail
      refine (poke_any b g l8 k la0 (we : Int) 0 ⟨#[]⟩ _ HM.out).mono ?_; rintro e w11 ⟨rfl, hM, hK⟩
      obtain ⟨l9, hl9⟩ : ∃ x, putAt l8 la0 ((we : Int), ⟨#[]⟩, 0) = x := ⟨_, rfl⟩
      rw [hl9] at hM
      have HN9 := Lib.hid (show Nats l9 by rw [← hl9]; exact HN8.out.put _ ⟨we, 0, _, rfl, hwe1, by omega⟩)
      have HW9 := Lib.hid (show (cellAt l9 (nla F 1)).1 = (we : Int) by rw [← hl9, ← HLA.out, cellAt_same (by rw [← HE8.out, putAt_length, HL6.out]; exact HADS.out.lat)])
      have HH9 := Lib.hid (show Holds (nad F 1) l9 P from fun r hr => by
        have hne := HADS.out.ne r (by have := HPL.out; omega)
        rw [← hl9, ← HE8.out, ← HLA.out, cellAt_other (Ne.symm hne), cellAt_other (Ne.symm hne)]; exact HH6.out r hr)
      replace E := Lib.hid (E.out.own hK)
      replace X := Lib.hid (X.out.own hK)
      replace HC := Lib.hid (HC.out.kept hK (fun i hi e => by have := HZ.out i hi; have := HOM0.out; unfold Own at e; omega))
      replace HOS := Lib.hid (Nat.le_trans HOS.out hK.size)
      replace HM := Lib.hid hM
      clear hl9 hM hK HN8 HW8 HE8
      go_wp2_with fail
      refine (accesses_any b g l9 k _ HM.out).mono ?_; rintro e w12 ⟨rfl, rfl⟩
      obtain ⟨y0, hy0⟩ : ∃ y : Rst, (⟨0, wk, cs0⟩ : Rst) = y := ⟨_, rfl⟩
      have HY0 := Lib.hid (show y0.ph = 0 ∧ y0.s = cs0 ∧ Okr F y0 by rw [← hy0]; exact ⟨rfl, rfl, ⟨by simp, hwk, oks0 F, fun h => by simp at h⟩⟩)
      have HC0 := Lib.hid (show Rd Z w11 F fb fd q 1 (rwait F 1 l9 y0 0) from by show Rd Z w11 F fb fd q 1 y0; rw [← hy0]; exact HC.out)
      clear hy0 HC
      go_wp2_with fail
      have wF := wrap_i ((F : Int) + 6) (by omega)
      have wM := wrap_i (4 * ((F : Int) + 6)) (by omega)
      go_loopw [17] (fun i wr => ∃ (k0 : Nat) (Z0 : Nat → Prop), k0 ≤ 11 ∧ k0 ≤ P.xs.length + 4 ∧ i = .int .i64 k0 ∧ Rd Z0 wr F fb fd q 1 (rwait F 1 l9 y0 k0) ∧ (∀ i, Z0 i → s0 ≤ i) ∧ Mem wr b g l9 (k + k0) ∧ Ev w wr F fb fd b g b9 b10 ∧ Px b g wr bx P A5 c5 ∧ s0 ≤ wr.heap.size) (fun i _ => 60 - (intOf i).toNat)
      case atStart => exact ⟨0, _, by omega, by omega, rfl, HC0.out, HZ.out, HM.out, E.out, X.out, HOS.out⟩
      case round =>
        obtain ⟨k0, Z0, hk11, hkn, rfl, hC, hZ, hM, hE, hX, hS⟩ := hrel
        clear HC0 HZ HM E X HOS
        rename World => wr0
        have HC := Lib.hid hC
        have HZ := Lib.hid hZ
        have HM := Lib.hid hM
        have E := Lib.hid hE
        have X := Lib.hid hX
        have HOS := Lib.hid hS

        clear hC hZ hM hE hX hS
        have hph : (rwait F 1 l9 y0 k0).ph < 3 := by
          cases k0 with
          | zero => have := HY0.out.1; show y0.ph < 3; omega
          | succ k => show (ralone F 1 l9 (k + 1)).ph < 3; rw [ralone_at HN9.out HH9.out HWF.out HPL.out HW9.out HWX.out.2 k (by omega)]; simp only; split <;> omega
        have HPH := Lib.hid hph
        have hokr : Okr F (rwait F 1 l9 y0 k0) := by
          cases k0 with
          | zero => exact HY0.out.2.2
          | succ k => exact ralone_ok HN9.out _
        have hst : Calls Try.prog 28 #[.pointer (some ⟨q, 0, none⟩), .pointer (some ⟨b, 0, none⟩)] wr0 _ :=
          rstep_go Z0 F h4 h6 fb fd HD.out q 1 _ _ wr0 HC.out hokr b g l9 (k + k0) (k + (k0 + 1)) HM.out (fun h => by have := HZ.out b h; have := HOM0.out; omega) (fun h => by have := HZ.out g h; have := HOM0.out; omega) (by omega) HN9.out (rwait_step HY0.out.1 HY0.out.2.1 k0) (if_pos hph) _ rfl
        have HSTP := Lib.hid hst
        clear hst hph hokr
        have z5 := E.out.cfg.cell (i := 5) rfl
        have hlM : (k0 : Int) < 4 * ((F : Int) + 6) := by omega
        by_cases hlast : k0 < P.xs.length + 4
        · have hr : ((rwait F 1 l9 y0 (k0 + 1)).ph == 3) = false := by
            show ((ralone F 1 l9 (k0 + 1)).ph == 3) = false
            rw [ralone_at HN9.out HH9.out HWF.out HPL.out HW9.out HWX.out.2 k0 (by omega)]; simp only; split <;> rfl
          rw [hr] at HSTP
          clear hr
          go_wp2_with fail
          refine HSTP.out.mono ?_; rintro e w10 ⟨rfl, hM, Z5, hC, hK, hn⟩
          have HE2 := Lib.hid (E.out.step HZ.out HOE0.out hK)
          have HX2 := Lib.hid (X.out.step HZ.out HOX0.out hK)
          have HZ2 := Lib.hid (zold HZ.out hn HOS.out)
          have HS2 := Lib.hid (Nat.le_trans HOS.out hK.size)
          have HM2 := Lib.hid hM
          have HC2 := Lib.hid hC
          clear hM hC hK hn HSTP E X HZ HOS HM HC z5
          go_wp2
          go_roundw
          case rel => exact ⟨k0 + 1, Z5, by have := HPL.out; omega, by omega, by go_num, HC2.out, HZ2.out, HM2.out, HE2.out, HX2.out, HS2.out⟩
          case measure => simp [intOf]; omega
        · have hkk : k0 = P.xs.length + 4 := by omega
          have hr : ((rwait F 1 l9 y0 (k0 + 1)).ph == 3) = true := by
            show ((ralone F 1 l9 (k0 + 1)).ph == 3) = true
            rw [show k0 + 1 = P.xs.length + 5 + 0 by omega, ralone_end HN9.out HH9.out HWF.out HPL.out HW9.out HWX.out.2]; rfl
          rw [hr] at HSTP
          clear hr
          have HKK := Lib.hid hkk
          clear hkk
          go_wp2_with fail
          refine HSTP.out.mono ?_; rintro e w10 ⟨rfl, hM, Z5, hC, hK, hn⟩
          have hCe : Rd Z5 w10 F fb fd q 1 ⟨3, we, got P (P.xs.length + 3)⟩ := by
            have h := hC
            rw [show rwait F 1 l9 y0 (k0 + 1) = ralone F 1 l9 (P.xs.length + 5 + 0) by rw [HKK.out]; rfl, ralone_end HN9.out HH9.out HWF.out HPL.out HW9.out HWX.out.2] at h
            exact h
          have HE2 := Lib.hid (E.out.step HZ.out HOE0.out hK)
          have HX2 := Lib.hid (X.out.step HZ.out HOX0.out hK)
          have HZ2 := Lib.hid (zold HZ.out hn HOS.out)
          have HS2 := Lib.hid (Nat.le_trans HOS.out hK.size)
          have HM2 := Lib.hid hM
          have HCE := Lib.hid hCe
          clear hM hC hCe hK hn HSTP E X HZ HOS HM HC z5
          have x0 := HE2.out.lay.cell (i := 0) rfl
          have x1 := HE2.out.lay.cell (i := 1) rfl
          have x2 := HE2.out.lay.cell (i := 2) rfl
          have x3 := HE2.out.lay.cell (i := 3) rfl
          have x4 := HE2.out.lay.cell (i := 4) rfl
          have x5 := HE2.out.lay.cell (i := 5) rfl
          have x6 := HE2.out.lay.cell (i := 6) rfl
          have x7 := HE2.out.lay.cell (i := 7) rfl
          have x8 := HE2.out.lay.cell (i := 8) rfl
          have x9 := HE2.out.lay.cell (i := 9) rfl
          go_wp2_with fail
          refine (newRead_any 1 2 100 100 200 F 1000 10 fb fd (limF h4 h6) HD.out 1 _).mono ?_; rintro e w13 ⟨q2, rfl, hC9, hq9, hK9⟩
          clear x0 x1 x2 x3 x4 x5 x6 x7 x8 x9
          obtain ⟨s2, hs2e⟩ : ∃ x, w10.heap.size = x := ⟨_, rfl⟩
          have HOX2 := Lib.hid (show Pold s2 bx P A5 by rw [← hs2e]; exact HX2.out.old)
          have HOE2 := Lib.hid (show b9 < s2 ∧ b10 < s2 ∧ w.heap.size ≤ s2 by rw [← hs2e]; exact ⟨HE2.out.cfg.lt, HE2.out.lay.lt, HE2.out.kept.size⟩)
          have HOM2 := Lib.hid (show b < s2 ∧ g < s2 by rw [← hs2e]; exact ⟨HM2.out.obj.lt, HM2.out.row.lt⟩)
          have HOZ2 := Lib.hid (show ∀ i, Z5 i → i < s2 by rw [← hs2e]; exact HCE.out.lt)
          have HOS := Lib.hid (show s2 ≤ w13.heap.size by rw [← hs2e]; exact hK9.size)
          have HZ := Lib.hid (show ∀ i, i = q2 → s2 ≤ i from fun i e => by omega)
          have HC0 := Lib.hid (show Rd (fun i => i = q2) w13 F fb fd q2 1 (rwait F 1 l9 rst0 0) from hC9)
          have HY2 := Lib.hid (show rst0.ph = 0 ∧ rst0.s = cs0 ∧ Okr F rst0 from ⟨rfl, rfl, okr0 F⟩)
          have HM := Lib.hid (HM2.out.kept hK9 (fun h => h) (fun h => h))
          have E := Lib.hid (HE2.out.none hK9)
          have X := Lib.hid (HX2.out.none hK9)
          have HCR := Lib.hid (HCE.out.kept hK9 (fun _ _ h => h))
          have HZE := Lib.hid (show ¬ Z5 b ∧ ¬ Z5 g from ⟨fun h => by have := HZ2.out b h; have := HOM0.out; omega, fun h => by have := HZ2.out g h; have := HOM0.out; omega⟩)
          clear hs2e hC9 hq9 hK9 HE2 HX2 HM2 HCE HS2 HZ2
          go_wp2_with fail
          have wF := wrap_i ((F : Int) + 6) (by omega)
          have wM := wrap_i (2 * ((F : Int) + 6)) (by omega)
          go_loopw [19] (fun i wr => ∃ (k2 : Nat) (Z2 : Nat → Prop), k2 ≤ 11 ∧ k2 ≤ P.xs.length + 4 ∧ i = .int .i64 k2 ∧ Rd Z2 wr F fb fd q2 1 (rwait F 1 l9 rst0 k2) ∧ (∀ i, Z2 i → s2 ≤ i) ∧ Mem wr b g l9 ((k + (k0 + 1)) + k2) ∧ Ev w wr F fb fd b g b9 b10 ∧ Px b g wr bx P A5 c5 ∧ s2 ≤ wr.heap.size ∧ Con Z5 wr 1 2 100 100 200 F 1000 10 fb fd q 98 1 (got P (P.xs.length + 3)) (rtl ⟨3, we, (got P (P.xs.length + 3))⟩)) (fun i _ => 60 - (intOf i).toNat)
          case atStart => exact ⟨0, _, by omega, by omega, rfl, HC0.out, HZ.out, HM.out, E.out, X.out, HOS.out, HCR.out⟩
          case round =>
            obtain ⟨k2, Z2, hk11, hkn, rfl, hC, hZ, hM, hE, hX, hS, hCR⟩ := hrel
            clear HC0 HZ HM E X HOS HCR
            rename World => wr2
            have HC := Lib.hid hC
            have HZ := Lib.hid hZ
            have HM := Lib.hid hM
            have E := Lib.hid hE
            have X := Lib.hid hX
            have HOS := Lib.hid hS
            have HCR := Lib.hid hCR
            clear hC hZ hM hE hX hS hCR
            have hph : (rwait F 1 l9 rst0 k2).ph < 3 := by
              cases k2 with
              | zero => have := HY2.out.1; show rst0.ph < 3; omega
              | succ k => show (ralone F 1 l9 (k + 1)).ph < 3; rw [ralone_at HN9.out HH9.out HWF.out HPL.out HW9.out HWX.out.2 k (by omega)]; simp only; split <;> omega
            have HPH := Lib.hid hph
            have hokr : Okr F (rwait F 1 l9 rst0 k2) := by
              cases k2 with
              | zero => exact HY2.out.2.2
              | succ k => exact ralone_ok HN9.out _
            have hst : Calls Try.prog 28 #[.pointer (some ⟨q2, 0, none⟩), .pointer (some ⟨b, 0, none⟩)] wr2 _ :=
              rstep_go Z2 F h4 h6 fb fd HD.out q2 1 _ _ wr2 HC.out hokr b g l9 ((k + (k0 + 1)) + k2) ((k + (k0 + 1)) + (k2 + 1)) HM.out (fun h => by have := HZ.out b h; have := HOM2.out; omega) (fun h => by have := HZ.out g h; have := HOM2.out; omega) (by omega) HN9.out (rwait_step HY2.out.1 HY2.out.2.1 k2) (if_pos hph) _ rfl
            have HSTP := Lib.hid hst
            clear hst hph hokr
            have z5 := E.out.cfg.cell (i := 5) rfl
            have hlM : (k2 : Int) < 2 * ((F : Int) + 6) := by omega
            by_cases hlast : k2 < P.xs.length + 4
            · have hr : ((rwait F 1 l9 rst0 (k2 + 1)).ph == 3) = false := by
                show ((ralone F 1 l9 (k2 + 1)).ph == 3) = false
                rw [ralone_at HN9.out HH9.out HWF.out HPL.out HW9.out HWX.out.2 k2 (by omega)]; simp only; split <;> rfl
              rw [hr] at HSTP
              clear hr
              go_wp2_with fail
              refine HSTP.out.mono ?_; rintro e w10 ⟨rfl, hM, Z5, hC, hK, hn⟩
              have HE2 := Lib.hid (E.out.step HZ.out HOE2.out hK)
              have HX2 := Lib.hid (X.out.step HZ.out HOX2.out hK)
              have HZ2 := Lib.hid (zold HZ.out hn HOS.out)
              have HS2 := Lib.hid (Nat.le_trans HOS.out hK.size)
              have HCR2 := Lib.hid (HCR.out.kept hK (fun i hi e => by have h1 := HOZ2.out i hi; rcases e with e | e | e; have := HZ.out i e; omega; exact HZE.out.1 (e ▸ hi); exact HZE.out.2 (e ▸ hi)))
              have HM2 := Lib.hid hM
              have HC2 := Lib.hid hC
              clear hM hC hK hn HSTP E X HZ HOS HM HC z5
              go_wp2
              go_roundw
              case rel => exact ⟨k2 + 1, Z5, by have := HPL.out; omega, by omega, by go_num, HC2.out, HZ2.out, HM2.out, HE2.out, HX2.out, HS2.out, HCR2.out⟩
              case measure => simp [intOf]; omega
            · have hkk : k2 = P.xs.length + 4 := by omega
              have hr : ((rwait F 1 l9 rst0 (k2 + 1)).ph == 3) = true := by
                show ((ralone F 1 l9 (k2 + 1)).ph == 3) = true
                rw [show k2 + 1 = P.xs.length + 5 + 0 by omega, ralone_end HN9.out HH9.out HWF.out HPL.out HW9.out HWX.out.2]; rfl
              rw [hr] at HSTP
              clear hr
              have HKK := Lib.hid hkk
              clear hkk
              go_wp2_with fail
              refine HSTP.out.mono ?_; rintro e w10 ⟨rfl, hM, Z5, hC, hK, hn⟩
              have hCe : Rd Z5 w10 F fb fd q2 1 ⟨3, we, got P (P.xs.length + 3)⟩ := by
                have h := hC
                rw [show rwait F 1 l9 rst0 (k2 + 1) = ralone F 1 l9 (P.xs.length + 5 + 0) by rw [HKK.out]; rfl, ralone_end HN9.out HH9.out HWF.out HPL.out HW9.out HWX.out.2] at h
                exact h
              have HE2 := Lib.hid (E.out.step HZ.out HOE2.out hK)
              have HX2 := Lib.hid (X.out.step HZ.out HOX2.out hK)
              have HZ2 := Lib.hid (zold HZ.out hn HOS.out)
              have HS2 := Lib.hid (Nat.le_trans HOS.out hK.size)
              have HCR2 := Lib.hid (HCR.out.kept hK (fun i hi e => by have h1 := HOZ2.out i hi; rcases e with e | e | e; have := HZ.out i e; omega; exact HZE.out.1 (e ▸ hi); exact HZE.out.2 (e ▸ hi)))
              have HM2 := Lib.hid hM
              have HCE := Lib.hid hCe
              clear hM hC hCe hK hn HSTP E X HZ HOS HM HC z5
              go_upto_region 24 with fail
              have hdr := (Kept.refl (fun _ => False) w10).drew
              have HM := Lib.hid (HM2.out.kept hdr (fun h => h) (fun h => h))
              have E := Lib.hid (HE2.out.none hdr)
              have X := Lib.hid (HX2.out.none hdr)
              have HCA := Lib.hid (HCR2.out.kept hdr (fun _ _ h => h))
              have HCB := Lib.hid (HCE.out.kept hdr (fun _ _ h => h))
              clear hdr HM2 HE2 HX2 HCR2 HCE HS2 HZ2
              refine wp_region_held_drew (S := (fun w' => Blk w' bx 25 [.int .i64 (P.lv : Int), .slice A5 P.xs.length c5, .string P.hi, .bool P.la, .int .u64 (P.rt : Int)])) (by kernel_rfl) ?_ (fun hHeld => ?_)
              · exact X.out.blk
              generalize w10.drew = G at *
              refine wpAnyH_take (i := 0) (oi := ⟨some 99, _, _, _, _, _⟩) (v := ?_) rfl (by kernel_rfl) (by kernel_rfl) (by kernel_rfl) (fun _ _ _ h => h) (Or.inl ⟨by rfl, ?_⟩) hHeld ?_
              rotate_left
              · (intro wq hSw; go_simp; try with_reducible rfl)
              try simp only [Act.put, List.setIfInBounds_toArray, List.set_cons_zero, List.set_cons_succ]
              refine wpAnyH_take (i := 2) (oi := ⟨some 101, _, _, _, _, _⟩) (v := ?_) rfl (by kernel_rfl) (by kernel_rfl) (by kernel_rfl) (fun _ _ _ h => h) (Or.inl ⟨by rfl, ?_⟩) hHeld ?_
              rotate_left
              · (intro wq hSw; go_simp; try with_reducible rfl)
              try simp only [Act.put, List.setIfInBounds_toArray, List.set_cons_zero, List.set_cons_succ]
              refine wpAnyH_ready (rs := [1]) (by kernel_rfl) (by simp) ?_
              refine AllReadyH.cons (o := ⟨some 100, _, _, _, _, _⟩) rfl (fun KK hK => ?_) AllReadyH.nil
              go_simp
              go_at_call 29
              refine (accesses_any b g l9 _ _ HM.out).mono ?_; rintro e w14 ⟨rfl, rfl⟩
              refine hK.out _ _ ?_ (fun hHeld2 => ?_)
              · exact X.out.blk
              clear hK KK hHeld
              have hHeld := hHeld2
              clear hHeld2
              try simp only [Act.put, List.setIfInBounds_toArray, List.set_cons_zero, List.set_cons_succ]
              refine wpAnyH_take (i := 3) (oi := ⟨some 102, _, _, _, _, _⟩) (v := .bool true) rfl (by kernel_rfl) (by kernel_rfl) (by kernel_rfl) (fun _ _ _ h => h) (Or.inl ⟨by rfl, ?_⟩) hHeld ?_
              · (intro wq hSw; go_simp; try first | (with_reducible rfl) | (simp; omega) | (intros; omega) | simp [*])
              try simp only [Act.put, List.setIfInBounds_toArray, List.set_cons_zero, List.set_cons_succ]
              refine wpAnyH_take (i := 4) (oi := ⟨some 103, _, _, _, _, _⟩) (v := .bool true) rfl (by kernel_rfl) (by kernel_rfl) (by kernel_rfl) (fun _ _ _ h => h) (Or.inl ⟨by rfl, ?_⟩) hHeld ?_
              · (intro wq hSw; go_simp; try first | (with_reducible rfl) | (simp; omega) | (intros; omega) | simp [*])
              try simp only [Act.put, List.setIfInBounds_toArray, List.set_cons_zero, List.set_cons_succ]
              refine wpAnyH_take (i := 5) (oi := ⟨some 104, _, _, _, _, _⟩) (v := ?_) rfl (by kernel_rfl) (by kernel_rfl) (by kernel_rfl) (fun _ _ _ h => h) (Or.inl ⟨by rfl, ?_⟩) hHeld ?_
              rotate_left
              · (intro wq hSw; go_simp; try with_reducible rfl)
              try simp only [Act.put, List.setIfInBounds_toArray, List.set_cons_zero, List.set_cons_succ]
              refine wpAnyH_take (i := 7) (oi := ⟨some 106, _, _, _, _, _⟩) (v := ?_) rfl (by kernel_rfl) (by kernel_rfl) (by kernel_rfl) (fun _ _ _ h => h) (Or.inl ⟨by rfl, ?_⟩) hHeld ?_
              rotate_left
              · (intro wq hSw; have y0 := hSw.cell (i := 0) rfl; have y1 := hSw.cell (i := 1) rfl; have y2 := hSw.cell (i := 2) rfl; have y3 := hSw.cell (i := 3) rfl; have y4 := hSw.cell (i := 4) rfl; go_simp; try with_reducible rfl)
              try simp only [Act.put, List.setIfInBounds_toArray, List.set_cons_zero, List.set_cons_succ]
              refine wpAnyH_ready (rs := [6]) (by kernel_rfl) (by simp) ?_
              refine AllReadyH.cons (o := ⟨some 105, _, _, _, _, _⟩) rfl (fun KK hK => ?_) AllReadyH.nil
              go_simp
              go_at_call 30
              refine (rread_page HCA.out HFL.out).mono ?_; rintro e w15 ⟨A7, c7, rfl, hRp, hKp⟩
              replace E := Lib.hid (E.out.none hKp)
              replace X := Lib.hid (X.out.none hKp)
              replace HCB := Lib.hid (HCB.out.kept hKp (fun _ _ h => h))
              have HRP := Lib.hid hRp
              clear hRp hKp
              refine hK.out _ _ ?_ (fun hHeld2 => ?_)
              · exact X.out.blk
              clear hK KK hHeld
              have hHeld := hHeld2
              clear hHeld2
              try simp only [Act.put, List.setIfInBounds_toArray, List.set_cons_zero, List.set_cons_succ]
              refine wpAnyH_ready (rs := [8]) (by kernel_rfl) (by simp) ?_
              refine AllReadyH.cons (o := ⟨some 107, _, _, _, _, _⟩) rfl (fun KK hK => ?_) AllReadyH.nil
              go_simp
              go_at_call 14
              refine (refSame_yes P A7 A5 c7 c5 _ (by have := HPL.out; omega) HRP.out X.out.row).mono ?_; rintro e w16 ⟨rfl, hKp⟩
              replace E := Lib.hid (E.out.none hKp)
              replace X := Lib.hid (X.out.none hKp)
              replace HCB := Lib.hid (HCB.out.kept hKp (fun _ _ h => h))
              clear hKp HRP
              refine hK.out _ _ ?_ (fun hHeld2 => ?_)
              · exact X.out.blk
              clear hK KK hHeld
              have hHeld := hHeld2
              clear hHeld2
              try simp only [Act.put, List.setIfInBounds_toArray, List.set_cons_zero, List.set_cons_succ]
              refine wpAnyH_take (i := 9) (oi := ⟨some 108, _, _, _, _, _⟩) (v := .bool true) rfl (by kernel_rfl) (by kernel_rfl) (by kernel_rfl) (fun _ _ _ h => h) (Or.inl ⟨by rfl, ?_⟩) hHeld ?_
              · (intro wq hSw; go_simp; try first | (with_reducible rfl) | (simp; omega) | (intros; omega) | simp [*])
              try simp only [Act.put, List.setIfInBounds_toArray, List.set_cons_zero, List.set_cons_succ]
              refine wpAnyH_take (i := 10) (oi := ⟨some 109, _, _, _, _, _⟩) (v := .bool true) rfl (by kernel_rfl) (by kernel_rfl) (by kernel_rfl) (fun _ _ _ h => h) (Or.inl ⟨by rfl, ?_⟩) hHeld ?_
              · (intro wq hSw; go_simp; try first | (with_reducible rfl) | (simp; omega) | (intros; omega) | simp [*])
              try simp only [Act.put, List.setIfInBounds_toArray, List.set_cons_zero, List.set_cons_succ]
              refine wpAnyH_take (i := 11) (oi := ⟨some 110, _, _, _, _, _⟩) (v := ?_) rfl (by kernel_rfl) (by kernel_rfl) (by kernel_rfl) (fun _ _ _ h => h) (Or.inl ⟨by rfl, ?_⟩) hHeld ?_
              rotate_left
              · (intro wq hSw; go_simp; try with_reducible rfl)
              try simp only [Act.put, List.setIfInBounds_toArray, List.set_cons_zero, List.set_cons_succ]
              refine wpAnyH_take (i := 13) (oi := ⟨some 112, _, _, _, _, _⟩) (v := ?_) rfl (by kernel_rfl) (by kernel_rfl) (by kernel_rfl) (fun _ _ _ h => h) (Or.inl ⟨by rfl, ?_⟩) hHeld ?_
              rotate_left
              · (intro wq hSw; have y0 := hSw.cell (i := 0) rfl; have y1 := hSw.cell (i := 1) rfl; have y2 := hSw.cell (i := 2) rfl; have y3 := hSw.cell (i := 3) rfl; have y4 := hSw.cell (i := 4) rfl; go_simp; try with_reducible rfl)
              try simp only [Act.put, List.setIfInBounds_toArray, List.set_cons_zero, List.set_cons_succ]
              refine wpAnyH_ready (rs := [12]) (by kernel_rfl) (by simp) ?_
              refine AllReadyH.cons (o := ⟨some 111, _, _, _, _, _⟩) rfl (fun KK hK => ?_) AllReadyH.nil
              go_simp
              go_at_call 30
              refine (rread_page HCB.out HFL.out).mono ?_; rintro e w17 ⟨A8, c8, rfl, hRp, hKp⟩
              replace E := Lib.hid (E.out.none hKp)
              replace X := Lib.hid (X.out.none hKp)
              have HRP := Lib.hid hRp
              clear hRp hKp
              refine hK.out _ _ ?_ (fun hHeld2 => ?_)
              · exact X.out.blk
              clear hK KK hHeld
              have hHeld := hHeld2
              clear hHeld2
              try simp only [Act.put, List.setIfInBounds_toArray, List.set_cons_zero, List.set_cons_succ]
              refine wpAnyH_ready (rs := [14]) (by kernel_rfl) (by simp) ?_
              refine AllReadyH.cons (o := ⟨some 113, _, _, _, _, _⟩) rfl (fun KK hK => ?_) AllReadyH.nil
              go_simp
              go_at_call 14
              refine (refSame_yes P A8 A5 c8 c5 _ (by have := HPL.out; omega) HRP.out X.out.row).mono ?_; rintro e w18 ⟨rfl, hKp⟩
              replace E := Lib.hid (E.out.none hKp)
              replace X := Lib.hid (X.out.none hKp)
              clear hKp HRP
              refine hK.out _ _ ?_ (fun hHeld2 => ?_)
              · exact X.out.blk
              clear hK KK hHeld
              have hHeld := hHeld2
              clear hHeld2
              try simp only [Act.put, List.setIfInBounds_toArray, List.set_cons_zero, List.set_cons_succ]
              refine wpAnyH_take (i := 15) (oi := ⟨some 114, _, _, _, _, _⟩) (v := .bool true) rfl (by kernel_rfl) (by kernel_rfl) (by kernel_rfl) (fun _ _ _ h => h) (Or.inl ⟨by rfl, ?_⟩) hHeld ?_
              · (intro wq hSw; go_simp; try first | (with_reducible rfl) | (simp; omega) | (intros; omega) | simp [*])
              try simp only [Act.put, List.setIfInBounds_toArray, List.set_cons_zero, List.set_cons_succ]
              refine wpAnyH_take (i := 16) (oi := ⟨some 8, _, _, _, _, _⟩) (v := ?_) rfl (by kernel_rfl) (by kernel_rfl) (by kernel_rfl) (fun _ _ _ h => h) (Or.inl ⟨by rfl, ?_⟩) hHeld ?_
              rotate_left
              · (intro wq hSw; go_simp; try with_reducible rfl)
              try simp only [Act.put, List.setIfInBounds_toArray, List.set_cons_zero, List.set_cons_succ]
              refine wpAnyH_done (by kernel_rfl) ?_ _
              clear hHeld
              go_wp2
              go_ret
              exact ⟨rfl, E.out.kept.below (Nat.le_refl _) (fun _ h => h.elim)⟩

end Go.Proofs.Ytlehpcbhfdnkdaa
