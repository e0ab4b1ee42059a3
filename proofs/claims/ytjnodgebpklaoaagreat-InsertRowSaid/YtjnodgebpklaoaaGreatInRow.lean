/-
 InsertRow, walked. Condition: arguments within the model's reach.
-/
import Derived.Test.YtjnodgebpklaoaaGreatInAwk
import Derived.Test.YtjnodgebpklaoaaGreatMgFin
import Derived.Test.YtjnodgebpklaoaaGreatTgKeys
import Derived.Test.YtjnodgebpklaoaaGreatTgSndD
namespace Go.Proofs.YtjnodgebpklaoaaGreat
set_option maxHeartbeats 8000000
set_option maxRecDepth 100000
open Go.RowKit Go.Deep Plain
set_option linter.unusedVariables false

theorem lawRow (w : World) (AR : Option Addr) (nR cR : Nat) (ss : List ByteArray) (hnR : ss.length = nR) (hrd : Rdv w w.heap.size (.slice AR nR cR) nR (ss.map Value.string)) (hsz : ∀ s ∈ ss, s.size ≤ maxLen) (f : Int) :
  Calls Tryz.prog 3 #[.slice AR nR cR, .int .i64 f] w fun e w' => e = .returned (.bool true) ∧ Below w.heap.size w w' := by
 obtain ⟨F, hF⟩ : ∃ F : Nat, 4 + f % 3 = (F : Int) := ⟨(4 + f % 3).toNat, by omega⟩
 have h4 : 4 ≤ F := by omega
 have h6 : F ≤ 6 := by omega
 have HF := Hd hF
 have HRD := Hd hrd
 have HRD0 := Hd hrd
 have HSS := Hd hsz
 clear hF hrd hsz
 go_enter Tryz.func3, Tryz.ntmps3
 go_wp2_with fail
 refine (kitConfig_any 1 f F HF.out _).mono ?_; rintro e w1 ⟨rfl, hK1⟩
 have HK := Hd (hK1.mono (T := (fun i => w.heap.size ≤ i)) (fun _ h => h.elim))
 replace HRD := Hd (HRD.out.keptN hK1 (Nat.le_refl _))
 have HW1 := Hd HK.out.size
 clear hK1 HF
 go_wp2_with fail
 have hal := (Kept.refl (fun _ => False) w1).alloc (.cells #[.int .i64 1, .int .i64 2, .int .i64 100, .int .i64 100, .int .i64 200, .int .i64 (F : Int), .int .u64 1000] 25)
 have H11 := Hd (Blk.new w1 [.int .i64 1, .int .i64 2, .int .i64 100, .int .i64 100, .int .i64 200, .int .i64 (F : Int), .int .u64 1000] 25)
 replace HRD := Hd (HRD.out.keptN hal (Nat.le_refl _))
 replace HK := Hd (HK.out.trans hal (fun _ _ h => h.elim))
 clear hal
 generalize hr11 : w1.heap.size = r11 at *
 generalize w1.alloc (.cells #[.int .i64 1, .int .i64 2, .int .i64 100, .int .i64 100, .int .i64 200, .int .i64 (F : Int), .int .u64 1000] 25) = W1 at *
 have HR11 := Hd (show w.heap.size ≤ r11 ∧ r11 < W1.heap.size from ⟨HW1.out, H11.out.lt⟩)
 clear hr11
 refine (kitMem3 F h4 h6 _).mono ?_
 rintro e w2 ⟨b, g, l, fb, fd, rfl, hM2, hS2, hr2, hd, hb2, hg2, hK2⟩
 have HM := Hd hM2
 have HS := Hd hS2
 have HRT := Hd hr2
 have HD := Hd hd
 have HBG := Hd (show r11 < b ∧ r11 < g ∧ b < w2.heap.size ∧ g < w2.heap.size by have h1 := HR11.out; have h2 := hM2.obj.lt; have h3 := hM2.row.lt; omega)
 replace HRD := Hd (HRD.out.keptN hK2 (Nat.le_refl _))
 replace HK := Hd (HK.out.trans hK2 (fun _ _ h => h.elim))
 replace H11 := Hd (hK2.blk H11.out (fun h => h))
 clear hM2 hS2 hr2 hd hb2 hg2 hK2
 go_wp2_with fail
 have hal := (Kept.refl (fun _ => False) w2).alloc (.cells #[.int .i64 1, .int .i64 2, .int .i64 100, .int .i64 100, .int .i64 200, .int .i64 (F : Int), .int .u64 1000, .int .i64 10, .int .i64 fb, .int .i64 fd] 28)
 have H12 := Hd (Blk.new w2 [.int .i64 1, .int .i64 2, .int .i64 100, .int .i64 100, .int .i64 200, .int .i64 (F : Int), .int .u64 1000, .int .i64 10, .int .i64 fb, .int .i64 fd] 28)
 replace HRD := Hd (HRD.out.keptN hal (Nat.le_refl _))
 replace HK := Hd (HK.out.trans hal (fun _ _ h => h.elim))
 replace H11 := Hd (hal.blk H11.out (fun h => h))
 replace HM := Hd (HM.out.kept hal (fun h => h) (fun h => h))
 clear hal
 generalize hr12 : w2.heap.size = r12 at *
 have HR := Hd (show w.heap.size ≤ r11 ∧ r11 < b ∧ r11 < g ∧ b < r12 ∧ g < r12 by have h1 := HR11.out; have h2 := HBG.out; omega)
 clear hr12 HBG HR11
 generalize w2.alloc (.cells #[.int .i64 1, .int .i64 2, .int .i64 100, .int .i64 100, .int .i64 200, .int .i64 (F : Int), .int .u64 1000, .int .i64 10, .int .i64 fb, .int .i64 fd] 28) = W2 at *
 refine (awake13_any _).mono ?_; rintro e w3 ⟨rfl, hKa⟩
 replace HRD := Hd (HRD.out.keptN hKa (Nat.le_refl _))
 replace HK := Hd (HK.out.trans hKa (fun _ _ h => h.elim))
 replace H11 := Hd (hKa.blk H11.out (fun h => h))
 replace H12 := Hd (hKa.blk H12.out (fun h => h))
 replace HM := Hd (HM.out.kept hKa (fun h => h) (fun h => h))
 clear hKa
 obtain ⟨nl, hnl⟩ : ∃ nl, l.length = nl := ⟨_, rfl⟩
 have HK0 := Hd (show RwK F nl 1 [(1, pg0)] l [] from by rw [← hnl]; exact RwK.start h4 h6 HS.out HRT.out)
 have HNL := Hd hnl
 have hnl20 : nl ≤ 1048576 := by rw [← hnl]; exact HS.out.hi
 clear hnl
 go_upto_region 7 with fail
 rename World => W5
 have hb5 := HM.out.obj.lt
 have hg5 := HM.out.row.lt
 have h115 := H11.out.lt
 have h125 := H12.out.lt
 have hw5 := HK.out.size
 have HS5 := Hd (show b < W5.heap.size ∧ g < W5.heap.size ∧ r11 < W5.heap.size ∧ r12 < W5.heap.size ∧ w.heap.size ≤ W5.heap.size from ⟨hb5, hg5, h115, h125, hw5⟩)
 clear hb5 hg5 h115 h125 hw5
 go_loopw [8, 9] (fun sv iv wr => ∃ (i kk ac : Nat) (R : List (Nat × Pg)) (l2 : List Cel) (ks : List ByteArray), iv = .int .i64 (i : Int) ∧ i ≤ nR ∧ i ≤ 40 ∧ ks.length ≤ i ∧ RwK F nl kk R l2 ks ∧ Mem wr b g l2 ac ∧ ac ≤ i * 3000 ∧ wr.ownsRow W5.heap.size 9 1 sv ks.length (strv ks) ∧ (∀ k ∈ ks, k.size ≤ 32) ∧ Kept (fun k => k = b ∨ k = g ∨ W5.heap.size ≤ k) W5 wr) (fun _ iv _ => nR - (intOf iv).toNat)
 case atStart => exact ⟨0, 1, 0, _, _, [], rfl, Nat.zero_le _, by omega, Nat.zero_le _, HK0.out, HM.out, Nat.zero_le _, World.ownsRow_nil _ _ _ _, fun k hk => (by cases hk), Kept.refl _ _⟩
 case round =>
  rename World => V1
  obtain ⟨i, kk, ac, R, l2, ks, rfl, hiR, hi40, hki, hRK, hM, hac, hO, hksz, hKV⟩ := hrel
  have HRK := Hd hRK
  have HM1 := Hd hM
  have HO := Hd hO
  have HKSZ := Hd hksz
  have HKV := Hd hKV
  have HKI := Hd (show ks.length ≤ i ∧ ac ≤ i * 3000 ∧ i ≤ 40 from ⟨hki, hac, hi40⟩)
  have HK1 := Hd (show Kept (fun i => w.heap.size ≤ i) w V1 from HK.out.trans HKV.out (fun k hk h => by have h1 := HR.out; have h2 := HS5.out; rcases h with h | h | h <;> omega))
  have HRD1 := Hd (HRD0.out.keptL HK1.out (Nat.le_refl _))
  have H11V := Hd (HKV.out.blk H11.out (fun h => by have h1 := HR.out; have h2 := HS5.out; rcases h with h | h | h <;> omega))
  have H12V := Hd (HKV.out.blk H12.out (fun h => by have h1 := HR.out; have h2 := HS5.out; rcases h with h | h | h <;> omega))
  clear hRK hM hO hksz hKV hki hac HK0 HM
  go_upto_region 7 with fail
  go_cut [50] from 43 to 50 (fun v wx => v = .bool (decide (i < nR ∧ i < 40)) ∧ wx = V1)
  case first =>
   by_cases e1 : i < nR
   ·have d1 : (i : Int) < (nR : Int) := by omega
    by_cases e2 : i < 40
    ·have d2 : (i : Int) < 40 := by omega
     go_wp2
     go_meet
     exact ⟨by simp [e1, e2], rfl⟩
    ·have d2 : ¬ (i : Int) < 40 := by omega
     go_wp2
     go_meet
     exact ⟨by simp [e2], rfl⟩
   ·have d1 : ¬ (i : Int) < (nR : Int) := by omega
    go_wp2
    go_meet
    exact ⟨by simp [e1], rfl⟩
  case rest =>
   obtain ⟨rfl, rfl⟩ := hcut
   rename World => V1
   by_cases hgo : i < nR ∧ i < 40
   ·rw [decide_eq_true hgo]
    have HGO := Hd hgo
    clear hgo hiR hi40
    go_upto_region 9 with fail
    obtain ⟨A9, c9, e9, -, -, h9⟩ := HRD1.out
    cases e9
    obtain ⟨gr, off, rfl, hgr, hrc⟩ := h9 (by have := HGO.out; omega)
    obtain ⟨s, hs⟩ : ∃ s, ss[i]? = some s := ⟨_, List.getElem?_eq_getElem (by have := HGO.out; omega)⟩
    have hcs : V1.cell? ⟨gr, off + i, none⟩ = some (.string s) := hrc i _ (by rw [List.getElem?_map, hs]; rfl)
    have hss := HSS.out s (List.mem_of_getElem? hs)
    unfold maxLen at hss
    obtain ⟨mq, hmq⟩ : ∃ mq : Nat, min s.size 32 = mq := ⟨_, rfl⟩
    have hmq2 : min (s.size : Int) 32 = (mq : Int) := by omega
    have hmq3 : mq ≤ s.size ∧ mq ≤ 32 := by omega
    have d1 : (i : Int) < (nR : Int) := by have := HGO.out; omega
    clear hmq hs hrc h9
    refine wp_region_held_drew (S := (fun w' => Kept (fun _ => False) V1 w')) (by kernel_rfl) ?_ (fun hHeld => ?_)
    ·exact (Kept.refl _ _).drew
    refine tkH 0 53 ?_ rfl ?_ hHeld ?_
    rotate_left
    ·(intro wq hSw; go_simp; try with_reducible rfl)
    try simp only [aP,aA,aZ,aS]
    refine tkH 1 54 ?_ rfl ?_ hHeld ?_
    rotate_left
    ·(intro wq hSw; go_simp; try with_reducible rfl)
    try simp only [aP,aA,aZ,aS]
    refine tkH 2 55 ?_ rfl ?_ hHeld ?_
    rotate_left
    ·(intro wq hSw; go_simp; try with_reducible rfl)
    try simp only [aP,aA,aZ,aS]
    refine tkH 3 56 ?_ rfl ?_ hHeld ?_
    rotate_left
    ·(intro wq hSw; have y1 := (hSw.cell (p := ⟨gr, off + i, none⟩) hgr (fun h => h)).trans hcs; go_simp; try with_reducible rfl)
    try simp only [aP,aA,aZ,aS]
    refine tkH 4 57 ?_ rfl ?_ hHeld ?_
    rotate_left
    ·(intro wq hSw; go_simp; try with_reducible rfl)
    try simp only [aP,aA,aZ,aS]
    refine tkH 5 58 ?_ rfl ?_ hHeld ?_
    rotate_left
    ·(intro wq hSw; go_simp; try with_reducible rfl)
    try simp only [aP,aA,aZ,aS]
    refine tkH 6 59 ?_ rfl ?_ hHeld ?_
    rotate_left
    ·(intro wq hSw; go_simp; try with_reducible rfl)
    try simp only [aP,aA,aZ,aS]
    refine tkH 7 60 ?_ rfl ?_ hHeld ?_
    rotate_left
    ·(intro wq hSw; have y1 := (hSw.cell (p := ⟨gr, off + i, none⟩) hgr (fun h => h)).trans hcs; go_simp; try with_reducible rfl)
    try simp only [aP,aA,aZ,aS]
    refine tkH 8 61 ?_ rfl ?_ hHeld ?_
    rotate_left
    ·(intro wq hSw; go_simp; try with_reducible rfl)
    try simp only [aP,aA,aZ,aS]
    refine tkH 9 62 (.int .i64 (mq : Int)) rfl ?_ hHeld ?_
    ·(intro wq hSw; go_simp; try first | (with_reducible rfl) | (simp; omega) | (intros; omega) | simp [*])
    try simp only [aP,aA,aZ,aS]
    refine tkH 10 63 ?_ rfl ?_ hHeld ?_
    rotate_left
    ·(intro wq hSw; go_simp; try with_reducible rfl)
    try simp only [aP,aA,aZ,aS]
    refine tkH 11 10 ?_ rfl ?_ hHeld ?_
    rotate_left
    ·(intro wq hSw; go_simp; try with_reducible rfl)
    try simp only [aP,aA,aZ,aS]
    refine wpAnyH_done (by kernel_rfl) ?_ _
    clear hHeld
    obtain ⟨key, hkey⟩ : ∃ key, s.extract 0 mq = key := ⟨_, rfl⟩
    have HKY := Hd (show key.size ≤ 32 from by rw [← hkey, ByteArray.size_extract]; omega)
    rw [hkey]
    clear hkey hmq2 hmq3 hss hcs d1
    have hdr := (Kept.refl (fun _ => False) V1).drew
    replace HM1 := Hd (HM1.out.kept hdr (fun h => h) (fun h => h))
    replace H11V := Hd (hdr.blk H11V.out (fun h => h))
    replace H12V := Hd (hdr.blk H12V.out (fun h => h))
    replace HKV := Hd (HKV.out.trans hdr (fun _ _ h => h.elim))
    replace HK1 := Hd (HK1.out.trans hdr (fun _ _ h => h.elim))
    replace HO := Hd (own_kept HO.out hdr (fun _ _ h => h))
    clear hdr
    generalize V1.drew = V2 at *
    obtain ⟨t, P, w0, hat, htm, hT⟩ := HRK.out.s.tgt h4 h6 key
    obtain ⟨D, hD, hpath⟩ := HRK.out.s.way h6 key hat
    have HAT := Hd hat
    have HTM := Hd htm
    have HTG := Hd hT
    have HLR0 := Hd (show Lrs F key 0 l2 t w0 P (D + P.xs.length + 5 + 1) (.fnd .root) l2 from by
     have h1 := Lrs.fnd (w0 := w0) (P := P) (FWs.root HRK.out.s.c0 hpath)
     rwa [show D + 1 + (P.xs.length + 5) = D + P.xs.length + 5 + 1 by omega] at h1)
    have hPl : P.xs.length ≤ F := hT.nd.len
    have HDL := Hd (show D + P.xs.length + 5 ≤ 1150 from by omega)
    have HBG2 := Hd (show b < V2.heap.size ∧ g < V2.heap.size ∧ W5.heap.size ≤ V2.heap.size from ⟨HM1.out.obj.lt, HM1.out.row.lt, HKV.out.size⟩)
    clear hat htm hT hpath hD hPl
    have h12 := H12V.out
    obtain ⟨y0, y1, y2, y3, y4, y5, y6, y7, y8, y9⟩ := h12.c10
    clear h12
    go_wp2_with fail
    refine (newLock_at F fb fd key 0 _).mono ?_; rintro e V3 ⟨x, Z0, rfl, hA0, hZ0, hK4⟩
    have HA0 := Hd hA0
    have HZ0 := Hd hZ0
    have HK4 := Hd hK4
    have HM3 := Hd (HM1.out.kept hK4 (fun h => h) (fun h => h))
    clear hA0 hZ0 hK4 y0 y1 y2 y3 y4 y5 y6 y7 y8 y9
    go_wp2_with fail
    go_loopw [12] (fun kv wr => ∃ (k d : Nat) (s9 : Ls) (m9 : List Cel) (Z : Nat → Prop), k + d ≤ 1200 ∧ kv = .int .i64 (k : Int) ∧ Lrs F key 0 l2 t w0 P (d + 1) s9 m9 ∧ LAt Z wr F fb fd x key 0 s9 ∧ Mem wr b g m9 (ac + k) ∧ (∀ j, Z j → V2.heap.size ≤ j ∧ j < wr.heap.size) ∧ Kept (fun j => j = b ∨ j = g ∨ V2.heap.size ≤ j) V2 wr) (fun kv _ => 5000 - (intOf kv).toNat)
    case atStart => exact ⟨0, _, _, _, _, by have := HDL.out; omega, rfl, HLR0.out, HA0.out, HM3.out, HZ0.out, HK4.out.mono (fun _ h => h.elim)⟩
    case round =>
     rename World => V4
     obtain ⟨k, d, s9, m9, Z, hkd, rfl, hL, hA, hM, hZ, hKr⟩ := hrel
     obtain ⟨hnm, hok, hL2⟩ := hL.step h4 h6 HRK.out.s.nats HTG.out
     have hfin : s9.fin = false := by rw [hL.fin]; rfl
     have hfin2 := hL2.fin
     obtain ⟨k1, hk1⟩ : ∃ k1, k + 1 = k1 := ⟨_, rfl⟩
     have hwk : IntKind.i64.wrap ((k : Int) + 1) = (k1 : Int) := by rw [IntKind.wrap_i64]; omega
     have hk5 : (k : Int) < 5000 := by omega
     have HST := Hd (lock_go F h4 h6 fb fd HD.out Z x key 0 s9 V4 b g m9 (ac + k) hM (by have := HKI.out; omega) (fun h => by have h1 := (hZ b h).1; have h2 := HBG2.out; omega) (fun h => by have h1 := (hZ g h).1; have h2 := HBG2.out; omega) hnm hok hA)
     rw [hfin] at HST
     have HL2 := Hd hL2
     have HZr := Hd hZ
     have HKr := Hd hKr
     have HK1N := Hd hk1
     have HKD := Hd hkd
     clear hL hA hM hZ hKr hnm hok hL2 hfin hk1 hkd HLR0 HA0 HM3 HZ0
     go_wp2_with fail
     refine HST.out.mono ?_; rintro e V5 ⟨rfl, hM5, hA5, hK5⟩
     have HM5 := Hd (show Mem V5 b g (lmem F m9 s9) (ac + k1) from by have h1 := HK1N.out; rw [← h1]; exact hM5)
     have HA5 := Hd hA5
     have HZ5 := Hd (show ∀ j, Zn Z V4 V5 j → V2.heap.size ≤ j ∧ j < V5.heap.size from fun j hj => by
      have h1 := HKr.out.size
      have h2 := hK5.size
      rcases hj with h | h
      ·have := HZr.out j h; omega
      ·omega)
     have HK5 := Hd (show Kept (fun j => j = b ∨ j = g ∨ V2.heap.size ≤ j) V2 V5 from HKr.out.trans hK5 (fun j hj h => by
      rcases h with h | h | h
      ·exact .inr (.inr (HZr.out j h).1)
      ·exact .inl h
      ·exact .inr (.inl h)))
     clear hM5 hA5 hK5 HST HZr HKr
     rw [hfin2]
     generalize lmem F m9 s9 = m5 at *
     generalize lgo F key 0 m9 s9 = s5 at *
     by_cases hd0 : d = 0
     ·subst hd0
      rw [show ((0 : Nat) == 0) = true from rfl]
      obtain ⟨rfl, rfl⟩ := HL2.out.last
      have HKD1 := Hd (show k1 ≤ 1201 from by have h1 := HKD.out; have h2 := HK1N.out; omega)
      have H11V5 := Hd (HK5.out.blk H11V.out (fun h => by have h1 := HR.out; have h2 := HBG2.out; have h3 := HS5.out; rcases h with h | h | h <;> omega))
      have H12V5 := Hd (HK5.out.blk H12V.out (fun h => by have h1 := HR.out; have h2 := HBG2.out; have h3 := HS5.out; rcases h with h | h | h <;> omega))
      have HO5 := Hd (own_kept HO.out HK5.out (fun j hj h => by have h1 := (HO.out.lt j hj); have h2 := HBG2.out; have h3 := HS5.out; rcases h with h | h | h <;> omega))
      have HOL := Hd (show ∀ j, Value.ownBlock u8 = some j → W5.heap.size ≤ j ∧ j < V5.heap.size from fun j hj => HO5.out.lt j hj)
      have HKV5 := Hd (show Kept (fun j => j = b ∨ j = g ∨ W5.heap.size ≤ j) W5 V5 from HKV.out.trans HK5.out (fun j hj h => by have h1 := HBG2.out; rcases h with h | h | h; exact .inl h; exact .inr (.inl h); exact .inr (.inr (by omega))))
      have HK15 := Hd (show Kept (fun i => w.heap.size ≤ i) w V5 from HK1.out.trans HK5.out (fun j hj h => by have h1 := HR.out; have h2 := HBG2.out; have h3 := HS5.out; rcases h with h | h | h <;> omega))
      clear HKD HK1N HL2 HK5 HO HKV HK1 H11V H12V HM1 HK4 hwk hk5 HZ5
      go_wp2_with fail
      refine (held_lck F h6 fb fd _ x key 0 t (lockW w0) _ V5 HA5.out).mono ?_; rintro e V6 ⟨A6, c6, rfl, hR6, hA6, hK6⟩
      rw [(got_all P).2.2.2.2] at hR6
      rw [hval_got]
      unfold hpg
      have HR6 := Hd hR6
      have HA6 := Hd (show ∀ a, A6 = some a → V5.heap.size ≤ a.block from hA6)
      replace HM5 := Hd (HM5.out.kept hK6 (fun h => h) (fun h => h))
      replace H11V5 := Hd (hK6.blk H11V5.out (fun h => h))
      replace H12V5 := Hd (hK6.blk H12V5.out (fun h => h))
      replace HKV5 := Hd (HKV5.out.trans hK6 (fun _ _ h => h.elim))
      replace HK15 := Hd (HK15.out.trans hK6 (fun _ _ h => h.elim))
      replace HO5 := Hd (own_kept HO5.out hK6 (fun _ _ h => h))
      have hz13 : V5.heap.size ≤ V6.heap.size := hK6.size
      have HZ13 := Hd hz13
      clear hR6 hA6 hK6 HA5 hz13
      go_upto_region 15 with fail
      have hal := (Kept.refl (fun _ => False) V6).alloc (.cells #[.int .u64 (t : Int), .int .u64 (lockW w0 : Int), .int .i64 (P.lv : Int), .slice A6 P.xs.length c6, .string P.hi, .bool P.la, .int .u64 (P.rt : Int)] 40)
      have H13 := Hd (Blk.new V6 [.int .u64 (t : Int), .int .u64 (lockW w0 : Int), .int .i64 (P.lv : Int), .slice A6 P.xs.length c6, .string P.hi, .bool P.la, .int .u64 (P.rt : Int)] 40)
      replace HM5 := Hd (HM5.out.kept hal (fun h => h) (fun h => h))
      replace H11V5 := Hd (hal.blk H11V5.out (fun h => h))
      replace H12V5 := Hd (hal.blk H12V5.out (fun h => h))
      replace HKV5 := Hd (HKV5.out.trans hal (fun _ _ h => h.elim))
      replace HK15 := Hd (HK15.out.trans hal (fun _ _ h => h.elim))
      replace HR6 := Hd (HR6.out.keptF hal (fun _ _ h => h))
      replace HO5 := Hd (own_kept HO5.out hal (fun _ _ h => h))
      clear hal
      generalize V6.heap.size = r13 at *
      generalize V6.alloc (.cells #[.int .u64 (t : Int), .int .u64 (lockW w0 : Int), .int .i64 (P.lv : Int), .slice A6 P.xs.length c6, .string P.hi, .bool P.la, .int .u64 (P.rt : Int)] 40) = V7 at *
      have h13 := H13.out
      obtain ⟨p0, p1, p2, p3, p4, p5, p6⟩ := h13.c7
      clear h13
      have HRF := Hd (refFind_any (P.lv : Int) A6 c6 P.hi P.la P.rt P.xs key V7 P.xs.length rfl (by have := HTG.out.nd.len; omega) HR6.out)
      go_wp2_with fail
      refine HRF.out.mono ?_; rintro e V8 ⟨rfl, hB9⟩
      have hK9 := Below.kept hB9 (S := fun _ => False) (fun i hi h => by omega)
      replace HM5 := Hd (HM5.out.kept hK9 (fun h => h) (fun h => h))
      replace H11V5 := Hd (hK9.blk H11V5.out (fun h => h))
      replace H12V5 := Hd (hK9.blk H12V5.out (fun h => h))
      replace HKV5 := Hd (HKV5.out.trans hK9 (fun _ _ h => h.elim))
      replace HK15 := Hd (HK15.out.trans hK9 (fun _ _ h => h.elim))
      replace HR6 := Hd (HR6.out.keptF hK9 (fun _ _ h => h))
      replace H13 := Hd (hK9.blk H13.out (fun h => h))
      replace HO5 := Hd (own_kept HO5.out hK9 (fun _ _ h => h))
      clear hB9 hK9 HRF p0 p1 p2 p3 p4 p5 p6
      rename World => V9
      have h13 := H13.out
      obtain ⟨p0, p1, p2, p3, p4, p5, p6⟩ := h13.c7
      clear h13
      have ht1 : ¬ t = 0 := by have := HTG.out.one; omega
      have htI : ¬ (t : Int) = 0 := by omega
      have HIW := Hd ht1
      obtain ⟨i1, hi1⟩ : ∃ i1, i + 1 = i1 := ⟨_, rfl⟩
      have hwi : IntKind.i64.wrap ((i : Int) + 1) = (i1 : Int) := by have := HKI.out; rw [IntKind.wrap_i64]; omega
      have HI1 := Hd hi1
      have HNODE := Hd (show ∀ W, Calls Tryz.prog 16 #[.agg #[.int .i64 1, .int .i64 2, .int .i64 100, .int .i64 100, .int .i64 200, .int .i64 (F : Int), .int .u64 1000], .int .u64 (t : Int), .int .i64 0] W fun e w' => e = .returned (.int .i64 (nla F t)) ∧ Kept (fun _ => False) W w' from fun W =>
       refNode_any 1 2 100 100 200 (F : Int) 1000 (t : Int) 0 (limF h4 h6) (by omega) (by omega) (by omega) W)
      clear hi1
      cases hin : has key P.xs with
      | true =>
       go_upto_region 19 with fail
       clear p0 p1 p2 p3 p4 p5 p6 htI
       refine wp_region_held_drew (S := (fun w' => Kept (fun _ => False) V9 w')) (by kernel_rfl) ?_ (fun hHeld => ?_)
       ·exact (Kept.refl _ _).drew
       have HW := Hd ((Kept.refl (fun _ => False) V9).drew)
       generalize V9.drew = G at *
       refine tkH 0 95 ?_ rfl ?_ hHeld ?_
       rotate_left
       ·(intro wq hSw; have hb9 := hSw.blk H11V5.out (fun h => h); obtain ⟨y0, y1, y2, y3, y4, y5, y6⟩ := hb9.c7; clear hb9; have hb9 := hSw.blk H13.out (fun h => h); have p0 := hb9.k 0 rfl; have p1 := hb9.k 1 rfl; clear hb9; go_simp; try with_reducible rfl)
       try simp only [aP,aA,aZ,aS]
       refine tkH 1 96 ?_ rfl ?_ hHeld ?_
       rotate_left
       ·(intro wq hSw; go_simp; try with_reducible rfl)
       try simp only [aP,aA,aZ,aS]
       refine tkH 2 97 ?_ rfl ?_ hHeld ?_
       rotate_left
       ·(intro wq hSw; have hb9 := hSw.blk H11V5.out (fun h => h); obtain ⟨y0, y1, y2, y3, y4, y5, y6⟩ := hb9.c7; clear hb9; have hb9 := hSw.blk H13.out (fun h => h); have p0 := hb9.k 0 rfl; have p1 := hb9.k 1 rfl; clear hb9; go_simp; try with_reducible rfl)
       try simp only [aP,aA,aZ,aS]
       refine tkH 4 99 ?_ rfl ?_ hHeld ?_
       rotate_left
       ·(intro wq hSw; go_simp; try with_reducible rfl)
       try simp only [aP,aA,aZ,aS]
       refine tkH 5 100 ?_ rfl ?_ hHeld ?_
       rotate_left
       ·(intro wq hSw; have hb9 := hSw.blk H11V5.out (fun h => h); obtain ⟨y0, y1, y2, y3, y4, y5, y6⟩ := hb9.c7; clear hb9; have hb9 := hSw.blk H13.out (fun h => h); have p0 := hb9.k 0 rfl; have p1 := hb9.k 1 rfl; clear hb9; go_simp; try with_reducible rfl)
       try simp only [aP,aA,aZ,aS]
       refine wpAnyH_ready (rs := [3]) (by kernel_rfl) (by simp) ?_
       refine AllReadyH.cons (o := ⟨some 98, _, _, _, _, _⟩) rfl (fun KK hK => ?_) AllReadyH.nil
       go_simp
       go_at_call 16
       refine (HNODE.out _).mono ?_; rintro e G2 ⟨rfl, hK9⟩
       replace HW := Hd (HW.out.trans hK9 (fun _ _ h => h))
       clear hK9
       refine hK.out _ _ ?_ (fun hHeld2 => ?_)
       ·exact HW.out
       clear hK KK hHeld
       have hHeld := hHeld2
       clear hHeld2
       try simp only [aP,aA,aZ,aS]
       refine wpAnyH_ready (rs := [6]) (by kernel_rfl) (by simp) ?_
       refine AllReadyH.cons (o := ⟨some 101, _, _, _, _, _⟩) rfl (fun KK hK => ?_) AllReadyH.nil
       go_simp
       go_at_call 15
       refine (newRelease_any (nla F t) (lockW w0) _).mono ?_; rintro e G4 ⟨rfl, rfl⟩
       have HRR := Hd (show RelB (G2.alloc (.cells ⟨relv (nla F t) (lockW w0) false⟩ 98)) G2.heap.size (nla F t) (lockW w0) false from Blk.new G2 (relv (nla F t) (lockW w0) false) 98)
       have HRZ := Hd (show V9.heap.size ≤ G2.heap.size from HW.out.size)
       replace HW := Hd (HW.out.alloc (.cells ⟨relv (nla F t) (lockW w0) false⟩ 98))
       generalize G2.heap.size = rr at *
       generalize G2.alloc (.cells ⟨relv (nla F t) (lockW w0) false⟩ 98) = V10 at *
       refine hK.out _ _ ?_ (fun hHeld2 => ?_)
       ·exact HW.out
       clear hK KK hHeld
       have hHeld := hHeld2
       clear hHeld2
       try simp only [aP,aA,aZ,aS]
       refine tkH 7 16 ?_ rfl ?_ hHeld ?_
       rotate_left
       ·(intro wq hSw; go_simp; try with_reducible rfl)
       try simp only [aP,aA,aZ,aS]
       refine wpAnyH_done (by kernel_rfl) ?_ _
       clear hHeld
       have HM9 := Hd (HM5.out.kept HW.out (fun h => h) (fun h => h))
       have HO9 := Hd (own_kept HO5.out HW.out (fun _ _ h => h))
       have HKV9 := Hd (HKV5.out.trans HW.out (fun _ _ h => h.elim))
       have hb9 := HM5.out.obj.lt
       have hg9 := HM5.out.row.lt
       have hrz := HRZ.out
       have hOr : ∀ j, Value.ownBlock u8 = some j → j ≠ rr ∧ j ≠ b ∧ j ≠ g := fun j hj => by
        have h1 := HO5.out.lt j hj
        have h2 := HS5.out
        omega
       have HRX := Hd hrz
       have hw64 := HTG.out.word HRK.out.s.nats
       go_wp2_with fail
       refine (relStep_any rr b g _ (ac + k1) (nla F t) (lockW w0) V10 HRR.out HM9.out (by omega) (by omega) (by have h1 := HKI.out; have h2 := HKD1.out; omega) (lockW_lt hw64)).mono ?_; rintro e V11 ⟨rfl, hM11, -, hK11⟩
       have HM11 := Hd hM11
       have HO11 := Hd (own_kept HO9.out hK11 (fun j hj h => by have h1 := hOr j hj; rcases h with h | h | h <;> omega))
       have HKV11 := Hd (show Kept (fun j => j = b ∨ j = g ∨ W5.heap.size ≤ j) W5 V11 from HKV9.out.trans hK11 (fun j hj h => by have h1 := HKV5.out.size; have h2 := HRX.out; rcases h with h | h | h; exact .inr (.inr (by omega)); exact .inl h; exact .inr (.inl h)))
       clear hM11 hK11 hOr hb9 hg9 hrz
       go_wp2
       go_roundw
       case rel => exact ⟨i1, kk, ac + k1 + 1, R, _, ks, rfl, by have h1 := HGO.out; have h2 := HI1.out; omega, by have h1 := HGO.out; have h2 := HI1.out; omega, by have h1 := HKI.out; have h2 := HI1.out; omega, HRK.out.free h4 h6 HTM.out HTG.out, HM11.out, by have h1 := HKI.out; have h2 := HI1.out; have h3 := HKD1.out; omega, HO11.out, HKSZ.out, HKV11.out⟩
       case measure => have h1 := HGO.out; have h2 := HI1.out; simp [intOf]; omega
      | false =>
       obtain ⟨i0, hi0, hz0, hz1, hz2⟩ := info_parts Tryz.info9
       have HI0 := Hd hi0
       have HZ0' := Hd hz0
       have HZ1' := Hd hz1
       have HZ2' := Hd hz2
       obtain ⟨n1, hn1⟩ : ∃ n1, ks.length + 1 = n1 := ⟨_, rfl⟩
       have HN1 := Hd hn1
       have HN1B := Hd (show n1 ≤ 41 ∧ 1 ≤ n1 from by have := HKI.out; omega)
       have HKY9 := HKY
       clear hi0 hz0 hz1 hz2 hn1
       go_upto_region 21 with fail
       clear p0 p1 p2 p3 p4 p5 p6
       go_wp2_with (at_builtin; go_must (refine wpList_append_lies _ rfl (.tmp 105) (.tmp 107) 22 rfl W5.heap.size 9 i0 _ 1 16 Tryz.underlying22 HI0.out HZ0'.out HZ1'.out HZ2'.out rfl (by decide) _ ks.length (strv ks) rfl (HO5.out.alloc _) ⟨V9.heap.size, 0, none⟩ 1 1 [.string key] rfl rfl (World.news_of_block (cs := #[.string key]) (t := 9) (fr := (0, 0)) (heap_alloc_new V9 _)) (by simp [Value.oneCell']) (by omega) ?ap1 ?ap2 ?ap3 _ rfl ?_))
       try case ap1 => unfold maxLen; have := HKI.out; omega
       try case ap2 => have := HKI.out; omega
       try case ap3 => rw [nblk_alloc]; have := HKV5.out.size; omega
       intro g4 cap4 V7 hown7 hgr7 hat7 hlt7
       rw [HN1.out] at hown7 ⊢
       have hKx : Kept (fun j => Value.ownBlock u8 = some j) V9 V7 := ((Kept.refl (fun j => Value.ownBlock u8 = some j) V9).alloc _).grown hgr7 (fun k hk _ => hk)
       rw [strv_snoc] at hown7
       have HO7 := Hd hown7
       have HM7 := Hd (HM5.out.kept hKx (fun h => by have h1 := HOL.out b h; have h2 := HS5.out; omega) (fun h => by have h1 := HOL.out g h; have h2 := HS5.out; omega))
       have H11V7 := Hd (hKx.blk H11V5.out (fun h => by have h1 := HOL.out _ h; have h2 := HS5.out; omega))
       have H12V7 := Hd (hKx.blk H12V5.out (fun h => by have h1 := HOL.out _ h; have h2 := HS5.out; omega))
       have H137 := Hd (hKx.blk H13.out (fun h => by have h1 := HOL.out _ h; have h2 := HZ13.out; omega))
       have HR7 := Hd (HR6.out.keptF hKx (fun a ha h => by have h1 := HOL.out _ h; have h2 := HA6.out a ha; omega))
       have HKV7 := Hd (show Kept (fun j => j = b ∨ j = g ∨ W5.heap.size ≤ j) W5 V7 from HKV5.out.trans hKx (fun j hj h => .inr (.inr (HOL.out j h).1)))
       have HK17 := Hd (show Kept (fun i => w.heap.size ≤ i) w V7 from HK15.out.trans hKx (fun j hj h => by have h1 := HOL.out j h; have h2 := HS5.out; omega))
       clear hown7 hgr7 hat7 hlt7 hKx HI0 HZ0' HZ1' HZ2' HM5 H11V5 H12V5 H13 HR6 HKV5 HK15 HO5
       obtain ⟨mm, sp, hIw, hHv⟩ := HRK.out.s.iw h4 h6 HAT.out HTG.out HD.out hin (by have := HKY.out; omega) (fun x hx => by have := HRK.out.sz x hx; omega) n1
       obtain ⟨lo9, hpg9⟩ := HRK.out.s.page HTM.out
       have hasc9 := hpg9.asc
       have HXL := Hd (show (npg P key n1).xs.length ≤ 8 from by rw [npg_length]; have h1 : P.xs.length ≤ F := hpg9.len; omega)
       have HIW2 := Hd hIw
       have HHV := Hd hHv
       have HNS := Hd (fun W hR => new_startW F fb fd t (lockW w0) 100 kk P A6 c6 key n1 mm sp (lkd F t w0 l2) W hIw hR hasc9 hin)
       clear hIw hHv hpg9 hasc9
       go_upto_region 22 with fail
       have h12 := H12V7.out
       obtain ⟨y0, y1, y2, y3, y4, y5, y6, y7, y8, y9⟩ := h12.c10
       have h13 := H137.out
       obtain ⟨p0, p1, p2, p3, p4, p5, p6⟩ := h13.c7
       clear h12 h13
       have hwn : IntKind.u64.wrap (n1 : Int) = (n1 : Int) := by have := HN1B.out; rw [IntKind.wrap_u64]; omega
       go_wp2_with fail
       refine (HNS.out _ HR7.out).mono ?_; rintro e V8 ⟨ii, Zi, si, di, rfl, hA8, hI8, ht8, hd8, hZ8, hK8⟩
       have HIA := Hd hA8
       have HIP := Hd hI8
       have HIT := Hd ht8
       have HID := Hd hd8
       have HIZ := Hd hZ8
       have HD60 := Hd (show di ≤ 19 from by have h1 := Ipl.mostW HIW2.out ht8 hI8; have h2 := HXL.out; omega)
       have HM8 := Hd (HM7.out.kept hK8 (fun h => h) (fun h => h))
       have HK8 := Hd hK8
       clear hA8 hI8 ht8 hd8 hZ8 hK8 y0 y1 y2 y3 y4 y5 y6 y7 y8 y9 p0 p1 p2 p3 p4 p5 p6 HNS hwn
       go_wp2_with fail
       go_loopw [18] (fun nv wr => ∃ (z d : Nat) (s8 : Is) (lz : List Cel) (Z : Nat → Prop), nv = .int .i64 (z : Int) ∧ z + d ≤ 60 ∧ 0 < d ∧ IAt Z wr F ((100 : Nat) : Int) fb fd ii t (lockW w0) P (npg P key n1) mm sp 100 s8 ∧ Ipl F ((100 : Nat) : Int) t (lockW w0) P (npg P key n1) mm sp 100 kk (lkd F t w0 l2) ⟨#[]⟩ 0 s8 lz d ∧ s8.two = decide (F < (npg P key n1).xs.length) ∧ Mem wr b g lz (ac + k1 + z) ∧ (∀ j, Z j → V7.heap.size ≤ j ∧ j < wr.heap.size) ∧ Kept (fun j => j = b ∨ j = g ∨ V7.heap.size ≤ j) V7 wr) (fun nv _ => 500 - (intOf nv).toNat)
       case atStart => exact ⟨0, di, _, _, _, rfl, by have := HD60.out; omega, HID.out, HIA.out, HIP.out, HIT.out, HM8.out, HIZ.out, HK8.out.mono (fun _ h => h.elim)⟩
       case round =>
        rename World => V4
        obtain ⟨z, d, s8, lz, Z, rfl, hzd, hd0, hA, hI, ht, hM, hZ, hKr⟩ := hrel
        obtain ⟨z1, hz1⟩ : ∃ z1, z + 1 = z1 := ⟨_, rfl⟩
        have hwz : IntKind.i64.wrap ((z : Int) + 1) = (z1 : Int) := by rw [IntKind.wrap_i64]; omega
        have hz5 : (z : Int) < 500 := by omega
        have HST := Hd (ir_stepW HIW2.out ht hA hI hd0 b g (ac + k1 + z) hM (fun h => by have h1 := (hZ b h).1; have h2 := HM7.out.obj.lt; omega) (fun h => by have h1 := (hZ g h).1; have h2 := HM7.out.row.lt; omega) (by have h1 := HKI.out; have h2 := HKD1.out; omega))
        have HZD := Hd (show z + d ≤ 60 ∧ 0 < d from ⟨hzd, hd0⟩)
        have HZ1 := Hd hz1
        have HT8 := Hd ht
        have HZr := Hd hZ
        have HKr := Hd hKr
        clear hzd hd0 hA hI ht hM hZ hKr hz1
        go_wp2_with fail
        refine HST.out.mono ?_; rintro e V8 ⟨s9, l9, rfl, hM8, hA8, hI8, hK8, ht8⟩
        have HM8 := Hd (show Mem V8 b g l9 (ac + k1 + z1) from by have h1 := HZ1.out; rw [← h1]; exact hM8)
        have HA8 := Hd hA8
        have HI8 := Hd hI8
        have HT9 := Hd (ht8.trans HT8.out)
        have HZ8 := Hd (show ∀ j, Zm Z V4 V8 j → V7.heap.size ≤ j ∧ j < V8.heap.size from fun j hj => by
         have h1 := HKr.out.size
         have h2 := hK8.size
         rcases hj with h | h
         ·have := HZr.out j h; omega
         ·omega)
        have HK8 := Hd (show Kept (fun j => j = b ∨ j = g ∨ V7.heap.size ≤ j) V7 V8 from HKr.out.trans hK8 (fun j hj h => by
         rcases h with h | h | h
         ·exact .inr (.inr (HZr.out j h).1)
         ·exact .inl h
         ·exact .inr (.inl h)))
        clear hM8 hA8 hI8 hK8 ht8 HST HZr HKr HT8
        by_cases hd1 : d = 1
        ·have hI0 := HI8.out
         rw [show d - 1 = 0 by omega] at hI0
         rw [show decide (d = 1) = true from by simp [hd1]]
         have HE := Hd (ipl_endW rfl HT9.out (by have h1 := HRK.out.few; have h2 := HKI.out; omega) hI0)
         have H118 := Hd (HK8.out.blk H11V7.out (fun h => by have h1 := HR.out; have h2 := H11V7.out.lt; rcases h with h | h | h <;> omega))
         have H128 := Hd (HK8.out.blk H12V7.out (fun h => by have h1 := HR.out; have h2 := H12V7.out.lt; rcases h with h | h | h <;> omega))
         have HO8 := Hd (own_kept HO7.out HK8.out (fun j hj h => by have h1 := (HO7.out.lt j hj); have h3 := HS5.out; rcases h with h | h | h <;> omega))
         have HKV8 := Hd (show Kept (fun j => j = b ∨ j = g ∨ W5.heap.size ≤ j) W5 V8 from HKV7.out.trans HK8.out (fun j hj h => by have h1 := HKV7.out.size; rcases h with h | h | h; exact .inl h; exact .inr (.inl h); exact .inr (.inr (by omega))))
         have HK18 := Hd (show Kept (fun i => w.heap.size ≤ i) w V8 from HK17.out.trans HK8.out (fun j hj h => by have h1 := HR.out; have h2 := HK17.out.size; rcases h with h | h | h <;> omega))
         have HZ9 := Hd (show z1 ≤ 61 from by have h1 := HZD.out; have h2 := HZ1.out; omega)
         clear hI0 HI8 HT9 HK8 HM7 H11V7 H12V7 HO7 HKV7 HK17 HZD HZ1 hwz hz5 hd1 H137 HR7
         rcases HE.out with ⟨hf9, rfl, rfl⟩ | ⟨hf9, rfl, rfl⟩
         ·have HF9 := Hd hf9
          clear hf9 HE
          have HM8 := Hd (show Mem V8 b g (app (lkd F t w0 l2) (wrsN F 100 t (lockW w0) P (npg P key n1))) (ac + k1 + z1) from HM8.out)
          go_wp2_with fail
          refine (is_err F ((100 : Nat) : Int) fb fd ii t (lockW w0) P (npg P key n1) mm sp 100 _ none V8 HA8.out).mono ?_; rintro e W1 ⟨rfl, hK9⟩
          have HA9 := Hd (HA8.out.kept hK9 (fun _ _ h => h))
          replace HM8 := Hd (HM8.out.kept hK9 (fun h => h) (fun h => h))
          replace H118 := Hd (hK9.blk H118.out (fun h => h))
          replace H128 := Hd (hK9.blk H128.out (fun h => h))
          replace HKV8 := Hd (HKV8.out.trans hK9 (fun _ _ h => h.elim))
          replace HK18 := Hd (HK18.out.trans hK9 (fun _ _ h => h.elim))
          replace HO8 := Hd (own_kept HO8.out hK9 (fun _ _ h => h))
          clear hK9 HA8
          go_upto_region 28 with fail
          go_wp2_with fail
          refine (is_left0 F ((100 : Nat) : Int) fb fd ii t (lockW w0) P (npg P key n1) mm sp 100 _ 0 W1 HA9.out (by have := HXL.out; omega)).mono ?_; rintro e W2 ⟨A4, c4, rfl, hR4, hA4, hK9⟩
          have HA10 := Hd (HA9.out.kept hK9 (fun _ _ h => h))
          replace HM8 := Hd (HM8.out.kept hK9 (fun h => h) (fun h => h))
          replace H118 := Hd (hK9.blk H118.out (fun h => h))
          replace H128 := Hd (hK9.blk H128.out (fun h => h))
          replace HKV8 := Hd (HKV8.out.trans hK9 (fun _ _ h => h.elim))
          replace HK18 := Hd (HK18.out.trans hK9 (fun _ _ h => h.elim))
          replace HO8 := Hd (own_kept HO8.out hK9 (fun _ _ h => h))
          clear hK9 HA9 hR4 hA4
          go_wp2_with fail
          refine (is_right0 F ((100 : Nat) : Int) fb fd ii t (lockW w0) P (npg P key n1) mm sp 100 _ W2 HA10.out).mono ?_; rintro e W3 ⟨rfl, hK9⟩
          replace HM8 := Hd (HM8.out.kept hK9 (fun h => h) (fun h => h))
          replace H118 := Hd (hK9.blk H118.out (fun h => h))
          replace H128 := Hd (hK9.blk H128.out (fun h => h))
          replace HKV8 := Hd (HKV8.out.trans hK9 (fun _ _ h => h.elim))
          replace HK18 := Hd (HK18.out.trans hK9 (fun _ _ h => h.elim))
          replace HO8 := Hd (own_kept HO8.out hK9 (fun _ _ h => h))
          clear hK9 HA10
          go_upto_region 29 with fail
          have HQN := Hd (show b < W3.heap.size ∧ g < W3.heap.size from ⟨HM8.out.obj.lt, HM8.out.row.lt⟩)
          have hal := (Kept.refl (fun _ => False) W3).alloc (.cells #[.int .u64 (t : Int), .int .u64 ((endW (beginW (lockW w0))) : Int), .int .i64 ((npg P key n1).lv : Int), .slice A4 (npg P key n1).xs.length c4, .string (npg P key n1).hi, .bool (npg P key n1).la, .int .u64 ((npg P key n1).rt : Int), .int .u64 0, .int .u64 0, .int .i64 0, .slice none 0 0, .string ⟨#[]⟩, .bool false, .int .u64 0] 40)
          have HQ := Hd (Blk.new W3 [.int .u64 (t : Int), .int .u64 ((endW (beginW (lockW w0))) : Int), .int .i64 ((npg P key n1).lv : Int), .slice A4 (npg P key n1).xs.length c4, .string (npg P key n1).hi, .bool (npg P key n1).la, .int .u64 ((npg P key n1).rt : Int), .int .u64 0, .int .u64 0, .int .i64 0, .slice none 0 0, .string ⟨#[]⟩, .bool false, .int .u64 0] 40)
          replace HM8 := Hd (HM8.out.kept hal (fun h => h) (fun h => h))
          replace H118 := Hd (hal.blk H118.out (fun h => h))
          replace H128 := Hd (hal.blk H128.out (fun h => h))
          replace HKV8 := Hd (HKV8.out.trans hal (fun _ _ h => h.elim))
          replace HK18 := Hd (HK18.out.trans hal (fun _ _ h => h.elim))
          replace HO8 := Hd (own_kept HO8.out hal (fun _ _ h => h))
          clear hal
          generalize W3.heap.size = rq at *
          generalize W3.alloc (.cells #[.int .u64 (t : Int), .int .u64 ((endW (beginW (lockW w0))) : Int), .int .i64 ((npg P key n1).lv : Int), .slice A4 (npg P key n1).xs.length c4, .string (npg P key n1).hi, .bool (npg P key n1).la, .int .u64 ((npg P key n1).rt : Int), .int .u64 0, .int .u64 0, .int .i64 0, .slice none 0 0, .string ⟨#[]⟩, .bool false, .int .u64 0] 40) = W9 at *
          have HS9 := Hd (show b < W9.heap.size ∧ g < W9.heap.size ∧ r11 < W9.heap.size ∧ rq < W9.heap.size ∧ W5.heap.size ≤ W9.heap.size from ⟨HM8.out.obj.lt, HM8.out.row.lt, H118.out.lt, HQ.out.lt, HKV8.out.size⟩)
          have HWD := Hd (show (endW (beginW (lockW w0))) < 18446744073709551616 from endW_lt _)
          have ht1 := HIW.out
          have HTI := Hd (show ¬ (t : Int) = 0 from by omega)
          clear ht1 htI
          go_loopw [135] (fun jv wr => ∃ (j na : Nat) (lj : List Cel), jv = .int .i64 (j : Int) ∧ j ≤ 2 ∧ lj = (if j = 0 then (app (lkd F t w0 l2) (wrsN F 100 t (lockW w0) P (npg P key n1))) else if j = 1 then (putAt (app (lkd F t w0 l2) (wrsN F 100 t (lockW w0) P (npg P key n1))) (nla F t) (((unlockW (endW (beginW (lockW w0))) : Nat) : Int), (⟨#[]⟩ : ByteArray), (0 : Int))) else (putAt (app (lkd F t w0 l2) (wrsN F 100 t (lockW w0) P (npg P key n1))) (nla F t) (((unlockW (endW (beginW (lockW w0))) : Nat) : Int), (⟨#[]⟩ : ByteArray), (0 : Int)))) ∧ na ≤ ac + k1 + z1 + j ∧ Mem wr b g lj na ∧ Kept (fun k => k = b ∨ k = g ∨ W9.heap.size ≤ k) W9 wr) (fun jv _ => 2 - (intOf jv).toNat)
          case atStart => exact ⟨0, _, _, rfl, by omega, rfl, Nat.le_refl _, HM8.out, Kept.refl _ _⟩
          case round =>
           rename World => Y1
           obtain ⟨j, na, lj, rfl, hj, hlj, hna, hM, hKr⟩ := hrel
           have HMY := Hd hM
           have HKY := Hd hKr
           have HNA := Hd hna
           have HLJ := Hd hlj
           have hqb := hKr.blk HQ.out (fun h => by have h1 := HS9.out; have h2 := HQN.out; rcases h with h | h | h <;> omega)
           have HQY := Hd hqb
           have H11W := Hd (hKr.blk H118.out (fun h => by have h1 := HS9.out; have h2 := HR.out; rcases h with h | h | h <;> omega))
           have HSY := Hd (show b < Y1.heap.size ∧ g < Y1.heap.size ∧ W9.heap.size ≤ Y1.heap.size from ⟨hM.obj.lt, hM.row.lt, hKr.size⟩)
           clear hM hKr hna hlj hqb HM8
           by_cases hj2 : j < 2
           ·by_cases hj0 : j = 0
            ·have q0 : Y1.cell? ⟨rq, j * 7, none⟩ = some (.int .u64 (t : Int)) := by rw [hj0]; exact HQY.out.k 0 rfl
             have q1 : Y1.cell? ⟨rq, j * 7 + 1, none⟩ = some (.int .u64 ((endW (beginW (lockW w0))) : Int)) := by rw [hj0]; exact HQY.out.k 1 rfl
             have q2 : Y1.cell? ⟨rq, j * 7 + 2, none⟩ = some (.int .i64 ((npg P key n1).lv : Int)) := by rw [hj0]; exact HQY.out.k 2 rfl
             have q3 : Y1.cell? ⟨rq, j * 7 + 3, none⟩ = some (.slice A4 (npg P key n1).xs.length c4) := by rw [hj0]; exact HQY.out.k 3 rfl
             have q4 : Y1.cell? ⟨rq, j * 7 + 4, none⟩ = some (.string (npg P key n1).hi) := by rw [hj0]; exact HQY.out.k 4 rfl
             have q5 : Y1.cell? ⟨rq, j * 7 + 5, none⟩ = some (.bool (npg P key n1).la) := by rw [hj0]; exact HQY.out.k 5 rfl
             have q6 : Y1.cell? ⟨rq, j * 7 + 6, none⟩ = some (.int .u64 ((npg P key n1).rt : Int)) := by rw [hj0]; exact HQY.out.k 6 rfl
             have HJ := Hd hj0
             have hjj : (j : Int) < 2 := by omega
             clear hj0 hj2
             go_upto_region 31 with fail
             have hal := (Kept.refl (fun _ => False) Y1).alloc (.cells #[.int .u64 (t : Int), .int .u64 ((endW (beginW (lockW w0))) : Int), .int .i64 ((npg P key n1).lv : Int), .slice A4 (npg P key n1).xs.length c4, .string (npg P key n1).hi, .bool (npg P key n1).la, .int .u64 ((npg P key n1).rt : Int)] 40)
             have HYB := Hd (Blk.new Y1 [.int .u64 (t : Int), .int .u64 ((endW (beginW (lockW w0))) : Int), .int .i64 ((npg P key n1).lv : Int), .slice A4 (npg P key n1).xs.length c4, .string (npg P key n1).hi, .bool (npg P key n1).la, .int .u64 ((npg P key n1).rt : Int)] 40)
             replace HMY := Hd (HMY.out.kept hal (fun h => h) (fun h => h))
             replace H11W := Hd (hal.blk H11W.out (fun h => h))
             have HKZ := Hd (show Kept (fun k => k = b ∨ k = g ∨ W9.heap.size ≤ k) W9 (Y1.alloc (.cells #[.int .u64 (t : Int), .int .u64 ((endW (beginW (lockW w0))) : Int), .int .i64 ((npg P key n1).lv : Int), .slice A4 (npg P key n1).xs.length c4, .string (npg P key n1).hi, .bool (npg P key n1).la, .int .u64 ((npg P key n1).rt : Int)] 40)) from HKY.out.trans hal (fun _ _ h => h.elim))
             have HSZ2 := Hd (show W9.heap.size ≤ (Y1.alloc (.cells #[.int .u64 (t : Int), .int .u64 ((endW (beginW (lockW w0))) : Int), .int .i64 ((npg P key n1).lv : Int), .slice A4 (npg P key n1).xs.length c4, .string (npg P key n1).hi, .bool (npg P key n1).la, .int .u64 ((npg P key n1).rt : Int)] 40)).heap.size from HKZ.out.size)
             clear hal q0 q1 q2 q3 q4 q5 q6
             generalize Y1.heap.size = ry at *
             generalize Y1.alloc (.cells #[.int .u64 (t : Int), .int .u64 ((endW (beginW (lockW w0))) : Int), .int .i64 ((npg P key n1).lv : Int), .slice A4 (npg P key n1).xs.length c4, .string (npg P key n1).hi, .bool (npg P key n1).la, .int .u64 ((npg P key n1).rt : Int)] 40) = Y2 at *
             have hyb := HYB.out
             obtain ⟨p0, p1, p2, p3, p4, p5, p6⟩ := hyb.c7
             clear hyb
             have hti := HTI.out
             have hl3 := HLJ.out
             rw [HJ.out] at hl3
             have hl4 : lj = (app (lkd F t w0 l2) (wrsN F 100 t (lockW w0) P (npg P key n1))) := hl3
             have HL4 := Hd hl4
             clear hl3 hl4
             go_upto_region 32 with fail
             clear p0 p1 p2 p3 p4 p5 p6 hti
             refine wp_region_held_drew (S := (fun w' => Kept (fun _ => False) Y2 w')) (by kernel_rfl) ?_ (fun hHeld => ?_)
             ·exact (Kept.refl _ _).drew
             have HW := Hd ((Kept.refl (fun _ => False) Y2).drew)
             generalize Y2.drew = G at *
             refine tkH 0 142 ?_ rfl ?_ hHeld ?_
             rotate_left
             ·(intro wq hSw; have hb9 := hSw.blk H11W.out (fun h => h); obtain ⟨y0, y1, y2, y3, y4, y5, y6⟩ := hb9.c7; clear hb9; have hb9 := hSw.blk HYB.out (fun h => h); have p0 := hb9.k 0 rfl; have p1 := hb9.k 1 rfl; clear hb9; go_simp; try with_reducible rfl)
             try simp only [aP,aA,aZ,aS]
             refine tkH 1 143 ?_ rfl ?_ hHeld ?_
             rotate_left
             ·(intro wq hSw; go_simp; try with_reducible rfl)
             try simp only [aP,aA,aZ,aS]
             refine tkH 2 144 ?_ rfl ?_ hHeld ?_
             rotate_left
             ·(intro wq hSw; have hb9 := hSw.blk H11W.out (fun h => h); obtain ⟨y0, y1, y2, y3, y4, y5, y6⟩ := hb9.c7; clear hb9; have hb9 := hSw.blk HYB.out (fun h => h); have p0 := hb9.k 0 rfl; have p1 := hb9.k 1 rfl; clear hb9; go_simp; try with_reducible rfl)
             try simp only [aP,aA,aZ,aS]
             refine tkH 4 146 ?_ rfl ?_ hHeld ?_
             rotate_left
             ·(intro wq hSw; go_simp; try with_reducible rfl)
             try simp only [aP,aA,aZ,aS]
             refine tkH 5 147 ?_ rfl ?_ hHeld ?_
             rotate_left
             ·(intro wq hSw; have hb9 := hSw.blk H11W.out (fun h => h); obtain ⟨y0, y1, y2, y3, y4, y5, y6⟩ := hb9.c7; clear hb9; have hb9 := hSw.blk HYB.out (fun h => h); have p0 := hb9.k 0 rfl; have p1 := hb9.k 1 rfl; clear hb9; go_simp; try with_reducible rfl)
             try simp only [aP,aA,aZ,aS]
             refine wpAnyH_ready (rs := [3]) (by kernel_rfl) (by simp) ?_
             refine AllReadyH.cons (o := ⟨some 145, _, _, _, _, _⟩) rfl (fun KK hK => ?_) AllReadyH.nil
             go_simp
             go_at_call 16
             refine ((HNODE.out) _).mono ?_; rintro e G2 ⟨rfl, hK9⟩
             replace HW := Hd (HW.out.trans hK9 (fun _ _ h => h))
             clear hK9
             refine hK.out _ _ ?_ (fun hHeld2 => ?_)
             ·exact HW.out
             clear hK KK hHeld
             have hHeld := hHeld2
             clear hHeld2
             try simp only [aP,aA,aZ,aS]
             refine wpAnyH_ready (rs := [6]) (by kernel_rfl) (by simp) ?_
             refine AllReadyH.cons (o := ⟨some 148, _, _, _, _, _⟩) rfl (fun KK hK => ?_) AllReadyH.nil
             go_simp
             go_at_call 15
             refine (newRelease_any ((nla F t)) ((endW (beginW (lockW w0)))) _).mono ?_; rintro e G4 ⟨rfl, rfl⟩
             have HRR := Hd (show RelB (G2.alloc (.cells ⟨relv ((nla F t)) ((endW (beginW (lockW w0)))) false⟩ 98)) G2.heap.size ((nla F t)) ((endW (beginW (lockW w0)))) false from Blk.new G2 (relv ((nla F t)) ((endW (beginW (lockW w0)))) false) 98)
             have HRZ := Hd (show Y2.heap.size ≤ G2.heap.size from HW.out.size)
             replace HW := Hd (HW.out.alloc (.cells ⟨relv ((nla F t)) ((endW (beginW (lockW w0)))) false⟩ 98))
             generalize G2.heap.size = rr at *
             generalize G2.alloc (.cells ⟨relv ((nla F t)) ((endW (beginW (lockW w0)))) false⟩ 98) = Y3 at *
             refine hK.out _ _ ?_ (fun hHeld2 => ?_)
             ·exact HW.out
             clear hK KK hHeld
             have hHeld := hHeld2
             clear hHeld2
             try simp only [aP,aA,aZ,aS]
             refine tkH 7 21 ?_ rfl ?_ hHeld ?_
             rotate_left
             ·(intro wq hSw; go_simp; try with_reducible rfl)
             try simp only [aP,aA,aZ,aS]
             refine wpAnyH_done (by kernel_rfl) ?_ _
             clear hHeld
             have HM9 := Hd (HMY.out.kept HW.out (fun h => h) (fun h => h))
             have HKZ3 := Hd (HKZ.out.trans HW.out (fun _ _ h => h.elim))
             have hb9 := HSY.out
             have hrz := HRZ.out
             have hs2 := HSZ2.out
             have HRX := Hd hrz
             go_wp2_with fail
             refine (relStep_any rr b g _ na (nla F t) ((endW (beginW (lockW w0)))) Y3 HRR.out HM9.out (by have h9 := HS9.out; omega) (by have h9 := HS9.out; omega) (by have h1 := HKI.out; have h2 := HKD1.out; have h3 := HNA.out; have h5 := HZ9.out; omega) HWD.out).mono ?_; rintro e Y4 ⟨rfl, hM11, -, hK11⟩
             have HM11 := Hd hM11
             have HK11 := Hd (show Kept (fun k => k = b ∨ k = g ∨ W9.heap.size ≤ k) W9 Y4 from HKZ3.out.trans hK11 (fun k hk h => by rcases h with h | h | h; exact .inr (.inr (by omega)); exact .inl h; exact .inr (.inl h)))
             clear hM11 hK11 hb9 hrz hs2
             go_wp2
             go_roundw
             case rel => exact ⟨j + 1, na + 1, _, by go_num, by omega, by rw [HL4.out, HJ.out]; rfl, by have := HNA.out; omega, HM11.out, HK11.out⟩
             case measure => simp [intOf]; omega
            ·have hj1 : j = 1 := by omega
             have q0 : Y1.cell? ⟨rq, j * 7, none⟩ = some (.int .u64 0) := by rw [hj1]; exact HQY.out.k 7 rfl
             have q1 : Y1.cell? ⟨rq, j * 7 + 1, none⟩ = some (.int .u64 0) := by rw [hj1]; exact HQY.out.k 8 rfl
             have q2 : Y1.cell? ⟨rq, j * 7 + 2, none⟩ = some (.int .i64 0) := by rw [hj1]; exact HQY.out.k 9 rfl
             have q3 : Y1.cell? ⟨rq, j * 7 + 3, none⟩ = some (.slice none 0 0) := by rw [hj1]; exact HQY.out.k 10 rfl
             have q4 : Y1.cell? ⟨rq, j * 7 + 4, none⟩ = some (.string ⟨#[]⟩) := by rw [hj1]; exact HQY.out.k 11 rfl
             have q5 : Y1.cell? ⟨rq, j * 7 + 5, none⟩ = some (.bool false) := by rw [hj1]; exact HQY.out.k 12 rfl
             have q6 : Y1.cell? ⟨rq, j * 7 + 6, none⟩ = some (.int .u64 0) := by rw [hj1]; exact HQY.out.k 13 rfl
             have HJ := Hd hj1
             have hjj : (j : Int) < 2 := by omega
             clear hj1 hj0 hj2
             go_upto_region 31 with fail
             have hal := (Kept.refl (fun _ => False) Y1).alloc (.cells #[.int .u64 0, .int .u64 0, .int .i64 0, .slice none 0 0, .string ⟨#[]⟩, .bool false, .int .u64 0] 40)
             have HYB := Hd (Blk.new Y1 [.int .u64 0, .int .u64 0, .int .i64 0, .slice none 0 0, .string ⟨#[]⟩, .bool false, .int .u64 0] 40)
             replace HMY := Hd (HMY.out.kept hal (fun h => h) (fun h => h))
             replace H11W := Hd (hal.blk H11W.out (fun h => h))
             have HKZ := Hd (show Kept (fun k => k = b ∨ k = g ∨ W9.heap.size ≤ k) W9 (Y1.alloc (.cells #[.int .u64 0, .int .u64 0, .int .i64 0, .slice none 0 0, .string ⟨#[]⟩, .bool false, .int .u64 0] 40)) from HKY.out.trans hal (fun _ _ h => h.elim))
             have HSZ2 := Hd (show W9.heap.size ≤ (Y1.alloc (.cells #[.int .u64 0, .int .u64 0, .int .i64 0, .slice none 0 0, .string ⟨#[]⟩, .bool false, .int .u64 0] 40)).heap.size from HKZ.out.size)
             clear hal q0 q1 q2 q3 q4 q5 q6
             generalize Y1.heap.size = ry at *
             generalize Y1.alloc (.cells #[.int .u64 0, .int .u64 0, .int .i64 0, .slice none 0 0, .string ⟨#[]⟩, .bool false, .int .u64 0] 40) = Y2 at *
             have hyb := HYB.out
             obtain ⟨p0, p1, p2, p3, p4, p5, p6⟩ := hyb.c7
             clear hyb
             have hl3 := HLJ.out
             rw [HJ.out] at hl3
             have hl4 : lj = (putAt (app (lkd F t w0 l2) (wrsN F 100 t (lockW w0) P (npg P key n1))) (nla F t) (((unlockW (endW (beginW (lockW w0))) : Nat) : Int), (⟨#[]⟩ : ByteArray), (0 : Int))) := hl3
             have HL4 := Hd hl4
             clear hl3 hl4
             go_wp2
             go_roundw
             case rel => exact ⟨j + 1, na, lj, by go_num, by omega, by rw [HL4.out, HJ.out]; rfl, by have := HNA.out; omega, HMY.out, HKZ.out⟩
             case measure => simp [intOf]; omega
           ·have hj3 : j = 2 := by omega
            have hl3 := HLJ.out
            rw [hj3] at hl3
            have hl4 : lj = (putAt (app (lkd F t w0 l2) (wrsN F 100 t (lockW w0) P (npg P key n1))) (nla F t) (((unlockW (endW (beginW (lockW w0))) : Nat) : Int), (⟨#[]⟩ : ByteArray), (0 : Int))) := hl3
            have HL4 := Hd hl4
            have HO9 := Hd (own_kept HO8.out HKY.out (fun k hk h => by have h1 := HO8.out.lt k hk; have h2 := HS5.out; rcases h with h | h | h <;> omega))
            have HKV9 := Hd (show Kept (fun j => j = b ∨ j = g ∨ W5.heap.size ≤ j) W5 Y1 from HKV8.out.trans HKY.out (fun k hk h => by have h1 := HS9.out; rcases h with h | h | h; exact .inl h; exact .inr (.inl h); exact .inr (.inr (by omega))))
            have hrk := HRK.out.put0 (m := mm) (sp := sp) h4 h6 HAT.out HTG.out hin HKY9.out (by have := HKI.out; omega) (by rw [HN1.out]; exact HF9.out)
            rw [HN1.out] at hrk
            have HRKN := Hd (show RwK F nl kk (putR F key n1 0 mm sp R) lj (ks ++ [key]) from by rw [HL4.out]; exact hrk)
            have hlen1 : (ks ++ [key]).length = n1 := by rw [List.length_append]; exact HN1.out
            have HLEN1 := Hd hlen1
            clear hl3 hl4 hrk hlen1 hj3 HLJ
            go_wp2
            go_roundw
            case rel => exact ⟨i1, _, na, _, lj, ks ++ [key], rfl, by have h1 := HGO.out; have h2 := HI1.out; omega, by have h1 := HGO.out; have h2 := HI1.out; omega, by rw [HLEN1.out]; have h1 := HKI.out; have h2 := HI1.out; have h3 := HN1.out; omega, HRKN.out, HMY.out, by have h1 := HKI.out; have h2 := HI1.out; have h3 := HKD1.out; have h4 := HNA.out; have h5 := HZ9.out; omega, by rw [HLEN1.out]; exact HO9.out, fun k hk => by
             rcases List.mem_append.1 hk with h | h
             ·exact HKSZ.out k h
             ·rw [List.mem_singleton.1 h]; exact HKY9.out, HKV9.out⟩
            case measure => have h1 := HGO.out; have h2 := HI1.out; simp [intOf]; omega
         ·have HF9 := Hd hf9
          clear hf9 HE
          have HM8 := Hd (show Mem V8 b g (twoM F l2 t w0 kk P (npg P key n1) mm sp) (ac + k1 + z1) from HM8.out)
          go_wp2_with fail
          refine (is_err F ((100 : Nat) : Int) fb fd ii t (lockW w0) P (npg P key n1) mm sp 100 _ (some (kk + 1)) V8 HA8.out).mono ?_; rintro e W1 ⟨rfl, hK9⟩
          have HA9 := Hd (HA8.out.kept hK9 (fun _ _ h => h))
          replace HM8 := Hd (HM8.out.kept hK9 (fun h => h) (fun h => h))
          replace H118 := Hd (hK9.blk H118.out (fun h => h))
          replace H128 := Hd (hK9.blk H128.out (fun h => h))
          replace HKV8 := Hd (HKV8.out.trans hK9 (fun _ _ h => h.elim))
          replace HK18 := Hd (HK18.out.trans hK9 (fun _ _ h => h.elim))
          replace HO8 := Hd (own_kept HO8.out hK9 (fun _ _ h => h))
          clear hK9 HA8
          go_upto_region 28 with fail
          go_wp2_with fail
          refine (is_left1 F ((100 : Nat) : Int) fb fd ii t (lockW w0) P (npg P key n1) mm sp 100 _ (kk + 1) W1 HA9.out (by have := HXL.out; rw [lpg_length (Nat.le_of_lt (HHV.out HF9.out).m2)]; have := (HHV.out HF9.out).mF; omega)).mono ?_; rintro e W2 ⟨A4, c4, rfl, hR4, hA4, hK9⟩
          have HA10 := Hd (HA9.out.kept hK9 (fun _ _ h => h))
          replace HM8 := Hd (HM8.out.kept hK9 (fun h => h) (fun h => h))
          replace H118 := Hd (hK9.blk H118.out (fun h => h))
          replace H128 := Hd (hK9.blk H128.out (fun h => h))
          replace HKV8 := Hd (HKV8.out.trans hK9 (fun _ _ h => h.elim))
          replace HK18 := Hd (HK18.out.trans hK9 (fun _ _ h => h.elim))
          replace HO8 := Hd (own_kept HO8.out hK9 (fun _ _ h => h))
          clear hK9 HA9 hR4 hA4
          go_wp2_with fail
          refine (is_right1 F ((100 : Nat) : Int) fb fd ii t (lockW w0) P (npg P key n1) mm sp 100 _ (kk + 1) W2 HA10.out (by rw [rpg_length]; have := HXL.out; omega)).mono ?_; rintro e W3 ⟨A5, c5, rfl, hR5, hA5, hK9⟩
          replace HM8 := Hd (HM8.out.kept hK9 (fun h => h) (fun h => h))
          replace H118 := Hd (hK9.blk H118.out (fun h => h))
          replace H128 := Hd (hK9.blk H128.out (fun h => h))
          replace HKV8 := Hd (HKV8.out.trans hK9 (fun _ _ h => h.elim))
          replace HK18 := Hd (HK18.out.trans hK9 (fun _ _ h => h.elim))
          replace HO8 := Hd (own_kept HO8.out hK9 (fun _ _ h => h))
          clear hK9 HA10 hR5 hA5
          go_upto_region 29 with fail
          have HQN := Hd (show b < W3.heap.size ∧ g < W3.heap.size from ⟨HM8.out.obj.lt, HM8.out.row.lt⟩)
          have hal := (Kept.refl (fun _ => False) W3).alloc (.cells #[.int .u64 (t : Int), .int .u64 ((endW (beginW (lockW w0))) : Int), .int .i64 ((lpg (npg P key n1) mm sp (kk + 1)).lv : Int), .slice A4 (lpg (npg P key n1) mm sp (kk + 1)).xs.length c4, .string (lpg (npg P key n1) mm sp (kk + 1)).hi, .bool (lpg (npg P key n1) mm sp (kk + 1)).la, .int .u64 ((lpg (npg P key n1) mm sp (kk + 1)).rt : Int), .int .u64 ((kk : Int) + 1), .int .u64 1, .int .i64 ((rpg (npg P key n1) mm).lv : Int), .slice A5 (rpg (npg P key n1) mm).xs.length c5, .string (rpg (npg P key n1) mm).hi, .bool (rpg (npg P key n1) mm).la, .int .u64 ((rpg (npg P key n1) mm).rt : Int)] 40)
          have HQ := Hd (Blk.new W3 [.int .u64 (t : Int), .int .u64 ((endW (beginW (lockW w0))) : Int), .int .i64 ((lpg (npg P key n1) mm sp (kk + 1)).lv : Int), .slice A4 (lpg (npg P key n1) mm sp (kk + 1)).xs.length c4, .string (lpg (npg P key n1) mm sp (kk + 1)).hi, .bool (lpg (npg P key n1) mm sp (kk + 1)).la, .int .u64 ((lpg (npg P key n1) mm sp (kk + 1)).rt : Int), .int .u64 ((kk : Int) + 1), .int .u64 1, .int .i64 ((rpg (npg P key n1) mm).lv : Int), .slice A5 (rpg (npg P key n1) mm).xs.length c5, .string (rpg (npg P key n1) mm).hi, .bool (rpg (npg P key n1) mm).la, .int .u64 ((rpg (npg P key n1) mm).rt : Int)] 40)
          replace HM8 := Hd (HM8.out.kept hal (fun h => h) (fun h => h))
          replace H118 := Hd (hal.blk H118.out (fun h => h))
          replace H128 := Hd (hal.blk H128.out (fun h => h))
          replace HKV8 := Hd (HKV8.out.trans hal (fun _ _ h => h.elim))
          replace HK18 := Hd (HK18.out.trans hal (fun _ _ h => h.elim))
          replace HO8 := Hd (own_kept HO8.out hal (fun _ _ h => h))
          clear hal
          generalize W3.heap.size = rq at *
          generalize W3.alloc (.cells #[.int .u64 (t : Int), .int .u64 ((endW (beginW (lockW w0))) : Int), .int .i64 ((lpg (npg P key n1) mm sp (kk + 1)).lv : Int), .slice A4 (lpg (npg P key n1) mm sp (kk + 1)).xs.length c4, .string (lpg (npg P key n1) mm sp (kk + 1)).hi, .bool (lpg (npg P key n1) mm sp (kk + 1)).la, .int .u64 ((lpg (npg P key n1) mm sp (kk + 1)).rt : Int), .int .u64 ((kk : Int) + 1), .int .u64 1, .int .i64 ((rpg (npg P key n1) mm).lv : Int), .slice A5 (rpg (npg P key n1) mm).xs.length c5, .string (rpg (npg P key n1) mm).hi, .bool (rpg (npg P key n1) mm).la, .int .u64 ((rpg (npg P key n1) mm).rt : Int)] 40) = W9 at *
          have HS9 := Hd (show b < W9.heap.size ∧ g < W9.heap.size ∧ r11 < W9.heap.size ∧ rq < W9.heap.size ∧ W5.heap.size ≤ W9.heap.size from ⟨HM8.out.obj.lt, HM8.out.row.lt, H118.out.lt, HQ.out.lt, HKV8.out.size⟩)
          have HWD := Hd (show (endW (beginW (lockW w0))) < 18446744073709551616 from endW_lt _)
          have ht1 := HIW.out
          have HTI := Hd (show ¬ (t : Int) = 0 from by omega)
          clear ht1 htI
          go_loopw [135] (fun jv wr => ∃ (j na : Nat) (lj : List Cel), jv = .int .i64 (j : Int) ∧ j ≤ 2 ∧ lj = (if j = 0 then (twoM F l2 t w0 kk P (npg P key n1) mm sp) else if j = 1 then (putAt (twoM F l2 t w0 kk P (npg P key n1) mm sp) (nla F t) (((unlockW (endW (beginW (lockW w0))) : Nat) : Int), (⟨#[]⟩ : ByteArray), (0 : Int))) else (putAt (putAt (twoM F l2 t w0 kk P (npg P key n1) mm sp) (nla F t) (((unlockW (endW (beginW (lockW w0))) : Nat) : Int), (⟨#[]⟩ : ByteArray), (0 : Int))) (nla F (kk + 1)) (((unlockW 1 : Nat) : Int), (⟨#[]⟩ : ByteArray), (0 : Int)))) ∧ na ≤ ac + k1 + z1 + j ∧ Mem wr b g lj na ∧ Kept (fun k => k = b ∨ k = g ∨ W9.heap.size ≤ k) W9 wr) (fun jv _ => 2 - (intOf jv).toNat)
          case atStart => exact ⟨0, _, _, rfl, by omega, rfl, Nat.le_refl _, HM8.out, Kept.refl _ _⟩
          case round =>
           rename World => Y1
           obtain ⟨j, na, lj, rfl, hj, hlj, hna, hM, hKr⟩ := hrel
           have HMY := Hd hM
           have HKY := Hd hKr
           have HNA := Hd hna
           have HLJ := Hd hlj
           have hqb := hKr.blk HQ.out (fun h => by have h1 := HS9.out; have h2 := HQN.out; rcases h with h | h | h <;> omega)
           have HQY := Hd hqb
           have H11W := Hd (hKr.blk H118.out (fun h => by have h1 := HS9.out; have h2 := HR.out; rcases h with h | h | h <;> omega))
           have HSY := Hd (show b < Y1.heap.size ∧ g < Y1.heap.size ∧ W9.heap.size ≤ Y1.heap.size from ⟨hM.obj.lt, hM.row.lt, hKr.size⟩)
           clear hM hKr hna hlj hqb HM8
           by_cases hj2 : j < 2
           ·by_cases hj0 : j = 0
            ·have q0 : Y1.cell? ⟨rq, j * 7, none⟩ = some (.int .u64 (t : Int)) := by rw [hj0]; exact HQY.out.k 0 rfl
             have q1 : Y1.cell? ⟨rq, j * 7 + 1, none⟩ = some (.int .u64 ((endW (beginW (lockW w0))) : Int)) := by rw [hj0]; exact HQY.out.k 1 rfl
             have q2 : Y1.cell? ⟨rq, j * 7 + 2, none⟩ = some (.int .i64 ((lpg (npg P key n1) mm sp (kk + 1)).lv : Int)) := by rw [hj0]; exact HQY.out.k 2 rfl
             have q3 : Y1.cell? ⟨rq, j * 7 + 3, none⟩ = some (.slice A4 (lpg (npg P key n1) mm sp (kk + 1)).xs.length c4) := by rw [hj0]; exact HQY.out.k 3 rfl
             have q4 : Y1.cell? ⟨rq, j * 7 + 4, none⟩ = some (.string (lpg (npg P key n1) mm sp (kk + 1)).hi) := by rw [hj0]; exact HQY.out.k 4 rfl
             have q5 : Y1.cell? ⟨rq, j * 7 + 5, none⟩ = some (.bool (lpg (npg P key n1) mm sp (kk + 1)).la) := by rw [hj0]; exact HQY.out.k 5 rfl
             have q6 : Y1.cell? ⟨rq, j * 7 + 6, none⟩ = some (.int .u64 ((lpg (npg P key n1) mm sp (kk + 1)).rt : Int)) := by rw [hj0]; exact HQY.out.k 6 rfl
             have HJ := Hd hj0
             have hjj : (j : Int) < 2 := by omega
             clear hj0 hj2
             go_upto_region 31 with fail
             have hal := (Kept.refl (fun _ => False) Y1).alloc (.cells #[.int .u64 (t : Int), .int .u64 ((endW (beginW (lockW w0))) : Int), .int .i64 ((lpg (npg P key n1) mm sp (kk + 1)).lv : Int), .slice A4 (lpg (npg P key n1) mm sp (kk + 1)).xs.length c4, .string (lpg (npg P key n1) mm sp (kk + 1)).hi, .bool (lpg (npg P key n1) mm sp (kk + 1)).la, .int .u64 ((lpg (npg P key n1) mm sp (kk + 1)).rt : Int)] 40)
             have HYB := Hd (Blk.new Y1 [.int .u64 (t : Int), .int .u64 ((endW (beginW (lockW w0))) : Int), .int .i64 ((lpg (npg P key n1) mm sp (kk + 1)).lv : Int), .slice A4 (lpg (npg P key n1) mm sp (kk + 1)).xs.length c4, .string (lpg (npg P key n1) mm sp (kk + 1)).hi, .bool (lpg (npg P key n1) mm sp (kk + 1)).la, .int .u64 ((lpg (npg P key n1) mm sp (kk + 1)).rt : Int)] 40)
             replace HMY := Hd (HMY.out.kept hal (fun h => h) (fun h => h))
             replace H11W := Hd (hal.blk H11W.out (fun h => h))
             have HKZ := Hd (show Kept (fun k => k = b ∨ k = g ∨ W9.heap.size ≤ k) W9 (Y1.alloc (.cells #[.int .u64 (t : Int), .int .u64 ((endW (beginW (lockW w0))) : Int), .int .i64 ((lpg (npg P key n1) mm sp (kk + 1)).lv : Int), .slice A4 (lpg (npg P key n1) mm sp (kk + 1)).xs.length c4, .string (lpg (npg P key n1) mm sp (kk + 1)).hi, .bool (lpg (npg P key n1) mm sp (kk + 1)).la, .int .u64 ((lpg (npg P key n1) mm sp (kk + 1)).rt : Int)] 40)) from HKY.out.trans hal (fun _ _ h => h.elim))
             have HSZ2 := Hd (show W9.heap.size ≤ (Y1.alloc (.cells #[.int .u64 (t : Int), .int .u64 ((endW (beginW (lockW w0))) : Int), .int .i64 ((lpg (npg P key n1) mm sp (kk + 1)).lv : Int), .slice A4 (lpg (npg P key n1) mm sp (kk + 1)).xs.length c4, .string (lpg (npg P key n1) mm sp (kk + 1)).hi, .bool (lpg (npg P key n1) mm sp (kk + 1)).la, .int .u64 ((lpg (npg P key n1) mm sp (kk + 1)).rt : Int)] 40)).heap.size from HKZ.out.size)
             clear hal q0 q1 q2 q3 q4 q5 q6
             generalize Y1.heap.size = ry at *
             generalize Y1.alloc (.cells #[.int .u64 (t : Int), .int .u64 ((endW (beginW (lockW w0))) : Int), .int .i64 ((lpg (npg P key n1) mm sp (kk + 1)).lv : Int), .slice A4 (lpg (npg P key n1) mm sp (kk + 1)).xs.length c4, .string (lpg (npg P key n1) mm sp (kk + 1)).hi, .bool (lpg (npg P key n1) mm sp (kk + 1)).la, .int .u64 ((lpg (npg P key n1) mm sp (kk + 1)).rt : Int)] 40) = Y2 at *
             have hyb := HYB.out
             obtain ⟨p0, p1, p2, p3, p4, p5, p6⟩ := hyb.c7
             clear hyb
             have hti := HTI.out
             have hl3 := HLJ.out
             rw [HJ.out] at hl3
             have hl4 : lj = (twoM F l2 t w0 kk P (npg P key n1) mm sp) := hl3
             have HL4 := Hd hl4
             clear hl3 hl4
             go_upto_region 32 with fail
             clear p0 p1 p2 p3 p4 p5 p6 hti
             refine wp_region_held_drew (S := (fun w' => Kept (fun _ => False) Y2 w')) (by kernel_rfl) ?_ (fun hHeld => ?_)
             ·exact (Kept.refl _ _).drew
             have HW := Hd ((Kept.refl (fun _ => False) Y2).drew)
             generalize Y2.drew = G at *
             refine tkH 0 142 ?_ rfl ?_ hHeld ?_
             rotate_left
             ·(intro wq hSw; have hb9 := hSw.blk H11W.out (fun h => h); obtain ⟨y0, y1, y2, y3, y4, y5, y6⟩ := hb9.c7; clear hb9; have hb9 := hSw.blk HYB.out (fun h => h); have p0 := hb9.k 0 rfl; have p1 := hb9.k 1 rfl; clear hb9; go_simp; try with_reducible rfl)
             try simp only [aP,aA,aZ,aS]
             refine tkH 1 143 ?_ rfl ?_ hHeld ?_
             rotate_left
             ·(intro wq hSw; go_simp; try with_reducible rfl)
             try simp only [aP,aA,aZ,aS]
             refine tkH 2 144 ?_ rfl ?_ hHeld ?_
             rotate_left
             ·(intro wq hSw; have hb9 := hSw.blk H11W.out (fun h => h); obtain ⟨y0, y1, y2, y3, y4, y5, y6⟩ := hb9.c7; clear hb9; have hb9 := hSw.blk HYB.out (fun h => h); have p0 := hb9.k 0 rfl; have p1 := hb9.k 1 rfl; clear hb9; go_simp; try with_reducible rfl)
             try simp only [aP,aA,aZ,aS]
             refine tkH 4 146 ?_ rfl ?_ hHeld ?_
             rotate_left
             ·(intro wq hSw; go_simp; try with_reducible rfl)
             try simp only [aP,aA,aZ,aS]
             refine tkH 5 147 ?_ rfl ?_ hHeld ?_
             rotate_left
             ·(intro wq hSw; have hb9 := hSw.blk H11W.out (fun h => h); obtain ⟨y0, y1, y2, y3, y4, y5, y6⟩ := hb9.c7; clear hb9; have hb9 := hSw.blk HYB.out (fun h => h); have p0 := hb9.k 0 rfl; have p1 := hb9.k 1 rfl; clear hb9; go_simp; try with_reducible rfl)
             try simp only [aP,aA,aZ,aS]
             refine wpAnyH_ready (rs := [3]) (by kernel_rfl) (by simp) ?_
             refine AllReadyH.cons (o := ⟨some 145, _, _, _, _, _⟩) rfl (fun KK hK => ?_) AllReadyH.nil
             go_simp
             go_at_call 16
             refine ((HNODE.out) _).mono ?_; rintro e G2 ⟨rfl, hK9⟩
             replace HW := Hd (HW.out.trans hK9 (fun _ _ h => h))
             clear hK9
             refine hK.out _ _ ?_ (fun hHeld2 => ?_)
             ·exact HW.out
             clear hK KK hHeld
             have hHeld := hHeld2
             clear hHeld2
             try simp only [aP,aA,aZ,aS]
             refine wpAnyH_ready (rs := [6]) (by kernel_rfl) (by simp) ?_
             refine AllReadyH.cons (o := ⟨some 148, _, _, _, _, _⟩) rfl (fun KK hK => ?_) AllReadyH.nil
             go_simp
             go_at_call 15
             refine (newRelease_any ((nla F t)) ((endW (beginW (lockW w0)))) _).mono ?_; rintro e G4 ⟨rfl, rfl⟩
             have HRR := Hd (show RelB (G2.alloc (.cells ⟨relv ((nla F t)) ((endW (beginW (lockW w0)))) false⟩ 98)) G2.heap.size ((nla F t)) ((endW (beginW (lockW w0)))) false from Blk.new G2 (relv ((nla F t)) ((endW (beginW (lockW w0)))) false) 98)
             have HRZ := Hd (show Y2.heap.size ≤ G2.heap.size from HW.out.size)
             replace HW := Hd (HW.out.alloc (.cells ⟨relv ((nla F t)) ((endW (beginW (lockW w0)))) false⟩ 98))
             generalize G2.heap.size = rr at *
             generalize G2.alloc (.cells ⟨relv ((nla F t)) ((endW (beginW (lockW w0)))) false⟩ 98) = Y3 at *
             refine hK.out _ _ ?_ (fun hHeld2 => ?_)
             ·exact HW.out
             clear hK KK hHeld
             have hHeld := hHeld2
             clear hHeld2
             try simp only [aP,aA,aZ,aS]
             refine tkH 7 21 ?_ rfl ?_ hHeld ?_
             rotate_left
             ·(intro wq hSw; go_simp; try with_reducible rfl)
             try simp only [aP,aA,aZ,aS]
             refine wpAnyH_done (by kernel_rfl) ?_ _
             clear hHeld
             have HM9 := Hd (HMY.out.kept HW.out (fun h => h) (fun h => h))
             have HKZ3 := Hd (HKZ.out.trans HW.out (fun _ _ h => h.elim))
             have hb9 := HSY.out
             have hrz := HRZ.out
             have hs2 := HSZ2.out
             have HRX := Hd hrz
             go_wp2_with fail
             refine (relStep_any rr b g _ na (nla F t) ((endW (beginW (lockW w0)))) Y3 HRR.out HM9.out (by have h9 := HS9.out; omega) (by have h9 := HS9.out; omega) (by have h1 := HKI.out; have h2 := HKD1.out; have h3 := HNA.out; have h5 := HZ9.out; omega) HWD.out).mono ?_; rintro e Y4 ⟨rfl, hM11, -, hK11⟩
             have HM11 := Hd hM11
             have HK11 := Hd (show Kept (fun k => k = b ∨ k = g ∨ W9.heap.size ≤ k) W9 Y4 from HKZ3.out.trans hK11 (fun k hk h => by rcases h with h | h | h; exact .inr (.inr (by omega)); exact .inl h; exact .inr (.inl h)))
             clear hM11 hK11 hb9 hrz hs2
             go_wp2
             go_roundw
             case rel => exact ⟨j + 1, na + 1, _, by go_num, by omega, by rw [HL4.out, HJ.out]; rfl, by have := HNA.out; omega, HM11.out, HK11.out⟩
             case measure => simp [intOf]; omega
            ·have hj1 : j = 1 := by omega
             have q0 : Y1.cell? ⟨rq, j * 7, none⟩ = some (.int .u64 ((kk : Int) + 1)) := by rw [hj1]; exact HQY.out.k 7 rfl
             have q1 : Y1.cell? ⟨rq, j * 7 + 1, none⟩ = some (.int .u64 1) := by rw [hj1]; exact HQY.out.k 8 rfl
             have q2 : Y1.cell? ⟨rq, j * 7 + 2, none⟩ = some (.int .i64 ((rpg (npg P key n1) mm).lv : Int)) := by rw [hj1]; exact HQY.out.k 9 rfl
             have q3 : Y1.cell? ⟨rq, j * 7 + 3, none⟩ = some (.slice A5 (rpg (npg P key n1) mm).xs.length c5) := by rw [hj1]; exact HQY.out.k 10 rfl
             have q4 : Y1.cell? ⟨rq, j * 7 + 4, none⟩ = some (.string (rpg (npg P key n1) mm).hi) := by rw [hj1]; exact HQY.out.k 11 rfl
             have q5 : Y1.cell? ⟨rq, j * 7 + 5, none⟩ = some (.bool (rpg (npg P key n1) mm).la) := by rw [hj1]; exact HQY.out.k 12 rfl
             have q6 : Y1.cell? ⟨rq, j * 7 + 6, none⟩ = some (.int .u64 ((rpg (npg P key n1) mm).rt : Int)) := by rw [hj1]; exact HQY.out.k 13 rfl
             have HJ := Hd hj1
             have hjj : (j : Int) < 2 := by omega
             clear hj1 hj0 hj2
             go_upto_region 31 with fail
             have hal := (Kept.refl (fun _ => False) Y1).alloc (.cells #[.int .u64 ((kk : Int) + 1), .int .u64 1, .int .i64 ((rpg (npg P key n1) mm).lv : Int), .slice A5 (rpg (npg P key n1) mm).xs.length c5, .string (rpg (npg P key n1) mm).hi, .bool (rpg (npg P key n1) mm).la, .int .u64 ((rpg (npg P key n1) mm).rt : Int)] 40)
             have HYB := Hd (Blk.new Y1 [.int .u64 ((kk : Int) + 1), .int .u64 1, .int .i64 ((rpg (npg P key n1) mm).lv : Int), .slice A5 (rpg (npg P key n1) mm).xs.length c5, .string (rpg (npg P key n1) mm).hi, .bool (rpg (npg P key n1) mm).la, .int .u64 ((rpg (npg P key n1) mm).rt : Int)] 40)
             replace HMY := Hd (HMY.out.kept hal (fun h => h) (fun h => h))
             replace H11W := Hd (hal.blk H11W.out (fun h => h))
             have HKZ := Hd (show Kept (fun k => k = b ∨ k = g ∨ W9.heap.size ≤ k) W9 (Y1.alloc (.cells #[.int .u64 ((kk : Int) + 1), .int .u64 1, .int .i64 ((rpg (npg P key n1) mm).lv : Int), .slice A5 (rpg (npg P key n1) mm).xs.length c5, .string (rpg (npg P key n1) mm).hi, .bool (rpg (npg P key n1) mm).la, .int .u64 ((rpg (npg P key n1) mm).rt : Int)] 40)) from HKY.out.trans hal (fun _ _ h => h.elim))
             have HSZ2 := Hd (show W9.heap.size ≤ (Y1.alloc (.cells #[.int .u64 ((kk : Int) + 1), .int .u64 1, .int .i64 ((rpg (npg P key n1) mm).lv : Int), .slice A5 (rpg (npg P key n1) mm).xs.length c5, .string (rpg (npg P key n1) mm).hi, .bool (rpg (npg P key n1) mm).la, .int .u64 ((rpg (npg P key n1) mm).rt : Int)] 40)).heap.size from HKZ.out.size)
             clear hal q0 q1 q2 q3 q4 q5 q6
             generalize Y1.heap.size = ry at *
             generalize Y1.alloc (.cells #[.int .u64 ((kk : Int) + 1), .int .u64 1, .int .i64 ((rpg (npg P key n1) mm).lv : Int), .slice A5 (rpg (npg P key n1) mm).xs.length c5, .string (rpg (npg P key n1) mm).hi, .bool (rpg (npg P key n1) mm).la, .int .u64 ((rpg (npg P key n1) mm).rt : Int)] 40) = Y2 at *
             have hyb := HYB.out
             obtain ⟨p0, p1, p2, p3, p4, p5, p6⟩ := hyb.c7
             clear hyb
             have HNODE2 := Hd (show ∀ W, Calls Tryz.prog 16 #[.agg #[.int .i64 1, .int .i64 2, .int .i64 100, .int .i64 100, .int .i64 200, .int .i64 (F : Int), .int .u64 1000], .int .u64 ((kk : Int) + 1), .int .i64 0] W fun e w' => e = .returned (.int .i64 (nla F (kk + 1))) ∧ Kept (fun _ => False) W w' from fun W => refNode_any 1 2 100 100 200 (F : Int) 1000 ((kk + 1 : Nat) : Int) 0 (limF h4 h6) (by omega) (by have := HRK.out.few; have := HKI.out; omega) (by omega) W)
             have HTI2 := Hd (show ¬ ((kk : Int) + 1) = 0 from by omega)
             have hti := HTI2.out
             have hl3 := HLJ.out
             rw [HJ.out] at hl3
             have hl4 : lj = (putAt (twoM F l2 t w0 kk P (npg P key n1) mm sp) (nla F t) (((unlockW (endW (beginW (lockW w0))) : Nat) : Int), (⟨#[]⟩ : ByteArray), (0 : Int))) := hl3
             have HL4 := Hd hl4
             clear hl3 hl4
             go_upto_region 32 with fail
             clear p0 p1 p2 p3 p4 p5 p6 hti
             refine wp_region_held_drew (S := (fun w' => Kept (fun _ => False) Y2 w')) (by kernel_rfl) ?_ (fun hHeld => ?_)
             ·exact (Kept.refl _ _).drew
             have HW := Hd ((Kept.refl (fun _ => False) Y2).drew)
             generalize Y2.drew = G at *
             refine tkH 0 142 ?_ rfl ?_ hHeld ?_
             rotate_left
             ·(intro wq hSw; have hb9 := hSw.blk H11W.out (fun h => h); obtain ⟨y0, y1, y2, y3, y4, y5, y6⟩ := hb9.c7; clear hb9; have hb9 := hSw.blk HYB.out (fun h => h); have p0 := hb9.k 0 rfl; have p1 := hb9.k 1 rfl; clear hb9; go_simp; try with_reducible rfl)
             try simp only [aP,aA,aZ,aS]
             refine tkH 1 143 ?_ rfl ?_ hHeld ?_
             rotate_left
             ·(intro wq hSw; go_simp; try with_reducible rfl)
             try simp only [aP,aA,aZ,aS]
             refine tkH 2 144 ?_ rfl ?_ hHeld ?_
             rotate_left
             ·(intro wq hSw; have hb9 := hSw.blk H11W.out (fun h => h); obtain ⟨y0, y1, y2, y3, y4, y5, y6⟩ := hb9.c7; clear hb9; have hb9 := hSw.blk HYB.out (fun h => h); have p0 := hb9.k 0 rfl; have p1 := hb9.k 1 rfl; clear hb9; go_simp; try with_reducible rfl)
             try simp only [aP,aA,aZ,aS]
             refine tkH 4 146 ?_ rfl ?_ hHeld ?_
             rotate_left
             ·(intro wq hSw; go_simp; try with_reducible rfl)
             try simp only [aP,aA,aZ,aS]
             refine tkH 5 147 ?_ rfl ?_ hHeld ?_
             rotate_left
             ·(intro wq hSw; have hb9 := hSw.blk H11W.out (fun h => h); obtain ⟨y0, y1, y2, y3, y4, y5, y6⟩ := hb9.c7; clear hb9; have hb9 := hSw.blk HYB.out (fun h => h); have p0 := hb9.k 0 rfl; have p1 := hb9.k 1 rfl; clear hb9; go_simp; try with_reducible rfl)
             try simp only [aP,aA,aZ,aS]
             refine wpAnyH_ready (rs := [3]) (by kernel_rfl) (by simp) ?_
             refine AllReadyH.cons (o := ⟨some 145, _, _, _, _, _⟩) rfl (fun KK hK => ?_) AllReadyH.nil
             go_simp
             go_at_call 16
             refine ((HNODE2.out) _).mono ?_; rintro e G2 ⟨rfl, hK9⟩
             replace HW := Hd (HW.out.trans hK9 (fun _ _ h => h))
             clear hK9
             refine hK.out _ _ ?_ (fun hHeld2 => ?_)
             ·exact HW.out
             clear hK KK hHeld
             have hHeld := hHeld2
             clear hHeld2
             try simp only [aP,aA,aZ,aS]
             refine wpAnyH_ready (rs := [6]) (by kernel_rfl) (by simp) ?_
             refine AllReadyH.cons (o := ⟨some 148, _, _, _, _, _⟩) rfl (fun KK hK => ?_) AllReadyH.nil
             go_simp
             go_at_call 15
             refine (newRelease_any ((nla F (kk + 1))) (1) _).mono ?_; rintro e G4 ⟨rfl, rfl⟩
             have HRR := Hd (show RelB (G2.alloc (.cells ⟨relv ((nla F (kk + 1))) (1) false⟩ 98)) G2.heap.size ((nla F (kk + 1))) (1) false from Blk.new G2 (relv ((nla F (kk + 1))) (1) false) 98)
             have HRZ := Hd (show Y2.heap.size ≤ G2.heap.size from HW.out.size)
             replace HW := Hd (HW.out.alloc (.cells ⟨relv ((nla F (kk + 1))) (1) false⟩ 98))
             generalize G2.heap.size = rr at *
             generalize G2.alloc (.cells ⟨relv ((nla F (kk + 1))) (1) false⟩ 98) = Y3 at *
             refine hK.out _ _ ?_ (fun hHeld2 => ?_)
             ·exact HW.out
             clear hK KK hHeld
             have hHeld := hHeld2
             clear hHeld2
             try simp only [aP,aA,aZ,aS]
             refine tkH 7 21 ?_ rfl ?_ hHeld ?_
             rotate_left
             ·(intro wq hSw; go_simp; try with_reducible rfl)
             try simp only [aP,aA,aZ,aS]
             refine wpAnyH_done (by kernel_rfl) ?_ _
             clear hHeld
             have HM9 := Hd (HMY.out.kept HW.out (fun h => h) (fun h => h))
             have HKZ3 := Hd (HKZ.out.trans HW.out (fun _ _ h => h.elim))
             have hb9 := HSY.out
             have hrz := HRZ.out
             have hs2 := HSZ2.out
             have HRX := Hd hrz
             go_wp2_with fail
             refine (relStep_any rr b g _ na (nla F (kk + 1)) (1) Y3 HRR.out HM9.out (by have h9 := HS9.out; omega) (by have h9 := HS9.out; omega) (by have h1 := HKI.out; have h2 := HKD1.out; have h3 := HNA.out; have h5 := HZ9.out; omega) (by omega)).mono ?_; rintro e Y4 ⟨rfl, hM11, -, hK11⟩
             have HM11 := Hd hM11
             have HK11 := Hd (show Kept (fun k => k = b ∨ k = g ∨ W9.heap.size ≤ k) W9 Y4 from HKZ3.out.trans hK11 (fun k hk h => by rcases h with h | h | h; exact .inr (.inr (by omega)); exact .inl h; exact .inr (.inl h)))
             clear hM11 hK11 hb9 hrz hs2
             go_wp2
             go_roundw
             case rel => exact ⟨j + 1, na + 1, _, by go_num, by omega, by rw [HL4.out, HJ.out]; rfl, by have := HNA.out; omega, HM11.out, HK11.out⟩
             case measure => simp [intOf]; omega
           ·have hj3 : j = 2 := by omega
            have hl3 := HLJ.out
            rw [hj3] at hl3
            have hl4 : lj = (putAt (putAt (twoM F l2 t w0 kk P (npg P key n1) mm sp) (nla F t) (((unlockW (endW (beginW (lockW w0))) : Nat) : Int), (⟨#[]⟩ : ByteArray), (0 : Int))) (nla F (kk + 1)) (((unlockW 1 : Nat) : Int), (⟨#[]⟩ : ByteArray), (0 : Int))) := hl3
            have HL4 := Hd hl4
            have HO9 := Hd (own_kept HO8.out HKY.out (fun k hk h => by have h1 := HO8.out.lt k hk; have h2 := HS5.out; rcases h with h | h | h <;> omega))
            have HKV9 := Hd (show Kept (fun j => j = b ∨ j = g ∨ W5.heap.size ≤ j) W5 Y1 from HKV8.out.trans HKY.out (fun k hk h => by have h1 := HS9.out; rcases h with h | h | h; exact .inl h; exact .inr (.inl h); exact .inr (.inr (by omega))))
            have hrk := HRK.out.put1 (m := mm) (sp := sp) h4 h6 HAT.out HTG.out hin HKY9.out (by have := HKI.out; omega) (by rw [HN1.out]; exact HF9.out) (by rw [HN1.out]; exact HHV.out HF9.out)
            rw [HN1.out] at hrk
            have HRKN := Hd (show RwK F nl (kk + 1) (putR F key n1 (kk + 1) mm sp R) lj (ks ++ [key]) from by rw [HL4.out]; exact hrk)
            have hlen1 : (ks ++ [key]).length = n1 := by rw [List.length_append]; exact HN1.out
            have HLEN1 := Hd hlen1
            clear hl3 hl4 hrk hlen1 hj3 HLJ
            go_wp2
            go_roundw
            case rel => exact ⟨i1, _, na, _, lj, ks ++ [key], rfl, by have h1 := HGO.out; have h2 := HI1.out; omega, by have h1 := HGO.out; have h2 := HI1.out; omega, by rw [HLEN1.out]; have h1 := HKI.out; have h2 := HI1.out; have h3 := HN1.out; omega, HRKN.out, HMY.out, by have h1 := HKI.out; have h2 := HI1.out; have h3 := HKD1.out; have h4 := HNA.out; have h5 := HZ9.out; omega, by rw [HLEN1.out]; exact HO9.out, fun k hk => by
             rcases List.mem_append.1 hk with h | h
             ·exact HKSZ.out k h
             ·rw [List.mem_singleton.1 h]; exact HKY9.out, HKV9.out⟩
            case measure => have h1 := HGO.out; have h2 := HI1.out; simp [intOf]; omega
        ·rw [show decide (d = 1) = false from by simp [hd1]]
         go_wp2
         go_roundw
         case rel => exact ⟨z1, d - 1, _, _, _, rfl, by have h1 := HZD.out; have h2 := HZ1.out; omega, by have h1 := HZD.out; omega, HA8.out, HI8.out, HT9.out, HM8.out, HZ8.out, HK8.out⟩
         case measure => have h2 := HZ1.out; simp [intOf]; omega
     ·obtain ⟨d1, rfl⟩ : ∃ d1, d = d1 + 1 := ⟨d - 1, by omega⟩
      rw [show (d1 + 1 == 0) = false from by simp]
      go_wp2
      go_roundw
      case rel => exact ⟨k1, d1, _, _, _, by have h1 := HKD.out; have h2 := HK1N.out; omega, rfl, HL2.out, HA5.out, HM5.out, HZ5.out, HK5.out⟩
      case measure => have h2 := HK1N.out; simp [intOf]; omega
   ·rw [decide_eq_false hgo]
    clear hgo
    go_upto_region 35 with fail
    obtain ⟨AL, cL, rfl, hKr, hAL⟩ := strv_read HO.out
    obtain ⟨nk, hnk⟩ : ∃ nk, ks.length = nk := ⟨_, rfl⟩
    have hnk40 : nk ≤ 40 := by have := HKI.out; omega
    have hwu : IntKind.u64.wrap (nk : Int) = (nk : Int) := by rw [IntKind.wrap_u64]; omega
    have HKR := Hd hKr
    have HAL := Hd hAL
    have HNK := Hd hnk
    rw [hnk]
    clear hKr hAL hnk HO
    go_wp2_with fail
    refine (poke_any b g l2 ac 5 (nk : Int) 0 ⟨#[]⟩ _ HM1.out).mono ?_; rintro e V2 ⟨rfl, hM2, hK2⟩
    obtain ⟨hRKp, hRest⟩ := HRK.out.poke h4 h6 (by have := HKI.out; omega)
    rw [HNK.out] at hRKp hRest
    generalize putAt l2 5 ((nk : Int), (⟨#[]⟩ : ByteArray), (0 : Int)) = l3 at *
    have HRKP := Hd hRKp
    have HREST := Hd hRest
    have HM2 := Hd hM2
    have hOb : ∀ j, j = b ∨ j = g → j < W5.heap.size := fun j hj => by have := HS5.out; rcases hj with rfl | rfl <;> omega
    have H11V2 := Hd (hK2.blk H11V.out (fun h => by have h1 := HR.out; rcases h with h | h <;> omega))
    have H12V2 := Hd (hK2.blk H12V.out (fun h => by have h1 := HR.out; rcases h with h | h <;> omega))
    have HKR2 := Hd (HKR.out.kept hK2 (fun a ha h => by have h1 := HAL.out a ha; have h2 := hOb a.block h; omega))
    have HK2 := Hd (show Kept (fun i => w.heap.size ≤ i) w V2 from HK1.out.trans hK2 (fun j hj h => by have h1 := HR.out; rcases h with h | h <;> omega))
    have HAL2 := Hd (show ∀ a, AL = some a → a.block ≠ b ∧ a.block ≠ g from fun a ha => by have h1 := HAL.out a ha; have h2 := HS5.out; omega)
    have HB2 := Hd (show b < V2.heap.size ∧ g < V2.heap.size ∧ r11 < V2.heap.size ∧ r12 < V2.heap.size ∧ w.heap.size ≤ V2.heap.size from ⟨HM2.out.obj.lt, HM2.out.row.lt, H11V2.out.lt, H12V2.out.lt, HK2.out.size⟩)
    clear hRKp hRest hM2 hK2 hOb HRK HM1 HKR HK1 H11V H12V HKV hwu
    go_wp2_with fail
    go_loopw [22] (fun iv wr => ∃ j ac2 : Nat, iv = .int .i64 (j : Int) ∧ j ≤ nk ∧ Mem wr b g l3 ac2 ∧ ac2 ≤ ac + j * 3000 ∧ Kept (fun k => k = b ∨ k = g ∨ V2.heap.size ≤ k) V2 wr) (fun iv _ => nk - (intOf iv).toNat)
    case atStart => exact ⟨0, ac, rfl, Nat.zero_le _, HM2.out, Nat.le_refl _, Kept.refl _ _⟩
    case round =>
     rename World => V3
     obtain ⟨j, ac2, rfl, hj, hM, hac, hKr⟩ := hrel
     have HM3 := Hd hM
     have HK3 := Hd hKr
     have HAC := Hd (show ac2 ≤ ac + j * 3000 from hac)
     clear hM hac hKr
     by_cases hjn : j < nk
     ·have hjI : (j : Int) < (nk : Int) := by omega
      go_upto_region 39 with fail
      obtain ⟨gk, offk, rfl, hgk, hkc⟩ := HKR2.out (by rw [HNK.out]; omega)
      obtain ⟨key, hkey⟩ : ∃ key, ks[j]? = some key := ⟨_, List.getElem?_eq_getElem (by rw [HNK.out]; exact hjn)⟩
      have hab := HAL2.out _ rfl
      have hkc3 : V3.cell? ⟨gk, offk + j, none⟩ = some (.string key) := (HK3.out.cell (p := ⟨gk, offk + j, none⟩) hgk (fun h => by rcases h with h | h | h; exact hab.1 h; exact hab.2 h; exact absurd hgk (by show ¬ gk < _; have h2 : V2.heap.size ≤ gk := h; omega))).trans (hkc j key hkey)
      have hgk3 : gk < V3.heap.size := Nat.lt_of_lt_of_le hgk HK3.out.size
      obtain ⟨t, P, hat, htm, hslot⟩ := HRKP.out.found hkey
      obtain ⟨D, hD, hpath⟩ := HRKP.out.s.way h6 key hat
      obtain ⟨lo9, hpg9⟩ := HRKP.out.s.page htm
      have HSL := Hd (slot_stands hpg9.asc hslot)
      have HPL := Hd (show P.xs.length ≤ 6 from by have h1 : P.xs.length ≤ F := hpg9.len; omega)
      have HND9 := Hd (HRKP.out.s.nd htm)
      have HT0 := Hd (show t ≠ 0 from by have h1 : 1 ≤ t := (HRKP.out.s.num _ htm).1; omega)
      have HFW0 := Hd (FWs.root HRKP.out.s.c0 hpath)
      have HD9 := Hd (show D ≤ 1111 from hD)
      have H123 := Hd (HK3.out.blk H12V2.out (fun h => by have h1 := HR.out; have h2 := HB2.out; rcases h with h | h | h <;> omega))
      have HAB := Hd (show gk < V3.heap.size ∧ gk ≠ b ∧ gk ≠ g from ⟨hgk3, hab.1, hab.2⟩)
      have HKC := Hd hkc3
      clear hkc hkey hab hat htm hslot hD hpath hpg9 hgk
      refine wp_region_held_drew (S := (fun w' => Kept (fun _ => False) V3 w')) (by kernel_rfl) ?_ (fun hHeld => ?_)
      ·exact (Kept.refl _ _).drew
      have HW := Hd ((Kept.refl (fun _ => False) V3).drew)
      generalize V3.drew = G at *
      refine tkH 0 165 ?_ rfl ?_ hHeld ?_
      rotate_left
      ·(intro wq hSw; have hb9 := hSw.blk H123.out (fun h => h); obtain ⟨x0, x1, x2, x3, x4, x5, x6, x7, x8, x9⟩ := hb9.c10; clear hb9; have z1 := (hSw.cell (p := ⟨gk, offk + j, none⟩) hgk3 (fun h => h)).trans hkc3; go_simp; try with_reducible rfl)
      try simp only [aP,aA,aZ,aS]
      refine tkH 1 166 ?_ rfl ?_ hHeld ?_
      rotate_left
      ·(intro wq hSw; go_simp; try with_reducible rfl)
      try simp only [aP,aA,aZ,aS]
      refine tkH 2 167 ?_ rfl ?_ hHeld ?_
      rotate_left
      ·(intro wq hSw; go_simp; try with_reducible rfl)
      try simp only [aP,aA,aZ,aS]
      refine tkH 3 168 ?_ rfl ?_ hHeld ?_
      rotate_left
      ·(intro wq hSw; go_simp; try with_reducible rfl)
      try simp only [aP,aA,aZ,aS]
      refine tkH 4 169 ?_ rfl ?_ hHeld ?_
      rotate_left
      ·(intro wq hSw; have hb9 := hSw.blk H123.out (fun h => h); obtain ⟨x0, x1, x2, x3, x4, x5, x6, x7, x8, x9⟩ := hb9.c10; clear hb9; have z1 := (hSw.cell (p := ⟨gk, offk + j, none⟩) hgk3 (fun h => h)).trans hkc3; go_simp; try with_reducible rfl)
      try simp only [aP,aA,aZ,aS]
      refine wpAnyH_ready (rs := [5]) (by kernel_rfl) (by simp) ?_
      refine AllReadyH.cons (o := ⟨some 170, _, _, _, _, _⟩) rfl (fun KK hK => ?_) AllReadyH.nil
      go_simp
      go_at_call 24
      refine (newFind_any F fb fd key 0 _).mono ?_; rintro e V4 ⟨x, rfl, hx9, hb9, hK9⟩
      have HXB := Hd hb9
      have HXG := Hd (show V3.heap.size ≤ x from Nat.le_trans HW.out.size hx9)
      replace HW := Hd (HW.out.trans hK9 (fun _ _ h => h))
      clear hx9 hb9 hK9
      refine hK.out _ _ ?_ (fun hHeld2 => ?_)
      ·exact HW.out
      clear hK KK hHeld
      have hHeld := hHeld2
      clear hHeld2
      try simp only [aP,aA,aZ,aS]
      refine tkH 6 23 ?_ rfl ?_ hHeld ?_
      rotate_left
      ·(intro wq hSw; go_simp; try with_reducible rfl)
      try simp only [aP,aA,aZ,aS]
      refine wpAnyH_done (by kernel_rfl) ?_ _
      clear hHeld
      have HFA0 := Hd (show FAt (fun _ => False) V4 F fb fd x key 0 .root from .root (fun _ h => h.elim) (fun h => h) HXB.out)
      have HM4 := Hd (HM3.out.kept HW.out (fun h => h) (fun h => h))
      have HW4 := Hd HW.out
      have HXL := Hd (show x < V4.heap.size from HXB.out.lt)
      have HB3 := Hd (show b < V3.heap.size ∧ g < V3.heap.size from ⟨HM3.out.obj.lt, HM3.out.row.lt⟩)
      clear HW HXB hkc3 hgk3
      try clear hHeld
      go_wp2_with fail
      go_loopw [24] (fun nv wr => ∃ (z d : Nat) (fs : Fs) (Z : Nat → Prop), nv = .int .i64 (z : Int) ∧ z + d ≤ 1200 ∧ FWs F key 0 l3 (d + 1) t fs ∧ FAt Z wr F fb fd x key 0 fs ∧ Mem wr b g l3 (ac2 + z) ∧ (∀ q, q = x ∨ Z q → V3.heap.size ≤ q ∧ q < wr.heap.size) ∧ Kept (fun q => q = b ∨ q = g ∨ V3.heap.size ≤ q) V3 wr) (fun nv _ => 5000 - (intOf nv).toNat)
      case atStart => exact ⟨0, D, _, _, rfl, by have := HD9.out; omega, HFW0.out, HFA0.out, HM4.out, fun q hq => by have h1 := HXG.out; have h2 := HXL.out; rcases hq with h | h; omega; exact h.elim, HW4.out.mono (fun _ h => h.elim)⟩
      case round =>
       rename World => V5
       obtain ⟨z, d, fs, Z, rfl, hzd, hf, hA, hM, hZ, hKr⟩ := hrel
       obtain ⟨hok, hf2, hfin⟩ := FWs.step HRKP.out.s.nats hf
       obtain ⟨z1, hz1⟩ : ∃ z1, z + 1 = z1 := ⟨_, rfl⟩
       have hwz : IntKind.i64.wrap ((z : Int) + 1) = (z1 : Int) := by rw [IntKind.wrap_i64]; omega
       have hz5 : (z : Int) < 5000 := by omega
       have HST := Hd (find_go F h4 h6 fb fd HD.out Z x key 0 fs V5 b g l3 (ac2 + z) hM (by have h1 := HKI.out; have h2 := HAC.out; omega) (fun h => by have h1 := (hZ b (.inr h)).1; have h2 := HB3.out; omega) (fun h => by have h1 := (hZ g (.inr h)).1; have h2 := HB3.out; omega) (fun h => by have h1 := (hZ x (.inl rfl)).1; have h2 := HB3.out; omega) (fun h => by have h1 := (hZ x (.inl rfl)).1; have h2 := HB3.out; omega) HRKP.out.s.nats hok hA)
       have HF := Hd hf
       have HF2 := Hd hf2
       have HFIN := Hd hfin
       have HZD := Hd hzd
       have HZ1 := Hd hz1
       have HZr := Hd hZ
       have HKr := Hd hKr
       clear hzd hok hf hf2 hfin hA hM hZ hKr hz1 HFW0 HFA0 HM4 HW4
       go_wp2_with fail
       refine HST.out.mono ?_; rintro e V6 ⟨rfl, hM6, Z6, hA6, hK6, hZ6⟩
       have HM6 := Hd (show Mem V6 b g l3 (ac2 + z1) from by have h1 := HZ1.out; rw [← h1]; exact hM6)
       have HA6 := Hd hA6
       have hlt6 := hA6.lt
       have hx6 := (hA6.out).2
       have HZ6 := Hd (show ∀ q, q = x ∨ Z6 q → V3.heap.size ≤ q ∧ q < V6.heap.size from fun q hq => by
        rcases hq with h | h
        ·have h1 := (HZr.out x (.inl rfl)).1; omega
        ·refine ⟨?_, hlt6 q h⟩
         rcases hZ6 q h with h2 | h2
         ·exact (HZr.out q (.inr h2)).1
         ·have h1 := HKr.out.size; omega)
       have HK6 := Hd (show Kept (fun q => q = b ∨ q = g ∨ V3.heap.size ≤ q) V3 V6 from HKr.out.trans hK6 (fun q hq h => by
        rcases h with h | h | h | h
        ·exact .inr (.inr (by have h1 := (HZr.out x (.inl rfl)).1; omega))
        ·exact .inr (.inr (HZr.out q (.inr h)).1)
        ·exact .inl h
        ·exact .inr (.inl h)))
       clear hM6 hA6 hK6 hZ6 hlt6 hx6 HST HZr HKr
       rw [HFIN.out]
       by_cases hd0 : d = 0
       ·subst hd0
        rw [show ((0 : Nat) == 0) = true from rfl]
        obtain ⟨wd9, P9, he9, hnd9⟩ := FWs.arrive HRKP.out.s.nats HF.out HT0.out
        obtain rfl : P9 = P := holds_inj hnd9.holds HND9.out.holds hnd9.wf HND9.out.wf
        have hA7 := HA6.out
        rw [he9] at hA7
        have HFP := Hd (find_pageR F h6 fb fd _ x key 0 t wd9 P9 (by have := HPL.out; omega) V6 hA7)
        have HZ9 := Hd (show z1 ≤ 1201 from by have h1 := HZD.out; have h2 := HZ1.out; omega)
        clear he9 hnd9 hA7 HA6 HF HF2 HFIN HZD hwz hz5
        go_upto_region 43 with fail
        go_wp2_with fail
        refine HFP.out.mono ?_; rintro e W7 ⟨A7, c7, rfl, hR7, hA7, hK7⟩
        have HR7 := Hd hR7
        have HM7 := Hd (HM6.out.kept hK7 (fun h => h) (fun h => h))
        have HK7 := Hd (HK6.out.trans hK7 (fun _ _ h => h.elim))
        clear hR7 hA7 hK7 HFP
        go_upto_region 44 with fail
        have hal := (Kept.refl (fun _ => False) W7).alloc (.cells #[.int .i64 (P9.lv : Int), .slice A7 P9.xs.length c7, .string P9.hi, .bool P9.la, .int .u64 (P9.rt : Int)] 38)
        have HPB := Hd (Blk.new W7 [.int .i64 (P9.lv : Int), .slice A7 P9.xs.length c7, .string P9.hi, .bool P9.la, .int .u64 (P9.rt : Int)] 38)
        replace HR7 := Hd (HR7.out.keptF hal (fun _ _ h => h))
        replace HM7 := Hd (HM7.out.kept hal (fun h => h) (fun h => h))
        replace HK7 := Hd (HK7.out.trans hal (fun _ _ h => h.elim))
        clear hal
        generalize W7.heap.size = rp at *
        generalize W7.alloc (.cells #[.int .i64 (P9.lv : Int), .slice A7 P9.xs.length c7, .string P9.hi, .bool P9.la, .int .u64 (P9.rt : Int)] 38) = V7 at *
        have hkc7 : V7.cell? ⟨gk, offk + j, none⟩ = some (.string key) := (HK7.out.cell (p := ⟨gk, offk + j, none⟩) HAB.out.1 (fun h => by have h1 := HAB.out; rcases h with h | h | h; exact h1.2.1 h; exact h1.2.2 h; have h2 : V3.heap.size ≤ gk := h; omega)).trans HKC.out
        have hgk7 : gk < V7.heap.size := Nat.lt_of_lt_of_le HAB.out.1 HK7.out.size
        refine wp_region_held_drew (S := (fun w' => Kept (fun _ => False) V7 w')) (by kernel_rfl) ?_ (fun hHeld => ?_)
        ·exact (Kept.refl _ _).drew
        have HW := Hd ((Kept.refl (fun _ => False) V7).drew)
        generalize V7.drew = G at *
        refine tkH 0 187 ?_ rfl ?_ hHeld ?_
        rotate_left
        ·(intro wq hSw; have hb9 := hSw.blk HPB.out (fun h => h); obtain ⟨x0, x1, x2, x3, x4⟩ := hb9.c5; clear hb9; have z1 := (hSw.cell (p := ⟨gk, offk + j, none⟩) hgk7 (fun h => h)).trans hkc7; go_simp; try with_reducible rfl)
        try simp only [aP,aA,aZ,aS]
        refine tkH 1 188 ?_ rfl ?_ hHeld ?_
        rotate_left
        ·(intro wq hSw; go_simp; try with_reducible rfl)
        try simp only [aP,aA,aZ,aS]
        refine tkH 2 189 ?_ rfl ?_ hHeld ?_
        rotate_left
        ·(intro wq hSw; go_simp; try with_reducible rfl)
        try simp only [aP,aA,aZ,aS]
        refine tkH 3 190 ?_ rfl ?_ hHeld ?_
        rotate_left
        ·(intro wq hSw; go_simp; try with_reducible rfl)
        try simp only [aP,aA,aZ,aS]
        refine tkH 4 191 ?_ rfl ?_ hHeld ?_
        rotate_left
        ·(intro wq hSw; have hb9 := hSw.blk HPB.out (fun h => h); obtain ⟨x0, x1, x2, x3, x4⟩ := hb9.c5; clear hb9; have z1 := (hSw.cell (p := ⟨gk, offk + j, none⟩) hgk7 (fun h => h)).trans hkc7; go_simp; try with_reducible rfl)
        try simp only [aP,aA,aZ,aS]
        refine wpAnyH_ready (rs := [5]) (by kernel_rfl) (by simp) ?_
        refine AllReadyH.cons (o := ⟨some 192, _, _, _, _, _⟩) rfl (fun KK hK => ?_) AllReadyH.nil
        go_simp
        go_at_call 14
        refine (refFind_any (P9.lv : Int) A7 c7 P9.hi P9.la P9.rt P9.xs key _ P9.xs.length rfl (by have := HPL.out; omega) (HR7.out.keptF HW.out (fun _ _ h => h))).mono ?_; rintro e V8 ⟨rfl, hB9⟩
        have hK9 := Below.kept hB9 (S := fun _ => False) (fun i hi h => by omega)
        replace HW := Hd (HW.out.trans hK9 (fun _ _ h => h))
        clear hB9 hK9
        refine hK.out _ _ ?_ (fun hHeld2 => ?_)
        ·exact HW.out
        clear hK KK hHeld
        have hHeld := hHeld2
        clear hHeld2
        try simp only [aP,aA,aZ,aS]
        refine tkH 6 186 ?_ rfl ?_ hHeld ?_
        rotate_left
        ·(intro wq hSw; go_simp; try with_reducible rfl)
        try simp only [aP,aA,aZ,aS]
        refine tkH 7 193 ?_ rfl ?_ hHeld ?_
        rotate_left
        ·(intro wq hSw; go_simp; try with_reducible rfl)
        try simp only [aP,aA,aZ,aS]
        refine tkH 8 194 ?_ rfl ?_ hHeld ?_
        rotate_left
        ·(intro wq hSw; go_simp; try with_reducible rfl)
        try simp only [aP,aA,aZ,aS]
        refine tkH 9 27 ?_ rfl ?_ hHeld ?_
        rotate_left
        ·(intro wq hSw; go_simp; try with_reducible rfl)
        try simp only [aP,aA,aZ,aS]
        refine tkH 10 28 ?_ rfl ?_ hHeld ?_
        rotate_left
        ·(intro wq hSw; go_simp; try with_reducible rfl)
        try simp only [aP,aA,aZ,aS]
        refine wpAnyH_done (by kernel_rfl) ?_ _
        clear hHeld
        have HM9 := Hd (HM7.out.kept HW.out (fun h => h) (fun h => h))
        have HK9 := Hd (HK7.out.trans HW.out (fun _ _ h => h.elim))
        obtain ⟨hs9, hh9⟩ := HSL.out
        have hR9 := HR7.out.keptF HW.out (fun _ _ h => h)
        have hpb := HW.out.blk HPB.out (fun h => h)
        obtain ⟨gs, offs, rfl, hgs, hcs⟩ := hR9.at (by have := (List.getElem?_eq_some_iff.1 hs9).1; omega)
        obtain ⟨s0, s1⟩ := hcs _ _ hs9
        have hcl := (List.getElem?_eq_some_iff.1 hs9).1
        rw [hh9]
        obtain ⟨cn, hcn⟩ : ∃ cn, cnt key P9.xs = cn := ⟨_, rfl⟩
        rw [hcn] at s0 s1 hcl ⊢
        obtain ⟨jn, hjn1⟩ : ∃ jn, j + 1 = jn := ⟨_, rfl⟩
        have hwj : IntKind.i64.wrap ((j : Int) + 1) = (jn : Int) := by rw [IntKind.wrap_i64]; have := HNK.out; have := HKI.out; omega
        have hwu : IntKind.u64.wrap (jn : Int) = (jn : Int) := by rw [IntKind.wrap_u64]; have := HNK.out; have := HKI.out; omega
        have hjj : ((jn : Int) != (jn : Int)) = false := by simp
        have hs1b : ∀ (v : Value), v = .int .u64 ((j + 1 : Nat) : Int) → v = .int .u64 (jn : Int) := fun v h => by rw [h, hjn1]
        simp only at s1
        rw [hjn1] at s1
        have HJN := Hd hjn1
        have x0 := hpb.k 0 rfl
        have x1 := hpb.k 1 rfl
        clear hs9 hh9 hR9 hcs hpb hcn hjn1 hs1b hkc7 hgk7 HW hjI
        try clear hHeld
        go_wp2
        go_roundw
        case rel => exact ⟨jn, ac2 + z1, rfl, by have := HJN.out; omega, HM9.out, by have h1 := HAC.out; have h2 := HZ9.out; have h3 := HJN.out; omega, HK3.out.trans HK9.out (fun q hq h => by have h1 := HK3.out.size; rcases h with h | h | h; exact .inl h; exact .inr (.inl h); exact .inr (.inr (by omega)))⟩
        case measure => have h1 := HJN.out; simp [intOf]; omega
       ·obtain ⟨d1, rfl⟩ : ∃ d1, d = d1 + 1 := ⟨d - 1, by omega⟩
        rw [show (d1 + 1 == 0) = false from by simp]
        go_wp2
        go_roundw
        case rel => exact ⟨z1, d1, _, _, rfl, by have h1 := HZD.out; have h2 := HZ1.out; omega, HF2.out, HA6.out, HM6.out, HZ6.out, HK6.out⟩
        case measure => have h2 := HZ1.out; simp [intOf]; omega
     ·have hjI : ¬ (j : Int) < (nk : Int) := by omega
      obtain rfl : j = nk := by omega
      clear hjI hjn hj
      have hnl3 : l3.length = nl := HRKP.out.s.len
      have HNL3 := Hd hnl3
      have H113 := Hd (HK3.out.blk H11V2.out (fun h => by have h1 := HR.out; have h2 := HB2.out; rcases h with h | h | h <;> omega))
      have HK13 := Hd (show Kept (fun i => w.heap.size ≤ i) w V3 from HK2.out.trans HK3.out (fun k hk h => by have h1 := HR.out; have h2 := HB2.out; rcases h with h | h | h <;> omega))
      clear hnl3
      go_upto_region 47 with fail
      have h11 := H113.out
      obtain ⟨y0, y1, y2, y3, y4, y5, y6⟩ := h11.c7
      clear h11
      go_wp2_with fail
      refine (view_any F b g l3 ac2 nl HNL3.out (by omega) _ HM3.out).mono ?_; rintro e V4 ⟨gv, rfl, hBv, hgv, hKv⟩
      have HBV := Hd hBv
      replace HK13 := Hd (HK13.out.trans hKv (fun _ _ h => h.elim))
      clear hBv hgv hKv y0 y1 y2 y3 y4 y5 y6
      go_upto_region 48 with fail
      have hal := (Kept.refl (fun _ => False) V4).alloc (.cells #[.int .i64 1, .int .i64 2, .int .i64 100, .int .i64 100, .int .i64 200, .int .i64 (F : Int), .int .u64 1000, .slice (some ⟨gv, 0, none⟩) nl nl] 63)
      have HVX := Hd (Blk.new V4 [.int .i64 1, .int .i64 2, .int .i64 100, .int .i64 100, .int .i64 200, .int .i64 (F : Int), .int .u64 1000, .slice (some ⟨gv, 0, none⟩) nl nl] 63)
      replace HBV := Hd (hal.blk HBV.out (fun h => h))
      replace HK13 := Hd (HK13.out.trans hal (fun _ _ h => h.elim))
      clear hal
      generalize V4.heap.size = rv at *
      generalize V4.alloc (.cells #[.int .i64 1, .int .i64 2, .int .i64 100, .int .i64 100, .int .i64 200, .int .i64 (F : Int), .int .u64 1000, .slice (some ⟨gv, 0, none⟩) nl nl] 63) = V5 at *
      have hvx := HVX.out
      obtain ⟨v0, v1, v2, v3, v4, v5, v6, v7⟩ := hvx.c8
      clear hvx
      go_wp2_with fail
      refine (vsound_allG F h4 h6 gv nl l3 HNL3.out 1 kk (fun _ => nRw R) (fun _ => R.length) (fun _ => loRw ⟨#[]⟩ R) (fun _ => pRw R) HRKP.out.s.tree (ksRw R) (rRw R) (offRw R) HRKP.out.s.row.leaves HRKP.out.refs (fun L' hL' i hi => HRKP.out.s.lat _ (atI_mem hi)) (fun L' hL' i hi => (HRKP.out.s.row.ith i hi).1.high) (by rw [HRKP.out.klen, HNK.out]; exact HREST.out) (by rw [HRKP.out.klen, HNK.out]; omega) _ HBV.out).mono ?_; rintro e V6 ⟨rfl, hK6⟩
      replace HVX := Hd (hK6.blk HVX.out (fun h => h))
      replace HBV := Hd (hK6.blk HBV.out (fun h => h))
      replace HK13 := Hd (HK13.out.trans hK6 (fun _ _ h => h.elim))
      clear hK6 v0 v1 v2 v3 v4 v5 v6 v7
      have hvx := HVX.out
      obtain ⟨v0, v1, v2, v3, v4, v5, v6, v7⟩ := hvx.c8
      clear hvx
      go_wp2_with fail
      refine (vkeys_anyG F h4 h6 gv nl l3 HNL3.out 1 kk (fun _ => nRw R) (fun _ => R.length) (fun _ => loRw ⟨#[]⟩ R) (fun _ => pRw R) HRKP.out.s.tree (by omega) (ksRw R) (rRw R) (offRw R) HRKP.out.s.row.leaves (by rw [HRKP.out.klen, HNK.out]; omega) _ HBV.out).mono ?_; rintro e V7 ⟨A9, c9, rfl, -, hK7⟩
      rw [HRKP.out.klen, HNK.out]
      replace HVX := Hd (hK7.blk HVX.out (fun h => h))
      replace HBV := Hd (hK7.blk HBV.out (fun h => h))
      replace HK13 := Hd (HK13.out.trans hK7 (fun _ _ h => h.elim))
      clear hK7 v0 v1 v2 v3 v4 v5 v6 v7
      have hvx := HVX.out
      obtain ⟨v0, v1, v2, v3, v4, v5, v6, v7⟩ := hvx.c8
      clear hvx
      have hrl : 0 < R.length := HRKP.out.s.tree.one
      have HND := Hd (show Nd F l3 1 (pRw R 0) from by have h1 := HRKP.out.s.nd (atI_mem hrl); have h2 := HRKP.out.s.fst; rw [← h2]; exact h1)
      have hlv : (pRw R 0).lv = 0 := (HRKP.out.s.row.ith 0 hrl).1.lv
      have hHe : ((pRw R 0).lv : Int) + 1 = 1 := by omega
      clear hrl
      go_wp2_with fail
      refine (height_any F h4 h6 gv nl l3 HNL3.out 1 0 ⟨#[]⟩ (by omega) (by omega) (pRw R 0) HND.out.holds HND.out.wf HND.out.len (by omega) _ HBV.out HRKP.out.s.c0).mono ?_; rintro e V8 ⟨rfl, hK8⟩
      rw [hHe]
      clear hHe hlv v0 v1 v2 v3 v4 v5 v6 v7
      go_wp2
      go_ret
      exact ⟨rfl, (HK13.out.trans hK8 (fun _ _ h => h.elim)).below (Nat.le_refl _) (fun _ h => h)⟩

end Go.Proofs.YtjnodgebpklaoaaGreat
