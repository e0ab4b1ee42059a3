/-
  The laws' sanity check ('awake') returns true. Condition: none.
-/
import Derived.Test.YtkpbbnpfdighjaaGreatLkPath
import Derived.Test.YtkpbbnpfdighjaaGreatLkTreeL
namespace Go.Proofs.YtkpbbnpfdighjaaGreat
open Go.RowKit Go.Deep Plain
set_option linter.unusedVariables false

theorem hfieldI (i : Int) (wd lv : Int) (A : Option Addr) (n c : Nat) (hi : ByteArray) (la : Bool) (rt : Int) (w : World) : (Instr.field 56 (.agg #[.int .u64 i, .int .u64 wd, .int .i64 lv, .slice A n c, .string hi, .bool la, .int .u64 rt]) 0).run Tryz.prog w = .ok (.int .u64 i) w := by kernel_rfl
set_option maxRecDepth 100000 in
set_option maxHeartbeats 4000000 in
theorem awake_any (w : World) :
    Calls Tryz.prog 9 #[] w fun e w' => e = .returned (.bool true) ∧ Kept (fun _ => False) w w' := by
  go_enter Tryz.func9, Tryz.ntmps9
  go_wp2_with fail
  refine (kitConfig_any 1 0 4 (by rfl) _).mono ?_; rintro e w1 ⟨rfl, hK1⟩
  go_wp2_with fail
  refine (kitMem2 4 (by omega) (by omega) _).mono ?_
  rintro e w2 ⟨b, g, l, fb, fd, rfl, hM2, hS2, hr2, hd, hb2, hg2, hK2⟩
  have hz := hK1.size
  have HM := Lib.hid hM2
  have HS := Lib.hid hS2
  have HRT := Lib.hid hr2
  have HD := Lib.hid hd
  have HBG := Lib.hid (show w.heap.size ≤ b ∧ w.heap.size ≤ g ∧ b < w2.heap.size ∧ g < w2.heap.size from ⟨by omega, by omega, hM2.obj.lt, hM2.row.lt⟩)
  have HK := Lib.hid (hK1.trans hK2 (fun _ _ h => h))
  clear hM2 hS2 hr2 hd hb2 hg2 hz hK1 hK2
  go_upto_region 4 with fail
  have hal := (Kept.refl (fun _ => False) w2).alloc (.cells #[.int .i64 1, .int .i64 2, .int .i64 100, .int .i64 100, .int .i64 200, .int .i64 4, .int .u64 1000, .int .i64 10, .int .i64 fb, .int .i64 fd] 29)
  have HM3 := Lib.hid (HM.out.kept hal (fun h => h) (fun h => h))
  have HK3 := Lib.hid (HK.out.trans hal (fun _ _ h => h))
  have HSZ := Lib.hid hal.size
  have HL := Lib.hid (Blk.new w2 [.int .i64 1, .int .i64 2, .int .i64 100, .int .i64 100, .int .i64 200, .int .i64 4, .int .u64 1000, .int .i64 10, .int .i64 fb, .int .i64 fd] 29)
  clear hal HM HK
  generalize w2.alloc (.cells #[.int .i64 1, .int .i64 2, .int .i64 100, .int .i64 100, .int .i64 200, .int .i64 4, .int .u64 1000, .int .i64 10, .int .i64 fb, .int .i64 fd] 29) = W at *
  generalize w2.heap.size = r1 at *
  have HR1 := Lib.hid (show w.heap.size ≤ r1 ∧ r1 ≠ b ∧ r1 ≠ g ∧ r1 < W.heap.size by have := HBG.out; have := HL.out.lt; omega)
  go_cut [3, 4] from 14 to 17 (fun va vb wx => ∃ (xa xb : Nat) (Za Zb : Nat → Prop), va = .pointer (some ⟨xa, 0, none⟩) ∧ vb = .pointer (some ⟨xb, 0, none⟩) ∧ LAt Za wx 4 fb fd xa ⟨#[107]⟩ 0 (.fnd .root) ∧ LAt Zb wx 4 fb fd xb ⟨#[107]⟩ 0 (.fnd .root) ∧ (∀ i, Za i → W.heap.size ≤ i ∧ i < wx.heap.size ∧ ¬ Zb i) ∧ (∀ i, Zb i → W.heap.size ≤ i ∧ i < wx.heap.size) ∧ Kept (fun _ => False) W wx)
  case first =>
    refine wp_region_held_drew (S := (fun w' => Kept (fun _ => False) W w')) (by kernel_rfl) ?_ (fun hHeld => ?_)
    · exact (Kept.refl _ _).drew
    have HW := Lib.hid ((Kept.refl (fun _ => False) W).drew)
    generalize W.drew = G at *
    refine wpAnyH_take (i := 0) (oi := ⟨some 14, _, _, _, _, _⟩) (v := ?_) rfl (by kernel_rfl) (by kernel_rfl) (by kernel_rfl) (fun _ _ _ h => h) (Or.inl ⟨by rfl, ?_⟩) hHeld ?_
    rotate_left
    · (intro wq hSw; have hb9 := hSw.blk HL.out (fun h => h); have x0 := hb9.cell (i := 0) rfl; have x1 := hb9.cell (i := 1) rfl; have x2 := hb9.cell (i := 2) rfl; have x3 := hb9.cell (i := 3) rfl; have x4 := hb9.cell (i := 4) rfl; have x5 := hb9.cell (i := 5) rfl; have x6 := hb9.cell (i := 6) rfl; have x7 := hb9.cell (i := 7) rfl; have x8 := hb9.cell (i := 8) rfl; have x9 := hb9.cell (i := 9) rfl; clear hb9; go_simp; try with_reducible rfl)
    try simp only [Act.put, List.setIfInBounds_toArray, List.set_cons_zero, List.set_cons_succ]
    refine wpAnyH_take (i := 2) (oi := ⟨some 16, _, _, _, _, _⟩) (v := ?_) rfl (by kernel_rfl) (by kernel_rfl) (by kernel_rfl) (fun _ _ _ h => h) (Or.inl ⟨by rfl, ?_⟩) hHeld ?_
    rotate_left
    · (intro wq hSw; have hb9 := hSw.blk HL.out (fun h => h); have x0 := hb9.cell (i := 0) rfl; have x1 := hb9.cell (i := 1) rfl; have x2 := hb9.cell (i := 2) rfl; have x3 := hb9.cell (i := 3) rfl; have x4 := hb9.cell (i := 4) rfl; have x5 := hb9.cell (i := 5) rfl; have x6 := hb9.cell (i := 6) rfl; have x7 := hb9.cell (i := 7) rfl; have x8 := hb9.cell (i := 8) rfl; have x9 := hb9.cell (i := 9) rfl; clear hb9; go_simp; try with_reducible rfl)
    try simp only [Act.put, List.setIfInBounds_toArray, List.set_cons_zero, List.set_cons_succ]
    refine wpAnyH_ready (rs := [1]) (by kernel_rfl) (by simp) ?_
    refine AllReadyH.cons (o := ⟨some 15, _, _, _, _, _⟩) rfl (fun KK hK => ?_) (AllReadyH.nil)
    go_simp
    go_at_call 16
    refine (newLock_at 4 fb fd ⟨#[107]⟩ 0 _).mono ?_; rintro e Ga ⟨xa, Za, rfl, hAa, hZa, hKa⟩
    have HAa := Lib.hid hAa
    have HZa := Lib.hid hZa
    have HSZa := Lib.hid HW.out.size
    replace HW := Lib.hid (HW.out.trans hKa (fun _ _ h => h))
    clear hAa hZa hKa
    refine hK.out _ _ ?_ (fun hHeld2 => ?_)
    · exact HW.out
    clear hK KK hHeld
    have hHeld := hHeld2
    clear hHeld2
    try simp only [Act.put, List.setIfInBounds_toArray, List.set_cons_zero, List.set_cons_succ]
    refine wpAnyH_ready (rs := [3]) (by kernel_rfl) (by simp) ?_
    refine AllReadyH.cons (o := ⟨some 17, _, _, _, _, _⟩) rfl (fun KK hK => ?_) (AllReadyH.nil)
    go_simp
    go_at_call 16
    refine (newLock_at 4 fb fd ⟨#[107]⟩ 0 _).mono ?_; rintro e Gb ⟨xb, Zb, rfl, hAb, hZb, hKb⟩
    have HAb := Lib.hid hAb
    have HZb := Lib.hid hZb
    replace HAa := Lib.hid (HAa.out.kept hKb (fun _ _ h => h))
    have HKq := Lib.hid hKb
    have HSZb := Lib.hid HW.out.size
    replace HW := Lib.hid (HW.out.trans hKb (fun _ _ h => h))
    clear hAb hZb hKb
    refine hK.out _ _ ?_ (fun hHeld2 => ?_)
    · exact HW.out
    clear hK KK hHeld
    have hHeld := hHeld2
    clear hHeld2
    try simp only [Act.put, List.setIfInBounds_toArray, List.set_cons_zero, List.set_cons_succ]
    refine wpAnyH_take (i := 4) (oi := ⟨some 3, _, _, _, _, _⟩) (v := ?_) rfl (by kernel_rfl) (by kernel_rfl) (by kernel_rfl) (fun _ _ _ h => h) (Or.inl ⟨by rfl, ?_⟩) hHeld ?_
    rotate_left
    · (intro wq hSw; go_simp; try with_reducible rfl)
    try simp only [Act.put, List.setIfInBounds_toArray, List.set_cons_zero, List.set_cons_succ]
    refine wpAnyH_take (i := 5) (oi := ⟨some 4, _, _, _, _, _⟩) (v := ?_) rfl (by kernel_rfl) (by kernel_rfl) (by kernel_rfl) (fun _ _ _ h => h) (Or.inl ⟨by rfl, ?_⟩) hHeld ?_
    rotate_left
    · (intro wq hSw; go_simp; try with_reducible rfl)
    try simp only [Act.put, List.setIfInBounds_toArray, List.set_cons_zero, List.set_cons_succ]
    refine wpAnyH_done (by kernel_rfl) ?_ _
    clear hHeld
    go_wp2
    go_meet
    refine ⟨xa, xb, Za, Zb, rfl, rfl, HAa.out, HAb.out, fun i hi => ?_, fun i hi => ?_, HW.out⟩
    · have hz1 := HZa.out; have hz2 := HZb.out; have hs1 := HSZa.out; have hs2 := HSZb.out; have hs3 := HKq.out.size; have := hz1 i hi; exact ⟨by omega, by omega, fun h => by have := hz2 i h; omega⟩
    · have hz1 := HZa.out; have hz2 := HZb.out; have hs1 := HSZa.out; have hs2 := HSZb.out; have hs3 := HKq.out.size; have := hz2 i hi; exact ⟨by omega, by omega⟩
  case rest =>
    obtain ⟨xa, xb, Za, Zb, rfl, rfl, hAa, hAb, hZa, hZb, hKc⟩ := hcut
    rename World => w4
    have HM := Lib.hid (HM3.out.kept hKc (fun h => h) (fun h => h))
    have HK := Lib.hid (HK3.out.trans hKc (fun _ _ h => h))
    have HLB := Lib.hid (hKc.blk HL.out (fun h => h))
    have HS4 := Lib.hid hKc.size
    have HAa := Lib.hid hAa
    have HAb := Lib.hid hAb
    have HZa := Lib.hid hZa
    have HZb := Lib.hid hZb
    clear hAa hAb hZa hZb hKc HM3 HK3 HL
    have HBIG := Lib.hid (show 10 + 100 * ((4 : Nat) : Int) + 400 ≤ (l.length : Int) from HS.out.lo)
    have HLK0 := Lib.hid (Lks.start (F := 4) (by omega) (HS.out.latches (by omega) (by omega)) HS.out.nats)
    have hone := HS.out.one (by omega) (by omega)
    have hnd1 : Nd 4 l 1 pg0 := ⟨by omega, hone.1, ⟨0, by rw [hone.2]; rfl, by decide⟩, fun _ => rfl, by show 0 ≤ 4; omega, trivial⟩
    have HT := Lib.hid (show Tgt 4 ⟨#[107]⟩ l 1 pg0 from ⟨hnd1, by omega, by omega, rfl⟩)
    have HW0 := Lib.hid (show LW 4 ⟨#[107]⟩ 0 l 1 pg0 24 (.fnd .root) from .fnd (d := 5) (.root (D := 5) HRT.out (.here (P := pg0) (lo := ⟨#[]⟩) hnd1 rfl)) (by omega))
    have HLK24 := Lib.hid (show Lks 4 l l (fun n => decide (n = 1) && decide (24 < 17)) from by
      have e : (fun n => decide (n = 1) && decide (24 < 17)) = (fun _ : Nat => false) := by funext n; simp
      rw [e]; exact HLK0.out)
    clear hone hnd1
    go_wp2_with fail
    go_loopw [5] (fun kv wr => ∃ (k m : Nat) (s : Ls) (l' : List Cel) (Z : Nat → Prop), k + m ≤ 24 ∧ kv = .int .i64 (k : Int) ∧ s.fin = false ∧ LW 4 ⟨#[107]⟩ 0 l 1 pg0 m s ∧ Lks 4 l l' (fun n => decide (n = 1) && decide (m < 17)) ∧ LAt Z wr 4 fb fd xa ⟨#[107]⟩ 0 s ∧ Mem wr b g l' k ∧ (∀ i, Z i → w.heap.size ≤ i ∧ i ≠ b ∧ i ≠ g ∧ i ≠ r1 ∧ ¬ Zb i) ∧ (∀ i, Z i → i < wr.heap.size) ∧ Kept (fun i => w.heap.size ≤ i ∧ ¬ Zb i ∧ i ≠ r1) w4 wr) (fun kv _ => 24 - (intOf kv).toNat)
    case atStart => exact ⟨0, 24, _, l, Za, by omega, rfl, rfl, HW0.out, HLK24.out, HAa.out, HM.out, fun i hi => by have := HZa.out i hi; have := HBG.out; have := HR1.out; have := HSZ.out; exact ⟨by omega, by omega, by omega, by omega, (HZa.out i hi).2.2⟩, fun i hi => (HZa.out i hi).2.1, Kept.refl _ _⟩
    case round =>
      obtain ⟨k, m, s, l', Z, hkm, rfl, hfin, hLW, hLk, hA, hM, hZ, hZl, hKr⟩ := hrel
      have HZLT := Lib.hid hZl
      clear hZl
      have hm4 := hLW.ge.2 hfin
      have hst := hLW.alone (by omega) (by omega) HBIG.out HT.out hfin hLk
      obtain ⟨hok, m', hm', hLW', hLk'⟩ := hst
      have hk30 : (k : Int) < 30 := by omega
      have hk63 : k < 9223372036854775808 := by omega
      have HST := Lib.hid (lock_go 4 (by omega) (by omega) fb fd HD.out Z xa ⟨#[107]⟩ 0 s wr b g l' k hM hk63 (fun h => (hZ b h).2.1 rfl) (fun h => (hZ g h).2.2.1 rfl) hLk.nats hok hA)
      have HMr := Lib.hid hM
      have HZr := Lib.hid hZ
      have HKr := Lib.hid hKr
      have HLW := Lib.hid hLW'
      have HLk := Lib.hid hLk'
      have HFIN := Lib.hid hfin
      have hkm' : k + 1 + m' ≤ 24 := by omega
      clear hLW hLk hA hM hZ hKr hok hLW' hLk' hfin
      go_wp2_with fail
      refine HST.out.mono ?_; rintro e w5 ⟨rfl, hM5, hA5, hK5⟩
      rw [HFIN.out] at hM5
      have HM5 := Lib.hid (show Mem w5 b g (lmem 4 l' s) (k + 1) from hM5)
      have HA5 := Lib.hid hA5
      have hs5 := hK5.size
      have HZ5 := Lib.hid (show ∀ i, Zn Z wr w5 i → w.heap.size ≤ i ∧ i ≠ b ∧ i ≠ g ∧ i ≠ r1 ∧ ¬ Zb i from fun i hi => by
        rcases hi with h | h
        · exact HZr.out i h
        · have h1 := HKr.out.size
          have h2 := HBG.out
          have h3 := HR1.out
          have h4 := HS4.out
          have h5 := HK.out.size
          have h6 := HSZ.out
          exact ⟨by omega, by omega, by omega, by omega, fun hb => by have := HZb.out i hb; omega⟩)
      have HK5 := Lib.hid (HKr.out.trans hK5 (fun i hi h => by
        rcases h with h | h | h
        · have := HZr.out i h; exact ⟨this.1, this.2.2.2.2, this.2.2.2.1⟩
        · subst h; have h2 := HBG.out; have h3 := HR1.out; exact ⟨h2.1, fun hb => by have := HZb.out i hb; have := HSZ.out; omega, by omega⟩
        · subst h; have h2 := HBG.out; have h3 := HR1.out; exact ⟨h2.2.1, fun hb => by have := HZb.out i hb; have := HSZ.out; omega, by omega⟩))
      have hs9 := hs5
      clear hM5 hA5 hK5 HST HMr HZr HKr hs5
      cases hf : (lgo 4 ⟨#[107]⟩ 0 l' s).fin with
      | true =>
        obtain ⟨he, rfl⟩ := HLW.out.atEnd hf
        rw [he] at HA5
        have hl1 : Lks 4 l (lmem 4 l' s) (fun n => decide (n = 1)) := by
          have e : (fun n => decide (n = 1) && decide (4 < 17)) = (fun n => decide (n = 1)) := by funext n; simp
          have := HLk.out
          rwa [e] at this
        generalize lmem 4 l' s = l1 at *
        have HL1 := Lib.hid hl1
        have HAl := Lib.hid HA5.out
        have HAb5 := Lib.hid (HAb.out.kept HK5.out (fun i hi h => h.2.1 hi))
        have HZa5 := Lib.hid HZ5.out
        have HZl := Lib.hid (show ∀ i, Zn Z wr w5 i → i < w5.heap.size from fun i hi => by
          rcases hi with h | h
          · exact Nat.lt_of_lt_of_le (HZLT.out i h) hs9
          · exact h.2)
        have HLB5 := Lib.hid (HK5.out.blk HLB.out (fun h => h.2.2 rfl))
        have HS5 := Lib.hid HK5.out.size
        have HKa := Lib.hid HK5.out
        generalize Zn Z wr w5 = Z5 at *
        clear hl1 he HLk HLW HA5 HZ5 HK5 hf HFIN HAa
        go_wp2_with fail
        go_loopw [6] (fun jv wr2 => ∃ (j m2 : Nat) (s2 : Ls) (Z2 : Nat → Prop), j ≤ 30 ∧ jv = .int .i64 (j : Int) ∧ 18 ≤ m2 ∧ LW 4 ⟨#[107]⟩ 0 l 1 pg0 m2 s2 ∧ LAt Z2 wr2 4 fb fd xb ⟨#[107]⟩ 0 s2 ∧ Mem wr2 b g l1 (k + 1 + j) ∧ (∀ i, Z2 i → w.heap.size ≤ i ∧ i ≠ b ∧ i ≠ g ∧ i ≠ r1 ∧ ¬ Z5 i) ∧ Kept (fun i => w.heap.size ≤ i ∧ ¬ Z5 i ∧ i ≠ r1) w5 wr2) (fun jv _ => 30 - (intOf jv).toNat)
        case atStart => exact ⟨0, 24, _, Zb, by omega, rfl, by omega, HW0.out, HAb5.out, HM5.out, fun i hi => by have h1 := HZb.out i hi; have := HBG.out; have := HR1.out; have := HSZ.out; exact ⟨by omega, by omega, by omega, by omega, fun h => (HZa5.out i h).2.2.2.2 hi⟩, Kept.refl _ _⟩
        case round =>
          rename World => V2
          obtain ⟨j, m2, s2, Z2, hj, rfl, hm2, hLW2, hA2, hM2, hZ2, hK2⟩ := hrel
          by_cases hj30 : j < 30
          · obtain ⟨hok2, hl2, hf2, hf3, m3, -, hm3, hLW3⟩ := hLW2.waits (by omega) (by omega) HL1.out HT.out (by simp) hm2 (by omega)
            have hjI : (j : Int) < 30 := by omega
            have hk63' : k + 1 + j < 9223372036854775808 := by omega
            have HST := Lib.hid (lock_go 4 (by omega) (by omega) fb fd HD.out Z2 xb ⟨#[107]⟩ 0 s2 V2 b g l1 (k + 1 + j) hM2 hk63' (fun h => (hZ2 b h).2.1 rfl) (fun h => (hZ2 g h).2.2.1 rfl) HL1.out.nats hok2 hA2)
            have HM2 := Lib.hid hM2
            have HZ2 := Lib.hid hZ2
            have HK2 := Lib.hid hK2
            have HLW3 := Lib.hid hLW3
            have HE := Lib.hid (show lmem 4 l1 s2 = l1 ∧ s2.fin = false ∧ (lgo 4 ⟨#[107]⟩ 0 l1 s2).fin = false from ⟨hl2, hf2, hf3⟩)
            clear hok2 hl2 hf2 hf3 hLW3 hLW2 hA2 hM2 hZ2 hK2
            go_wp2_with fail
            refine HST.out.mono ?_; rintro e w6 ⟨rfl, hM6, hA6, hK6⟩
            rw [HE.out.1, HE.out.2.1] at hM6
            have HM6 := Lib.hid (show Mem w6 b g l1 (k + 1 + j + 1) from hM6)
            have HA6 := Lib.hid hA6
            have HZ6 := Lib.hid (show ∀ i, Zn Z2 V2 w6 i → w.heap.size ≤ i ∧ i ≠ b ∧ i ≠ g ∧ i ≠ r1 ∧ ¬ Z5 i from fun i hi => by
              rcases hi with h | h
              · exact HZ2.out i h
              · have h1 := HK2.out.size
                have h2 := HBG.out
                have h3 := HR1.out
                have h4 := HS4.out
                have h5 := HK.out.size
                have h6 := HSZ.out
                have h7 := HS5.out
                exact ⟨by omega, by omega, by omega, by omega, fun hb => by have := HZl.out i hb; omega⟩)
            have HK6 := Lib.hid (HK2.out.trans hK6 (fun i hi h => by
              rcases h with h | h | h
              · have := HZ2.out i h; exact ⟨this.1, this.2.2.2.2, this.2.2.2.1⟩
              · subst h; exact ⟨HBG.out.1, fun hb => (HZa5.out i hb).2.1 rfl, by have h3 := HR1.out; omega⟩
              · subst h; exact ⟨HBG.out.2.1, fun hb => (HZa5.out i hb).2.2.1 rfl, by have h3 := HR1.out; omega⟩))
            have e0 := HE.out.2.2
            clear hM6 hA6 hK6 HST HM2 HZ2 HK2
            go_wp2
            go_roundw
            case rel => exact ⟨j + 1, m3, _, _, by omega, by go_num, hm3, HLW3.out, HA6.out, HM6.out, HZ6.out, HK6.out⟩
            case measure => simp [intOf]; omega
          · have hjI : ¬ (j : Int) < 30 := by omega
            have HK2 := Lib.hid hK2
            have HAl2 := Lib.hid (HAl.out.kept hK2 (fun i hi h => h.2.1 hi))
            have HLB2 := Lib.hid (hK2.blk HLB5.out (fun h => h.2.2 rfl))
            have HM2 := Lib.hid hM2
            clear hLW2 hA2 hM2 hZ2 hK2
            have f1 := hfieldI (1 : Int)
            have f2 := field0 (1 : Int)
            go_wp2_with fail
            refine (held_lck 4 (by omega) fb fd Z5 xa ⟨#[107]⟩ 0 1 1 _ V2 HAl2.out).mono ?_; rintro e w7 ⟨A, c, rfl, -, -, hK7⟩
            have HM7 := Lib.hid (HM2.out.kept hK7 (fun h => h) (fun h => h))
            have HK7 := Lib.hid (HK2.out.trans hK7 (fun _ _ h => h.elim))
            have HLB7 := Lib.hid (hK7.blk HLB2.out (fun h => h))
            clear hK7
            unfold hval
            have hb9 := HLB7.out
            have x0 := hb9.cell (i := 0) rfl
            have x1 := hb9.cell (i := 1) rfl
            have x2 := hb9.cell (i := 2) rfl
            have x3 := hb9.cell (i := 3) rfl
            have x4 := hb9.cell (i := 4) rfl
            have x5 := hb9.cell (i := 5) rfl
            have x6 := hb9.cell (i := 6) rfl
            have x7 := hb9.cell (i := 7) rfl
            have x8 := hb9.cell (i := 8) rfl
            have x9 := hb9.cell (i := 9) rfl
            clear hb9
            go_wp2_with fail
            refine (latch_to 1 2 100 100 200 4 1000 10 fb fd (limF (F := 4) (by omega) (by omega)) HD.out 1 (nla 4 1) rfl _).mono ?_; rintro e w8 ⟨rfl, hK8⟩
            have HM8 := Lib.hid (HM7.out.kept hK8 (fun h => h) (fun h => h))
            have HK8 := Lib.hid (HK7.out.trans hK8 (fun _ _ h => h.elim))
            clear hK8 x0 x1 x2 x3 x4 x5 x6 x7 x8 x9
            have HPK := Lib.hid (peek_any b g l1 (k + 1 + j) (nla 4 1) 1 0 ⟨#[]⟩ w8 HM8.out (HL1.out.lat 1 (by omega) (by omega)))
            go_wp2_with fail
            refine HPK.out.mono ?_; rintro e w9 ⟨rfl, hK9⟩
            replace HK8 := Lib.hid (HK8.out.trans hK9 (fun _ _ h => h.elim))
            clear hK9 HPK
            go_wp2_with fail
            refine (locked_of 1 true (by omega) rfl _).mono ?_; rintro e w10 ⟨rfl, rfl⟩
            go_wp2
            go_ret
            refine ⟨rfl, ?_⟩
            have h5 := (HKa.out.mono (T := fun i => w.heap.size ≤ i) (fun _ h => h.1)).trans (HK8.out.mono (T := fun i => w.heap.size ≤ i) (fun _ h => h.1)) (fun _ _ h => h)
            have hKz := (HK.out.mono (T := fun i => w.heap.size ≤ i) (fun _ h => h.elim)).trans h5 (fun _ _ h => h)
            exact ⟨hKz.os, hKz.tape, hKz.output, hKz.size, fun i hi _ => hKz.block i hi (by omega)⟩
      | false =>
        have e0 := hf
        go_wp2
        go_roundw
        case rel => exact ⟨k + 1, m', _, _, _, by omega, by go_num, hf, HLW.out, HLk.out, HA5.out, HM5.out, HZ5.out, fun i hi => hi.elim (fun h => Nat.lt_of_lt_of_le (HZLT.out i h) hs9) (fun h => h.2), HK5.out⟩
        case measure => simp [intOf]; omega

end Go.Proofs.YtkpbbnpfdighjaaGreat
