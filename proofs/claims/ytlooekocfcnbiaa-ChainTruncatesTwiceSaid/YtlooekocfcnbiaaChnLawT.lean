/-
  ChainTruncatesTwice of the statements about chains in memory, walked. Condition: arguments within the model's reach.
-/
import Derived.Test.YtlooekocfcnbiaaChnLawC
namespace Go.Proofs.Ytlooekocfcnbiaa
open Go.RowKit Go.Deep Plain
set_option linter.unusedVariables false

set_option maxRecDepth 100000 in
set_option maxHeartbeats 8000000 in
theorem lawChainTruncatesTwice (w : World) (A : Option Addr) (c : Nat) (xs : List Stp) (n : Nat) (hn : xs.length = n) (h47 : n ≤ maxLen) (hx : Rp w A c xs) (lo : Nat) (hlo : lo < 256) (hi : Nat) (hhi : hi < 256) :
    Calls Try.prog 6 #[.slice A n c, .int .u8 (lo : Int), .int .u8 (hi : Int)] w fun e w' => e = .returned (.bool true) ∧ Below w.heap.size w w' := by
  obtain ⟨F, hF0⟩ : ∃ F : Nat, lo % 14 = F := ⟨_, rfl⟩
  have hF1 : (lo : Int) % 14 = (F : Int) := by omega
  have hF2 : (lo : Int).tmod 14 = (F : Int) := by rw [Int.tmod_eq_emod_of_nonneg (by omega)]; omega
  have hF3 : F < 14 := by omega
  clear hF0
  obtain ⟨G, hG0⟩ : ∃ G : Nat, hi % 14 = G := ⟨_, rfl⟩
  have hG1 : (hi : Int) % 14 = (G : Int) := by omega
  have hG2 : (hi : Int).tmod 14 = (G : Int) := by rw [Int.tmod_eq_emod_of_nonneg (by omega)]; omega
  have hG3 : G < 14 := by omega
  clear hG0
  have Hx := Lib.hid hx
  clear hx
  go_enter Try.func6, Try.ntmps6
  go_wp2_with fail
  refine (kitConfig_any 1 _).mono ?_; rintro e w0 ⟨rfl, hK0⟩
  have hs0 := hK0.size
  have HK0 := Lib.hid hK0
  clear hK0
  go_wp2_with fail
  refine (kitMem _).mono ?_; rintro e w1 ⟨b, g, l, rfl, hM1, hD1, hb1, hg1, hK1⟩
  have hbw : w.heap.size ≤ b := by omega
  have hgw : w.heap.size ≤ g := by omega
  have hbs := hM1.obj.lt
  have hgs := hM1.row.lt
  have HK := Lib.hid (((HK0.out.mono (T := Own b g) (fun _ h => h.elim)).trans hK1 (fun _ _ h => h.elim)).alloc (.cells #[.int .i64 1, .int .i64 2, .int .i64 100, .int .i64 100, .int .i64 200, .int .i64 4, .int .u64 1000, .int .i64 10, .int .i64 810, .int .i64 910] 27))
  have HW := Lib.hid (Wx.start (B := w.heap.size) hM1 hD1 hbw hgw)
  clear hM1 hD1 hK1 HK0 hs0 hb1 hg1
  go_wp2_with fail
  refine (awake_any _).mono ?_; rintro e w2 ⟨rfl, hK2⟩
  replace HW := Lib.hid (HW.out.kept hK2)
  replace HK := Lib.hid (HK.out.trans hK2 (fun _ _ h => h.elim))
  clear hK2
  by_cases h12 : 12 < n
  · go_wp2_with fail
    refine (awake_any _).mono ?_; rintro e w3 ⟨rfl, hK3⟩
    replace HK := Lib.hid (HK.out.trans hK3 (fun _ _ h => h.elim))
    clear hK3 HW
    go_wp2
    go_ret
    exact ⟨by first | rfl | simp, (HK.out.below (Nat.le_refl _) (fun i e => by rcases e with rfl | rfl <;> omega))⟩
  · go_wp2_with fail
    go_loopw [9, 10] (fun v i wr => ∃ (j : Nat) (A2 : Option Addr) (c2 : Nat) (ys : List Ve), j ≤ n ∧ i = .int .i64 j ∧ v = .slice A2 j c2 ∧ Cnt ys j ∧ Rv wr A2 c2 ys ∧ (∀ a, A2 = some a → w1.heap.size < a.block) ∧ Wx w.heap.size wr w1.heap.size b g (5 * j) j (own ys) ∧ Kept (Own b g) w wr) (fun v i _ => n - (intOf i).toNat)
    case atStart => exact ⟨0, none, 0, [], by omega, rfl, rfl, Cnt.nil, Rv.nil _, fun a h => (by cases h), HW.out, HK.out⟩
    case round =>
      clear HW HK
      obtain ⟨j, A2, c2, ys, hj, rfl, rfl, hY, hL, hA2, hW, hK⟩ := hrel
      have HY := Lib.hid hY
      have HL := Lib.hid hL
      have HW := Lib.hid hW
      have HK := Lib.hid hK
      clear hY hL hW hK
      by_cases hlt : j < n
      · have hxr := Hx.out.kept HK.out (fun i hi e => by rcases e with rfl | rfl <;> omega)
        obtain ⟨kd, v, dl, fl, hxj⟩ : ∃ kd v dl fl, xs[j]? = some (kd, v, dl, fl) := ⟨_, _, _, _, List.getElem?_eq_getElem (by omega)⟩
        obtain ⟨ga, off, rfl, hga, hcell⟩ := hxr.at (by omega)
        obtain ⟨c0, c1, c2', c3⟩ := hcell j _ hxj
        clear hcell hxj hxr
        have HKr := Lib.hid (Kept.refl (Own b g) wr)
        have hltr := HW.out.lt
        go_wp2_with fail
        refine (write_any kd fl v dl _).mono ?_; rintro e w3 ⟨s, rfl, hdl, hK⟩
        clear c0 c1 c2' c3
        have hs3 := hK.size
        replace HW := Lib.hid (HW.out.kept hK)
        replace HK := Lib.hid (HK.out.trans hK (fun _ _ h => h.elim))
        replace HKr := Lib.hid (HKr.out.trans hK (fun _ _ h => h.elim))
        clear hK
        have HP := Lib.hid (Blk.new w3 [.string ⟨#[]⟩, .string s, .bool dl] 45)
        have hK := (Kept.refl (fun _ => False) w3).alloc (.cells #[.string ⟨#[]⟩, .string s, .bool dl] 45)
        replace HW := Lib.hid (HW.out.kept hK)
        replace HK := Lib.hid (HK.out.trans hK (fun _ _ h => h.elim))
        replace HKr := Lib.hid (HKr.out.trans hK (fun _ _ h => h.elim))
        clear hK
        have hp3 := HP.out.lt
        have hz3 := nblk_alloc w3 (.cells #[.string ⟨#[]⟩, .string s, .bool dl] 45)
        have p0 := HP.out.cell (i := 0) rfl
        have p1 := HP.out.cell (i := 1) rfl
        have p2 := HP.out.cell (i := 2) rfl
        have x0 := HW.out.box.cell (i := 0) rfl
        have x1 := HW.out.box.cell (i := 1) rfl
        have x2 := HW.out.box.cell (i := 2) rfl
        have x3 := HW.out.box.cell (i := 3) rfl
        have x4 := HW.out.box.cell (i := 4) rfl
        have x5 := HW.out.box.cell (i := 5) rfl
        have x6 := HW.out.box.cell (i := 6) rfl
        have x7 := HW.out.box.cell (i := 7) rfl
        have x8 := HW.out.box.cell (i := 8) rfl
        have x9 := HW.out.box.cell (i := 9) rfl
        go_wp2_with fail
        refine (install_any w.heap.size _ w1.heap.size b g (5 * j) j (own ys) HW.out (by omega) (by omega) ⟨#[]⟩ s dl hdl).mono ?_; rintro e w4 ⟨rfl, hW, hK⟩
        clear x0 x1 x2 x3 x4 x5 x6 x7 x8 x9
        clear p0 p1 p2
        have hs4 := hK.size
        replace HW := Lib.hid hW
        replace HK := Lib.hid (HK.out.trans hK (fun _ _ h => h))
        replace HKr := Lib.hid (HKr.out.trans hK (fun _ _ h => h))
        replace HP := Lib.hid (hK.blk HP.out (fun e => by rcases e with e | e <;> omega))
        clear hW hK
        have x0 := HW.out.box.cell (i := 0) rfl
        have x1 := HW.out.box.cell (i := 1) rfl
        have x2 := HW.out.box.cell (i := 2) rfl
        have x3 := HW.out.box.cell (i := 3) rfl
        have x4 := HW.out.box.cell (i := 4) rfl
        have x5 := HW.out.box.cell (i := 5) rfl
        have x6 := HW.out.box.cell (i := 6) rfl
        have x7 := HW.out.box.cell (i := 7) rfl
        have x8 := HW.out.box.cell (i := 8) rfl
        have x9 := HW.out.box.cell (i := 9) rfl
        go_wp2_with fail
        refine (newStamp_k (j + 1) (j + 1) _).mono ?_; rintro e w5 ⟨q, rfl, hq, hQ, hK⟩
        clear x0 x1 x2 x3 x4 x5 x6 x7 x8 x9
        have hs5 := hK.size
        have HQ := Lib.hid hQ
        clear hQ
        replace HW := Lib.hid (HW.out.kept hK)
        replace HK := Lib.hid (HK.out.trans hK (fun _ _ h => h.elim))
        replace HKr := Lib.hid (HKr.out.trans hK (fun _ _ h => h.elim))
        replace HP := Lib.hid (hK.blk HP.out (fun h => h))
        clear hK
        go_wp2_with fail
        refine (vstamp HW.out (j + 1) HQ.out (by omega) (by omega)).mono ?_; rintro e w6 ⟨rfl, hW, hK⟩
        rw [show 5 * j + 4 + 1 = 5 * (j + 1) by omega] at hW
        have hs6 := hK.size
        clear HQ
        replace HW := Lib.hid hW
        replace HK := Lib.hid (one_step HK.out hK (by omega))
        replace HKr := Lib.hid (one_step HKr.out hK (by omega))
        replace HP := Lib.hid (hK.blk HP.out (fun e => by rcases e with e | e | e <;> omega))
        clear hW hK
        have p0 := HP.out.cell (i := 0) rfl
        have p1 := HP.out.cell (i := 1) rfl
        have p2 := HP.out.cell (i := 2) rfl
        replace HL := Lib.hid (HL.out.kept HKr.out (fun a ha e => by have := hA2 a ha; rcases e with e | e <;> omega))
        have hO := own_new w6 (w1.heap.size + 1) (by omega) ((j + 1, s, dl) : Ve)
        have HO := Lib.hid hO
        have hK := (Kept.refl (fun _ => False) w6).alloc (.cells #[.int .u64 ((j + 1 : Nat) : Int), .string s, .bool dl] 51)
        replace HL := Lib.hid (HL.out.kept hK (fun _ _ h => h))
        have hs7 := hK.size
        have hz6 := nblk_alloc w6 (.cells #[.int .u64 ((j + 1 : Nat) : Int), .string s, .bool dl] 51)
        clear hO HKr
        replace HW := Lib.hid (HW.out.kept hK)
        replace HK := Lib.hid (HK.out.trans hK (fun _ _ h => h.elim))
        replace HP := Lib.hid (hK.blk HP.out (fun h => h))
        clear hK
        clear HP
        go_wp2_with (at_builtin; go_must (refine wpList_app rfl (.tmp 73) (.tmp 74) rfl (w1.heap.size + 1) _ 1 [((j + 1, s, dl) : Ve)] rfl HO.out A2 j c2 ys rfl HY.out.1 HL.out (by omega) (Nat.le_trans (show w1.heap.size + 1 ≤ w6.heap.size by omega) hs7) ?_))
        intro v8 w8 hO8 hB8
        clear p0 p1 p2 HO
        obtain ⟨A3, c3, rfl, hl8, hL8, hA8⟩ := Rv.own hO8
        rw [Nat.add_comm 1 j]
        have hK8 := Below.kept2 hB8 (S := fun i => w1.heap.size + 1 ≤ i) (fun i h => h)
        replace HW := Lib.hid (HW.out.far hK8 (by omega) (by omega) (by omega))
        replace HK := Lib.hid (HK.out.trans hK8 (fun i hi e => by omega))
        replace HL := Lib.hid hL8
        have hA3 : ∀ a, A3 = some a → w1.heap.size < a.block := fun a ha => hA8 a ha
        clear hO8 hB8 hL8 hA8 hK8 hl8
        go_wp2
        go_roundw
        case rel => exact ⟨j + 1, A3, c3, (j + 1, s, dl) :: ys, by omega, by go_num, rfl, HY.out.cons (s, dl), HL.out, hA3, HW.out, HK.out⟩
        case measure => simp [intOf]; omega
      · obtain rfl : j = n := by omega
        by_cases hGF : G < F
        · rename World => wa
          have hab : G ≤ F := by omega
          have hK := (Kept.refl (fun _ => False) wa).alloc (.cells #[.int .u64 (G : Int), .int .u64 (F : Int), .int .u64 (F : Int)] 23)
          have hltr := HW.out.lt
          have HB := Lib.hid (Blk.new wa [.int .u64 (G : Int), .int .u64 (F : Int), .int .u64 (F : Int)] 23)
          replace HL := Lib.hid (HL.out.kept hK (fun _ _ h => h))
          have hYl := HY.out.1
          replace HW := Lib.hid (HW.out.kept hK)
          replace HK := Lib.hid (HK.out.trans hK (fun _ _ h => h.elim))
          clear hK
          go_wp2_with fail
          go_loopw [92] (fun i wq => ∃ (i0 k : Nat), i0 ≤ 3 ∧ i = .int .i64 i0 ∧ k ≤ 100 + 100 * i0 ∧ Wx w.heap.size wq w1.heap.size b g k j (own (zsAt G F ys i0)) ∧ Rv wq A2 c2 ys ∧ Blk wq wa.heap.size 23 [.int .u64 (G : Int), .int .u64 (F : Int), .int .u64 (F : Int)] ∧ Kept (Own b g) w wq) (fun i _ => 3 - (intOf i).toNat)
          case atStart => exact ⟨0, 5 * j, by omega, rfl, by omega, HW.out, HL.out, HB.out, HK.out⟩
          case round =>
            rename World => wq
            clear HW HL HB HK
            obtain ⟨i0, k, hi0, rfl, hk, hW, hL, hB, hK⟩ := hrel
            have HW := Lib.hid hW
            have HL := Lib.hid hL
            have HB := Lib.hid hB
            have HK := Lib.hid hK
            clear hW hL hB hK
            by_cases hlt0 : i0 < 3
            · have hcT : wq.cell? ⟨wa.heap.size, i0, none⟩ = some (.int .u64 ((flAt G F i0 : Nat) : Int)) := by
                rcases (by omega : i0 = 0 ∨ i0 = 1 ∨ i0 = 2) with h | h | h <;> subst h
                · exact HB.out.cell (i := 0) rfl
                · exact HB.out.cell (i := 1) rfl
                · exact HB.out.cell (i := 2) rfl
              have hfl : flAt G F i0 < 14 := by unfold flAt; split <;> omega
              obtain ⟨hz1, hz2, hz3⟩ := zs_next hab ys i0
              have hzl := zs_len G F ys i0
              generalize hzn : zsAt G F ys (i0 + 1) = zn at *
              have HZN := Lib.hid hzn
              clear hzn
              generalize zsAt G F ys i0 = zs at *
              generalize hT : flAt G F i0 = T at *
              have HZ1 := Lib.hid hz1
              have HZ2 := Lib.hid hz2
              have HZ3 := Lib.hid hz3
              obtain ⟨l2, hm2, hd2⟩ := HW.out.db
              have HM2 := Lib.hid hm2
              have HD2 := Lib.hid hd2
              have hzl2 : (own zs).length ≤ 12 := by rw [own_length]; omega
              have hltq := HW.out.lt
              clear hz1 hz2 hz3 hm2 hd2 hT
              have x0 := HW.out.box.cell (i := 0) rfl
              have x1 := HW.out.box.cell (i := 1) rfl
              have x2 := HW.out.box.cell (i := 2) rfl
              have x3 := HW.out.box.cell (i := 3) rfl
              have x4 := HW.out.box.cell (i := 4) rfl
              have x5 := HW.out.box.cell (i := 5) rfl
              have x6 := HW.out.box.cell (i := 6) rfl
              have x7 := HW.out.box.cell (i := 7) rfl
              have x8 := HW.out.box.cell (i := 8) rfl
              have x9 := HW.out.box.cell (i := 9) rfl
              go_wp2_with fail
              refine (tr_new 1 2 100 100 200 4 1000 10 810 910 T 1510 j (own zs) l2 HD2.out _).mono ?_; rintro e w5 ⟨q, rfl, hq, hT5, hqw, hK⟩
              clear x0 x1 x2 x3 x4 x5 x6 x7 x8 x9
              clear hcT
              have HT5 := Lib.hid hT5
              have HM5 := Lib.hid (HM2.out.kept hK (fun h => h) (fun h => h))
              have HKq := Lib.hid ((Kept.refl (Own b g) wq).trans hK (fun _ _ h => h.elim))
              clear hT5 hK HM2 HD2
              go_wp2_with fail
              go_loopw [19] (fun i wz => ∃ (j2 d : Nat) (l3 : List Cel), i = .int .i64 j2 ∧ 0 < d ∧ j2 + d ≤ 30 ∧ KTr wz q T (own zs) j l3 d ∧ Mem wz b g l3 (k + j2) ∧ Kept (Own b g) wq wz) (fun i _ => 500 - (intOf i).toNat)
              case atStart => exact ⟨0, 2 * (own zs).length + 4, l2, rfl, by omega, by omega, HT5.out, HM5.out, HKq.out⟩
              case round =>
                rename World => wz
                clear HT5 HM5 HKq
                obtain ⟨j2, d, l3, rfl, hd0, hjd, hT3, hM3, hK3⟩ := hrel
                have HT3 := Lib.hid hT3
                have HM3 := Lib.hid hM3
                have HK3 := Lib.hid hK3
                have hj5 : (j2 : Int) < 100 := by omega
                clear hT3 hM3 hK3
                go_wp2_with fail
                refine (vtrunc HM3.out HT3.out hd0 (by omega) (by omega)).mono ?_; rintro e w6 ⟨d', l4, hd', rfl, hT4, hM4, hK4⟩
                have HT4 := Lib.hid hT4
                have HM4 := Lib.hid hM4
                have HK4 := Lib.hid (one_step HK3.out hK4 (by omega))
                clear hT4 hM4 hK4 HT3 HM3 HK3
                by_cases hz : d' = 0
                · subst hz
                  have hd4 := HT4.out.db
                  rw [if_pos rfl, vrs_own, ← own_take] at hd4
                  have hW4 : Wx w.heap.size w6 w1.heap.size b g (k + j2 + 1) j (own (cut T zs)) := ⟨⟨l4, HM4.out, hd4⟩, HK4.out.blk HW.out.box (fun e => by rcases e with e | e <;> omega), HW.out.lo, HW.out.ne⟩
                  rw [HZ1.out] at hW4
                  have hznl : zn.length ≤ 12 := by rw [← HZ1.out, cut_length]; have := cutAt_le T zs; omega
                  replace HW := Lib.hid hW4
                  replace HL := Lib.hid (HL.out.kept HK4.out (fun a ha e => by have := hA2 a ha; rcases e with e | e <;> omega))
                  replace HB := Lib.hid (HK4.out.blk HB.out (fun e => by rcases e with e | e <;> omega))
                  replace HK := Lib.hid (HK.out.trans HK4.out (fun _ _ h => h))
                  clear hW4 hd4 HM4 HK4
                  have x0 := HW.out.box.cell (i := 0) rfl
                  have x1 := HW.out.box.cell (i := 1) rfl
                  have x2 := HW.out.box.cell (i := 2) rfl
                  have x3 := HW.out.box.cell (i := 3) rfl
                  have x4 := HW.out.box.cell (i := 4) rfl
                  have x5 := HW.out.box.cell (i := 5) rfl
                  have x6 := HW.out.box.cell (i := 6) rfl
                  have x7 := HW.out.box.cell (i := 7) rfl
                  have x8 := HW.out.box.cell (i := 8) rfl
                  have x9 := HW.out.box.cell (i := 9) rfl
                  go_wp2_with fail
                  refine (vpeek HW.out zn.length (own_length zn) (by omega) zn (vrs_own zn)).mono ?_; rintro e w7 ⟨A7, c7, rfl, hR7, hB7⟩
                  clear x0 x1 x2 x3 x4 x5 x6 x7 x8 x9
                  have HR7 := Lib.hid hR7
                  have hK := keptNone hB7
                  replace HT4 := Lib.hid (HT4.out.kept hK (fun h => h))
                  replace HL := Lib.hid (HL.out.kept hK (fun _ _ h => h))
                  clear hR7 hB7
                  replace HW := Lib.hid (HW.out.kept hK)
                  replace HK := Lib.hid (HK.out.trans hK (fun _ _ h => h.elim))
                  replace HB := Lib.hid (hK.blk HB.out (fun h => h))
                  clear hK
                  go_wp2_with fail
                  refine (refCut_any A2 c2 ys T _ j HY.out.1 (by omega) HL.out zn.length (by rw [← cut_length, ← HZ2.out])).mono ?_; rintro e w8 ⟨A8, c8, rfl, hR8, hB8⟩
                  rw [← HZ2.out] at hR8
                  have HR8 := Lib.hid hR8
                  have hK := keptNone hB8
                  replace HT4 := Lib.hid (HT4.out.kept hK (fun h => h))
                  replace HL := Lib.hid (HL.out.kept hK (fun _ _ h => h))
                  replace HR7 := Lib.hid (HR7.out.kept hK (fun _ _ h => h))
                  clear hR8 hB8
                  replace HW := Lib.hid (HW.out.kept hK)
                  replace HK := Lib.hid (HK.out.trans hK (fun _ _ h => h.elim))
                  replace HB := Lib.hid (hK.blk HB.out (fun h => h))
                  clear hK
                  go_wp2_with fail
                  refine (same_any A7 A8 c7 c8 zn _ zn.length rfl (by omega) HR7.out HR8.out).mono ?_; rintro e w9 ⟨rfl, hB9⟩
                  have hK := keptNone hB9
                  replace HT4 := Lib.hid (HT4.out.kept hK (fun h => h))
                  replace HL := Lib.hid (HL.out.kept hK (fun _ _ h => h))
                  clear hB9 HR7 HR8
                  replace HW := Lib.hid (HW.out.kept hK)
                  replace HK := Lib.hid (HK.out.trans hK (fun _ _ h => h.elim))
                  replace HB := Lib.hid (hK.blk HB.out (fun h => h))
                  clear hK
                  go_wp2_with fail
                  obtain ⟨de, hde⟩ : ∃ de, dead T ys = de := ⟨_, rfl⟩
                  have HDE := Lib.hid hde
                  clear hde
                  refine (tr_dead 1 2 100 100 200 4 1000 10 810 910 q 1 T 1510 j _ (own zs) l4 HT4.out de (by rw [vrs_own, HZ3.out]; exact HDE.out)).mono ?_; rintro e w10 ⟨rfl, rfl⟩
                  go_wp2_with fail
                  refine (refDead_any A2 c2 ys T _ j HY.out.1 (by omega) HL.out de HDE.out).mono ?_; rintro e w11 ⟨rfl, hB11⟩
                  have hK := keptNone hB11
                  replace HL := Lib.hid (HL.out.kept hK (fun _ _ h => h))
                  clear hB11 HT4 HDE
                  replace HW := Lib.hid (HW.out.kept hK)
                  replace HK := Lib.hid (HK.out.trans hK (fun _ _ h => h.elim))
                  replace HB := Lib.hid (hK.blk HB.out (fun h => h))
                  clear hK
                  go_wp2
                  go_roundw
                  case rel => exact ⟨i0 + 1, k + j2 + 1, by omega, by go_num, by omega, (by rw [HZN.out]; exact HW.out), HL.out, HB.out, HK.out⟩
                  case measure => simp [intOf]; omega
                · have hz2 : (d' == 0) = false := by simp; omega
                  rw [hz2]
                  go_wp2
                  go_roundw
                  case rel => exact ⟨j2 + 1, d', l4, by go_num, by omega, by omega, HT4.out, HM4.out, HK4.out⟩
                  case measure => simp [intOf]; omega
            · obtain rfl : i0 = 3 := by omega
              go_wp2
              go_ret
              exact ⟨by first | rfl | simp, (HK.out.below (Nat.le_refl _) (fun i e => by rcases e with rfl | rfl <;> omega))⟩
        · rename World => wa
          have hab : F ≤ G := by omega
          have hK := (Kept.refl (fun _ => False) wa).alloc (.cells #[.int .u64 (F : Int), .int .u64 (G : Int), .int .u64 (G : Int)] 23)
          have hltr := HW.out.lt
          have HB := Lib.hid (Blk.new wa [.int .u64 (F : Int), .int .u64 (G : Int), .int .u64 (G : Int)] 23)
          replace HL := Lib.hid (HL.out.kept hK (fun _ _ h => h))
          have hYl := HY.out.1
          replace HW := Lib.hid (HW.out.kept hK)
          replace HK := Lib.hid (HK.out.trans hK (fun _ _ h => h.elim))
          clear hK
          go_wp2_with fail
          go_loopw [92] (fun i wq => ∃ (i0 k : Nat), i0 ≤ 3 ∧ i = .int .i64 i0 ∧ k ≤ 100 + 100 * i0 ∧ Wx w.heap.size wq w1.heap.size b g k j (own (zsAt F G ys i0)) ∧ Rv wq A2 c2 ys ∧ Blk wq wa.heap.size 23 [.int .u64 (F : Int), .int .u64 (G : Int), .int .u64 (G : Int)] ∧ Kept (Own b g) w wq) (fun i _ => 3 - (intOf i).toNat)
          case atStart => exact ⟨0, 5 * j, by omega, rfl, by omega, HW.out, HL.out, HB.out, HK.out⟩
          case round =>
            rename World => wq
            clear HW HL HB HK
            obtain ⟨i0, k, hi0, rfl, hk, hW, hL, hB, hK⟩ := hrel
            have HW := Lib.hid hW
            have HL := Lib.hid hL
            have HB := Lib.hid hB
            have HK := Lib.hid hK
            clear hW hL hB hK
            by_cases hlt0 : i0 < 3
            · have hcT : wq.cell? ⟨wa.heap.size, i0, none⟩ = some (.int .u64 ((flAt F G i0 : Nat) : Int)) := by
                rcases (by omega : i0 = 0 ∨ i0 = 1 ∨ i0 = 2) with h | h | h <;> subst h
                · exact HB.out.cell (i := 0) rfl
                · exact HB.out.cell (i := 1) rfl
                · exact HB.out.cell (i := 2) rfl
              have hfl : flAt F G i0 < 14 := by unfold flAt; split <;> omega
              obtain ⟨hz1, hz2, hz3⟩ := zs_next hab ys i0
              have hzl := zs_len F G ys i0
              generalize hzn : zsAt F G ys (i0 + 1) = zn at *
              have HZN := Lib.hid hzn
              clear hzn
              generalize zsAt F G ys i0 = zs at *
              generalize hT : flAt F G i0 = T at *
              have HZ1 := Lib.hid hz1
              have HZ2 := Lib.hid hz2
              have HZ3 := Lib.hid hz3
              obtain ⟨l2, hm2, hd2⟩ := HW.out.db
              have HM2 := Lib.hid hm2
              have HD2 := Lib.hid hd2
              have hzl2 : (own zs).length ≤ 12 := by rw [own_length]; omega
              have hltq := HW.out.lt
              clear hz1 hz2 hz3 hm2 hd2 hT
              have x0 := HW.out.box.cell (i := 0) rfl
              have x1 := HW.out.box.cell (i := 1) rfl
              have x2 := HW.out.box.cell (i := 2) rfl
              have x3 := HW.out.box.cell (i := 3) rfl
              have x4 := HW.out.box.cell (i := 4) rfl
              have x5 := HW.out.box.cell (i := 5) rfl
              have x6 := HW.out.box.cell (i := 6) rfl
              have x7 := HW.out.box.cell (i := 7) rfl
              have x8 := HW.out.box.cell (i := 8) rfl
              have x9 := HW.out.box.cell (i := 9) rfl
              go_wp2_with fail
              refine (tr_new 1 2 100 100 200 4 1000 10 810 910 T 1510 j (own zs) l2 HD2.out _).mono ?_; rintro e w5 ⟨q, rfl, hq, hT5, hqw, hK⟩
              clear x0 x1 x2 x3 x4 x5 x6 x7 x8 x9
              clear hcT
              have HT5 := Lib.hid hT5
              have HM5 := Lib.hid (HM2.out.kept hK (fun h => h) (fun h => h))
              have HKq := Lib.hid ((Kept.refl (Own b g) wq).trans hK (fun _ _ h => h.elim))
              clear hT5 hK HM2 HD2
              go_wp2_with fail
              go_loopw [19] (fun i wz => ∃ (j2 d : Nat) (l3 : List Cel), i = .int .i64 j2 ∧ 0 < d ∧ j2 + d ≤ 30 ∧ KTr wz q T (own zs) j l3 d ∧ Mem wz b g l3 (k + j2) ∧ Kept (Own b g) wq wz) (fun i _ => 500 - (intOf i).toNat)
              case atStart => exact ⟨0, 2 * (own zs).length + 4, l2, rfl, by omega, by omega, HT5.out, HM5.out, HKq.out⟩
              case round =>
                rename World => wz
                clear HT5 HM5 HKq
                obtain ⟨j2, d, l3, rfl, hd0, hjd, hT3, hM3, hK3⟩ := hrel
                have HT3 := Lib.hid hT3
                have HM3 := Lib.hid hM3
                have HK3 := Lib.hid hK3
                have hj5 : (j2 : Int) < 100 := by omega
                clear hT3 hM3 hK3
                go_wp2_with fail
                refine (vtrunc HM3.out HT3.out hd0 (by omega) (by omega)).mono ?_; rintro e w6 ⟨d', l4, hd', rfl, hT4, hM4, hK4⟩
                have HT4 := Lib.hid hT4
                have HM4 := Lib.hid hM4
                have HK4 := Lib.hid (one_step HK3.out hK4 (by omega))
                clear hT4 hM4 hK4 HT3 HM3 HK3
                by_cases hz : d' = 0
                · subst hz
                  have hd4 := HT4.out.db
                  rw [if_pos rfl, vrs_own, ← own_take] at hd4
                  have hW4 : Wx w.heap.size w6 w1.heap.size b g (k + j2 + 1) j (own (cut T zs)) := ⟨⟨l4, HM4.out, hd4⟩, HK4.out.blk HW.out.box (fun e => by rcases e with e | e <;> omega), HW.out.lo, HW.out.ne⟩
                  rw [HZ1.out] at hW4
                  have hznl : zn.length ≤ 12 := by rw [← HZ1.out, cut_length]; have := cutAt_le T zs; omega
                  replace HW := Lib.hid hW4
                  replace HL := Lib.hid (HL.out.kept HK4.out (fun a ha e => by have := hA2 a ha; rcases e with e | e <;> omega))
                  replace HB := Lib.hid (HK4.out.blk HB.out (fun e => by rcases e with e | e <;> omega))
                  replace HK := Lib.hid (HK.out.trans HK4.out (fun _ _ h => h))
                  clear hW4 hd4 HM4 HK4
                  have x0 := HW.out.box.cell (i := 0) rfl
                  have x1 := HW.out.box.cell (i := 1) rfl
                  have x2 := HW.out.box.cell (i := 2) rfl
                  have x3 := HW.out.box.cell (i := 3) rfl
                  have x4 := HW.out.box.cell (i := 4) rfl
                  have x5 := HW.out.box.cell (i := 5) rfl
                  have x6 := HW.out.box.cell (i := 6) rfl
                  have x7 := HW.out.box.cell (i := 7) rfl
                  have x8 := HW.out.box.cell (i := 8) rfl
                  have x9 := HW.out.box.cell (i := 9) rfl
                  go_wp2_with fail
                  refine (vpeek HW.out zn.length (own_length zn) (by omega) zn (vrs_own zn)).mono ?_; rintro e w7 ⟨A7, c7, rfl, hR7, hB7⟩
                  clear x0 x1 x2 x3 x4 x5 x6 x7 x8 x9
                  have HR7 := Lib.hid hR7
                  have hK := keptNone hB7
                  replace HT4 := Lib.hid (HT4.out.kept hK (fun h => h))
                  replace HL := Lib.hid (HL.out.kept hK (fun _ _ h => h))
                  clear hR7 hB7
                  replace HW := Lib.hid (HW.out.kept hK)
                  replace HK := Lib.hid (HK.out.trans hK (fun _ _ h => h.elim))
                  replace HB := Lib.hid (hK.blk HB.out (fun h => h))
                  clear hK
                  go_wp2_with fail
                  refine (refCut_any A2 c2 ys T _ j HY.out.1 (by omega) HL.out zn.length (by rw [← cut_length, ← HZ2.out])).mono ?_; rintro e w8 ⟨A8, c8, rfl, hR8, hB8⟩
                  rw [← HZ2.out] at hR8
                  have HR8 := Lib.hid hR8
                  have hK := keptNone hB8
                  replace HT4 := Lib.hid (HT4.out.kept hK (fun h => h))
                  replace HL := Lib.hid (HL.out.kept hK (fun _ _ h => h))
                  replace HR7 := Lib.hid (HR7.out.kept hK (fun _ _ h => h))
                  clear hR8 hB8
                  replace HW := Lib.hid (HW.out.kept hK)
                  replace HK := Lib.hid (HK.out.trans hK (fun _ _ h => h.elim))
                  replace HB := Lib.hid (hK.blk HB.out (fun h => h))
                  clear hK
                  go_wp2_with fail
                  refine (same_any A7 A8 c7 c8 zn _ zn.length rfl (by omega) HR7.out HR8.out).mono ?_; rintro e w9 ⟨rfl, hB9⟩
                  have hK := keptNone hB9
                  replace HT4 := Lib.hid (HT4.out.kept hK (fun h => h))
                  replace HL := Lib.hid (HL.out.kept hK (fun _ _ h => h))
                  clear hB9 HR7 HR8
                  replace HW := Lib.hid (HW.out.kept hK)
                  replace HK := Lib.hid (HK.out.trans hK (fun _ _ h => h.elim))
                  replace HB := Lib.hid (hK.blk HB.out (fun h => h))
                  clear hK
                  go_wp2_with fail
                  obtain ⟨de, hde⟩ : ∃ de, dead T ys = de := ⟨_, rfl⟩
                  have HDE := Lib.hid hde
                  clear hde
                  refine (tr_dead 1 2 100 100 200 4 1000 10 810 910 q 1 T 1510 j _ (own zs) l4 HT4.out de (by rw [vrs_own, HZ3.out]; exact HDE.out)).mono ?_; rintro e w10 ⟨rfl, rfl⟩
                  go_wp2_with fail
                  refine (refDead_any A2 c2 ys T _ j HY.out.1 (by omega) HL.out de HDE.out).mono ?_; rintro e w11 ⟨rfl, hB11⟩
                  have hK := keptNone hB11
                  replace HL := Lib.hid (HL.out.kept hK (fun _ _ h => h))
                  clear hB11 HT4 HDE
                  replace HW := Lib.hid (HW.out.kept hK)
                  replace HK := Lib.hid (HK.out.trans hK (fun _ _ h => h.elim))
                  replace HB := Lib.hid (hK.blk HB.out (fun h => h))
                  clear hK
                  go_wp2
                  go_roundw
                  case rel => exact ⟨i0 + 1, k + j2 + 1, by omega, by go_num, by omega, (by rw [HZN.out]; exact HW.out), HL.out, HB.out, HK.out⟩
                  case measure => simp [intOf]; omega
                · have hz2 : (d' == 0) = false := by simp; omega
                  rw [hz2]
                  go_wp2
                  go_roundw
                  case rel => exact ⟨j2 + 1, d', l4, by go_num, by omega, by omega, HT4.out, HM4.out, HK4.out⟩
                  case measure => simp [intOf]; omega
            · obtain rfl : i0 = 3 := by omega
              go_wp2
              go_ret
              exact ⟨by first | rfl | simp, (HK.out.below (Nat.le_refl _) (fun i e => by rcases e with rfl | rfl <;> omega))⟩
end Go.Proofs.Ytlooekocfcnbiaa
