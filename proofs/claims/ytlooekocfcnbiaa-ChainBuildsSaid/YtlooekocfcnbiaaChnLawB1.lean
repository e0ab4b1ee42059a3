/-
  ChainBuilds of the statements about chains in memory, walked. Condition: arguments within the model's reach.
-/
import Derived.Test.YtlooekocfcnbiaaChnLawD
import Derived.Test.YtlooekocfcnbiaaQuietTail
import Derived.Test.YtlooekocfcnbiaaHeldUp
import Derived.Test.YtlooekocfcnbiaaChnLex
namespace Go.Proofs.Ytlooekocfcnbiaa
open Go.RowKit Go.Deep Plain
set_option linter.unusedVariables false

set_option maxRecDepth 100000 in
set_option maxHeartbeats 8000000 in
theorem lawChainBuilds (w : World) (A : Option Addr) (c : Nat) (xs : List Stp) (n : Nat) (hn : xs.length = n) (h47 : n ≤ maxLen) (hx : Rp w A c xs) (time : Nat) (htime : time < 18446744073709551616) :
    Calls Try.prog 3 #[.slice A n c, .int .u64 (time : Int)] w fun e w' => e = .returned (.bool true) ∧ Below w.heap.size w w' := by
  have Hx := Lib.hid hx
  clear hx
  go_enter Try.func3, Try.ntmps3
  go_wp2_with fail
  refine (kitConfig_any 1 _).mono ?_; rintro e w0 ⟨rfl, hK0⟩
  have hs0 := hK0.size
  have HK0 := Lib.hid hK0
  clear hK0
  go_wp2_with fail
  refine (kitMem _).mono ?_; rintro e w1 ⟨b, g, l, rfl, hM1, hD1, hb1, hg1, hK1⟩
  have hbw : w.heap.size ≤ b := by omega
  have hgw : w.heap.size ≤ g := by omega
  have hbs := hM1.obj.lt
  have hgs := hM1.row.lt
  have HK := Lib.hid (((HK0.out.mono (T := Own b g) (fun _ h => h.elim)).trans hK1 (fun _ _ h => h.elim)).alloc (.cells #[.int .i64 1, .int .i64 2, .int .i64 100, .int .i64 100, .int .i64 200, .int .i64 4, .int .u64 1000, .int .i64 10, .int .i64 810, .int .i64 910] 27))
  have HW := Lib.hid (Wx.start (B := w.heap.size) hM1 hD1 hbw hgw)
  clear hM1 hD1 hK1 HK0 hs0 hb1 hg1
  go_wp2_with fail
  refine (awake_any _).mono ?_; rintro e w2 ⟨rfl, hK2⟩
  replace HW := Lib.hid (HW.out.kept hK2)
  replace HK := Lib.hid (HK.out.trans hK2 (fun _ _ h => h.elim))
  clear hK2
  by_cases h12 : 20 < n
  · go_wp2_with fail
    refine (awake_any _).mono ?_; rintro e w3 ⟨rfl, hK3⟩
    replace HK := Lib.hid (HK.out.trans hK3 (fun _ _ h => h.elim))
    clear hK3 HW
    go_wp2
    go_ret
    exact ⟨by first | rfl | simp, (HK.out.below (Nat.le_refl _) (fun i e => by rcases e with rfl | rfl <;> omega))⟩
  · have HBd : Hid (Bd w.heap.size w w2 w1.heap.size b g 0 0 0 [] none 0 [] (.slice none 0 0) []) := Lib.hid ⟨HW.out, rfl, rfl, Rv.nil _, fun a h => (by cases h), World.ownsRow_nil _ _ _ _, fun a h => (by cases h), fun h => (by omega), by simp, by simp, ⟨hbs, hgs⟩, HK.out⟩
    clear HW
    go_wp2_with fail
    go_loopw [7, 8, 9, 10, 11] (fun v7 v8 v9 v10 i wr => ∃ (j k nx tn m : Nat) (rs : List (Nat × Ve)) (A2 : Option Addr) (c2 : Nat) (ys : List Ve) (vw : Value) (ws : List Nat), j ≤ n ∧ v7 = .slice A2 m c2 ∧ vw = v8 ∧ v9 = .int .u64 (tn : Int) ∧ v10 = .int .u64 (nx : Int) ∧ i = .int .i64 j ∧ k ≤ 3000 * j ∧ nx ≤ j ∧ tn ≤ 2 * j ∧ Bd w.heap.size w wr w1.heap.size b g k nx m rs A2 c2 ys vw ws) (fun _ _ _ _ i _ => n - (intOf i).toNat)
    case atStart => exact ⟨0, 0, 0, 0, 0, [], none, 0, [], .slice none 0 0, [], by omega, rfl, rfl, rfl, rfl, rfl, by omega, by omega, by omega, HBd.out⟩
    case round =>
      clear HBd HK
      obtain ⟨j, k, nx, tn, m, rs, A2, c2, ys, vw, ws, hj, rfl, rfl, rfl, rfl, rfl, hk, hnx, htn, hBd⟩ := hrel
      have HBd := Lib.hid hBd
      by_cases hlt : j < n
      · have hxr := Hx.out.kept hBd.kept (fun i hi e => by rcases e with rfl | rfl <;> omega)
        obtain ⟨kd, v, dl, fl, hxj⟩ : ∃ kd v dl fl, xs[j]? = some (kd, v, dl, fl) := ⟨_, _, _, _, List.getElem?_eq_getElem (by omega)⟩
        obtain ⟨ga, off, rfl, hga, hcell⟩ := hxr.at (by omega)
        obtain ⟨c0, c1, c2', c3⟩ := hcell j _ hxj
        obtain ⟨l0, hm0, hd0⟩ := hBd.wx.db
        have HM0 := Lib.hid hm0
        have HCs := Lib.hid (And.intro c0 (And.intro c1 (And.intro c2' c3)))
        have hltr := hBd.wx.lt
        have hjn : (j : Int) < (n : Int) := by omega
        have hmn := hBd.mn
        clear hcell hxj hxr c0 c1 c2' c3 hm0 hd0 hBd
        go_upto_region 10 with fail
        go_cut [12, 13, 14] from 56 to 61 (fun v12 v13 v14 wx => v12 = .pointer (some ⟨wr.heap.size, 0, none⟩) ∧ v13 = .int .u64 (k : Int) ∧ v14 = .int .u64 0 ∧ Blk wx wr.heap.size 36 [.int .i64 kd, .string v, .bool dl, .int .u8 (fl : Int)] ∧ Kept (fun _ => False) wr wx)
        case first =>
          have HMc := Lib.hid HM0.out.drew
          have HKc := Lib.hid ((Kept.refl (fun _ => False) wr).drew)
          clear HM0
          refine wp_region_held_drew (S := (fun w' => w'.cell? ⟨ga, off + j * 4, none⟩ = some (.int .i64 kd) ∧ w'.cell? ⟨ga, off + j * 4 + 1, none⟩ = some (.string v) ∧ w'.cell? ⟨ga, off + j * 4 + 2, none⟩ = some (.bool dl) ∧ w'.cell? ⟨ga, off + j * 4 + 3, none⟩ = some (.int .u8 ((fl : Nat) : Int)))) (by kernel_rfl) ?_ (fun hHeld => ?_)
          · exact cells4 HCs.out HKc.out hga
          refine wpAnyH_take (i := 0) (oi := ⟨some 56, _, _, _, _, _⟩) (v := ?_) rfl (by kernel_rfl) (by kernel_rfl) (by kernel_rfl) (fun _ _ _ h => h) (Or.inl ⟨by rfl, ?_⟩) hHeld ?_
          rotate_left
          · (intro wq hSw; go_simp; try with_reducible rfl)
          try simp only [Act.put, List.setIfInBounds_toArray, List.set_cons_zero, List.set_cons_succ]
          refine wpAnyH_take (i := 1) (oi := ⟨some 57, _, _, _, _, _⟩) (v := ?_) rfl (by kernel_rfl) (by kernel_rfl) (by kernel_rfl) (fun _ _ _ h => h) (Or.inl ⟨by rfl, ?_⟩) hHeld ?_
          rotate_left
          · (intro wq hSw; go_simp; try with_reducible rfl)
          try simp only [Act.put, List.setIfInBounds_toArray, List.set_cons_zero, List.set_cons_succ]
          refine wpAnyH_take (i := 2) (oi := ⟨some 58, _, _, _, _, _⟩) (v := .pointer (some ⟨ga, off + j * 4, none⟩)) rfl (by kernel_rfl) (by kernel_rfl) (by kernel_rfl) (fun _ _ _ h => h) (Or.inl ⟨by rfl, ?_⟩) hHeld ?_
          · (intro wq hSw; go_simp; try first | (with_reducible rfl) | (simp; omega) | (intros; omega) | simp [*])
          try simp only [Act.put, List.setIfInBounds_toArray, List.set_cons_zero, List.set_cons_succ]
          refine wpAnyH_take (i := 3) (oi := ⟨some 59, _, _, _, _, _⟩) (v := ?_) rfl (by kernel_rfl) (by kernel_rfl) (by kernel_rfl) (fun _ _ _ h => h) (Or.inl ⟨by rfl, ?_⟩) hHeld ?_
          rotate_left
          · (intro wq hSw; obtain ⟨c0, c1, c2', c3⟩ := hSw; go_simp; try with_reducible rfl)
          try simp only [Act.put, List.setIfInBounds_toArray, List.set_cons_zero, List.set_cons_succ]
          refine wpAnyH_take (i := 4) (oi := ⟨some 60, _, _, _, _, _⟩) (v := ?_) rfl (by kernel_rfl) (by kernel_rfl) (by kernel_rfl) (fun _ _ _ h => h) (Or.inl ⟨by rfl, ?_⟩) hHeld ?_
          rotate_left
          · (intro wq hSw; go_simp; try with_reducible rfl)
          try simp only [Act.put, List.setIfInBounds_toArray, List.set_cons_zero, List.set_cons_succ]
          refine wpAnyH_ready (rs := [5, 6]) (by kernel_rfl) (by simp) ?_
          refine AllReadyH.cons (o := ⟨some 61, _, _, _, _, _⟩) rfl (fun KK hK => ?_) (AllReadyH.cons (o := ⟨some 12, _, _, _, _, _⟩) rfl (fun KK hK => ?_) (AllReadyH.nil))
          · go_simp
            go_at_call 10
            refine (accesses_any b g l0 k _ HMc.out).mono ?_; rintro e w3 ⟨rfl, rfl⟩
            refine hK.out _ _ ?_ (fun hHeld2 => ?_)
            · exact cells4 HCs.out HKc.out hga
            clear hK KK hHeld
            have hHeld := hHeld2
            clear hHeld2
            try simp only [Act.put, List.setIfInBounds_toArray, List.set_cons_zero, List.set_cons_succ]
            refine wpAnyH_ready (rs := [6]) (by kernel_rfl) (by simp) ?_
            refine AllReadyH.cons (o := ⟨some 12, _, _, _, _, _⟩) rfl (fun KK hK => ?_) (AllReadyH.nil)
            go_simp
            replace HMc := Lib.hid (HMc.out.alloc (.cells #[.int .i64 0, .string ⟨#[]⟩, .bool false, .int .u8 0] 36))
            replace HKc := Lib.hid (HKc.out.alloc (.cells #[.int .i64 0, .string ⟨#[]⟩, .bool false, .int .u8 0] 36))
            refine hK.out _ _ ?_ (fun hHeld2 => ?_)
            · exact cells4 HCs.out HKc.out hga
            clear hK KK hHeld
            have hHeld := hHeld2
            clear hHeld2
            try simp only [Act.put, List.setIfInBounds_toArray, List.set_cons_zero, List.set_cons_succ]
            refine wpAnyH_ready (rs := [7]) (by kernel_rfl) (by simp) ?_
            refine AllReadyH.cons (o := ⟨none, _, _, _, _, _⟩) rfl (fun KK hK => ?_) (AllReadyH.nil)
            go_simp
            replace HKc := Lib.hid (((Kept.refl (fun _ => False) wr).alloc (.cells #[.int .i64 kd, .string v, .bool dl, .int .u8 (fl : Int)] 36)).drew)
            clear HMc
            refine hK.out _ _ ?_ (fun hHeld2 => ?_)
            · exact cells4 HCs.out HKc.out hga
            clear hK KK hHeld
            have hHeld := hHeld2
            clear hHeld2
            try simp only [Act.put, List.setIfInBounds_toArray, List.set_cons_zero, List.set_cons_succ]
            refine wpAnyH_take (i := 8) (oi := ⟨some 13, _, _, _, _, _⟩) (v := ?_) rfl (by kernel_rfl) (by kernel_rfl) (by kernel_rfl) (fun _ _ _ h => h) (Or.inl ⟨by rfl, ?_⟩) hHeld ?_
            rotate_left
            · (intro wq hSw; go_simp; try with_reducible rfl)
            try simp only [Act.put, List.setIfInBounds_toArray, List.set_cons_zero, List.set_cons_succ]
            refine wpAnyH_take (i := 9) (oi := ⟨some 14, _, _, _, _, _⟩) (v := ?_) rfl (by kernel_rfl) (by kernel_rfl) (by kernel_rfl) (fun _ _ _ h => h) (Or.inl ⟨by rfl, ?_⟩) hHeld ?_
            rotate_left
            · (intro wq hSw; go_simp; try with_reducible rfl)
            try simp only [Act.put, List.setIfInBounds_toArray, List.set_cons_zero, List.set_cons_succ]
            refine wpAnyH_done (by kernel_rfl) ?_ _
            clear hHeld
            go_wp2_with fail
            go_meet
            exact ⟨rfl, rfl, rfl, Blk.new wr [.int .i64 kd, .string v, .bool dl, .int .u8 (fl : Int)] 36, HKc.out⟩
          · go_simp
            replace HMc := Lib.hid (HMc.out.alloc (.cells #[.int .i64 0, .string ⟨#[]⟩, .bool false, .int .u8 0] 36))
            replace HKc := Lib.hid (HKc.out.alloc (.cells #[.int .i64 0, .string ⟨#[]⟩, .bool false, .int .u8 0] 36))
            refine hK.out _ _ ?_ (fun hHeld2 => ?_)
            · exact cells4 HCs.out HKc.out hga
            clear hK KK hHeld
            have hHeld := hHeld2
            clear hHeld2
            try simp only [Act.put, List.setIfInBounds_toArray, List.set_cons_zero, List.set_cons_succ]
            refine wpAnyH_ready (rs := [5]) (by kernel_rfl) (by simp) ?_
            refine AllReadyH.cons (o := ⟨some 61, _, _, _, _, _⟩) rfl (fun KK hK => ?_) (AllReadyH.nil)
            go_simp
            go_at_call 10
            refine (accesses_any b g l0 k _ HMc.out).mono ?_; rintro e w3 ⟨rfl, rfl⟩
            refine hK.out _ _ ?_ (fun hHeld2 => ?_)
            · exact cells4 HCs.out HKc.out hga
            clear hK KK hHeld
            have hHeld := hHeld2
            clear hHeld2
            try simp only [Act.put, List.setIfInBounds_toArray, List.set_cons_zero, List.set_cons_succ]
            refine wpAnyH_ready (rs := [7]) (by kernel_rfl) (by simp) ?_
            refine AllReadyH.cons (o := ⟨none, _, _, _, _, _⟩) rfl (fun KK hK => ?_) (AllReadyH.nil)
            go_simp
            replace HKc := Lib.hid (((Kept.refl (fun _ => False) wr).alloc (.cells #[.int .i64 kd, .string v, .bool dl, .int .u8 (fl : Int)] 36)).drew)
            clear HMc
            refine hK.out _ _ ?_ (fun hHeld2 => ?_)
            · exact cells4 HCs.out HKc.out hga
            clear hK KK hHeld
            have hHeld := hHeld2
            clear hHeld2
            try simp only [Act.put, List.setIfInBounds_toArray, List.set_cons_zero, List.set_cons_succ]
            refine wpAnyH_take (i := 8) (oi := ⟨some 13, _, _, _, _, _⟩) (v := ?_) rfl (by kernel_rfl) (by kernel_rfl) (by kernel_rfl) (fun _ _ _ h => h) (Or.inl ⟨by rfl, ?_⟩) hHeld ?_
            rotate_left
            · (intro wq hSw; go_simp; try with_reducible rfl)
            try simp only [Act.put, List.setIfInBounds_toArray, List.set_cons_zero, List.set_cons_succ]
            refine wpAnyH_take (i := 9) (oi := ⟨some 14, _, _, _, _, _⟩) (v := ?_) rfl (by kernel_rfl) (by kernel_rfl) (by kernel_rfl) (fun _ _ _ h => h) (Or.inl ⟨by rfl, ?_⟩) hHeld ?_
            rotate_left
            · (intro wq hSw; go_simp; try with_reducible rfl)
            try simp only [Act.put, List.setIfInBounds_toArray, List.set_cons_zero, List.set_cons_succ]
            refine wpAnyH_done (by kernel_rfl) ?_ _
            clear hHeld
            go_wp2_with fail
            go_meet
            exact ⟨rfl, rfl, rfl, Blk.new wr [.int .i64 kd, .string v, .bool dl, .int .u8 (fl : Int)] 36, HKc.out⟩
        case rest =>
          obtain ⟨rfl, rfl, rfl, hB4, hK4⟩ := hcut
          replace HBd := Lib.hid (HBd.out.weak hK4)
          have HS := Lib.hid hB4
          have hs4 := hK4.size
          have hltS := hB4.lt
          clear HCs hB4 hK4 HM0
          have s0 := HS.out.cell (i := 0) rfl
          have s1 := HS.out.cell (i := 1) rfl
          have s2 := HS.out.cell (i := 2) rfl
          have s3 := HS.out.cell (i := 3) rfl
          go_wp2_with fail
          obtain ⟨r, hr, hr6⟩ := mod_ex kd 6 (by omega)
          have hlt4 := HBd.out.wx.lt
          refine (mod_of kd 6 r _ (by omega) (by omega) hr).mono ?_; rintro e w5 ⟨rfl, rfl⟩
          clear s0 s1 s2 s3
          go_upto_if 65 with fail
          go_cut [7, 8, 9, 10, 14] from 56 to 197 (fun v7 v8 v9 v10 v14 wx => ∃ (nn k' nx' tn' m' : Nat) (rs' : List (Nat × Ve)) (A' : Option Addr) (c' : Nat) (ys' : List Ve) (vw' : Value) (ws' : List Nat), v7 = .slice A' m' c' ∧ vw' = v8 ∧ v9 = .int .u64 (tn' : Int) ∧ v10 = .int .u64 (nx' : Int) ∧ v14 = .int .u64 (nn : Int) ∧ nn ≤ 100 ∧ k' ≤ k + nn ∧ nx' ≤ j + 1 ∧ tn' ≤ 2 * (j + 1) ∧ Bd w.heap.size w wx w1.heap.size b g k' nx' m' rs' A' c' ys' vw' ws')
          case first =>
            by_cases h5 : r = 5
            · as_aux_lemma =>
                have h5' : ((r : Int) == 5) = true := by simp; omega
                obtain ⟨f8, hf8⟩ : ∃ f8, fl % 8 = f8 := ⟨_, rfl⟩
                have hf81 : (fl : Int) % 8 = (f8 : Int) := by omega
                have hf82 : (fl : Int).tmod 8 = (f8 : Int) := by rw [Int.tmod_eq_emod_of_nonneg (by omega)]; omega
                have hf83 : f8 < 8 := by omega
                obtain ⟨T, hT⟩ : ∃ T, tn - min tn f8 = T := ⟨_, rfl⟩
                clear hf8 h5
                have s0 := HS.out.cell (i := 0) rfl
                have s1 := HS.out.cell (i := 1) rfl
                have s2 := HS.out.cell (i := 2) rfl
                have s3 := HS.out.cell (i := 3) rfl
                go_upto_region 12 with fail
                go_cut [15] from 62 to 73 (fun v15 wx => v15 = .int .u64 (T : Int) ∧ wx = wc)
                case first =>
                  go_wp2
                  all_goals
                    go_meet
                    exact ⟨congrArg (Value.int .u64) (by omega), rfl⟩
                case rest =>
                  obtain ⟨rfl, rfl⟩ := hcut
                  clear hT hf81 hf82 hf83 s0 s1 s2 s3 h5'
                  obtain ⟨l2, hm2, hd2⟩ := HBd.out.wx.db
                  have HM2 := Lib.hid hm2
                  have HD2 := Lib.hid hd2
                  have hrl := HBd.out.rlen
                  have hmn := HBd.out.mn
                  have hltq := HBd.out.wx.lt
                  clear hm2 hd2
                  have x0 := HBd.out.wx.box.cell (i := 0) rfl
                  have x1 := HBd.out.wx.box.cell (i := 1) rfl
                  have x2 := HBd.out.wx.box.cell (i := 2) rfl
                  have x3 := HBd.out.wx.box.cell (i := 3) rfl
                  have x4 := HBd.out.wx.box.cell (i := 4) rfl
                  have x5 := HBd.out.wx.box.cell (i := 5) rfl
                  have x6 := HBd.out.wx.box.cell (i := 6) rfl
                  have x7 := HBd.out.wx.box.cell (i := 7) rfl
                  have x8 := HBd.out.wx.box.cell (i := 8) rfl
                  have x9 := HBd.out.wx.box.cell (i := 9) rfl
                  go_wp2_with fail
                  refine (tr_new 1 2 100 100 200 4 1000 10 810 910 T 1510 nx rs l2 HD2.out _).mono ?_; rintro e w6 ⟨q, rfl, hq, hT6, hqw, hK⟩
                  clear x0 x1 x2 x3 x4 x5 x6 x7 x8 x9
                  have HT6 := Lib.hid hT6
                  have HM6 := Lib.hid (HM2.out.kept hK (fun h => h) (fun h => h))
                  have HKq := Lib.hid ((Kept.refl (Own b g) wc).trans hK (fun _ _ h => h.elim))
                  clear hT6 hK HM2 HD2
                  go_wp2_with fail
                  go_loopw [14] (fun i wz => ∃ (p d : Nat) (l3 : List Cel), i = .int .u64 ((p + 1 : Nat) : Int) ∧ 0 < d ∧ p + d ≤ 50 ∧ KTr wz q T rs nx l3 d ∧ Mem wz b g l3 (k + p) ∧ Kept (Own b g) wc wz) (fun i _ => 500 - (intOf i).toNat)
                  case atStart => exact ⟨0, 2 * rs.length + 4, l2, rfl, by omega, by omega, HT6.out, HM6.out, HKq.out⟩
                  case round =>
                    rename World => wz
                    clear HT6 HM6 HKq
                    obtain ⟨p, d, l3, rfl, hd0, hjd, hT3, hM3, hK3⟩ := hrel
                    have HT3 := Lib.hid hT3
                    have HM3 := Lib.hid hM3
                    have HK3 := Lib.hid hK3
                    have hp5 : ((p + 1 : Nat) : Int) < 200 := by omega
                    clear hT3 hM3 hK3
                    go_wp2_with fail
                    refine (vtrunc HM3.out HT3.out hd0 (by omega) (by omega)).mono ?_; rintro e w7 ⟨d', l4, hd', rfl, hT4, hM4, hK4⟩
                    have HT4 := Lib.hid hT4
                    have HM4 := Lib.hid hM4
                    have HK4 := Lib.hid (one_step HK3.out hK4 (by omega))
                    clear hT4 hM4 hK4 HT3 HM3 HK3
                    by_cases hz : d' = 0
                    · subst hz
                      have hd4 := HT4.out.db
                      rw [if_pos rfl] at hd4
                      have HW7 := Lib.hid (show Wx w.heap.size w7 w1.heap.size b g (k + p + 1) nx (rs.take (cutAt T (vrs rs))) from ⟨⟨l4, HM4.out, hd4⟩, HK4.out.blk HBd.out.wx.box (fun e => by rcases e with e | e <;> omega), HBd.out.wx.lo, HBd.out.wx.ne⟩)
                      obtain ⟨m', hm'⟩ : ∃ m', cutAt T ys = m' := ⟨_, rfl⟩
                      have HM' := Lib.hid hm'
                      have hmm : m' ≤ m := by rw [← hm', ← HBd.out.len]; exact cutAt_le T ys
                      obtain ⟨de, hde⟩ : ∃ de, dead T ys = de := ⟨_, rfl⟩
                      have HDE := Lib.hid hde
                      clear hd4 HM4 hm' hde
                      go_wp2_with fail
                      refine (refCut_far A2 c2 ys T _ m HBd.out.len (by omega) (HBd.out.listK HK4.out) m' HM'.out).mono ?_; rintro e w8 ⟨A8, c8, rfl, hR8, hB8, hF8⟩
                      have hK8 := keptNone hB8
                      have HR8 := Lib.hid hR8
                      have HF8 := Lib.hid hF8
                      have HK8 := Lib.hid hK8
                      replace HT4 := Lib.hid (HT4.out.kept hK8 (fun h => h))
                      clear hR8 hB8 hF8 hK8
                      go_wp2_with fail
                      refine (tr_dead 1 2 100 100 200 4 1000 10 810 910 q 1 T 1510 nx _ rs l4 HT4.out de (by rw [HBd.out.ver]; exact HDE.out)).mono ?_; rintro e w9 ⟨rfl, rfl⟩
                      go_wp2_with fail
                      refine (refDead_any A8 c8 (Plain.cut T ys) T _ m' (by rw [cut_length]; exact HM'.out) (by omega) HR8.out de (by rw [dead_cut]; exact HDE.out)).mono ?_; rintro e w10 ⟨rfl, hB10⟩
                      have HK10 := Lib.hid (HK8.out.trans (keptNone hB10) (fun _ _ h => h))
                      have HR10 := Lib.hid (HR8.out.kept (keptNone hB10) (fun _ _ h => h))
                      clear hB10 HT4 HDE HR8 HK8
                      go_wp2
                      go_meet
                      exact ⟨p + 1, k + p + 1, nx, tn, m', _, A8, c8, _, vw, ws, rfl, rfl, rfl, rfl, rfl, by omega, by omega, by omega, by omega, HBd.out.cut HK4.out HK10.out (HW7.out.kept HK10.out) HR10.out HF8.out HM'.out⟩
                    · have hz2 : (d' == 0) = false := by simp; omega
                      rw [hz2]
                      go_wp2
                      go_roundw
                      case rel => exact ⟨p + 1, d', l4, by go_num, by omega, by omega, HT4.out, HM4.out, HK4.out⟩
                      case measure => simp [intOf]; omega
            · as_aux_lemma =>
                have h5' : ((r : Int) == 5) = false := by simp; omega
                have s0 := HS.out.cell (i := 0) rfl
                have s1 := HS.out.cell (i := 1) rfl
                have s2 := HS.out.cell (i := 2) rfl
                have s3 := HS.out.cell (i := 3) rfl
                go_wp2_with fail
                refine (write_any kd fl v dl _).mono ?_; rintro e w6 ⟨s, rfl, hdl, hK⟩
                clear s0 s1 s2 s3
                have hs6 := hK.size
                obtain ⟨l2, hm2, hd2⟩ := HBd.out.wx.db
                have HM2 := Lib.hid ((hm2.kept hK (fun h => h) (fun h => h)).alloc (.cells #[.string ⟨#[]⟩, .string s, .bool dl] 45))
                have HD2 := Lib.hid hd2
                have HP := Lib.hid (Blk.new w6 [.string ⟨#[]⟩, .string s, .bool dl] 45)
                have HX := Lib.hid ((hK.blk HBd.out.wx.box (fun h => h)).alloc (.cells #[.string ⟨#[]⟩, .string s, .bool dl] 45))
                have HKc := Lib.hid (((Kept.refl (Own b g) wc).trans hK (fun _ _ h => h.elim)).alloc (.cells #[.string ⟨#[]⟩, .string s, .bool dl] 45))
                have hz6 := nblk_alloc w6 (.cells #[.string ⟨#[]⟩, .string s, .bool dl] 45)
                have hltq := HBd.out.wx.lt
                have hrl := HBd.out.rlen
                clear hm2 hd2 hK
                have p0 := HP.out.cell (i := 0) rfl
                have p1 := HP.out.cell (i := 1) rfl
                have p2 := HP.out.cell (i := 2) rfl
                have x0 := HX.out.cell (i := 0) rfl
                have x1 := HX.out.cell (i := 1) rfl
                have x2 := HX.out.cell (i := 2) rfl
                have x3 := HX.out.cell (i := 3) rfl
                have x4 := HX.out.cell (i := 4) rfl
                have x5 := HX.out.cell (i := 5) rfl
                have x6 := HX.out.cell (i := 6) rfl
                have x7 := HX.out.cell (i := 7) rfl
                have x8 := HX.out.cell (i := 8) rfl
                have x9 := HX.out.cell (i := 9) rfl
                go_wp2_with fail
                refine (in_new 1 2 100 100 200 4 1000 10 810 910 1510 nx rs l2 HD2.out ⟨#[]⟩ s dl _).mono ?_; rintro e w7 ⟨q, rfl, hq, hI, hqw, hK⟩
                clear x0 x1 x2 x3 x4 x5 x6 x7 x8 x9
                clear p0 p1 p2
                have HI := Lib.hid hI
                replace HM2 := Lib.hid (HM2.out.kept hK (fun h => h) (fun h => h))
                replace HP := Lib.hid (hK.blk HP.out (fun h => h))
                replace HKc := Lib.hid (HKc.out.trans hK (fun _ _ h => h.elim))
                have hs7 := hK.size
                clear hI hK HX HD2
                go_wp2_with fail
                go_loopw [14] (fun i wz => ∃ (ph : Nat) (l3 : List Cel), i = .int .u64 ((ph + 1 : Nat) : Int) ∧ ph < 4 ∧ KIn wz q rs nx l3 (s, dl) ph ∧ Mem wz b g l3 (k + ph) ∧ Blk wz w6.heap.size 45 [.string ⟨#[]⟩, .string s, .bool dl] ∧ Kept (Own b g) wc wz) (fun i _ => 500 - (intOf i).toNat)
                case atStart => exact ⟨0, l2, rfl, by omega, HI.out, HM2.out, HP.out, HKc.out⟩
                case round =>
                  rename World => wz
                  clear HI HM2 HP HKc
                  obtain ⟨ph, l3, rfl, hph, hI, hM, hP, hKz⟩ := hrel
                  have HI := Lib.hid hI
                  have HM := Lib.hid hM
                  have HP := Lib.hid hP
                  have HKz := Lib.hid hKz
                  have hp5 : ((ph + 1 : Nat) : Int) < 200 := by omega
                  have hsz := hKz.size
                  clear hI hM hP hKz
                  go_wp2_with fail
                  refine (vinst HM.out HI.out hph (by omega) (by omega) (by omega)).mono ?_; rintro e w8 ⟨l4, rfl, hI4, hM4, hK4⟩
                  have HI4 := Lib.hid hI4
                  have HM4 := Lib.hid hM4
                  have HP4 := Lib.hid (hK4.blk HP.out (fun e => by rcases e with e | e | e <;> omega))
                  have HK4 := Lib.hid (one_step HKz.out hK4 (by omega))
                  clear hI4 hM4 hK4 HI HM HP HKz
                  by_cases hz : ph + 1 = 4
                  · have hz2 : (ph + 1 == 4) = true := by simp; omega
                    rw [hz2]
                    obtain rfl : ph = 3 := by omega
                    have hW : Wx w.heap.size w8 w1.heap.size b g (k + 3 + 1) (nx + 1) ((nx + 1, (0, s, dl)) :: rs) := by
                      obtain ⟨old, M, -, -, -, -, -, -, h4, -⟩ := HI4.out
                      refine ⟨⟨l4, HM4.out, ?_⟩, HK4.out.blk HBd.out.wx.box (fun e => by rcases e with e | e <;> omega), HBd.out.wx.lo, HBd.out.wx.ne⟩
                      have h5 := h4 rfl
                      cases hdd : dl
                      · rw [hdd] at h5; exact h5
                      · rw [hdd] at h5; rw [hdl hdd]; exact h5
                    have HW := Lib.hid hW
                    have HI := HI4
                    have HP := HP4
                    have HK := HK4
                    have hs8 := HK4.out.size
                    have HL := Lib.hid (HBd.out.listK HK4.out)
                    have HO := Lib.hid (HBd.out.recsK HK4.out)
                    have hp8 := HP4.out.lt
                    clear hW HM4 hz
                    go_upto_if 116 with fail
                    go_cut [19] from 62 to 122 (fun v19 wx => v19 = .int .u64 ((num rs 0 : Nat) : Int) ∧ wx = w8)
                    case first =>
                      by_cases hm0 : 0 < m
                      · obtain ⟨lw, hlw⟩ : ∃ lw, ws.length = lw := ⟨_, rfl⟩
                        obtain ⟨hl0, hlast⟩ := HBd.out.last hm0
                        have hO9 := HO.out
                        rw [hlw] at hO9 hl0 hlast
                        obtain ⟨Ar, cr, hvw, hlr, hRw⟩ := Rw.own hO9
                        subst hvw
                        obtain ⟨z, rfl⟩ : ∃ z, lw = z + 1 := ⟨lw - 1, by omega⟩
                        obtain ⟨gr, offr, rfl, hgr, hcr⟩ := hRw.at (by omega)
                        have cr0 := hcr z (num rs 0) hlast
                        have hwn := HBd.out.wn
                        rw [hlw] at hwn
                        have hz20 : z ≤ 20 := by omega
                        have e1 : (((z + 1 : Nat) : Int) - 1) = (z : Int) := by omega
                        clear hcr hRw hO9
                        go_wp2
                        go_meet
                        exact ⟨rfl, rfl⟩
                      · have hnum0 : num rs 0 = 0 := num_none (by omega)
                        have hm0' : m = 0 := by omega
                        subst hm0'
                        go_wp2
                        go_meet
                        exact ⟨by rw [hnum0]; rfl, rfl⟩
                    case rest =>
                      rename World => wn
                      obtain ⟨rfl, hwn8⟩ := hcut
                      have hwn9 := hwn8.symm
                      subst hwn9
                      clear hwn8
                      have x0 := HW.out.box.cell (i := 0) rfl
                      have x1 := HW.out.box.cell (i := 1) rfl
                      have x2 := HW.out.box.cell (i := 2) rfl
                      have x3 := HW.out.box.cell (i := 3) rfl
                      have x4 := HW.out.box.cell (i := 4) rfl
                      have x5 := HW.out.box.cell (i := 5) rfl
                      have x6 := HW.out.box.cell (i := 6) rfl
                      have x7 := HW.out.box.cell (i := 7) rfl
                      have x8 := HW.out.box.cell (i := 8) rfl
                      have x9 := HW.out.box.cell (i := 9) rfl
                      go_wp2_with fail
                      refine (vpeek HW.out (m + 1) (by simp [hrl]) (by omega) ((0, s, dl) :: ys) (by rw [vrs_cons, HBd.out.ver])).mono ?_; rintro e w9 ⟨Ap, cp, rfl, hRp, hB9⟩
                      clear x0 x1 x2 x3 x4 x5 x6 x7 x8 x9
                      have hK := keptNone hB9
                      obtain ⟨gp, offp, rfl, hgp, -⟩ := hRp.at (by simp)
                      have HRp := Lib.hid hRp
                      replace HW := Lib.hid (HW.out.kept hK)
                      replace HI := Lib.hid (HI.out.kept hK (fun h => h))
                      replace HP := Lib.hid (hK.blk HP.out (fun h => h))
                      replace HL := Lib.hid (HL.out.kept hK (fun _ _ h => h))
                      replace HK := Lib.hid (HK.out.trans hK (fun _ _ h => h.elim))
                      have hs9 := hK.size
                      have hnq := neq_ver 0 s dl
                      have hwm := wrap_i ((m : Int) + 1) (by omega)
                      have h1m : (1 : Int) ≤ (m : Int) + 1 := by omega
                      obtain ⟨At, hAt⟩ : ∃ At, (if cp = 1 then some (⟨gp, offp, none⟩ : Addr) else some ⟨gp, offp + 3, none⟩) = At := ⟨_, rfl⟩
                      clear hRp hB9 hK HO
                      go_wp2_with fail
                      refine qregion (fun w' => Kept (fun _ => False) w9 w' ∧ KIn w' q rs nx l4 (s, dl) 4 ∧ Blk w' w6.heap.size 45 [.string ⟨#[]⟩, .string s, .bool dl] ∧ Rv w' (some ⟨gp, offp, none⟩) cp ((0, s, dl) :: ys) ∧ Rv w' A2 c2 ys) (by kernel_rfl) (lexOf lexBuilds30 (by kernel_rfl)) (have hk := (Kept.refl (fun _ => False) w9).drew; ⟨hk, HI.out.kept hk (fun h => h), hk.blk HP.out (fun h => h), HRp.out.kept hk (fun _ _ h => h), HL.out.kept hk (fun _ _ h => h)⟩) ?_
                      refine qstep (o := ⟨some 126, _, _, _, _, _⟩) (v := ?_) (by rfl) (fun wq hSw => ?_) ?_
                      rotate_left
                      · (go_simp; try with_reducible rfl)
                      try simp only [Act.put, List.setIfInBounds_toArray, List.set_cons_zero, List.set_cons_succ]
                      refine qcall (o := ⟨some 127, _, _, _, _, _⟩) (v := .int .u64 ((num rs 0 : Nat) : Int)) (by rfl) (fun wq hSw => ?_) (fun wq hSw => Calls.mono (in_old 1 2 100 100 200 4 1000 10 810 910 q 1510 nx _ rs l4 (s, dl) hSw.2.1) ?_) ?_
                      · (go_simp; try with_reducible rfl)
                      · rintro e w9 ⟨rfl, rfl⟩; exact ⟨rfl, hSw⟩
                      try simp only [Act.put, List.setIfInBounds_toArray, List.set_cons_zero, List.set_cons_succ]
                      refine qstep (o := ⟨some 128, _, _, _, _, _⟩) (v := ?_) (by rfl) (fun wq hSw => ?_) ?_
                      rotate_left
                      · (go_simp; try with_reducible rfl)
                      try simp only [Act.put, List.setIfInBounds_toArray, List.set_cons_zero, List.set_cons_succ]
                      refine qstep (o := ⟨some 129, _, _, _, _, _⟩) (v := .bool false) (by rfl) (fun wq hSw => ?_) ?_
                      · (go_simp; try first | (with_reducible rfl) | (simp; omega) | (intros; omega) | simp [*])
                      try simp only [Act.put, List.setIfInBounds_toArray, List.set_cons_zero, List.set_cons_succ]
                      refine qstep (o := ⟨some 130, _, _, _, _, _⟩) (v := ?_) (by rfl) (fun wq hSw => ?_) ?_
                      rotate_left
                      · (go_simp; try with_reducible rfl)
                      try simp only [Act.put, List.setIfInBounds_toArray, List.set_cons_zero, List.set_cons_succ]
                      refine qstep (o := ⟨some 131, _, _, _, _, _⟩) (v := ?_) (by rfl) (fun wq hSw => ?_) ?_
                      rotate_left
                      · (go_simp; try with_reducible rfl)
                      try simp only [Act.put, List.setIfInBounds_toArray, List.set_cons_zero, List.set_cons_succ]
                      refine qstep (o := ⟨some 132, _, _, _, _, _⟩) (v := ?_) (by rfl) (fun wq hSw => ?_) ?_
                      rotate_left
                      · (go_simp; try with_reducible rfl)
                      try simp only [Act.put, List.setIfInBounds_toArray, List.set_cons_zero, List.set_cons_succ]
                      refine qstep (o := ⟨some 133, _, _, _, _, _⟩) (v := ?_) (by rfl) (fun wq hSw => ?_) ?_
                      rotate_left
                      · (go_simp; try with_reducible rfl)
                      try simp only [Act.put, List.setIfInBounds_toArray, List.set_cons_zero, List.set_cons_succ]
                      refine qstep (o := ⟨some 134, _, _, _, _, _⟩) (v := ?_) (by rfl) (fun wq hSw => ?_) ?_
                      rotate_left
                      · (go_simp; try with_reducible rfl)
                      try simp only [Act.put, List.setIfInBounds_toArray, List.set_cons_zero, List.set_cons_succ]
                      refine qstep (o := ⟨some 135, _, _, _, _, _⟩) (v := .int .i64 ((m : Int) + 1)) (by rfl) (fun wq hSw => ?_) ?_
                      · (go_simp; try first | (with_reducible rfl) | (simp; omega) | (intros; omega) | simp [*])
                      try simp only [Act.put, List.setIfInBounds_toArray, List.set_cons_zero, List.set_cons_succ]
                      refine qstep (o := ⟨some 136, _, _, _, _, _⟩) (v := .bool false) (by rfl) (fun wq hSw => ?_) ?_
                      · (go_simp; try first | (with_reducible rfl) | (simp; omega) | (intros; omega) | simp [*])
                      try simp only [Act.put, List.setIfInBounds_toArray, List.set_cons_zero, List.set_cons_succ]
                      refine qstep (o := ⟨some 137, _, _, _, _, _⟩) (v := ?_) (by rfl) (fun wq hSw => ?_) ?_
                      rotate_left
                      · (go_simp; try with_reducible rfl)
                      try simp only [Act.put, List.setIfInBounds_toArray, List.set_cons_zero, List.set_cons_succ]
                      refine qstep (o := ⟨some 138, _, _, _, _, _⟩) (v := ?_) (by rfl) (fun wq hSw => ?_) ?_
                      rotate_left
                      · (go_simp; try with_reducible rfl)
                      try simp only [Act.put, List.setIfInBounds_toArray, List.set_cons_zero, List.set_cons_succ]
                      refine qstep (o := ⟨some 139, _, _, _, _, _⟩) (v := ?_) (by rfl) (fun wq hSw => ?_) ?_
                      rotate_left
                      · (go_simp; try with_reducible rfl)
                      try simp only [Act.put, List.setIfInBounds_toArray, List.set_cons_zero, List.set_cons_succ]
                      refine qstep (o := ⟨some 140, _, _, _, _, _⟩) (v := .pointer (some ⟨gp, offp, none⟩)) (by rfl) (fun wq hSw => ?_) ?_
                      · (go_simp; try first | (with_reducible rfl) | (simp; omega) | (intros; omega) | simp [*])
                      try simp only [Act.put, List.setIfInBounds_toArray, List.set_cons_zero, List.set_cons_succ]
                      refine qstep (o := ⟨some 141, _, _, _, _, _⟩) (v := ?_) (by rfl) (fun wq hSw => ?_) ?_
                      rotate_left
                      · (obtain ⟨y0, y1, y2⟩ := hSw.2.2.2.1.cells (i := 0) rfl; simp only [Nat.zero_mul, Nat.add_zero] at y0 y1 y2; go_simp; try with_reducible rfl)
                      try simp only [Act.put, List.setIfInBounds_toArray, List.set_cons_zero, List.set_cons_succ]
                      refine qstep (o := ⟨some 142, _, _, _, _, _⟩) (v := ?_) (by rfl) (fun wq hSw => ?_) ?_
                      rotate_left
                      · (go_simp; try with_reducible rfl)
                      try simp only [Act.put, List.setIfInBounds_toArray, List.set_cons_zero, List.set_cons_succ]
                      refine qstep (o := ⟨some 143, _, _, _, _, _⟩) (v := ?_) (by rfl) (fun wq hSw => ?_) ?_
                      rotate_left
                      · (have p1 := hSw.2.2.1.cell (i := 1) rfl; go_simp; try with_reducible rfl)
                      try simp only [Act.put, List.setIfInBounds_toArray, List.set_cons_zero, List.set_cons_succ]
                      refine qstep (o := ⟨some 144, _, _, _, _, _⟩) (v := ?_) (by rfl) (fun wq hSw => ?_) ?_
                      rotate_left
                      · (go_simp; try with_reducible rfl)
                      try simp only [Act.put, List.setIfInBounds_toArray, List.set_cons_zero, List.set_cons_succ]
                      refine qstep (o := ⟨some 145, _, _, _, _, _⟩) (v := ?_) (by rfl) (fun wq hSw => ?_) ?_
                      rotate_left
                      · (have p2 := hSw.2.2.1.cell (i := 2) rfl; go_simp; try with_reducible rfl)
                      try simp only [Act.put, List.setIfInBounds_toArray, List.set_cons_zero, List.set_cons_succ]
                      refine qstep (o := ⟨some 146, _, _, _, _, _⟩) (v := ?_) (by rfl) (fun wq hSw => ?_) ?_
                      rotate_left
                      · (go_simp; try with_reducible rfl)
                      try simp only [Act.put, List.setIfInBounds_toArray, List.set_cons_zero, List.set_cons_succ]
                      refine qstep (o := ⟨some 147, _, _, _, _, _⟩) (v := .bool false) (by rfl) (fun wq hSw => ?_) ?_
                      · (go_simp; try first | (with_reducible rfl) | (simp; omega) | (intros; omega) | simp [*])
                      try simp only [Act.put, List.setIfInBounds_toArray, List.set_cons_zero, List.set_cons_succ]
                      refine qstep (o := ⟨some 148, _, _, _, _, _⟩) (v := ?_) (by rfl) (fun wq hSw => ?_) ?_
                      rotate_left
                      · (go_simp; try with_reducible rfl)
                      try simp only [Act.put, List.setIfInBounds_toArray, List.set_cons_zero, List.set_cons_succ]
                      refine qstep (o := ⟨some 149, _, _, _, _, _⟩) (v := ?_) (by rfl) (fun wq hSw => ?_) ?_
                      rotate_left
                      · (go_simp; try with_reducible rfl)
                      try simp only [Act.put, List.setIfInBounds_toArray, List.set_cons_zero, List.set_cons_succ]
                      refine qstep (o := ⟨some 150, _, _, _, _, _⟩) (v := ?_) (by rfl) (fun wq hSw => ?_) ?_
                      rotate_left
                      · (go_simp; try with_reducible rfl)
                      try simp only [Act.put, List.setIfInBounds_toArray, List.set_cons_zero, List.set_cons_succ]
                      refine qstep (o := ⟨some 151, _, _, _, _, _⟩) (v := .slice At m (cp - 1)) (by rfl) (fun wq hSw => ?_) ?_
                      · (go_simp; try first | (with_reducible rfl) | (simp; omega) | (intros; omega) | simp [*])
                      try simp only [Act.put, List.setIfInBounds_toArray, List.set_cons_zero, List.set_cons_succ]
                      refine qstep (o := ⟨some 152, _, _, _, _, _⟩) (v := ?_) (by rfl) (fun wq hSw => ?_) ?_
                      rotate_left
                      · (go_simp; try with_reducible rfl)
                      try simp only [Act.put, List.setIfInBounds_toArray, List.set_cons_zero, List.set_cons_succ]
                      refine qcall (o := ⟨some 153, _, _, _, _, _⟩) (v := .bool true) (by rfl) (fun wq hSw => ?_) (fun wq hSw => Calls.mono (same_any At A2 (cp - 1) c2 ys _ m HBd.out.len (by omega) (hAt ▸ hSw.2.2.2.1.tail2) hSw.2.2.2.2) ?_) ?_
                      · (go_simp; try with_reducible rfl)
                      · rintro e w9x ⟨rfl, hB⟩; have hk := keptNone hB; exact ⟨rfl, hSw.1.trans hk (fun _ _ h => h), hSw.2.1.kept hk (fun h => h), hk.blk hSw.2.2.1 (fun h => h), hSw.2.2.2.1.kept hk (fun _ _ h => h), hSw.2.2.2.2.kept hk (fun _ _ h => h)⟩
                      try simp only [Act.put, List.setIfInBounds_toArray, List.set_cons_zero, List.set_cons_succ]
                      refine qstep (o := ⟨some 154, _, _, _, _, _⟩) (v := .bool false) (by rfl) (fun wq hSw => ?_) ?_
                      · (go_simp; try first | (with_reducible rfl) | (simp; omega) | (intros; omega) | simp [*])
                      try simp only [Act.put, List.setIfInBounds_toArray, List.set_cons_zero, List.set_cons_succ]
                      refine qstep (o := ⟨some 155, _, _, _, _, _⟩) (v := ?_) (by rfl) (fun wq hSw => ?_) ?_
                      rotate_left
                      · (go_simp; try with_reducible rfl)
                      try simp only [Act.put, List.setIfInBounds_toArray, List.set_cons_zero, List.set_cons_succ]
                      refine wpQuiet_nil ?_
                      intro wz hHeld
                      obtain ⟨hK, hI, hP, -, -⟩ := hHeld
                      replace HW := Lib.hid (HW.out.kept hK)
                      replace HI := Lib.hid hI
                      replace HP := Lib.hid hP
                      replace HK := Lib.hid (HK.out.trans hK (fun _ _ h => h.elim))
                      have hs10 := hK.size
                      clear hI hP hK HRp HL hnq hwm h1m hAt
                      have hsS := HK.out.blk HS.out (fun e => by rcases e with e | e <;> omega)
                      have s0 := hsS.cell (i := 0) rfl
                      clear hsS
                      go_wp2_with fail
                      refine (mod_of kd 6 r _ (by omega) (by omega) hr).mono ?_; rintro e w11x ⟨rfl, rfl⟩
                      clear s0
                      by_cases h4 : r = 4
                      · as_aux_lemma =>
                          have h4' : ((r : Int) == 4) = true := by simp; omega
                          rename World => w11
                          go_wp2_with fail
                          refine qtail 3 (fun w' => Kept (fun _ => False) w11 w' ∧ Blk w' w1.heap.size 27 [.int .i64 1, .int .i64 2, .int .i64 100, .int .i64 100, .int .i64 200, .int .i64 4, .int .u64 1000, .int .i64 10, .int .i64 810, .int .i64 910] ∧ KIn w' q rs nx l4 (s, dl) 4) (by kernel_rfl) (by kernel_rfl) ⟨(Kept.refl _ _).drew, HW.out.box, HI.out.kept (Y := fun _ => False) (Kept.refl _ _).drew (fun h => h)⟩ ?_
                          simp only [List.take_succ_cons, List.take_zero, List.drop_succ_cons, List.drop_zero]
                          refine qstep (o := ⟨some 162, _, _, _, _, _⟩) (v := ?_) (by rfl) (fun wq hSw => ?_) ?_
                          rotate_left
                          · (have hb9 := hSw.2.1; have x0 := hb9.cell (i := 0) rfl; have x1 := hb9.cell (i := 1) rfl; have x2 := hb9.cell (i := 2) rfl; have x3 := hb9.cell (i := 3) rfl; have x4 := hb9.cell (i := 4) rfl; have x5 := hb9.cell (i := 5) rfl; have x6 := hb9.cell (i := 6) rfl; have x7 := hb9.cell (i := 7) rfl; have x8 := hb9.cell (i := 8) rfl; have x9 := hb9.cell (i := 9) rfl; clear hb9; go_simp; try with_reducible rfl)
                          try simp only [Act.put, List.setIfInBounds_toArray, List.set_cons_zero, List.set_cons_succ]
                          refine qstep (o := ⟨some 163, _, _, _, _, _⟩) (v := ?_) (by rfl) (fun wq hSw => ?_) ?_
                          rotate_left
                          · (go_simp; try with_reducible rfl)
                          try simp only [Act.put, List.setIfInBounds_toArray, List.set_cons_zero, List.set_cons_succ]
                          refine qcall (o := ⟨some 164, _, _, _, _, _⟩) (v := .int .u64 ((num rs 0 : Nat) : Int)) (by rfl) (fun wq hSw => ?_) (fun wq hSw => Calls.mono (in_old 1 2 100 100 200 4 1000 10 810 910 q 1510 nx _ rs l4 (s, dl) hSw.2.2) ?_) ?_
                          · (go_simp; try with_reducible rfl)
                          · rintro e w9 ⟨rfl, rfl⟩; exact ⟨rfl, hSw⟩
                          try simp only [Act.put, List.setIfInBounds_toArray, List.set_cons_zero, List.set_cons_succ]
                          refine wpQuiet_nil ?_
                          intro wz hHeld
                          obtain ⟨hK, -, -⟩ := hHeld
                          have hs12 := hK.size
                          clear HI HI4
                          replace HW := Lib.hid (HW.out.kept hK)
                          replace HK := Lib.hid (HK.out.trans hK (fun _ _ h => h.elim))
                          clear hK
                          go_wp2_with fail
                          refine (newRestore_k (num rs 0) _).mono ?_; rintro e w15 ⟨q2, rfl, hq2, hQ, hK⟩
                          have HQ := Lib.hid hQ
                          have hs15 := hK.size
                          replace HW := Lib.hid (HW.out.kept hK)
                          replace HK := Lib.hid (HK.out.trans hK (fun _ _ h => h.elim))
                          clear hQ hK
                          go_wp2_with fail
                          refine (vrestore HW.out HQ.out (by omega) (by omega)).mono ?_; rintro e w16 ⟨rfl, hW, hK⟩
                          replace HW := Lib.hid hW
                          replace HK := Lib.hid (one_step HK.out hK (by omega))
                          clear HQ hW hK
                          go_wp2
                          go_meet
                          exact ⟨5, k + 3 + 1 + 1, nx + 1, tn, m, rs, A2, c2, ys, vw, ws, rfl, rfl, rfl, rfl, by first | rfl | go_num | simp, by omega, by omega, by omega, by omega, HBd.out.used (by omega) HW.out HK.out⟩
                      · as_aux_lemma =>
                          have h4' : ((r : Int) == 4) = false := by simp; omega
                          rename World => w11
                          obtain ⟨f2, hf2⟩ : ∃ f2, fl % 2 = f2 := ⟨_, rfl⟩
                          have hf21 : (fl : Int) % 2 = (f2 : Int) := by omega
                          have hf22 : (fl : Int).tmod 2 = (f2 : Int) := by rw [Int.tmod_eq_emod_of_nonneg (by omega)]; omega
                          have hf23 : f2 < 2 := by omega
                          obtain ⟨tn2, htn2⟩ : ∃ tn2, tn + 1 + f2 = tn2 := ⟨_, rfl⟩
                          have htn3 : (tn : Int) + 1 + (f2 : Int) = (tn2 : Int) := by omega
                          clear hf2
                          have hsS := HK.out.blk HS.out (fun e => by rcases e with e | e <;> omega)
                          have s3 := hsS.cell (i := 3) rfl
                          have x0 := HW.out.box.cell (i := 0) rfl
                          have x1 := HW.out.box.cell (i := 1) rfl
                          have x2 := HW.out.box.cell (i := 2) rfl
                          have x3 := HW.out.box.cell (i := 3) rfl
                          have x4 := HW.out.box.cell (i := 4) rfl
                          have x5 := HW.out.box.cell (i := 5) rfl
                          have x6 := HW.out.box.cell (i := 6) rfl
                          have x7 := HW.out.box.cell (i := 7) rfl
                          have x8 := HW.out.box.cell (i := 8) rfl
                          have x9 := HW.out.box.cell (i := 9) rfl
                          go_wp2_with fail
                          refine (newStamp_k (nx + 1) tn2 _).mono ?_; rintro e w15 ⟨q2, rfl, hq2, hQ, hK⟩
                          clear x0 x1 x2 x3 x4 x5 x6 x7 x8 x9
                          clear s3 hsS hf21 hf22
                          have HQ := Lib.hid hQ
                          have hs15 := hK.size
                          replace HW := Lib.hid (HW.out.kept hK)
                          replace HK := Lib.hid (HK.out.trans hK (fun _ _ h => h.elim))
                          replace HP := Lib.hid (hK.blk HP.out (fun h => h))
                          clear hQ hK HI HI4
                          go_wp2_with fail
                          refine (vstamp HW.out tn2 HQ.out (by omega) (by omega)).mono ?_; rintro e w16 ⟨rfl, hW, hK⟩
                          replace HW := Lib.hid hW
                          replace HK := Lib.hid (one_step HK.out hK (by omega))
                          replace HP := Lib.hid (hK.blk HP.out (fun e => by rcases e with e | e | e <;> omega))
                          have hs16 := hK.size
                          clear HQ hW hK
                          have HL6 := Lib.hid ((HBd.out.listK HK.out).kept ((Kept.refl (fun _ => False) w16).alloc (.cells #[.int .u64 ((tn2 : Nat) : Int), .string s, .bool dl] 51)) (fun _ _ h => h))
                          have HO6 := Lib.hid (own_kept (HBd.out.recsK HK.out) ((Kept.refl (fun _ => False) w16).alloc (.cells #[.int .u64 ((tn2 : Nat) : Int), .string s, .bool dl] 51)) (fun _ _ h => h))
                          have hO := own_new w16 w16.heap.size (Nat.le_refl _) ((tn2, s, dl) : Ve)
                          have HO := Lib.hid hO
                          have HK6 := Lib.hid (HK.out.alloc (.cells #[.int .u64 ((tn2 : Nat) : Int), .string s, .bool dl] 51))
                          have hs17 := (Kept.refl (fun _ => False) w16).alloc (.cells #[.int .u64 ((tn2 : Nat) : Int), .string s, .bool dl] 51) |>.size
                          have hlt16 := HW.out.lt
                          have p0 := HP.out.cell (i := 0) rfl
                          have p1 := HP.out.cell (i := 1) rfl
                          have p2 := HP.out.cell (i := 2) rfl
                          clear hO
                          go_wp2_with (at_builtin; go_must (refine wpList_app rfl (.tmp 191) (.tmp 192) rfl w16.heap.size _ 1 [((tn2, s, dl) : Ve)] rfl HO.out A2 m c2 ys rfl HBd.out.len HL6.out (by omega) hs17 ?_))
                          intro v8x w18 hO8 hB8
                          clear p0 p1 p2 HO
                          obtain ⟨A3, c3, rfl, hl8, hL8, hA8⟩ := Rv.own hO8
                          have hK8 := Below.kept2 hB8 (S := fun i => w16.heap.size ≤ i) (fun i h => h)
                          have hKa := ((Kept.refl (fun i => w16.heap.size ≤ i) w16).alloc (.cells #[.int .u64 ((tn2 : Nat) : Int), .string s, .bool dl] 51)).trans hK8 (fun i hi h => h)
                          replace HW := Lib.hid (HW.out.far hKa (by omega) (by omega) (by omega))
                          replace HK := Lib.hid (HK.out.trans hKa (fun i hi e => by omega))
                          have hrl16 : ∀ i, vw.ownBlock = some i → i < w16.heap.size ∧ w1.heap.size < i := fun i hi => by have h := (HBd.out.rlt hi); exact ⟨Nat.lt_of_lt_of_le h.1 (by omega), h.2⟩
                          have HO8 := Lib.hid (own_kept HO6.out hK8 (fun i hi e => by have := (hrl16 i hi).1; omega))
                          have HL8 := Lib.hid hL8
                          have HA8 := Lib.hid hA8
                          have hs18 := hKa.size
                          have hA3lt : ∀ a, A3 = some a → a.block < w18.heap.size := fun a ha => by
                            obtain ⟨g9, off9, e9, h9, _⟩ := hL8.some' (by simp)
                            rw [ha] at e9; cases e9; exact h9
                          have HAl := Lib.hid hA3lt
                          rw [Nat.add_comm 1 m]
                          obtain ⟨iu, hiu, hzu0, hzu1, hzu2⟩ := info_parts Try.info23
                          have HU0 := Lib.hid hiu
                          have HU1 := Lib.hid hzu0
                          have HU2 := Lib.hid hzu1
                          have HU3 := Lib.hid hzu2
                          have HRL := Lib.hid hrl16
                          have HNb := Lib.hid (show (w18.alloc (.cells #[.int .u64 ((nx + 1 : Nat) : Int)] 23)).heap[w18.heap.size]? = some (.cells ⟨words [nx + 1]⟩ 23 (0, 0)) from Blk.new w18 (words [nx + 1]) 23)
                          have hKu := (Kept.refl (fun _ => False) w18).alloc (.cells #[.int .u64 ((nx + 1 : Nat) : Int)] 23)
                          have HOu := Lib.hid (own_kept HO8.out hKu (fun _ _ h => h))
                          have hbase : w1.heap.size + 1 ≤ (w18.alloc (.cells #[.int .u64 ((nx + 1 : Nat) : Int)] 23)).heap.size := by have := hKu.size; omega
                          have hwn := HBd.out.wn
                          have HBASE := Lib.hid hbase
                          have HWN := Lib.hid hwn
                          have hwn20 : ws.length ≤ 20 := by omega
                          clear hO8 hB8 hL8 hA8 hK8 hKa HO6 HL6 HK6 HO8 hA3lt hiu hzu0 hzu1 hzu2 hrl16 hbase hwn
                          go_wp2_with (at_builtin; go_must (refine wpList_append_lies _ rfl (.tmp 194) (.tmp 196) 34 rfl (w1.heap.size + 1) 23 iu _ 1 8 Try.underlying34 HU0.out HU1.out HU2.out HU3.out rfl (by decide) vw ws.length (words ws) rfl HOu.out ⟨w18.heap.size, 0, none⟩ 1 1 (words [nx + 1]) rfl rfl (World.news_of_block HNb.out) (words_one _) (by omega) (by unfold maxLen; omega) (by omega) HBASE.out _ rfl ?_))
                          intro g4 cap4 w19 hown4 hgrow4 hat4 hlt4
                          have hKg : Kept (fun i => vw.ownBlock = some i) w18 w19 := (hKu.mono (fun _ h => h.elim)).grown hgrow4 (fun i hi _ => hi)
                          have hn4 : ∀ a, A3 = some a → w1.heap.size < a.block ∧ a.block ≠ g4 := fun a ha => by
                            have h1 := HA8.out a ha
                            have h2 := HAl.out a ha
                            refine ⟨by omega, fun e => ?_⟩
                            rcases hat4 with h | h
                            · have := (HRL.out g4 h).1; omega
                            · omega
                          have hwl : words ws ++ words [nx + 1] = words (ws ++ [nx + 1]) := by unfold words; rw [List.map_append]
                          rw [hwl] at hown4
                          replace HW := Lib.hid (HW.out.far hKg (fun h => by have := (HRL.out _ h).2; omega) (fun h => by have := (HRL.out _ h).2; omega) (fun h => by have := (HRL.out _ h).2; omega))
                          have HKw := Lib.hid ((HBd.out.kept.trans HK.out (fun _ _ h => h)).trans hKg (fun i hi h => by have := (HRL.out _ h).2; omega))
                          have HL9 := Lib.hid (HL8.out.kept hKg (fun a ha h => by have h1 := HA8.out a ha; have h2 := (HRL.out _ h).1; omega))
                          have HO9 := Lib.hid hown4
                          clear hown4 hgrow4 hat4 hlt4 hKg hwl hKu HNb HOu
                          have hB9 : Bd w.heap.size w w19 w1.heap.size b g (k + 3 + 1 + 1) (nx + 1) (m + 1) ((nx + 1, (tn2, s, dl)) :: rs) A3 c3 ((tn2, s, dl) :: ys) (.slice (some ⟨g4, 0, none⟩) (ws.length + 1) cap4) (ws ++ [nx + 1]) := HBd.out.push (t := tn2) (v := (s, dl)) HW.out HKw.out HL9.out hn4 HO9.out
                          have HB9 := Lib.hid hB9
                          clear hB9 HW HKw HL9 HO9 hn4
                          go_wp2
                          go_meet
                          exact ⟨5, k + 3 + 1 + 1, nx + 1, tn2, m + 1, (nx + 1, (tn2, s, dl)) :: rs, A3, c3, (tn2, s, dl) :: ys, .slice (some ⟨g4, 0, none⟩) (ws.length + 1) cap4, ws ++ [nx + 1], rfl, rfl, rfl, rfl, rfl, by omega, by omega, by omega, by omega, HB9.out⟩
                  · have hz2 : (ph + 1 == 4) = false := by simp; omega
                    rw [hz2]
                    go_wp2
                    go_roundw
                    case rel => exact ⟨ph + 1, l4, by go_num, by omega, HI4.out, HM4.out, HP4.out, HK4.out⟩
                    case measure => simp [intOf]; omega
          case rest =>
            rename World => wv
            obtain ⟨nn, k2, nx2, tn2, m2, rs2, A3, c3, ys2, vw2, ws2, rfl, rfl, rfl, rfl, rfl, hnn, hk2, hnx2, htn2, hBd2⟩ := hcut
            have HB2 := Lib.hid hBd2
            obtain ⟨l3, hm3, hd3⟩ := hBd2.wx.db
            have HM3 := Lib.hid hm3
            have hrl2 := hBd2.rlen
            have hmn2 := hBd2.mn
            have hk3 : decide ((k : Int) + (nn : Int) < (k2 : Int)) = false := by simp; omega
            obtain ⟨D, hD⟩ : ∃ D, tn2 / 2 = D := ⟨_, rfl⟩
            have hD1 : (tn2 : Int) / 2 = (D : Int) := by omega
            have hD2 : (tn2 : Int).tdiv 2 = (D : Int) := by rw [Int.tdiv_eq_ediv_of_nonneg (by omega)]; omega
            obtain ⟨F, hF⟩ : ∃ F, time % 40 = F := ⟨_, rfl⟩
            have hF1 : (time : Int) % 40 = (F : Int) := by omega
            have hF2 : (time : Int).tmod 40 = (F : Int) := by rw [Int.tmod_eq_emod_of_nonneg (by omega)]; omega
            clear hBd2 hm3 hd3 hD hF HBd HS hr
            have x0 := HB2.out.wx.box.cell (i := 0) rfl
            have x1 := HB2.out.wx.box.cell (i := 1) rfl
            have x2 := HB2.out.wx.box.cell (i := 2) rfl
            have x3 := HB2.out.wx.box.cell (i := 3) rfl
            have x4 := HB2.out.wx.box.cell (i := 4) rfl
            have x5 := HB2.out.wx.box.cell (i := 5) rfl
            have x6 := HB2.out.wx.box.cell (i := 6) rfl
            have x7 := HB2.out.wx.box.cell (i := 7) rfl
            have x8 := HB2.out.wx.box.cell (i := 8) rfl
            have x9 := HB2.out.wx.box.cell (i := 9) rfl
            go_wp2_with fail
            refine (accesses_any b g l3 k2 _ HM3.out).mono ?_; rintro e w20 ⟨rfl, rfl⟩
            clear HM3
            go_wp2_with fail
            refine (vpeek HB2.out.wx m2 hrl2 (by omega) ys2 HB2.out.ver).mono ?_; rintro e w21 ⟨Ap, cp, rfl, hRp, hB⟩
            clear x0 x1 x2 x3 x4 x5 x6 x7 x8 x9
            have HRp := Lib.hid hRp
            replace HB2 := Lib.hid (HB2.out.weak (keptNone hB))
            clear hRp hB
            go_wp2_with fail
            refine (same_any Ap A3 cp c3 ys2 _ m2 HB2.out.len (by omega) HRp.out HB2.out.list).mono ?_; rintro e w22 ⟨rfl, hB⟩
            replace HB2 := Lib.hid (HB2.out.weak (keptNone hB))
            clear HRp hB
            have x0 := HB2.out.wx.box.cell (i := 0) rfl
            have x1 := HB2.out.wx.box.cell (i := 1) rfl
            have x2 := HB2.out.wx.box.cell (i := 2) rfl
            have x3 := HB2.out.wx.box.cell (i := 3) rfl
            have x4 := HB2.out.wx.box.cell (i := 4) rfl
            have x5 := HB2.out.wx.box.cell (i := 5) rfl
            have x6 := HB2.out.wx.box.cell (i := 6) rfl
            have x7 := HB2.out.wx.box.cell (i := 7) rfl
            have x8 := HB2.out.wx.box.cell (i := 8) rfl
            have x9 := HB2.out.wx.box.cell (i := 9) rfl
            go_wp2_with fail
            refine (vpeek_none HB2.out.wx 2 (by omega)).mono ?_; rintro e w23 ⟨Aq, cq, rfl, hRq, hB⟩
            clear x0 x1 x2 x3 x4 x5 x6 x7 x8 x9
            have HRq := Lib.hid hRq
            replace HB2 := Lib.hid (HB2.out.weak (keptNone hB))
            clear hRq hB
            go_wp2_with fail
            refine (same_any Aq none cq 0 [] _ 0 rfl (by omega) HRq.out (Rv.nil _)).mono ?_; rintro e w24 ⟨rfl, hB⟩
            replace HB2 := Lib.hid (HB2.out.weak (keptNone hB))
            clear HRq hB
            have hK := (Kept.refl (fun _ => False) w24).alloc (.cells #[.int .u64 0, .int .u64 (tn2 : Int), .int .u64 (D : Int), .int .u64 (F : Int), .int .u64 (time : Int)] 23)
            have HBw := Lib.hid (Blk.new w24 [.int .u64 0, .int .u64 (tn2 : Int), .int .u64 (D : Int), .int .u64 (F : Int), .int .u64 (time : Int)] 23)
            have HB23 := HB2
            replace HB2 := Lib.hid (HB2.out.weak hK)
            have hlt24 := HBw.out.lt
            have hlb := HB2.out.bs
            have hls := HB23.out.wx.lt
            clear HB23
            clear hK
            go_wp2_with fail
            clear hk3 hD1 hD2 hF1 hF2
            go_loopw [231] (fun i wq => ∃ (i0 k5 : Nat), i0 ≤ 5 ∧ i = .int .i64 i0 ∧ k5 ≤ k2 + 500 * i0 ∧ Bd w.heap.size w wq w1.heap.size b g k5 nx2 m2 rs2 A3 c3 ys2 vw2 ws2 ∧ Blk wq w24.heap.size 23 [.int .u64 0, .int .u64 (tn2 : Int), .int .u64 (D : Int), .int .u64 (F : Int), .int .u64 (time : Int)]) (fun i _ => 5 - (intOf i).toNat)
            case atStart => exact ⟨0, k2, by omega, rfl, by omega, HB2.out, HBw.out⟩
            case round =>
              rename World => wq
              clear HB2 HBw
              obtain ⟨i0, k5, hi0, rfl, hk5, hB2, hBw⟩ := hrel
              have HB2 := Lib.hid hB2
              have HBw := Lib.hid hBw
              clear hB2 hBw
              by_cases hlt0 : i0 < 5
              · obtain ⟨T, hcT⟩ : ∃ T : Nat, wq.cell? ⟨w24.heap.size, i0, none⟩ = some (.int .u64 (T : Int)) := by
                  rcases (by omega : i0 = 0 ∨ i0 = 1 ∨ i0 = 2 ∨ i0 = 3 ∨ i0 = 4) with h | h | h | h | h <;> subst h
                  · exact ⟨0, HBw.out.cell (i := 0) rfl⟩
                  · exact ⟨tn2, HBw.out.cell (i := 1) rfl⟩
                  · exact ⟨D, HBw.out.cell (i := 2) rfl⟩
                  · exact ⟨F, HBw.out.cell (i := 3) rfl⟩
                  · exact ⟨time, HBw.out.cell (i := 4) rfl⟩
                obtain ⟨s, bb, hv⟩ : ∃ s bb, val T ys2 = (s, bb) := ⟨_, _, rfl⟩
                have HV := Lib.hid hv
                clear hv
                have x0 := HB2.out.wx.box.cell (i := 0) rfl
                have x1 := HB2.out.wx.box.cell (i := 1) rfl
                have x2 := HB2.out.wx.box.cell (i := 2) rfl
                have x3 := HB2.out.wx.box.cell (i := 3) rfl
                have x4 := HB2.out.wx.box.cell (i := 4) rfl
                have x5 := HB2.out.wx.box.cell (i := 5) rfl
                have x6 := HB2.out.wx.box.cell (i := 6) rfl
                have x7 := HB2.out.wx.box.cell (i := 7) rfl
                have x8 := HB2.out.wx.box.cell (i := 8) rfl
                have x9 := HB2.out.wx.box.cell (i := 9) rfl
                go_wp2_with fail
                refine (read_any w.heap.size _ w1.heap.size b g k5 nx2 rs2 HB2.out.wx (by omega) (by omega) T s bb (by rw [HB2.out.ver]; exact HV.out)).mono ?_; rintro e w25 ⟨rfl, k6, hk6, hW, hK⟩
                clear x0 x1 x2 x3 x4 x5 x6 x7 x8 x9
                clear hcT
                replace HB2 := Lib.hid (HB2.out.mem hW hK)
                replace HBw := Lib.hid (hK.blk HBw.out (fun e => by rcases e with e | e <;> omega))
                clear hW hK
                go_wp2_with fail
                refine (refValue_any A3 c3 ys2 T _ m2 HB2.out.len (by omega) HB2.out.list s bb HV.out).mono ?_; rintro e w26 ⟨rfl, hB⟩
                replace HB2 := Lib.hid (HB2.out.weak (keptNone hB))
                replace HBw := Lib.hid ((keptNone hB).blk HBw.out (fun h => h))
                clear hB HV
                go_wp2
                go_roundw
                case rel => exact ⟨i0 + 1, k6, by omega, by go_num, by omega, HB2.out, HBw.out⟩
                case measure => simp [intOf]; omega
              · obtain rfl : i0 = 5 := by omega
                go_wp2
                go_roundw
                case rel => exact ⟨j + 1, k5, nx2, tn2, m2, rs2, A3, c3, ys2, vw2, ws2, by omega, rfl, rfl, rfl, rfl, by go_num, by omega, by omega, by omega, HB2.out⟩
                case measure => simp [intOf]; omega
      · obtain rfl : j = n := by omega
        clear hBd
        have x0 := HBd.out.wx.box.cell (i := 0) rfl
        have x1 := HBd.out.wx.box.cell (i := 1) rfl
        have x2 := HBd.out.wx.box.cell (i := 2) rfl
        have x3 := HBd.out.wx.box.cell (i := 3) rfl
        have x4 := HBd.out.wx.box.cell (i := 4) rfl
        have x5 := HBd.out.wx.box.cell (i := 5) rfl
        have x6 := HBd.out.wx.box.cell (i := 6) rfl
        have x7 := HBd.out.wx.box.cell (i := 7) rfl
        have x8 := HBd.out.wx.box.cell (i := 8) rfl
        have x9 := HBd.out.wx.box.cell (i := 9) rfl
        go_wp2_with fail
        refine (vpeek_none HBd.out.wx 0 (by omega)).mono ?_; rintro e w30 ⟨Aq, cq, rfl, hRq, hB⟩
        have HK := Lib.hid (HBd.out.kept.trans (keptNone hB) (fun _ _ h => h.elim))
        clear x0 x1 x2 x3 x4 x5 x6 x7 x8 x9
        clear hRq hB
        go_wp2
        go_ret
        exact ⟨by first | rfl | simp, (HK.out.below (Nat.le_refl _) (fun i e => by rcases e with rfl | rfl <;> omega))⟩
end Go.Proofs.Ytlooekocfcnbiaa
