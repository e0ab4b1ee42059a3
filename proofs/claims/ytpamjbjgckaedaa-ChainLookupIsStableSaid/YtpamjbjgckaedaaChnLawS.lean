/-
  ChainLookupIsStable of the statements about chains in memory, walked. Condition: arguments within the model's reach.
-/
import Derived.Test.YtpamjbjgckaedaaChnWrx
namespace Go.Proofs.Ytpamjbjgckaedaa
open Go.RowKit Go.Deep Plain
set_option linter.unusedVariables false

theorem Rv.kept2 {w w' : World} {A : Option Addr} {c : Nat} {xs : List Ve} {Y : Nat → Prop} (h : Rv w A c xs) (hk : Kept Y w w') (hY : ∀ a, A = some a → a.block < w.heap.size → ¬ Y a.block) : Rv w' A c xs :=
  ⟨h.le, h.max, h.none', fun hp => by
    obtain ⟨g, off, e, hg, hc⟩ := h.some' hp
    exact ⟨g, off, e, Nat.lt_of_lt_of_le hg hk.size, fun j u hu => (hk.cell (p := ⟨g, off + j, none⟩) hg (show ¬ Y g from hY _ e hg)).trans (hc j u hu)⟩⟩
set_option maxRecDepth 100000 in
set_option maxHeartbeats 8000000 in
theorem walkStable (w : World) (A : Option Addr) (c : Nat) (xs : List Stp) (n : Nat) (hn : xs.length = n) (h47 : n ≤ maxLen) (hx : Rp w A c xs) (A' : Option Addr) (c' : Nat) (xs2 : List Stp) (n2 : Nat) (hn2 : xs2.length = n2) (h472 : n2 ≤ maxLen) (hy : Rp w A' c' xs2) (tt : Nat) (htt : tt < 256) (kA : Option Addr) (kC : Nat) (ps : List Nat) (np : Nat) (hps : ps.length = np) (hpm : np ≤ maxLen) (hpx : ∀ x ∈ ps, x < 256) (hp : 0 < np → ∃ g off, kA = some ⟨g, off, none⟩ ∧ g < w.heap.size ∧ ∀ (j x : Nat), ps[j]? = some x → w.cell? ⟨g, off + j, none⟩ = some (.int .u8 (x : Int))) :
    Calls Try.prog 4 #[.slice A n c, .slice A' n2 c', .int .u8 (tt : Int), .slice kA np kC] w fun e w' => e = .returned (.bool true) ∧ Below w.heap.size w w' := by
  have Hx := Lib.hid hx
  clear hx
  have Hy := Lib.hid hy
  clear hy
  have Hp := Lib.hid hp
  clear hp
  go_enter Try.func4, Try.ntmps4
  go_wp2_with fail
  refine (kitConfig_any 1 _).mono ?_; rintro e w0 ⟨rfl, hK0⟩
  have hs0 := hK0.size
  have HK0 := Lib.hid hK0
  clear hK0
  go_wp2_with fail
  refine (kitMem _).mono ?_; rintro e w1 ⟨b, g, l, rfl, hM1, hD1, hb1, hg1, hK1⟩
  have hbw : w.heap.size ≤ b := by omega
  have hgw : w.heap.size ≤ g := by omega
  have hbs := hM1.obj.lt
  have hgs := hM1.row.lt
  have HK := Lib.hid (((HK0.out.mono (T := Own b g) (fun _ h => h.elim)).trans hK1 (fun _ _ h => h.elim)).alloc (.cells #[.int .i64 1, .int .i64 2, .int .i64 100, .int .i64 100, .int .i64 200, .int .i64 4, .int .u64 1000, .int .i64 10, .int .i64 810, .int .i64 910] 27))
  have HW := Lib.hid (Wx.start (B := w.heap.size) hM1 hD1 hbw hgw)
  clear hM1 hD1 hK1 HK0 hs0 hb1 hg1
  go_wp2_with fail
  refine (awake_any _).mono ?_; rintro e w2 ⟨rfl, hK2⟩
  replace HW := Lib.hid (HW.out.kept hK2)
  replace HK := Lib.hid (HK.out.trans hK2 (fun _ _ h => h.elim))
  clear hK2
  by_cases h1 : 8 < n
  · go_wp2_with fail
    refine (awake_any _).mono ?_; rintro e w3 ⟨rfl, hK3⟩
    replace HK := Lib.hid (HK.out.trans hK3 (fun _ _ h => h.elim))
    clear hK3 HW
    go_wp2
    go_ret
    exact ⟨by first | rfl | simp, (HK.out.below (Nat.le_refl _) (fun i e => by rcases e with rfl | rfl <;> omega))⟩
  · by_cases h2 : 8 < n2
    · go_wp2_with fail
      refine (awake_any _).mono ?_; rintro e w3 ⟨rfl, hK3⟩
      replace HK := Lib.hid (HK.out.trans hK3 (fun _ _ h => h.elim))
      clear hK3 HW
      go_wp2
      go_ret
      exact ⟨by first | rfl | simp, (HK.out.below (Nat.le_refl _) (fun i e => by rcases e with rfl | rfl <;> omega))⟩
    · by_cases h3 : 100 < np
      · go_wp2_with fail
        refine (awake_any _).mono ?_; rintro e w3 ⟨rfl, hK3⟩
        replace HK := Lib.hid (HK.out.trans hK3 (fun _ _ h => h.elim))
        clear hK3 HW
        go_wp2
        go_ret
        exact ⟨by first | rfl | simp, (HK.out.below (Nat.le_refl _) (fun i e => by rcases e with rfl | rfl <;> omega))⟩
      · go_wp2_with fail
        go_loopw [11, 12, 13] (fun v nx i wr => ∃ (j : Nat) (A2 : Option Addr) (c2 : Nat) (ys : List Ve), j ≤ n ∧ i = .int .i64 j ∧ nx = .int .u64 j ∧ v = .slice A2 j c2 ∧ Cnt ys j ∧ Rv wr A2 c2 ys ∧ (∀ a, A2 = some a → w1.heap.size < a.block) ∧ Wx w.heap.size wr w1.heap.size b g (5 * j) j (own ys) ∧ Kept (Own b g) w wr) (fun v nx i _ => n - (intOf i).toNat)
        case atStart => exact ⟨0, none, 0, [], by omega, rfl, rfl, rfl, Cnt.nil, Rv.nil _, fun a h => (by cases h), HW.out, HK.out⟩
        case round =>
          clear HW HK
          obtain ⟨j, A2, c2, ys, hj, rfl, rfl, rfl, hY, hL, hA2, hW, hK⟩ := hrel
          have HY := Lib.hid hY
          have HL := Lib.hid hL
          have HW := Lib.hid hW
          have HK := Lib.hid hK
          clear hY hL hW hK
          by_cases hlt : j < n
          · have hxr := Hx.out.kept HK.out (fun i hi e => by rcases e with rfl | rfl <;> omega)
            obtain ⟨kd, v, dl, fl, hxj⟩ : ∃ kd v dl fl, xs[j]? = some (kd, v, dl, fl) := ⟨_, _, _, _, List.getElem?_eq_getElem (by omega)⟩
            obtain ⟨ga, off, rfl, hga, hcell⟩ := hxr.at (by omega)
            obtain ⟨c0, c1, c2', c3⟩ := hcell j _ hxj
            clear hcell hxj hxr
            have HKr := Lib.hid (Kept.refl (Own b g) wr)
            have hltr := HW.out.lt
            go_wp2_with fail
            refine (write_any kd fl v dl _).mono ?_; rintro e w3 ⟨s, rfl, hdl, hK⟩
            clear c0 c1 c2' c3
            have hs3 := hK.size
            replace HW := Lib.hid (HW.out.kept hK)
            replace HK := Lib.hid (HK.out.trans hK (fun _ _ h => h.elim))
            replace HKr := Lib.hid (HKr.out.trans hK (fun _ _ h => h.elim))
            clear hK
            have HP := Lib.hid (Blk.new w3 [.string ⟨#[]⟩, .string s, .bool dl] 45)
            have hK := (Kept.refl (fun _ => False) w3).alloc (.cells #[.string ⟨#[]⟩, .string s, .bool dl] 45)
            replace HW := Lib.hid (HW.out.kept hK)
            replace HK := Lib.hid (HK.out.trans hK (fun _ _ h => h.elim))
            replace HKr := Lib.hid (HKr.out.trans hK (fun _ _ h => h.elim))
            clear hK
            have hp3 := HP.out.lt
            have hz3 := nblk_alloc w3 (.cells #[.string ⟨#[]⟩, .string s, .bool dl] 45)
            have p0 := HP.out.cell (i := 0) rfl
            have p1 := HP.out.cell (i := 1) rfl
            have p2 := HP.out.cell (i := 2) rfl
            have x0 := HW.out.box.cell (i := 0) rfl
            have x1 := HW.out.box.cell (i := 1) rfl
            have x2 := HW.out.box.cell (i := 2) rfl
            have x3 := HW.out.box.cell (i := 3) rfl
            have x4 := HW.out.box.cell (i := 4) rfl
            have x5 := HW.out.box.cell (i := 5) rfl
            have x6 := HW.out.box.cell (i := 6) rfl
            have x7 := HW.out.box.cell (i := 7) rfl
            have x8 := HW.out.box.cell (i := 8) rfl
            have x9 := HW.out.box.cell (i := 9) rfl
            go_wp2_with fail
            refine (install_any w.heap.size _ w1.heap.size b g (5 * j) j (own ys) HW.out (by omega) (by omega) ⟨#[]⟩ s dl hdl).mono ?_; rintro e w4 ⟨rfl, hW, hK⟩
            clear x0 x1 x2 x3 x4 x5 x6 x7 x8 x9
            clear p0 p1 p2
            have hs4 := hK.size
            replace HW := Lib.hid hW
            replace HK := Lib.hid (HK.out.trans hK (fun _ _ h => h))
            replace HKr := Lib.hid (HKr.out.trans hK (fun _ _ h => h))
            replace HP := Lib.hid (hK.blk HP.out (fun e => by rcases e with e | e <;> omega))
            clear hW hK
            have x0 := HW.out.box.cell (i := 0) rfl
            have x1 := HW.out.box.cell (i := 1) rfl
            have x2 := HW.out.box.cell (i := 2) rfl
            have x3 := HW.out.box.cell (i := 3) rfl
            have x4 := HW.out.box.cell (i := 4) rfl
            have x5 := HW.out.box.cell (i := 5) rfl
            have x6 := HW.out.box.cell (i := 6) rfl
            have x7 := HW.out.box.cell (i := 7) rfl
            have x8 := HW.out.box.cell (i := 8) rfl
            have x9 := HW.out.box.cell (i := 9) rfl
            go_wp2_with fail
            refine (newStamp_k (j + 1) (j + 1) _).mono ?_; rintro e w5 ⟨q, rfl, hq, hQ, hK⟩
            clear x0 x1 x2 x3 x4 x5 x6 x7 x8 x9
            have hs5 := hK.size
            have HQ := Lib.hid hQ
            clear hQ
            replace HW := Lib.hid (HW.out.kept hK)
            replace HK := Lib.hid (HK.out.trans hK (fun _ _ h => h.elim))
            replace HKr := Lib.hid (HKr.out.trans hK (fun _ _ h => h.elim))
            replace HP := Lib.hid (hK.blk HP.out (fun h => h))
            clear hK
            go_wp2_with fail
            refine (vstamp HW.out (j + 1) HQ.out (by omega) (by omega)).mono ?_; rintro e w6 ⟨rfl, hW, hK⟩
            rw [show 5 * j + 4 + 1 = 5 * (j + 1) by omega] at hW
            have hs6 := hK.size
            clear HQ
            replace HW := Lib.hid hW
            replace HK := Lib.hid (one_step HK.out hK (by omega))
            replace HKr := Lib.hid (one_step HKr.out hK (by omega))
            replace HP := Lib.hid (hK.blk HP.out (fun e => by rcases e with e | e | e <;> omega))
            clear hW hK
            have p0 := HP.out.cell (i := 0) rfl
            have p1 := HP.out.cell (i := 1) rfl
            have p2 := HP.out.cell (i := 2) rfl
            replace HL := Lib.hid (HL.out.kept HKr.out (fun a ha e => by have := hA2 a ha; rcases e with e | e <;> omega))
            have hO := own_new w6 (w1.heap.size + 1) (by omega) ((j + 1, s, dl) : Ve)
            have HO := Lib.hid hO
            have hK := (Kept.refl (fun _ => False) w6).alloc (.cells #[.int .u64 ((j + 1 : Nat) : Int), .string s, .bool dl] 51)
            replace HL := Lib.hid (HL.out.kept hK (fun _ _ h => h))
            have hs7 := hK.size
            have hz6 := nblk_alloc w6 (.cells #[.int .u64 ((j + 1 : Nat) : Int), .string s, .bool dl] 51)
            clear hO HKr
            replace HW := Lib.hid (HW.out.kept hK)
            replace HK := Lib.hid (HK.out.trans hK (fun _ _ h => h.elim))
            replace HP := Lib.hid (hK.blk HP.out (fun h => h))
            clear hK
            clear HP
            go_wp2_with (at_builtin; go_must (refine wpList_app rfl (.tmp 87) (.tmp 88) rfl (w1.heap.size + 1) _ 1 [((j + 1, s, dl) : Ve)] rfl HO.out A2 j c2 ys rfl HY.out.1 HL.out (by omega) (Nat.le_trans (show w1.heap.size + 1 ≤ w6.heap.size by omega) hs7) ?_))
            intro v8 w8 hO8 hB8
            clear p0 p1 p2 HO
            obtain ⟨A3, c3, rfl, hl8, hL8, hA8⟩ := Rv.own hO8
            rw [Nat.add_comm 1 j]
            have hK8 := Below.kept2 hB8 (S := fun i => w1.heap.size + 1 ≤ i) (fun i h => h)
            replace HW := Lib.hid (HW.out.far hK8 (by omega) (by omega) (by omega))
            replace HK := Lib.hid (HK.out.trans hK8 (fun i hi e => by omega))
            replace HL := Lib.hid hL8
            have hA3 : ∀ a, A3 = some a → w1.heap.size < a.block := fun a ha => hA8 a ha
            clear hO8 hB8 hL8 hA8 hK8 hl8
            go_wp2
            go_roundw
            case rel => exact ⟨j + 1, A3, c3, (j + 1, s, dl) :: ys, by omega, by go_num, by go_num, rfl, HY.out.cons (s, dl), HL.out, hA3, HW.out, HK.out⟩
            case measure => simp [intOf]; omega
          · obtain rfl : j = n := by omega
            rename World => wa
            obtain ⟨T, hT0⟩ : ∃ T : Nat, tt % (j + 1) = T := ⟨_, rfl⟩
            have hT1 : (tt : Int) % ((j : Int) + 1) = (T : Int) := by rw [← hT0]; simp
            have hT2 : (tt : Int).tmod ((j : Int) + 1) = (T : Int) := by rw [Int.tmod_eq_emod_of_nonneg (by omega)]; exact hT1
            have hT3 : T ≤ j := by have := Nat.mod_lt tt (show 0 < j + 1 by omega); omega
            have hyl := HY.out.1
            obtain ⟨x, hx0⟩ : ∃ x : Ve, 0 < T → ys[j - T]? = some x := by
              by_cases h : 0 < T
              · exact ⟨ys[j - T]'(by omega), fun _ => List.getElem?_eq_getElem _⟩
              · exact ⟨nul, fun h' => absurd h' h⟩
            have HX0 := Lib.hid hx0
            obtain ⟨l2, hm2, hd2⟩ := HW.out.db
            have hWm := wm_start hd2 HY.out (by omega) hT3 hx0
            have HM2 := Lib.hid hm2
            have HWM := Lib.hid hWm
            have hseen := HY.out.seen hT3 hx0
            obtain ⟨u, hu⟩ : ∃ u, x.2 = u := ⟨_, rfl⟩
            rw [hu] at hseen
            have HWM := Lib.hid (show Wm 100 200 810 910 1510 l2 T j j u from by rw [← hu]; exact hWm)
            obtain ⟨sv, okk, hsv⟩ : ∃ sv okk, seen T u = (sv, okk) := ⟨_, _, rfl⟩
            have HSV := Lib.hid hsv
            have HVV := Lib.hid (show val T ys = (sv, okk) from hseen.trans hsv)
            have hlta := HW.out.lt
            have hwa := HK.out.size
            clear hx0 hm2 hd2 hWm hseen hu hsv hT0 HX0 HY
            have hj1 : ((j : Int) + 1 == 0) = false := by simp; omega
            have x0 := HW.out.box.cell (i := 0) rfl
            have x1 := HW.out.box.cell (i := 1) rfl
            have x2 := HW.out.box.cell (i := 2) rfl
            have x3 := HW.out.box.cell (i := 3) rfl
            have x4 := HW.out.box.cell (i := 4) rfl
            have x5 := HW.out.box.cell (i := 5) rfl
            have x6 := HW.out.box.cell (i := 6) rfl
            have x7 := HW.out.box.cell (i := 7) rfl
            have x8 := HW.out.box.cell (i := 8) rfl
            have x9 := HW.out.box.cell (i := 9) rfl
            go_wp2_with fail
            refine (wl_new 1 2 100 100 200 4 1000 10 810 910 T j u _).mono ?_; rintro e w9 ⟨q, rfl, hq, hWl, hqw, hK⟩
            clear x0 x1 x2 x3 x4 x5 x6 x7 x8 x9
            clear hT1 hT2 hj1
            have hs9 := hK.size
            have HWl := Lib.hid hWl
            replace HM2 := Lib.hid (HM2.out.kept hK (fun h => h) (fun h => h))
            have HKab := Lib.hid hK
            clear hWl
            replace HW := Lib.hid (HW.out.kept hK)
            replace HK := Lib.hid (HK.out.trans hK (fun _ _ h => h.elim))
            clear hK
            have x0 := HW.out.box.cell (i := 0) rfl
            have x1 := HW.out.box.cell (i := 1) rfl
            have x2 := HW.out.box.cell (i := 2) rfl
            have x3 := HW.out.box.cell (i := 3) rfl
            have x4 := HW.out.box.cell (i := 4) rfl
            have x5 := HW.out.box.cell (i := 5) rfl
            have x6 := HW.out.box.cell (i := 6) rfl
            have x7 := HW.out.box.cell (i := 7) rfl
            have x8 := HW.out.box.cell (i := 8) rfl
            have x9 := HW.out.box.cell (i := 9) rfl
            have hB0 := nblk_alloc w9 (.cells #[.int .i64 1, .int .i64 2, .int .i64 100, .int .i64 100, .int .i64 200, .int .i64 4, .int .u64 1000, .int .i64 10, .int .i64 810, .int .i64 910, .pointer (some ⟨b, 0, none⟩), .slice A' n2 c', .int .i64 0, .int .u64 (j : Int), .int .u64 (j : Int), .int .u64 (T : Int), .pointer none, .pointer none, .bool false] 67)
            have HP := Lib.hid (show Blk (w9.alloc (.cells #[.int .i64 1, .int .i64 2, .int .i64 100, .int .i64 100, .int .i64 200, .int .i64 4, .int .u64 1000, .int .i64 10, .int .i64 810, .int .i64 910, .pointer (some ⟨b, 0, none⟩), .slice A' n2 c', .int .i64 0, .int .u64 (j : Int), .int .u64 (j : Int), .int .u64 (T : Int), .pointer none, .pointer none, .bool false] 67)) w9.heap.size 67 (wrv b A' c' n2 0 j j T (.pointer none) (.pointer none) false) from Blk.new w9 (wrv b A' c' n2 0 j j T (.pointer none) (.pointer none) false) 67)
            have hK := (Kept.refl (fun _ => False) w9).alloc (.cells #[.int .i64 1, .int .i64 2, .int .i64 100, .int .i64 100, .int .i64 200, .int .i64 4, .int .u64 1000, .int .i64 10, .int .i64 810, .int .i64 910, .pointer (some ⟨b, 0, none⟩), .slice A' n2 c', .int .i64 0, .int .u64 (j : Int), .int .u64 (j : Int), .int .u64 (T : Int), .pointer none, .pointer none, .bool false] 67)
            replace HM2 := Lib.hid (HM2.out.kept hK (fun h => h) (fun h => h))
            replace HKab := Lib.hid (HKab.out.trans hK (fun _ _ h => h))
            replace HWl := Lib.hid (HWl.out.kept hK (fun h => h) (Nat.le_refl _))
            have hs10 := hK.size
            replace HW := Lib.hid (HW.out.kept hK)
            replace HK := Lib.hid (HK.out.trans hK (fun _ _ h => h.elim))
            clear hK
            go_wp2_with fail
            clear x0 x1 x2 x3 x4 x5 x6 x7 x8 x9
            generalize w9.alloc (.cells #[.int .i64 1, .int .i64 2, .int .i64 100, .int .i64 100, .int .i64 200, .int .i64 4, .int .u64 1000, .int .i64 10, .int .i64 810, .int .i64 910, .pointer (some ⟨b, 0, none⟩), .slice A' n2 c', .int .i64 0, .int .u64 (j : Int), .int .u64 (j : Int), .int .u64 (T : Int), .pointer none, .pointer none, .bool false] 67) = wB at *
            have HWr := Lib.hid (show WrAt wB w9.heap.size b g (5 * j) T u A' c' n2 wB.heap.size l2 j j from ⟨HM2.out, HWM.out, by omega, ⟨by omega, by omega, by omega⟩, ⟨by omega, by omega⟩, Nat.le_refl _, by omega, 0, j, hT3, by omega, by omega, .inl ⟨HP.out, by omega⟩⟩)
            have HKr := Lib.hid (Kept.refl (fun i => i = q ∨ Wrs w9.heap.size b g wB.heap.size i) wB)
            generalize hB00 : wB.heap.size = B0 at *
            generalize w9.heap.size = p at *
            clear HP HM2 HWM HW
            go_loopw [19, 20] (fun d i wr => ∃ (k kk e top c1 : Nat) (fin : Bool) (l3 : List Cel), d = .bool fin ∧ i = .int .i64 k ∧ (e == 0) = fin ∧ e + (k - np) ≤ 203 ∧ kk ≤ 40 + k ∧ WlAt 1 2 100 100 200 4 1000 10 810 910 wr q T top u e ∧ WrAt wr p b g kk T u A' c' n2 B0 l3 top c1 ∧ Kept (fun i => i = q ∨ Wrs p b g B0 i) wB wr) (fun d i _ => np + 300 - (intOf i).toNat)
            case atStart => exact ⟨0, 5 * j, 203, j, j, false, l2, rfl, rfl, rfl, by omega, by omega, HWl.out, HWr.out, HKr.out⟩
            case round =>
              rename World => wr
              clear HWl HWr HKr
              obtain ⟨k, kk, e, top, c1, fin, l3, rfl, rfl, hfin, hek, hkk, hWl, hWr, hKr⟩ := hrel
              have HWl := Lib.hid hWl
              have HWr := Lib.hid hWr
              have HKr := Lib.hid hKr
              have htop := hWr.2.2.1
              clear hWl hWr hKr
              have hYY : ∀ i, (i = q ∨ Wrs p b g B0 i) → w.heap.size ≤ i := fun i e => by unfold Wrs at e; omega
              by_cases he : e = 0
              · subst he
                obtain rfl : fin = true := by rw [← hfin]; rfl
                replace HL := Lib.hid (HL.out.kept2 ((HKab.out.mono (T := fun i => i = q ∨ Wrs p b g B0 i) (fun _ h => h.elim)).trans HKr.out (fun _ _ h => h)) (fun a ha hlt e => by have := hA2 a ha; unfold Wrs at e; omega))
                go_wp2_with fail
                rename World => wr
                refine (wl_value 1 2 100 100 200 4 1000 10 810 910 q T top u _ HWl.out sv okk HSV.out).mono ?_; rintro e w12 ⟨rfl, hK12⟩
                replace HKr := Lib.hid (HKr.out.trans hK12 (fun _ _ h => h.elim))
                replace HL := Lib.hid (HL.out.kept hK12 (fun _ _ h => h))
                clear hK12
                go_wp2_with fail
                refine (refValue_any A2 c2 ys T _ j hyl (by omega) HL.out sv okk HVV.out).mono ?_; rintro e w13 ⟨rfl, hB13⟩
                have hK13 := keptNone hB13
                replace HKr := Lib.hid (HKr.out.trans hK13 (fun _ _ h => h.elim))
                clear hK13 hB13
                go_wp2
                go_ret
                have hKf : Kept (fun i => w.heap.size ≤ i) w w13 := (HK.out.mono (T := fun i => w.heap.size ≤ i) (fun i e => by rcases e with rfl | rfl; exact hbw; exact hgw)).trans HKr.out (fun i _ e => hYY i e)
                exact ⟨by first | rfl | simp, hKf.below (Nat.le_refl _) (fun i e => e)⟩
              · obtain rfl : fin = false := by rw [← hfin]; simp; omega
                have hk300 : (k : Int) < (np : Int) + 300 := by omega
                have hqn : q ≠ b ∧ q ≠ g ∧ q ≠ p ∧ q < B0 := by omega
                obtain ⟨x3, hx3⟩ : ∃ x : Nat, (k < np → ps[k]? = some x) ∧ x < 256 := by
                  by_cases h : k < np
                  · exact ⟨ps[k]'(by omega), fun _ => List.getElem?_eq_getElem _, hpx _ (List.getElem_mem _)⟩
                  · exact ⟨0, fun h' => absurd h' h, by omega⟩
                obtain ⟨m3, hm3⟩ : ∃ m : Nat, x3 % 3 = m := ⟨_, rfl⟩
                have hm4 : (x3 : Int).tmod 3 = (m3 : Int) := by rw [← hm3]; rfl
                have hm5 : (x3 : Int) % 3 = (m3 : Int) := by omega
                have hm6 : m3 < 3 := by omega
                obtain ⟨dA, hdA⟩ : ∃ d : Bool, (decide (k < np) && !decide (m3 = 0)) = d := ⟨_, rfl⟩
                have HX := Lib.hid hx3
                have HDA := Lib.hid hdA
                clear hx3 hdA hm3
                go_upto_region 22 with fail
                go_cut [128] from 106 to 133 (fun v wx => v = .bool dA ∧ wx = wr)
                case first =>
                  by_cases hnp : np ≤ k
                  · obtain rfl : dA = false := by rw [← HDA.out]; simp; omega
                    have hnp2 : (np : Int) ≤ (k : Int) := by omega
                    go_wp2
                    go_meet
                    exact ⟨rfl, rfl⟩
                  · obtain ⟨pg, off, rfl, hpg, hpcell⟩ := Hp.out (by omega)
                    have hpck : wr.cell? ⟨pg, off + k, none⟩ = some (.int .u8 (x3 : Int)) := (HKr.out.cell (p := ⟨pg, off + k, none⟩) (show pg < _ by omega) (fun e => by have := hYY pg e; omega)).trans ((HK.out.cell (p := ⟨pg, off + k, none⟩) hpg (fun e => by have e : pg = b ∨ pg = g := e; omega)).trans (hpcell k x3 (HX.out.1 (by omega))))
                    have hx256 : (x3 : Int) < 256 := by have := HX.out.2; omega
                    have hnp2 : ¬ (np : Int) ≤ (k : Int) := by omega
                    have hnp3 : (k : Int) < (np : Int) := by omega
                    clear hpcell
                    by_cases hm0 : m3 = 0
                    · obtain rfl : dA = false := by rw [← HDA.out]; simp [hm0]
                      subst hm0
                      go_wp2
                      go_meet
                      exact ⟨rfl, rfl⟩
                    · obtain rfl : dA = true := by rw [← HDA.out]; simp [hm0]; omega
                      have hm7 : ((m3 : Int) == 0) = false := by simp; omega
                      have hm9 : ((m3 : Int) != 0) = true := by simp; omega
                      have hm8 : ¬ (m3 : Int) = 0 := by omega
                      go_wp2
                      go_meet
                      exact ⟨rfl, rfl⟩
                case rest =>
                  obtain ⟨rfl, hwx⟩ := hcut
                  subst hwx
                  rename World => wr
                  clear hm4 hm5
                  cases dA
                  · go_wp2_with fail
                    have hWr := HWr.out
                    refine (wl_step 1 2 100 100 200 4 1000 10 810 910 klim kreach q e _ b g l3 kk hWr.1 hqn.1 hqn.2.1 (by omega) 1510 kgeo top c1 T u hWr.2.1 (by omega) HWl.out (by omega)).mono ?_; rintro e' w12 ⟨e2, he2, rfl, hWl2, hM2, hK2⟩
                    have HWr2 := Lib.hid (hWr.reader hK2 hM2 (by omega) hqn.2.2.2)
                    have HWl2 := Lib.hid hWl2
                    have HKr2 := Lib.hid (HKr.out.trans hK2 (fun i _ e => by unfold Wrs; rcases e with e | e | e <;> omega))
                    clear hWr hWl2 hM2 hK2
                    go_wp2
                    go_roundw
                    case rel => exact ⟨k + 1, kk + 1, e2, top, c1, _, l3, rfl, by go_num, rfl, by omega, by omega, HWl2.out, HWr2.out, HKr2.out⟩
                    case measure => simp [intOf]; omega
                  · have hknp : k < np := by have := HDA.out; simp at this; omega
                    have hKf : Kept (fun i => w.heap.size ≤ i) w wr := (HK.out.mono (T := fun i => w.heap.size ≤ i) (fun i e => by rcases e with rfl | rfl; exact hbw; exact hgw)).trans HKr.out (fun i _ e => hYY i e)
                    have hyr := Hy.out.kept hKf (fun i hi e => by omega)
                    have HYR := Lib.hid hyr
                    clear hyr hKf
                    go_wp2_with fail
                    refine (wr_step p b g kk T u A' c' n2 B0 l3 top c1 _ xs2 hn2 HYR.out (by omega) HWr.out).mono ?_; rintro e' w12 ⟨rfl, l4, top2, c3, kk2, hk2, ht2, hWr2, hK2⟩
                    have HWr2 := Lib.hid hWr2
                    have HWl2 := Lib.hid (HWl.out.kept hK2 (fun e => by unfold Wrs at e; omega) ht2)
                    have HKr2 := Lib.hid (HKr.out.trans hK2 (fun i _ e => .inr e))
                    clear hWr2 hK2
                    go_wp2
                    go_roundw
                    case rel => exact ⟨k + 1, kk2, e, top2, c3, _, l4, rfl, by go_num, hfin, by omega, by omega, HWl2.out, HWr2.out, HKr2.out⟩
                    case measure => simp [intOf]; omega
set_option maxRecDepth 100000 in
set_option maxHeartbeats 8000000 in
theorem lawChainLookupIsStable (w : World) (A : Option Addr) (c : Nat) (xs : List Stp) (n : Nat) (hn : xs.length = n) (h47 : n ≤ maxLen) (hx : Rp w A c xs) (A' : Option Addr) (c' : Nat) (xs2 : List Stp) (n2 : Nat) (hn2 : xs2.length = n2) (h472 : n2 ≤ maxLen) (hy : Rp w A' c' xs2) (tt : Nat) (htt : tt < 256) (kA : Option Addr) (kC : Nat) (ps : List Nat) (hpm : ps.length ≤ maxLen) (hpx : ∀ x ∈ ps, x < 256) (hp : 0 < ps.length → ∃ g off, kA = some ⟨g, off, none⟩ ∧ g < w.heap.size ∧ ∀ (j x : Nat), ps[j]? = some x → w.cell? ⟨g, off + j, none⟩ = some (.int .u8 (x : Int))) :
    Calls Try.prog 4 #[.slice A n c, .slice A' n2 c', .int .u8 (tt : Int), .slice kA ps.length kC] w fun e w' => e = .returned (.bool true) ∧ Below w.heap.size w w' := walkStable w A c xs n hn h47 hx A' c' xs2 n2 hn2 h472 hy tt htt kA kC ps _ rfl hpm hpx hp
end Go.Proofs.Ytpamjbjgckaedaa
