/-
  DescentMeetsEveryKey, walked. Condition: arguments within the model's reach.
-/
import Derived.Test.YtboieccjikcdiaaDesLawB
namespace Go.Proofs.Ytboieccjikcdiaa
open Go.RowKit Go.Deep Plain
set_option linter.unusedVariables false

theorem slot_ref {xs : List Sl} {q : Nat} {k : ByteArray} {r : Nat} (h : xs[q]? = some (k, r + 1)) : (flat xs)[q * 2 + 1]? = some (.int .u64 ((r : Int) + 1)) := by
  exact (flat_at xs q _ h).2
theorem slot_key {xs : List Sl} {q : Nat} {x : Sl} (h : xs[q]? = some x) : (flat xs)[q * 2]? = some (.string x.1) := (flat_at xs q x h).1
/-- Walking back: the leaf ahead of this many. -/
theorem back {F : Nat} {l : List Cel} {s L : Nat} {m : Nat} {lo : Nat → ByteArray} {pg : Nat → Pg} (V : Lvl F l s m L lo pg) {j jt : Nat} {bd : ByteArray} {ls : Bool} (hj1 : 1 ≤ j) (hjm : j ≤ m) (hb : (ls = true ∧ j = m) ∨ (ls = false ∧ j < m ∧ bd = lo j)) (hjt : jt < m) (h1 : ls = true ∨ kl (lo jt) bd = true) (h2 : (!(pg jt).la && (ls || kl (pg jt).hi bd)) = false) : jt + 1 = j := by
  have ha : (ls || Op.bytesLess (lo (j - 1)).toList bd.toList) = true := by
    rcases hb with ⟨rfl, -⟩ | ⟨rfl, h3, rfl⟩
    · rfl
    · rw [bytesLess_ltB]; exact V.mono (by omega) h3
  have hc := (bcovers V (i := j - 1) (by omega) hjt h1 h2).1 ha
  rcases hb with ⟨rfl, rfl⟩ | ⟨rfl, h3, rfl⟩
  · omega
  · have : ¬ j ≤ jt := fun h => by
      have := (bcovers V (i := j) h3 hjt h1 h2).2 h
      rw [Bool.false_or, bytesLess_ltB, ltB_self] at this
      cases this
    omega
/-- The keys of a leaf lie below the next leaf's low key. -/
theorem under {F : Nat} {l : List Cel} {s L : Nat} {m : Nat} {lo : Nat → ByteArray} {pg : Nat → Pg} {ks : List ByteArray} {off : Nat → Nat} (V : Lvl F l s m L lo pg) (h : Leaves ks m lo pg off) {j jt : Nat} {bd : ByteArray} {ls : Bool} (hj : jt + 1 = j) (hjm : j ≤ m) (hb : (ls = true ∧ j = m) ∨ (ls = false ∧ j < m ∧ bd = lo j)) {x : Sl} (hx : x ∈ (pg jt).xs) (hl : ls = false) : kl x.1 bd = true := by
  rcases hb with ⟨rfl, -⟩ | ⟨-, h3, rfl⟩
  · cases hl
  · obtain ⟨hla, -, hhi⟩ := V.next jt (by omega)
    have := h.high jt (by omega) x hx
    unfold cov at this
    rw [hla, hhi, Bool.false_or, hj] at this
    exact this
theorem pos_low {F : Nat} {l : List Cel} {s L : Nat} {m : Nat} {lo : Nat → ByteArray} {pg : Nat → Pg} (V : Lvl F l s m L lo pg) {j : Nat} (h0 : 0 < j) (hj : j < m) : ¬ (lo j).toList = [] := fun e => by
  have := V.mono h0 hj
  rw [V.low0] at this
  have e2 : lo j = ⟨#[]⟩ := data_inj (by rw [e, Lib.toList_data])
  rw [e2, kl_self] at this
  cases this
theorem eqk_self (x : Sl) : eqk x x.1 = true := by unfold eqk; simp
/-- A key that has a slot: where Find finds it in the leaf that covers it. -/
theorem meets {F : Nat} {l : List Cel} {s L : Nat} {m : Nat} {lo : Nat → ByteArray} {pg : Nat → Pg} {ks : List ByteArray} {off : Nat → Nat} (V : Lvl F l s m L lo pg) (h : Leaves ks m lo pg off) {p jt : Nat} {k : ByteArray} (hp : ks[p]? = some k) (hj : jt < m) (hl : kl k (lo jt) = false) (hc : cov (pg jt) k = true) :
    ∃ q, q < (pg jt).xs.length ∧ cnt k (pg jt).xs = q ∧ has k (pg jt).xs = true ∧ (pg jt).xs[q]? = some (k, p + 1) := by
  have hpl : p < ks.length := (List.getElem?_eq_some_iff.1 hp).1
  obtain ⟨i, q, hi, hpq, hq⟩ := h.find hpl
  obtain ⟨x, hx⟩ : ∃ x, (pg i).xs[q]? = some x := ⟨_, List.getElem?_eq_getElem hq⟩
  obtain ⟨h1, h2⟩ := h.slot i hi q x hx
  rw [← hpq, hp] at h1
  obtain rfl : k = x.1 := by injection h1
  have hm := List.mem_of_getElem? hx
  obtain rfl : i = jt := V.unique hi hj (h.low i hi x hm) hl (h.high i hi x hm) hc
  have ha := (V.nd i hi).asc
  have hh : has x.1 (pg i).xs = true := by
    unfold has
    rw [List.any_eq_true]
    exact ⟨x, hm, eqk_self x⟩
  obtain ⟨y, hy, hyk, hyl⟩ := has_in ha hh
  have hcq : cnt x.1 (pg i).xs = q := by
    rcases Nat.lt_trichotomy (cnt x.1 (pg i).xs) q with h3 | h3 | h3
    · have := asc_get ha h3 hy hx
      unfold lt at this
      rw [hyk] at this
      exact absurd this (by rw [ltB_self]; simp)
    · exact h3
    · have := asc_get ha h3 hx hy
      unfold lt at this
      rw [hyk] at this
      exact absurd this (by rw [ltB_self]; simp)
  refine ⟨q, hq, hcq, hh, ?_⟩
  rw [hx]
  have : x.2 = p + 1 := by omega
  rw [← this]
set_option maxRecDepth 100000 in
set_option maxHeartbeats 8000000 in
theorem lawMeets (w : World) (AR : Option Addr) (nR cR : Nat) (ss : List ByteArray) (hnR : ss.length = nR) (hrd : Rdv w w.heap.size (.slice AR nR cR) nR (ss.map Value.string)) (hsz : ∀ s ∈ ss, s.size ≤ maxLen) (f : Int) (sh : Int) (hs : 0 ≤ sh) (hide : Bool) :
    Calls Try.prog 5 #[.slice AR nR cR, .int .i64 f, .int .u64 sh, .bool hide] w fun e w' => e = .returned (.bool true) ∧ Below w.heap.size w w' := by
  obtain ⟨F, hF⟩ : ∃ F : Nat, 4 + f % 3 = (F : Int) := ⟨(4 + f % 3).toNat, by omega⟩
  have h4 : 4 ≤ F := by omega
  have h6 : F ≤ 6 := by omega
  have HF := Lib.hid hF
  have HRD := Lib.hid hrd
  have HSS := Lib.hid hsz
  clear hF hrd hsz
  go_enter Try.func5, Try.ntmps5
  go_wp2_with fail
  refine (tree_any F h4 h6 f HF.out AR nR cR ss hnR sh hs hide w HRD.out HSS.out).mono ?_
  rintro e w1 ⟨b, g, l, fb, fd, A, c, H, n0, rfl, hM, hP, hl2, hD, hbw, hgw, hKr, hA, hK⟩
  obtain ⟨nk, hnk⟩ : ∃ nk, (keysOf ss).length = nk := ⟨_, rfl⟩
  rw [hnk]
  have hnk40 : nk ≤ 40 := by rw [← hnk]; exact keysOf_len ss
  obtain ⟨st, mm, lo, pg, off, hT, hLv, hs0, hFu, hNat, hlen⟩ := hP
  have HM := Lib.hid hM
  have HT := Lib.hid hT
  have HLV := Lib.hid hLv
  have HS0 := Lib.hid hs0
  have HFU := Lib.hid hFu
  have HNAT := Lib.hid hNat
  have HD := Lib.hid hD
  have HKR := Lib.hid hKr
  have HA := Lib.hid hA
  have HK := Lib.hid hK
  have HNK := Lib.hid hnk
  have HBG := Lib.hid (show w.heap.size ≤ b ∧ w.heap.size ≤ g ∧ b < w1.heap.size ∧ g < w1.heap.size from ⟨hbw, hgw, hM.obj.lt, hM.row.lt⟩)
  clear hM hT hLv hs0 hFu hNat hD hKr hA hK hnk hbw hgw hlen HRD HSS HF
  go_wp2_with fail
  have hal := ((Kept.refl (fun _ => False) w1).alloc (.cells #[.int .i64 1, .int .i64 2, .int .i64 100, .int .i64 100, .int .i64 200, .int .i64 (F : Int), .int .u64 1000] 25)).alloc (.cells #[.int .i64 1, .int .i64 2, .int .i64 100, .int .i64 100, .int .i64 200, .int .i64 (F : Int), .int .u64 1000, .int .i64 10, .int .i64 fb, .int .i64 fd] 27)
  have H11 := Lib.hid ((Blk.new w1 [.int .i64 1, .int .i64 2, .int .i64 100, .int .i64 100, .int .i64 200, .int .i64 (F : Int), .int .u64 1000] 25).alloc (.cells #[.int .i64 1, .int .i64 2, .int .i64 100, .int .i64 100, .int .i64 200, .int .i64 (F : Int), .int .u64 1000, .int .i64 10, .int .i64 fb, .int .i64 fd] 27))
  have hNN := Blk.new (w1.alloc (.cells #[.int .i64 1, .int .i64 2, .int .i64 100, .int .i64 100, .int .i64 200, .int .i64 (F : Int), .int .u64 1000] 25)) [.int .i64 1, .int .i64 2, .int .i64 100, .int .i64 100, .int .i64 200, .int .i64 (F : Int), .int .u64 1000, .int .i64 10, .int .i64 fb, .int .i64 fd] 27
  have hsz1 : (w1.alloc (.cells #[.int .i64 1, .int .i64 2, .int .i64 100, .int .i64 100, .int .i64 200, .int .i64 (F : Int), .int .u64 1000] 25)).heap.size = w1.heap.size + 1 := nblk_alloc _ _
  rw [hsz1] at hNN
  have H12 := Lib.hid hNN
  replace HM := Lib.hid (HM.out.kept hal (fun h => h) (fun h => h))
  replace HKR := Lib.hid (HKR.out.kept hal (fun _ _ h => h))
  replace HK := Lib.hid (HK.out.trans hal (fun _ _ h => h))
  clear hal hNN hsz1
  generalize (w1.alloc (.cells #[.int .i64 1, .int .i64 2, .int .i64 100, .int .i64 100, .int .i64 200, .int .i64 (F : Int), .int .u64 1000] 25)).alloc (.cells #[.int .i64 1, .int .i64 2, .int .i64 100, .int .i64 100, .int .i64 200, .int .i64 (F : Int), .int .u64 1000, .int .i64 10, .int .i64 fb, .int .i64 fd] 27) = W at *
  generalize hr12 : w1.heap.size + 1 = r12 at *
  generalize hr11 : w1.heap.size = r11 at *
  have HR := Lib.hid (show w.heap.size ≤ b ∧ w.heap.size ≤ g ∧ b < r11 ∧ g < r11 ∧ r11 < r12 by have := HBG.out; omega)
  clear hr12 hr11 HBG
  refine (awake_any _).mono ?_; rintro e w2 ⟨rfl, hKa⟩
  replace HM := Lib.hid (HM.out.kept hKa (fun h => h) (fun h => h))
  replace HKR := Lib.hid (HKR.out.kept hKa (fun _ _ h => h))
  replace H11 := Lib.hid (hKa.blk H11.out (fun h => h))
  replace H12 := Lib.hid (hKa.blk H12.out (fun h => h))
  replace HK := Lib.hid (HK.out.trans hKa (fun _ _ h => h))
  clear hKa
  obtain ⟨gk, ok, hgk1, hgk2, hgk3, hgk4, hgk5, hgk6⟩ : ∃ gk ok, (0 < nk → A = some ⟨gk, ok, none⟩) ∧ w.heap.size ≤ gk ∧ gk ≠ b ∧ gk ≠ g ∧ gk < w2.heap.size ∧ (∀ i k, (keysOf ss)[i]? = some k → w2.cell? ⟨gk, ok + i, none⟩ = some (.string k)) := by
    by_cases hnk0 : 0 < nk
    · obtain ⟨gk, ok, hAe, hgk, hc⟩ := HKR.out (by rw [HNK.out]; exact hnk0)
      have h3 := HA.out _ hAe
      exact ⟨gk, ok, fun _ => hAe, h3.1, h3.2.1, h3.2.2, hgk, hc⟩
    · refine ⟨r11, 0, fun h => absurd h hnk0, by have := HR.out; have := HK.out.size; have := H11.out.lt; omega, by have := HR.out; omega, by have := HR.out; omega, H11.out.lt, fun i k hi => ?_⟩
      have := (List.getElem?_eq_some_iff.1 hi).1
      have := HNK.out
      omega
  have HAG := Lib.hid hgk1
  have HNE := Lib.hid (show w.heap.size ≤ b ∧ w.heap.size ≤ g ∧ b < r11 ∧ g < r11 ∧ r11 < r12 ∧ w.heap.size ≤ gk ∧ gk ≠ b ∧ gk ≠ g ∧ gk < w2.heap.size by have := HR.out; omega)
  have HKC := Lib.hid hgk6
  clear hgk1 hgk2 hgk3 hgk4 hgk5 hgk6 HA HKR
  have hlt12 := H12.out.lt
  go_wp2_with fail
  go_loopw [13, 14, 15, 16, 17, 18, 19] (fun iv _ _ _ _ _ _ wr => ∃ i ka : Nat, i ≤ nk ∧ iv = .int .i64 (i : Int) ∧ ka ≤ i * 1112 ∧ Mem wr b g l ka ∧ Kept (fun i => w.heap.size ≤ i ∧ i ≠ r11 ∧ i ≠ r12 ∧ i ≠ gk) w2 wr) (fun iv _ _ _ _ _ _ _ => nk - (intOf iv).toNat)
  case atStart => exact ⟨0, 0, by omega, rfl, by omega, HM.out, Kept.refl _ _⟩
  case round =>
    obtain ⟨i, ka, hin, rfl, hka, hM1, hK1⟩ := hrel
    have HMr := Lib.hid hM1
    have HKr := Lib.hid hK1
    have H12r := Lib.hid (hK1.blk H12.out (by have := HNE.out; omega))
    have hgkr : gk < wr.heap.size := Nat.lt_of_lt_of_le HNE.out.2.2.2.2.2.2.2.2 hK1.size
    have hkaN : ka ≤ 44480 := Nat.le_trans hka (Nat.mul_le_mul_right 1112 (show i ≤ 40 by omega))
    have HKA := Lib.hid hka
    by_cases hlt : i < nk
    · obtain ⟨kq, hkq⟩ : ∃ kq, (keysOf ss)[i]? = some kq := ⟨_, List.getElem?_eq_getElem (by rw [HNK.out]; exact hlt)⟩
      have HKQ0 := Lib.hid hkq
      have HKQ := Lib.hid ((hK1.cell (p := ⟨gk, ok + i, none⟩) HNE.out.2.2.2.2.2.2.2.2 (by simp)).trans (HKC.out i kq hkq))
      obtain rfl : A = some ⟨gk, ok, none⟩ := HAG.out (by omega)
      have hltI : (i : Int) < (nk : Int) := by omega
      clear hM1 hK1 hka hkq
      go_upto_region 7 with fail
      refine wp_region_held_drew (S := (fun w' => Kept (fun _ => False) wr w')) (by kernel_rfl) ?_ (fun hHeld => ?_)
      · exact (Kept.refl _ _).drew
      have HW := Lib.hid ((Kept.refl (fun _ => False) wr).drew)
      generalize wr.drew = G at *
      refine wpAnyH_take (i := 0) (oi := ⟨some 52, _, _, _, _, _⟩) (v := ?_) rfl (by kernel_rfl) (by kernel_rfl) (by kernel_rfl) (fun _ _ _ h => h) (Or.inl ⟨by rfl, ?_⟩) hHeld ?_
      rotate_left
      · (intro wq hSw; have hb9 := hSw.blk H12r.out (fun h => h); have y0 := hb9.cell (i := 0) rfl; have y1 := hb9.cell (i := 1) rfl; have y2 := hb9.cell (i := 2) rfl; have y3 := hb9.cell (i := 3) rfl; have y4 := hb9.cell (i := 4) rfl; have y5 := hb9.cell (i := 5) rfl; have y6 := hb9.cell (i := 6) rfl; have y7 := hb9.cell (i := 7) rfl; have y8 := hb9.cell (i := 8) rfl; have y9 := hb9.cell (i := 9) rfl; clear hb9; have hc9 := (hSw.cell (p := ⟨gk, ok + i, none⟩) hgkr (fun h => h)).trans HKQ.out; go_simp; try with_reducible rfl)
      try simp only [Act.put, List.setIfInBounds_toArray, List.set_cons_zero, List.set_cons_succ]
      refine wpAnyH_take (i := 1) (oi := ⟨some 53, _, _, _, _, _⟩) (v := ?_) rfl (by kernel_rfl) (by kernel_rfl) (by kernel_rfl) (fun _ _ _ h => h) (Or.inl ⟨by rfl, ?_⟩) hHeld ?_
      rotate_left
      · (intro wq hSw; go_simp; try with_reducible rfl)
      try simp only [Act.put, List.setIfInBounds_toArray, List.set_cons_zero, List.set_cons_succ]
      refine wpAnyH_take (i := 2) (oi := ⟨some 54, _, _, _, _, _⟩) (v := ?_) rfl (by kernel_rfl) (by kernel_rfl) (by kernel_rfl) (fun _ _ _ h => h) (Or.inl ⟨by rfl, ?_⟩) hHeld ?_
      rotate_left
      · (intro wq hSw; go_simp; try with_reducible rfl)
      try simp only [Act.put, List.setIfInBounds_toArray, List.set_cons_zero, List.set_cons_succ]
      refine wpAnyH_take (i := 3) (oi := ⟨some 55, _, _, _, _, _⟩) (v := ?_) rfl (by kernel_rfl) (by kernel_rfl) (by kernel_rfl) (fun _ _ _ h => h) (Or.inl ⟨by rfl, ?_⟩) hHeld ?_
      rotate_left
      · (intro wq hSw; go_simp; try with_reducible rfl)
      try simp only [Act.put, List.setIfInBounds_toArray, List.set_cons_zero, List.set_cons_succ]
      refine wpAnyH_take (i := 4) (oi := ⟨some 56, _, _, _, _, _⟩) (v := ?_) rfl (by kernel_rfl) (by kernel_rfl) (by kernel_rfl) (fun _ _ _ h => h) (Or.inl ⟨by rfl, ?_⟩) hHeld ?_
      rotate_left
      · (intro wq hSw; have hb9 := hSw.blk H12r.out (fun h => h); have y0 := hb9.cell (i := 0) rfl; have y1 := hb9.cell (i := 1) rfl; have y2 := hb9.cell (i := 2) rfl; have y3 := hb9.cell (i := 3) rfl; have y4 := hb9.cell (i := 4) rfl; have y5 := hb9.cell (i := 5) rfl; have y6 := hb9.cell (i := 6) rfl; have y7 := hb9.cell (i := 7) rfl; have y8 := hb9.cell (i := 8) rfl; have y9 := hb9.cell (i := 9) rfl; clear hb9; have hc9 := (hSw.cell (p := ⟨gk, ok + i, none⟩) hgkr (fun h => h)).trans HKQ.out; go_simp; try with_reducible rfl)
      try simp only [Act.put, List.setIfInBounds_toArray, List.set_cons_zero, List.set_cons_succ]
      refine wpAnyH_ready (rs := [5]) (by kernel_rfl) (by simp) ?_
      refine AllReadyH.cons (o := ⟨some 57, _, _, _, _, _⟩) rfl (fun KK hK => ?_) (AllReadyH.nil)
      go_simp
      go_at_call 13
      refine (newFind_any F fb fd kq 0 _).mono ?_; rintro e W4 ⟨x, rfl, hx4, hB4, hK4⟩
      have HX4 := Lib.hid (show wr.heap.size ≤ x from Nat.le_trans HW.out.size hx4)
      have HB4 := Lib.hid hB4
      replace HW := Lib.hid (HW.out.trans hK4 (fun _ _ h => h))
      clear hx4 hB4 hK4
      refine hK.out _ _ ?_ (fun hHeld2 => ?_)
      · exact HW.out
      clear hK KK hHeld
      have hHeld := hHeld2
      clear hHeld2
      try simp only [Act.put, List.setIfInBounds_toArray, List.set_cons_zero, List.set_cons_succ]
      refine wpAnyH_take (i := 6) (oi := ⟨some 14, _, _, _, _, _⟩) (v := ?_) rfl (by kernel_rfl) (by kernel_rfl) (by kernel_rfl) (fun _ _ _ h => h) (Or.inl ⟨by rfl, ?_⟩) hHeld ?_
      rotate_left
      · (intro wq hSw; go_simp; try with_reducible rfl)
      try simp only [Act.put, List.setIfInBounds_toArray, List.set_cons_zero, List.set_cons_succ]
      refine wpAnyH_done (by kernel_rfl) ?_ _
      clear hHeld
      obtain ⟨D, jt, hjt, hpath, hDle, hjl, hjc⟩ := HT.out.find_root h6 kq 0 HT.out.H1
      obtain ⟨t, htj⟩ : ∃ t, t = st 0 + jt := ⟨_, rfl⟩
      rw [← htj] at hpath
      have HTJ := Lib.hid htj
      have HJL := Lib.hid hjl
      have HJC := Lib.hid hjc
      have HM4 := Lib.hid (HMr.out.kept HW.out (fun h => h) (fun h => h))
      have HLT := Lib.hid (show w.heap.size ≤ W4.heap.size ∧ b < W4.heap.size ∧ g < W4.heap.size ∧ r11 < W4.heap.size ∧ r12 < W4.heap.size ∧ gk < W4.heap.size by have h1 := HW.out.size; have h2 := HMr.out.obj.lt; have h3 := HMr.out.row.lt; have h4 := H12r.out.lt; have h5 := HNE.out; omega)
      have HX := Lib.hid (show x ≠ b ∧ x ≠ g ∧ w.heap.size ≤ x ∧ x ≠ r11 ∧ x ≠ r12 ∧ x ≠ gk by have h1 := HX4.out; have h2 := HNE.out; have h3 := HMr.out.obj.lt; have h4 := HMr.out.row.lt; have h5 := H12r.out.lt; omega)
      have HAT := Lib.hid (show WAt (fun _ => False) W4 F fb fd x 79 (tlF kq 0) (nxF kq 0) l (D + 1) t ⟨#[]⟩ from WAt.start HB4.out HT.out.root hpath)
      replace HKr := Lib.hid (HKr.out.trans HW.out (fun _ _ h => h.elim))
      clear htj hjl hjc hpath HB4 HX4 HMr HW
      go_wp2_with fail
      go_loopw [15] (fun kv wr' => ∃ (k : Nat) (Z : Nat → Prop), k ≤ D ∧ kv = .int .i64 (k : Int) ∧ WAt Z wr' F fb fd x 79 (tlF kq 0) (nxF kq 0) l (D + 1 - k) t ⟨#[]⟩ ∧ Mem wr' b g l (ka + k) ∧ (∀ i, Z i → w.heap.size ≤ i ∧ i ≠ b ∧ i ≠ g ∧ i ≠ r11 ∧ i ≠ r12 ∧ i ≠ gk) ∧ Kept (fun i => w.heap.size ≤ i ∧ i ≠ r11 ∧ i ≠ r12 ∧ i ≠ gk) W4 wr') (fun kv _ => D - (intOf kv).toNat)
      case atStart => exact ⟨0, _, by omega, rfl, HAT.out, HM4.out, fun i h => h.elim, Kept.refl _ _⟩
      case round =>
        rename World => W5
        obtain ⟨k, Z, hk, rfl, hA, hM, hZ, hK5⟩ := hrel
        have HAr := Lib.hid hA
        have HMr := Lib.hid hM
        have HZ := Lib.hid hZ
        have HKi := Lib.hid hK5
        have hbl := hM.obj.lt
        have hgl := hM.row.lt
        have hk20 : (k : Int) < 5000 := by omega
        have hsz4 := hK5.size
        clear hA hM hZ hK5
        obtain ⟨d, hd⟩ : ∃ d, D + 1 - k = d + 1 := ⟨D - k, by omega⟩
        have HST := Lib.hid (find_step F h4 h6 fb fd HD.out Z x kq 0 d t ⟨#[]⟩ W5 b g l (ka + k) HMr.out (by omega) (fun h => (HZ.out b h).2.1 rfl) (fun h => (HZ.out g h).2.2.1 rfl) HX.out.1 HX.out.2.1 HNAT.out (by rw [← hd]; exact HAr.out))
        go_wp2_with fail
        refine HST.out.mono ?_; rintro e w5 ⟨rfl, hM5, Z5, hA5, hK5, hn5⟩
        have HA5 := Lib.hid hA5
        have HM5 := Lib.hid hM5
        have HZ5 := Lib.hid (show ∀ i, Z5 i → w.heap.size ≤ i ∧ i ≠ b ∧ i ≠ g ∧ i ≠ r11 ∧ i ≠ r12 ∧ i ≠ gk from fun i hi => by
          rcases hn5 i hi with h | h
          · exact HZ.out i h
          · have h1 := HLT.out
            omega)
        have HK5 := Lib.hid (show Kept (fun i => w.heap.size ≤ i ∧ i ≠ r11 ∧ i ≠ r12 ∧ i ≠ gk) W4 w5 from HKi.out.trans hK5 (fun i hi h => by
          have h1 := HX.out
          have h2 := HNE.out
          rcases h with h | h | h | h
          · omega
          · have := HZ.out i h; omega
          · omega
          · omega))
        clear hA5 hM5 hK5 hn5 HST HAr HMr HZ HKi
        by_cases hd0 : d = 0
        · have e0 : (d == 0) = true := by simp [hd0]
          have HA0 := Lib.hid (show WAt Z5 w5 F fb fd x 79 (tlF kq 0) (nxF kq 0) l 0 t ⟨#[]⟩ by have := HA5.out; rwa [hd0] at this)
          clear hd0 hd HA5
          have ht0 : t ≠ 0 := by have := (HT.out.lev 0 HT.out.H1).s1; have := HTJ.out; omega
          have HFN := Lib.hid (find_node F fb fd Z5 x kq 0 l t ⟨#[]⟩ w5 ht0 h6 HA0.out)
          go_wp2_with fail
          refine HFN.out.mono ?_; rintro e w6 ⟨P, A6, c6, hP, rfl, hR6, -, hK6⟩
          have hPE : P = pg 0 jt := hP.inj (by rw [HTJ.out]; exact (HT.out.lev 0 HT.out.H1).nd jt hjt)
          obtain ⟨q, hq, hcq, hhq, hxq⟩ := meets (HT.out.lev 0 HT.out.H1) HLV.out HKQ0.out hjt HJL.out HJC.out
          rw [← hPE] at hq hcq hhq hxq
          obtain ⟨gs, os, rfl, hgs, hcs⟩ := hR6.some' (by omega)
          have hsc0 := hcs (q * 2 + 1) _ (slot_ref hxq)
          rw [← Nat.add_assoc] at hsc0
          have HR60 := Lib.hid hR6
          have h6l := hP.len
          obtain ⟨n6, hn6⟩ : ∃ n6, P.xs.length = n6 := ⟨_, rfl⟩
          rw [hn6] at hq h6l ⊢
          have HN6 := Lib.hid hn6
          have HCQ := Lib.hid hcq
          have HHQ := Lib.hid hhq
          replace HM5 := Lib.hid (HM5.out.kept hK6 (fun h => h) (fun h => h))
          replace HK5 := Lib.hid (HK5.out.trans hK6 (fun _ _ h => h.elim))
          clear hP hPE hR6 hcs hxq hcq hhq hn6 hK6 HFN HA0 e0
          go_upto_region 12 with fail
          have hal := (Kept.refl (fun _ => False) w6).alloc (.cells #[.int .i64 (P.lv : Int), .slice (some ⟨gs, os, none⟩) n6 c6, .string P.hi, .bool P.la, .int .u64 (P.rt : Int)] 43)
          have HPG := Lib.hid (Blk.new w6 [.int .i64 (P.lv : Int), .slice (some ⟨gs, os, none⟩) n6 c6, .string P.hi, .bool P.la, .int .u64 (P.rt : Int)] 43)
          replace HM5 := Lib.hid (HM5.out.kept hal (fun h => h) (fun h => h))
          replace HK5 := Lib.hid (HK5.out.trans hal (fun _ _ h => h.elim))
          have HR6 := Lib.hid (HR60.out.keptF hal (fun _ _ h => h))
          have HSC := Lib.hid ((hal.cell (p := ⟨gs, os + q * 2 + 1, none⟩) hgs (fun h => h)).trans hsc0)
          have hgs7 := Nat.lt_of_lt_of_le hgs hal.size
          clear hal HR60 hsc0 hgs
          generalize w6.heap.size = rp at HPG ⊢
          generalize w6.alloc (.cells #[.int .i64 (P.lv : Int), .slice (some ⟨gs, os, none⟩) n6 c6, .string P.hi, .bool P.la, .int .u64 (P.rt : Int)] 43) = V7 at *
          have hgk7 : gk < V7.heap.size := by have h1 := HLT.out; have h2 := HK5.out.size; omega
          have HKQ7 := Lib.hid (((HKr.out.trans HK5.out (fun _ _ h => h)).cell (p := ⟨gk, ok + i, none⟩) HNE.out.2.2.2.2.2.2.2.2 (by simp)).trans (HKC.out i kq HKQ0.out))
          have HFIND := Lib.hid (show ∀ W, Kept (fun _ => False) V7 W → Calls Try.prog 26 #[.agg #[.int .i64 (P.lv : Int), .slice (some ⟨gs, os, none⟩) n6 c6, .string P.hi, .bool P.la, .int .u64 (P.rt : Int)], .string kq] W fun e w' => e = .returned (.tuple #[.int .i64 (q : Int), .bool true]) ∧ Kept (fun _ => False) W w' from fun W hW => by
            refine (refFind_any (P.lv : Int) (some ⟨gs, os, none⟩) c6 P.hi P.la P.rt P.xs kq W n6 HN6.out (by omega) (HR6.out.keptF hW (fun _ _ h => h))).mono ?_
            rintro e w' ⟨rfl, hB⟩
            rw [HCQ.out, HHQ.out]
            exact ⟨rfl, bkept hB⟩)
          refine wp_region_held_drew (S := (fun w' => Kept (fun _ => False) V7 w')) (by kernel_rfl) ?_ (fun hHeld => ?_)
          · exact (Kept.refl _ _).drew
          have HW := Lib.hid ((Kept.refl (fun _ => False) V7).drew)
          generalize V7.drew = G at *
          refine wpAnyH_take (i := 0) (oi := ⟨some 74, _, _, _, _, _⟩) (v := ?_) rfl (by kernel_rfl) (by kernel_rfl) (by kernel_rfl) (fun _ _ _ h => h) (Or.inl ⟨by rfl, ?_⟩) hHeld ?_
          rotate_left
          · (intro wq hSw; have hb9 := hSw.blk HPG.out (fun h => h); have p0 := hb9.cell (i := 0) rfl; have p1 := hb9.cell (i := 1) rfl; have p2 := hb9.cell (i := 2) rfl; have p3 := hb9.cell (i := 3) rfl; have p4 := hb9.cell (i := 4) rfl; clear hb9; have hc9 := (hSw.cell (p := ⟨gk, ok + i, none⟩) hgk7 (fun h => h)).trans HKQ7.out; go_simp; try with_reducible rfl)
          try simp only [Act.put, List.setIfInBounds_toArray, List.set_cons_zero, List.set_cons_succ]
          refine wpAnyH_take (i := 1) (oi := ⟨some 75, _, _, _, _, _⟩) (v := ?_) rfl (by kernel_rfl) (by kernel_rfl) (by kernel_rfl) (fun _ _ _ h => h) (Or.inl ⟨by rfl, ?_⟩) hHeld ?_
          rotate_left
          · (intro wq hSw; go_simp; try with_reducible rfl)
          try simp only [Act.put, List.setIfInBounds_toArray, List.set_cons_zero, List.set_cons_succ]
          refine wpAnyH_take (i := 2) (oi := ⟨some 76, _, _, _, _, _⟩) (v := ?_) rfl (by kernel_rfl) (by kernel_rfl) (by kernel_rfl) (fun _ _ _ h => h) (Or.inl ⟨by rfl, ?_⟩) hHeld ?_
          rotate_left
          · (intro wq hSw; go_simp; try with_reducible rfl)
          try simp only [Act.put, List.setIfInBounds_toArray, List.set_cons_zero, List.set_cons_succ]
          refine wpAnyH_take (i := 3) (oi := ⟨some 77, _, _, _, _, _⟩) (v := ?_) rfl (by kernel_rfl) (by kernel_rfl) (by kernel_rfl) (fun _ _ _ h => h) (Or.inl ⟨by rfl, ?_⟩) hHeld ?_
          rotate_left
          · (intro wq hSw; go_simp; try with_reducible rfl)
          try simp only [Act.put, List.setIfInBounds_toArray, List.set_cons_zero, List.set_cons_succ]
          refine wpAnyH_take (i := 4) (oi := ⟨some 78, _, _, _, _, _⟩) (v := ?_) rfl (by kernel_rfl) (by kernel_rfl) (by kernel_rfl) (fun _ _ _ h => h) (Or.inl ⟨by rfl, ?_⟩) hHeld ?_
          rotate_left
          · (intro wq hSw; have hb9 := hSw.blk HPG.out (fun h => h); have p0 := hb9.cell (i := 0) rfl; have p1 := hb9.cell (i := 1) rfl; have p2 := hb9.cell (i := 2) rfl; have p3 := hb9.cell (i := 3) rfl; have p4 := hb9.cell (i := 4) rfl; clear hb9; have hc9 := (hSw.cell (p := ⟨gk, ok + i, none⟩) hgk7 (fun h => h)).trans HKQ7.out; go_simp; try with_reducible rfl)
          try simp only [Act.put, List.setIfInBounds_toArray, List.set_cons_zero, List.set_cons_succ]
          refine wpAnyH_ready (rs := [5]) (by kernel_rfl) (by simp) ?_
          refine AllReadyH.cons (o := ⟨some 79, _, _, _, _, _⟩) rfl (fun KK hK => ?_) (AllReadyH.nil)
          go_simp
          go_at_call 26
          refine (HFIND.out _ HW.out).mono ?_; rintro e G ⟨rfl, hB⟩
          replace HW := Lib.hid (HW.out.trans hB (fun _ _ h => h))
          clear hB
          refine hK.out _ _ ?_ (fun hHeld2 => ?_)
          · exact HW.out
          clear hK KK hHeld
          have hHeld := hHeld2
          clear hHeld2
          try simp only [Act.put, List.setIfInBounds_toArray, List.set_cons_zero, List.set_cons_succ]
          refine wpAnyH_take (i := 6) (oi := ⟨some 73, _, _, _, _, _⟩) (v := ?_) rfl (by kernel_rfl) (by kernel_rfl) (by kernel_rfl) (fun _ _ _ h => h) (Or.inl ⟨by rfl, ?_⟩) hHeld ?_
          rotate_left
          · (intro wq hSw; go_simp; try with_reducible rfl)
          try simp only [Act.put, List.setIfInBounds_toArray, List.set_cons_zero, List.set_cons_succ]
          refine wpAnyH_take (i := 7) (oi := ⟨some 80, _, _, _, _, _⟩) (v := ?_) rfl (by kernel_rfl) (by kernel_rfl) (by kernel_rfl) (fun _ _ _ h => h) (Or.inl ⟨by rfl, ?_⟩) hHeld ?_
          rotate_left
          · (intro wq hSw; go_simp; try with_reducible rfl)
          try simp only [Act.put, List.setIfInBounds_toArray, List.set_cons_zero, List.set_cons_succ]
          refine wpAnyH_take (i := 8) (oi := ⟨some 81, _, _, _, _, _⟩) (v := ?_) rfl (by kernel_rfl) (by kernel_rfl) (by kernel_rfl) (fun _ _ _ h => h) (Or.inl ⟨by rfl, ?_⟩) hHeld ?_
          rotate_left
          · (intro wq hSw; go_simp; try with_reducible rfl)
          try simp only [Act.put, List.setIfInBounds_toArray, List.set_cons_zero, List.set_cons_succ]
          refine wpAnyH_take (i := 9) (oi := ⟨some 18, _, _, _, _, _⟩) (v := ?_) rfl (by kernel_rfl) (by kernel_rfl) (by kernel_rfl) (fun _ _ _ h => h) (Or.inl ⟨by rfl, ?_⟩) hHeld ?_
          rotate_left
          · (intro wq hSw; go_simp; try with_reducible rfl)
          try simp only [Act.put, List.setIfInBounds_toArray, List.set_cons_zero, List.set_cons_succ]
          refine wpAnyH_take (i := 10) (oi := ⟨some 19, _, _, _, _, _⟩) (v := ?_) rfl (by kernel_rfl) (by kernel_rfl) (by kernel_rfl) (fun _ _ _ h => h) (Or.inl ⟨by rfl, ?_⟩) hHeld ?_
          rotate_left
          · (intro wq hSw; go_simp; try with_reducible rfl)
          try simp only [Act.put, List.setIfInBounds_toArray, List.set_cons_zero, List.set_cons_succ]
          refine wpAnyH_done (by kernel_rfl) ?_ _
          clear hHeld
          have hpg := (HW.out.blk HPG.out (fun h => h)).cell (i := 1) rfl
          have hsc := (HW.out.cell (p := ⟨gs, os + q * 2 + 1, none⟩) hgs7 (fun h => h)).trans HSC.out
          have hqI : (q : Int) < (n6 : Int) := by omega
          have wi1 : IntKind.i64.wrap ((i : Int) + 1) = (i : Int) + 1 := by rw [IntKind.wrap_i64]; omega
          have wi2 : IntKind.u64.wrap ((i : Int) + 1) = (i : Int) + 1 := by rw [IntKind.wrap_u64]; omega
          replace HM5 := Lib.hid (HM5.out.kept HW.out (fun h => h) (fun h => h))
          replace HK5 := Lib.hid (HK5.out.trans HW.out (fun _ _ h => h.elim))
          have HKE := Lib.hid (HKr.out.trans HK5.out (fun _ _ h => h))
          have hka9 : ka + (k + 1) ≤ (i + 1) * 1112 := by have := HKA.out; rw [Nat.succ_mul]; omega
          have hlt9 := HPG.out.lt
          clear HW HK5 HKr
          go_wp2
          go_roundw
          case rel => exact ⟨i + 1, ka + (k + 1), by omega, by go_num, hka9, HM5.out, HKE.out⟩
          case measure => simp [intOf]; omega
        · have e0 : (d == 0) = false := by simp [hd0]
          have hd1 : 1 ≤ d := by omega
          have HDK := Lib.hid hd
          have hk4 : k + 1 ≤ D := by omega
          clear hd0 hd
          go_wp2
          go_roundw
          case rel => exact ⟨k + 1, Z5, hk4, by go_num, by have := HA5.out; have e := HDK.out; rwa [show d = D + 1 - (k + 1) by omega] at this, HM5.out, HZ5.out, HK5.out⟩
          case measure => simp [intOf]; omega
    · have hie : i = nk := by omega
      have hltI : ¬ (i : Int) < (nk : Int) := by omega
      clear hM1 hK1 hka
      obtain ⟨m, hm⟩ : ∃ m, mm 0 = m := ⟨_, rfl⟩
      have HMM := Lib.hid hm
      have hVT := (HT.out.lev 0 HT.out.H1).top
      have hVP := (HT.out.lev 0 HT.out.H1).pos
      have hVS := (HT.out.lev 0 HT.out.H1).s1
      have hm100 : m ≤ 100 := by omega
      have hoff : off m = nk := by have h1 := HLV.out.all; have h2 := HNK.out; rw [hm] at h1; omega
      have HOFF := Lib.hid hoff
      have hlt12r := H12r.out.lt
      clear hm hVT hVS hoff
      go_wp2_with fail
      go_loopw [20, 21, 22, 23, 24, 25, 26, 27, 28, 29] (fun lf bv lv rv _ _ _ _ _ _ wr' => ∃ (r j kb : Nat) (bd : ByteArray) (ls : Bool), j + r = m ∧ 1 ≤ j ∧ lf = .int .i64 (off j : Int) ∧ bv = .string bd ∧ lv = .bool ls ∧ rv = .int .i64 (r : Int) ∧ ((ls = true ∧ j = m) ∨ (ls = false ∧ j < m ∧ bd = lo 0 j)) ∧ kb ≤ 44480 + r * 1112 ∧ Mem wr' b g l kb ∧ Kept (fun i => w.heap.size ≤ i ∧ i ≠ r11 ∧ i ≠ r12 ∧ i ≠ gk) wr wr') (fun _ _ _ rv _ _ _ _ _ _ _ => 100 - (intOf rv).toNat)
      case atStart => exact ⟨0, m, ka, ⟨#[]⟩, true, by omega, by have := HMM.out; omega, by rw [HOFF.out], rfl, rfl, rfl, .inl ⟨rfl, rfl⟩, by omega, HMr.out, Kept.refl _ _⟩
      case round =>
        rename World => wq
        obtain ⟨r, j, kb, bd, ls, hjr, hj1, rfl, rfl, rfl, rfl, hbd, hkb, hM2, hK2⟩ := hrel
        have HM2 := Lib.hid hM2
        have HK2 := Lib.hid hK2
        have HBD := Lib.hid hbd
        have hkbN : kb ≤ 155680 := by have : r * 1112 ≤ 100 * 1112 := Nat.mul_le_mul_right _ (by omega); omega
        have HKB := Lib.hid hkb
        have hkl : ls = true ∨ ¬ bd.toList = [] := by
          rcases hbd with ⟨h, -⟩ | ⟨-, h3, rfl⟩
          · exact .inl h
          · exact .inr (pos_low (HT.out.lev 0 HT.out.H1) (by omega) (by rw [HMM.out]; exact h3))
        obtain ⟨D, jt, hjt, hpath, hDle, hjl, hjc⟩ := HT.out.below_root h6 bd ls hkl
        have hjj : jt + 1 = j := back (HT.out.lev 0 HT.out.H1) hj1 (by rw [HMM.out]; omega) (by rw [HMM.out]; exact hbd) hjt hjl hjc
        obtain ⟨t, htj⟩ : ∃ t, t = st 0 + jt := ⟨_, rfl⟩
        obtain ⟨lw, hlw⟩ : ∃ lw, lw = lo 0 jt := ⟨_, rfl⟩
        rw [← htj, ← hlw] at hpath
        have HTJ := Lib.hid htj
        have HLW := Lib.hid hlw
        have HJJ := Lib.hid hjj
        have HKL := Lib.hid hkl
        have H12q := Lib.hid (hK2.blk H12r.out (by have := HNE.out; omega))
        have hy12 := H12q.out
        have y0 := hy12.cell (i := 0) rfl
        have y1 := hy12.cell (i := 1) rfl
        have y2 := hy12.cell (i := 2) rfl
        have y3 := hy12.cell (i := 3) rfl
        have y4 := hy12.cell (i := 4) rfl
        have y5 := hy12.cell (i := 5) rfl
        have y6 := hy12.cell (i := 6) rfl
        have y7 := hy12.cell (i := 7) rfl
        have y8 := hy12.cell (i := 8) rfl
        have y9 := hy12.cell (i := 9) rfl
        have hr100 : (r : Int) < 100 := by omega
        obtain ⟨oj, hoj⟩ : ∃ oj, off j = oj := ⟨_, rfl⟩
        rw [hoj]
        have HOJ := Lib.hid hoj
        clear hM2 hK2 hbd hkb hkl htj hlw hjj hjl hjc hy12 hoj
        go_wp2_with fail
        refine (newBelow_any F fb fd bd ls HKL.out _).mono ?_; rintro e W4 ⟨x, rfl, hx4, hB4, hK4⟩
        clear y0 y1 y2 y3 y4 y5 y6 y7 y8 y9
        have HM4 := Lib.hid (HM2.out.kept hK4 (fun h => h) (fun h => h))
        have HLT := Lib.hid (show w.heap.size ≤ W4.heap.size ∧ b < W4.heap.size ∧ g < W4.heap.size ∧ r11 < W4.heap.size ∧ r12 < W4.heap.size ∧ gk < W4.heap.size by have h1 := hK4.size; have h2 := HM2.out.obj.lt; have h3 := HM2.out.row.lt; have h4 := H12q.out.lt; have h5 := HNE.out; have h6 := HK2.out.size; omega)
        have HX := Lib.hid (show x ≠ b ∧ x ≠ g ∧ w.heap.size ≤ x ∧ x ≠ r11 ∧ x ≠ r12 ∧ x ≠ gk by have h2 := HNE.out; have h3 := HM2.out.obj.lt; have h4 := HM2.out.row.lt; have h5 := H12q.out.lt; have h6 := HK2.out.size; omega)
        have HAT := Lib.hid (show WAt (fun _ => False) W4 F fb fd x 88 (tlB bd ls) (nxB bd ls) l (D + 1) t lw from WAt.start hB4 HT.out.root hpath)
        have HK4 := Lib.hid (HK2.out.trans hK4 (fun _ _ h => h.elim))
        clear hx4 hB4 hK4 hpath HM2 HK2 H12q
        go_wp2_with fail
        go_loopw [25] (fun kv wr' => ∃ (k : Nat) (Z : Nat → Prop), k ≤ D ∧ kv = .int .i64 (k : Int) ∧ WAt Z wr' F fb fd x 88 (tlB bd ls) (nxB bd ls) l (D + 1 - k) t lw ∧ Mem wr' b g l (kb + k) ∧ (∀ i, Z i → w.heap.size ≤ i ∧ i ≠ b ∧ i ≠ g ∧ i ≠ r11 ∧ i ≠ r12 ∧ i ≠ gk) ∧ Kept (fun i => w.heap.size ≤ i ∧ i ≠ r11 ∧ i ≠ r12 ∧ i ≠ gk) W4 wr') (fun kv _ => D - (intOf kv).toNat)
        case atStart => exact ⟨0, _, by omega, rfl, HAT.out, HM4.out, fun i h => h.elim, Kept.refl _ _⟩
        case round =>
          rename World => W5
          obtain ⟨k, Z, hk, rfl, hA, hM, hZ, hK5⟩ := hrel
          have HAr := Lib.hid hA
          have HMr := Lib.hid hM
          have HZ := Lib.hid hZ
          have HKi := Lib.hid hK5
          have hbl := hM.obj.lt
          have hgl := hM.row.lt
          have hk20 : (k : Int) < 5000 := by omega
          have hsz4 := hK5.size
          clear hA hM hZ hK5
          obtain ⟨d, hd⟩ : ∃ d, D + 1 - k = d + 1 := ⟨D - k, by omega⟩
          have HST := Lib.hid (below_step F h4 h6 fb fd HD.out Z x bd ls d t lw W5 b g l (kb + k) HMr.out (by omega) (fun h => (HZ.out b h).2.1 rfl) (fun h => (HZ.out g h).2.2.1 rfl) HX.out.1 HX.out.2.1 HNAT.out (by rw [← hd]; exact HAr.out))
          go_wp2_with fail
          refine HST.out.mono ?_; rintro e w5 ⟨rfl, hM5, Z5, hA5, hK5, hn5⟩
          have HA5 := Lib.hid hA5
          have HM5 := Lib.hid hM5
          have HZ5 := Lib.hid (show ∀ i, Z5 i → w.heap.size ≤ i ∧ i ≠ b ∧ i ≠ g ∧ i ≠ r11 ∧ i ≠ r12 ∧ i ≠ gk from fun i hi => by
            rcases hn5 i hi with h | h
            · exact HZ.out i h
            · have h1 := HLT.out
              omega)
          have HK5 := Lib.hid (show Kept (fun i => w.heap.size ≤ i ∧ i ≠ r11 ∧ i ≠ r12 ∧ i ≠ gk) W4 w5 from HKi.out.trans hK5 (fun i hi h => by
            have h1 := HX.out
            have h2 := HNE.out
            rcases h with h | h | h | h
            · omega
            · have := HZ.out i h; omega
            · omega
            · omega))
          clear hA5 hM5 hK5 hn5 HST HAr HMr HZ HKi
          by_cases hd0 : d = 0
          · have e0 : (d == 0) = true := by simp [hd0]
            have HA0 := Lib.hid (show WAt Z5 w5 F fb fd x 88 (tlB bd ls) (nxB bd ls) l 0 t lw by have := HA5.out; rwa [hd0] at this)
            clear hd0 hd HA5
            have ht0 : t ≠ 0 := by have := (HT.out.lev 0 HT.out.H1).s1; have := HTJ.out; omega
            have HFN := Lib.hid (below_node F fb fd Z5 x bd ls l t lw w5 ht0 h6 HA0.out)
            go_wp2_with fail
            refine HFN.out.mono ?_; rintro e w6 ⟨P, A6, c6, hP, rfl, hR6, -, hK6⟩
            have hPE : P = pg 0 jt := hP.inj (by rw [HTJ.out]; exact (HT.out.lev 0 HT.out.H1).nd jt hjt)
            have HPE := Lib.hid hPE
            have h6l := hP.len
            obtain ⟨n6, hn6⟩ : ∃ n6, P.xs.length = n6 := ⟨_, rfl⟩
            rw [hn6] at h6l ⊢
            have HN6 := Lib.hid hn6
            have HR6 := Lib.hid hR6
            replace HM5 := Lib.hid (HM5.out.kept hK6 (fun h => h) (fun h => h))
            replace HK5 := Lib.hid (HK5.out.trans hK6 (fun _ _ h => h.elim))
            clear hP hPE hR6 hn6 hK6 HFN HA0 e0
            go_upto_region 24 with fail
            have hal := (Kept.refl (fun _ => False) w6).alloc (.cells #[.int .i64 (P.lv : Int), .slice A6 n6 c6, .string P.hi, .bool P.la, .int .u64 (P.rt : Int)] 43)
            have HPG := Lib.hid (Blk.new w6 [.int .i64 (P.lv : Int), .slice A6 n6 c6, .string P.hi, .bool P.la, .int .u64 (P.rt : Int)] 43)
            replace HM5 := Lib.hid (HM5.out.kept hal (fun h => h) (fun h => h))
            replace HK5 := Lib.hid (HK5.out.trans hal (fun _ _ h => h.elim))
            replace HR6 := Lib.hid (HR6.out.keptF hal (fun _ _ h => h))
            clear hal
            generalize w6.heap.size = rp at HPG ⊢
            generalize w6.alloc (.cells #[.int .i64 (P.lv : Int), .slice A6 n6 c6, .string P.hi, .bool P.la, .int .u64 (P.rt : Int)] 43) = V7 at *
            have HKV := Lib.hid (HKr.out.trans (HK4.out.trans HK5.out (fun _ _ h => h)) (fun _ _ h => h))
            obtain ⟨ojt, hojt⟩ : ∃ o, off jt = o := ⟨_, rfl⟩
            have hoo : oj = ojt + n6 := by have h1 := HLV.out.step jt hjt; have h2 := HOJ.out; have h3 := HJJ.out; rw [h3, ← HPE.out, HN6.out] at h1; omega
            have hnk40' : oj ≤ 40 := by have h1 := HLV.out.mono (i := j) (j := m) (by omega) (by rw [HMM.out]; exact Nat.le_refl _); have h2 := HOJ.out; have h3 := HOFF.out; omega
            have HOJT := Lib.hid hojt
            have HOO := Lib.hid hoo
            have hpgc := HPG.out.cell (i := 1) rfl
            have wn6 : IntKind.i64.wrap ((n6 : Int) - 1) = (n6 : Int) - 1 := by rw [IntKind.wrap_i64]; omega
            clear hojt hoo
            go_wp2_with fail
            go_loopw [20, 29] (fun lf iv wv => ∃ c : Nat, c ≤ n6 ∧ lf = .int .i64 ((ojt + c : Nat) : Int) ∧ iv = .int .i64 ((c : Int) - 1) ∧ Kept (fun _ => False) V7 wv) (fun _ iv _ => (intOf iv + 1).toNat)
            case atStart => exact ⟨n6, Nat.le_refl _, by rw [HOO.out], rfl, Kept.refl _ _⟩
            case round =>
              rename World => wv
              obtain ⟨c, hcn, rfl, rfl, hKv⟩ := hrel
              cases c with
              | zero =>
                have hneg : ¬ (0 : Int) ≤ ((0 : Nat) : Int) - 1 := by omega
                have HKv := Lib.hid hKv
                have HKW := Lib.hid (HKV.out.trans hKv (fun _ _ h => h.elim))
                have HMv := Lib.hid (HM5.out.kept hKv (fun h => h) (fun h => h))
                clear hKv
                by_cases hj0 : jt = 0
                · have hlw0 : lw = ⟨#[]⟩ := by rw [HLW.out, hj0]; exact (HT.out.lev 0 HT.out.H1).low0
                  have e00 : (⟨#[]⟩ : ByteArray).toList = [] := by rw [Lib.toList_data]
                  have ho0 : ojt = 0 := by rw [← HOJT.out, hj0]; exact HLV.out.zero
                  subst hlw0
                  subst ho0
                  go_wp2
                  go_ret
                  refine ⟨rfl, ?_⟩
                  have hKz := (HK.out.mono (T := fun i => w.heap.size ≤ i) (fun _ h => h.elim)).trans (HKW.out.mono (T := fun i => w.heap.size ≤ i) (fun i h => h.1)) (fun _ _ h => h)
                  exact hKz.below (Nat.le_refl _) (fun _ h => h)
                · have hlw0 : ¬ lw.toList = [] := by rw [HLW.out]; exact pos_low (HT.out.lev 0 HT.out.H1) (by omega) hjt
                  have hlw1 : lw.toList.isEmpty = false := by
                    cases h : lw.toList with
                    | nil => exact absurd h hlw0
                    | cons a r => rfl
                  have HJ0 := Lib.hid hj0
                  clear hj0
                  go_wp2
                  go_roundw
                  case rel => exact ⟨r + 1, jt, kb + (k + 1), lw, false, by have := HJJ.out; omega, by have := HJ0.out; omega, by have := HOJT.out; rw [this]; rfl, rfl, rfl, by go_num, .inr ⟨rfl, by have := HJJ.out; omega, HLW.out⟩, by have := HKB.out; rw [Nat.succ_mul]; omega, HMv.out, (HK4.out.trans HK5.out (fun _ _ h => h)).trans HKv.out (fun _ _ h => h.elim)⟩
                  case measure => simp [intOf]; omega
              | succ c =>
                obtain ⟨gs, os, rfl, hgs, hcs⟩ := HR6.out.some' (by rw [HN6.out]; omega)
                obtain ⟨y, hy⟩ : ∃ y, P.xs[c]? = some y := ⟨_, List.getElem?_eq_getElem (by rw [HN6.out]; omega)⟩
                obtain ⟨ky, hky⟩ : ∃ ky, y.1 = ky := ⟨_, rfl⟩
                obtain ⟨lf1, hlf1⟩ : ∃ x, ojt + c = x := ⟨_, rfl⟩
                have hks : (keysOf ss)[lf1]? = some ky := by have := (HLV.out.slot jt hjt c y (by rw [← HPE.out]; exact hy)).1; rw [HOJT.out, hlf1, hky] at this; exact this
                obtain rfl : A = some ⟨gk, ok, none⟩ := HAG.out (by have := (List.getElem?_eq_some_iff.1 hks).1; have := HNK.out; omega)
                have hunder : ls = false → Op.bytesLess ky.toList bd.toList = true := fun h => by
                  have := under (HT.out.lev 0 HT.out.H1) HLV.out HJJ.out (by rw [HMM.out]; omega) (by rw [HMM.out]; exact HBD.out) (by rw [← HPE.out]; exact List.mem_of_getElem? hy) h
                  rw [hky] at this
                  rw [bytesLess_ltB]; exact this
                have hsk := hcs (c * 2) _ (slot_key hy)
                rw [hky] at hsk
                have HPGv := Lib.hid (hKv.blk HPG.out (fun h => h))
                have HSKv := Lib.hid ((hKv.cell (p := ⟨gs, os + c * 2, none⟩) hgs (fun h => h)).trans hsk)
                have hgsv := Nat.lt_of_lt_of_le hgs hKv.size
                have hgkv : gk < wv.heap.size := by have h1 := HNE.out; have h2 := HKV.out.size; have h3 := hKv.size; omega
                have HKKv := Lib.hid (((HKV.out.trans hKv (fun _ _ h => h.elim)).cell (p := ⟨gk, ok + lf1, none⟩) HNE.out.2.2.2.2.2.2.2.2 (by simp)).trans (HKC.out lf1 ky hks))
                have hlfn : lf1 < nk := by have := (List.getElem?_eq_some_iff.1 hks).1; have := HNK.out; omega
                have HKv := Lib.hid hKv
                have HLF1 := Lib.hid hlf1
                have e1 : ((ojt + (c + 1) : Nat) : Int) = (lf1 : Int) + 1 := by omega
                have e2 : ((c + 1 : Nat) : Int) - 1 = (c : Int) := by omega
                rw [e1, e2]
                have e3 : (lf1 : Int) + 1 - 1 = (lf1 : Int) := by omega
                have e4 : ¬ (lf1 : Int) < 0 := by omega
                have e5 : ¬ (c : Int) < 0 := by omega
                have e6 : (c : Int) < (n6 : Int) := by omega
                have e7 : (lf1 : Int) < (nk : Int) := by omega
                have wlf : IntKind.i64.wrap (lf1 : Int) = (lf1 : Int) := by rw [IntKind.wrap_i64]; omega
                have hp9 := HPGv.out.cell (i := 1) rfl
                have hk9 := HSKv.out
                clear hy hky hlf1 hks hsk hgs hcs hKv e1 e2
                go_upto_region 27 with fail
                go_cut [141] from 130 to 141 (fun v wx => v = .bool false ∧ wx = wv)
                case first =>
                  cases ls with
                  | true =>
                    go_wp2
                    go_meet
                    exact ⟨rfl, rfl⟩
                  | false =>
                    have hu := hunder rfl
                    go_wp2
                    go_meet
                    exact ⟨rfl, rfl⟩
                case rest =>
                  obtain ⟨rfl, rfl⟩ := hcut
                  rename World => wv
                  clear hunder
                  go_upto_region 29 with fail
                  refine qregion (fun w' => Kept (fun _ => False) wv w') (by kernel_rfl) (by kernel_rfl) (Kept.refl _ _).drew ?_
                  refine qstep (o := ⟨some 144, _, _, _, _, _⟩) (v := ?_) (by rfl) (fun wq hSw => ?_) ?_
                  rotate_left
                  · (go_simp; try with_reducible rfl)
                  try simp only [Act.put, List.setIfInBounds_toArray, List.set_cons_zero, List.set_cons_succ]
                  refine qstep (o := ⟨some 145, _, _, _, _, _⟩) (v := .bool false) (by rfl) (fun wq hSw => ?_) ?_
                  · (go_simp; try first | (with_reducible rfl) | (simp; omega) | (intros; omega) | simp [*])
                  try simp only [Act.put, List.setIfInBounds_toArray, List.set_cons_zero, List.set_cons_succ]
                  refine qstep (o := ⟨some 146, _, _, _, _, _⟩) (v := .bool false) (by rfl) (fun wq hSw => ?_) ?_
                  · (go_simp; try first | (with_reducible rfl) | (simp; omega) | (intros; omega) | simp [*])
                  try simp only [Act.put, List.setIfInBounds_toArray, List.set_cons_zero, List.set_cons_succ]
                  refine qstep (o := ⟨some 147, _, _, _, _, _⟩) (v := ?_) (by rfl) (fun wq hSw => ?_) ?_
                  rotate_left
                  · (go_simp; try with_reducible rfl)
                  try simp only [Act.put, List.setIfInBounds_toArray, List.set_cons_zero, List.set_cons_succ]
                  refine qstep (o := ⟨some 148, _, _, _, _, _⟩) (v := ?_) (by rfl) (fun wq hSw => ?_) ?_
                  rotate_left
                  · (have hp9 := (hSw.blk HPGv.out (fun h => h)).cell (i := 1) rfl; have hk9 := (hSw.cell (p := ⟨gs, os + c * 2, none⟩) hgsv (fun h => h)).trans HSKv.out; have hq9 := (hSw.cell (p := ⟨gk, ok + lf1, none⟩) hgkv (fun h => h)).trans HKKv.out; go_simp; try with_reducible rfl)
                  try simp only [Act.put, List.setIfInBounds_toArray, List.set_cons_zero, List.set_cons_succ]
                  refine qstep (o := ⟨some 149, _, _, _, _, _⟩) (v := ?_) (by rfl) (fun wq hSw => ?_) ?_
                  rotate_left
                  · (go_simp; try with_reducible rfl)
                  try simp only [Act.put, List.setIfInBounds_toArray, List.set_cons_zero, List.set_cons_succ]
                  refine qstep (o := ⟨some 150, _, _, _, _, _⟩) (v := ?_) (by rfl) (fun wq hSw => ?_) ?_
                  rotate_left
                  · (go_simp; try with_reducible rfl)
                  try simp only [Act.put, List.setIfInBounds_toArray, List.set_cons_zero, List.set_cons_succ]
                  refine qstep (o := ⟨some 151, _, _, _, _, _⟩) (v := ?_) (by rfl) (fun wq hSw => ?_) ?_
                  rotate_left
                  · (go_simp; try with_reducible rfl)
                  try simp only [Act.put, List.setIfInBounds_toArray, List.set_cons_zero, List.set_cons_succ]
                  refine qstep (o := ⟨some 152, _, _, _, _, _⟩) (v := ?_) (by rfl) (fun wq hSw => ?_) ?_
                  rotate_left
                  · (have hp9 := (hSw.blk HPGv.out (fun h => h)).cell (i := 1) rfl; have hk9 := (hSw.cell (p := ⟨gs, os + c * 2, none⟩) hgsv (fun h => h)).trans HSKv.out; have hq9 := (hSw.cell (p := ⟨gk, ok + lf1, none⟩) hgkv (fun h => h)).trans HKKv.out; go_simp; try with_reducible rfl)
                  try simp only [Act.put, List.setIfInBounds_toArray, List.set_cons_zero, List.set_cons_succ]
                  refine qstep (o := ⟨some 153, _, _, _, _, _⟩) (v := ?_) (by rfl) (fun wq hSw => ?_) ?_
                  rotate_left
                  · (go_simp; try with_reducible rfl)
                  try simp only [Act.put, List.setIfInBounds_toArray, List.set_cons_zero, List.set_cons_succ]
                  refine qstep (o := ⟨some 154, _, _, _, _, _⟩) (v := ?_) (by rfl) (fun wq hSw => ?_) ?_
                  rotate_left
                  · (go_simp; try with_reducible rfl)
                  try simp only [Act.put, List.setIfInBounds_toArray, List.set_cons_zero, List.set_cons_succ]
                  refine qstep (o := ⟨some 155, _, _, _, _, _⟩) (v := ?_) (by rfl) (fun wq hSw => ?_) ?_
                  rotate_left
                  · (go_simp; try with_reducible rfl)
                  try simp only [Act.put, List.setIfInBounds_toArray, List.set_cons_zero, List.set_cons_succ]
                  refine qstep (o := ⟨some 156, _, _, _, _, _⟩) (v := ?_) (by rfl) (fun wq hSw => ?_) ?_
                  rotate_left
                  · (have hp9 := (hSw.blk HPGv.out (fun h => h)).cell (i := 1) rfl; have hk9 := (hSw.cell (p := ⟨gs, os + c * 2, none⟩) hgsv (fun h => h)).trans HSKv.out; have hq9 := (hSw.cell (p := ⟨gk, ok + lf1, none⟩) hgkv (fun h => h)).trans HKKv.out; go_simp; try with_reducible rfl)
                  try simp only [Act.put, List.setIfInBounds_toArray, List.set_cons_zero, List.set_cons_succ]
                  refine qstep (o := ⟨some 157, _, _, _, _, _⟩) (v := .bool false) (by rfl) (fun wq hSw => ?_) ?_
                  · (go_simp; try first | (with_reducible rfl) | (simp; omega) | (intros; omega) | simp [*])
                  try simp only [Act.put, List.setIfInBounds_toArray, List.set_cons_zero, List.set_cons_succ]
                  refine qstep (o := ⟨some 158, _, _, _, _, _⟩) (v := .bool false) (by rfl) (fun wq hSw => ?_) ?_
                  · (go_simp; try first | (with_reducible rfl) | (simp; omega) | (intros; omega) | simp [*])
                  try simp only [Act.put, List.setIfInBounds_toArray, List.set_cons_zero, List.set_cons_succ]
                  refine wpQuiet_nil ?_
                  intro wz hHeld
                  replace HKv := Lib.hid (HKv.out.trans hHeld (fun _ _ h => h))
                  go_wp2
                  go_roundw
                  case rel => exact ⟨c, by omega, by rw [HLF1.out], by go_num, HKv.out⟩
                  case measure => simp [intOf] <;> omega
          · have e0 : (d == 0) = false := by simp [hd0]
            have hd1 : 1 ≤ d := by omega
            have HDK := Lib.hid hd
            have hk4 : k + 1 ≤ D := by omega
            clear hd0 hd
            go_wp2
            go_roundw
            case rel => exact ⟨k + 1, Z5, hk4, by go_num, by have := HA5.out; have e := HDK.out; rwa [show d = D + 1 - (k + 1) by omega] at this, HM5.out, HZ5.out, HK5.out⟩
            case measure => simp [intOf]; omega

end Go.Proofs.Ytboieccjikcdiaa
