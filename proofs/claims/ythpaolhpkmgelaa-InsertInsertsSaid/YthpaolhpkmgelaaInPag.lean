/-
  What Insert of package page, what its Split calls, and the reference's Insert and Find answer. Condition: pages within the model's reach.
-/
import Derived.Test.YthpaolhpkmgelaaLkPag
import Derived.Test.YthpaolhpkmgelaaLkKeys
import Derived.Test.YthpaolhpkmgelaaLkNode
import Derived.Deep.RegionHeld3
namespace Go.Proofs.Ythpaolhpkmgelaa
section
open Go.RowKit Plain
set_option linter.unusedVariables false

set_option maxHeartbeats 400000 in
set_option maxHeartbeats 2000000 in
theorem refFind_any (lv : Int) (A : Option Addr) (c : Nat) (hi : ByteArray) (la : Bool) (rt : Nat) (xs : List Sl) (k : ByteArray) (w : World) (n : Nat) (hn : xs.length = n) (h40 : n ≤ 1099511627776) (hR : Rs w A c xs) :
    Calls Try.prog 31 #[.agg #[.int .i64 lv, .slice A n c, .string hi, .bool la, .int .u64 (rt : Int)], .string k] w fun e w' =>
      e = .returned (.tuple #[.int .i64 (cnt k xs : Nat), .bool (has k xs)]) ∧ Below w.heap.size w w' := by
  have hR1 : Rs (w.alloc (.cells #[.int .i64 lv, .slice A n c, .string hi, .bool la, .int .u64 (rt : Int)] 31)) A c xs := hR.below ((Below.refl _ _).alloc (Nat.le_refl _) _) (Nat.le_refl _)
  have HR1 := Lib.hid hR1
  clear hR1 hR
  go_enter Try.func31, Try.ntmps31
  go_wp2_with fail
  go_loopw [6, 7, 8] (fun s b i wr => ∃ j : Nat, j ≤ n ∧ i = .int .i64 j ∧ s = .int .i64 (cnt k (xs.take j) : Nat) ∧ b = .bool (has k (xs.take j)) ∧ wr = w.alloc (.cells #[.int .i64 lv, .slice A n c, .string hi, .bool la, .int .u64 (rt : Int)] 31)) (fun _ _ i _ => n - (intOf i).toNat)
  case atStart => exact ⟨0, by omega, rfl, rfl, rfl, rfl⟩
  case round =>
    obtain ⟨j, hj, rfl, rfl, rfl, rfl⟩ := hrel
    by_cases hlt : j < n
    · obtain ⟨x, hx⟩ : ∃ x, xs[j]? = some x := ⟨_, List.getElem?_eq_getElem (by omega)⟩
      obtain ⟨g, off, rfl, hg, hcell⟩ := HR1.out.at (by omega)
      obtain ⟨c0, c1⟩ := hcell j x hx
      have e1 := cnt_take (k := k) hx
      have e2 := has_take (k := k) hx
      generalize hcc : cnt k (xs.take j) = cc at e1 ⊢
      generalize has k (xs.take j) = bb at e2 ⊢
      have hcl : cc ≤ j := by rw [← hcc]; have := cnt_le k (xs.take j); rw [List.length_take] at this; omega
      have hlx : Op.bytesLess x.1.toList k.toList = lt x k := bytesLess_ltB _ _
      have hex : (x.1.toList == k.toList) = eqk x k := rfl
      generalize lt x k = l1 at e1 hlx
      generalize eqk x k = l2 at e2 hex
      have E1 := Lib.hid e1
      have E2 := Lib.hid e2
      clear e1 e2 hcell hx hcc
      cases l1 <;> cases l2 <;> cases bb
      all_goals
        go_wp2
        go_roundw
        case rel => exact ⟨j + 1, by omega, by go_num, by first | (rw [E1.out]; rfl) | (rw [E1.out]; simp) , by rw [E2.out]; rfl, by first | rfl | trivial⟩
        case measure => simp [intOf]; omega
    · obtain rfl : j = n := by omega
      rw [List.take_of_length_le (by omega)]
      go_wp2
      go_ret2
      exact ⟨rfl, (Below.refl _ _).alloc (Nat.le_refl _) _⟩
end

section
open Go.RowKit Go.Deep Plain
set_option linter.unusedVariables false

set_option maxHeartbeats 1000000 in
theorem pcopied_any (A : Option Addr) (c : Nat) (xs : List Sl) (w : World) (n : Nat) (hn : xs.length = n) (h40 : n ≤ 1099511627776) (hR : Rs w A c xs) :
    Calls Try.prog 54 #[.slice A n c] w fun e w' => ∃ v', e = .returned v' ∧ w'.ownsRow w.heap.size 70 2 v' n (flat xs) ∧ Below w.heap.size w w' := by
  go_enter Try.func54, Try.ntmps54
  go_wp2_with (at_builtin; go_must (refine wpList_app rfl (.const (.slice none 0 0)) (.tmp 3) rfl w.heap.size _ 0 [] rfl (World.ownsRow_nil _ _ _ _) A n c xs rfl hn hR (by omega) (Nat.le_refl _) ?_))
  intro v1 w1 hown hB
  go_wp2
  go_ret
  exact ⟨_, rfl, hown, hB⟩

set_option maxHeartbeats 4000000 in
theorem insert_yes (lv : Int) (A : Option Addr) (c : Nat) (hi : ByteArray) (la : Bool) (rt : Nat) (xs : List Sl) (k : ByteArray) (r : Nat) (w : World) (n : Nat) (hn : xs.length = n) (h40 : n ≤ 1099511627776) (hR : Rs w A c xs) (ha : Asc xs) (hk : has k xs = false) (hlt : n < 1099511627776) :
    Calls Try.prog 35 #[.agg #[.int .i64 lv, .slice A n c, .string hi, .bool la, .int .u64 (rt : Int)], .string k, .int .u64 (r : Int)] w fun e w' => ∃ A' c', e = .returned (.tuple #[.agg #[.int .i64 lv, .slice A' (n + 1) c', .string hi, .bool la, .int .u64 (rt : Int)], .bool true]) ∧
      w'.ownsRow w.heap.size 70 2 (.slice A' (n + 1) c') (n + 1) (flat (ins (k, r) xs)) ∧ Below w.heap.size w w' := by
  have hq := cnt_le k xs
  have hqc : cnt k xs ≤ c := by have := hR.le; omega
  have hic := ins_cut xs (k, r) ha
  simp only at hic
  obtain ⟨P0, S0, B0, Z0⟩ := box_two w [.int .i64 lv, .slice A n c, .string hi, .bool la, .int .u64 (rt : Int)] [.int .i64 0, .slice none 0 0, .string ⟨#[]⟩, .bool false, .int .u64 0] 31 31
  go_enter Try.func35, Try.ntmps35
  go_wp2_with fail
  refine (find_any lv A c hi la rt xs k _ n hn h40 (hR.below B0 (Nat.le_refl _)) ha).mono ?_; rintro e w1 ⟨rfl, hB1⟩
  rw [Z0] at hB1
  have P1 := P0.below hB1 (by omega)
  have S1 := S0.below hB1 (by omega)
  have B1 := B0.trans (hB1.mono (by omega))
  have R1 := hR.below B1 (Nat.le_refl _)
  have b1 := P1.cell (i := 1) rfl
  have hs1 := hB1.size
  rw [Z0] at hs1
  rw [hk]
  generalize cnt k xs = q at *
  have hql : (xs.take q).length = q := by rw [List.length_take]; omega
  have HIC := Lib.hid hic
  have HR1 := Lib.hid R1
  have HB1 := Lib.hid B1
  have HP1 := Lib.hid P1
  have HS1 := Lib.hid S1
  clear hR R1 P0 S0 B0 Z0 P1 S1 B1 hB1 ha hk hic
  go_wp2_with fail
  refine (pcopied_any _ _ (xs.take q) _ q hql (by omega) (HR1.out.take q)).mono ?_; rintro e w2 ⟨v2, rfl, hown2, hB2⟩
  have hs2 := hB2.size
  have HO2 := Lib.hid hown2
  have HP2 := Lib.hid (HP1.out.below hB2 (by omega))
  have HS2 := Lib.hid (HS1.out.below hB2 (by omega))
  have HB2 := Lib.hid hB2
  clear hown2 hB2 HP1 HS1 b1
  go_wp2_with (at_builtin; go_must (refine wpList_app rfl (.tmp 23) (.tmp 27) rfl w1.heap.size _ q (xs.take q) rfl (HO2.out.alloc _) (some ⟨w2.heap.size, 0, none⟩) 1 1 [(k, r)] rfl rfl (Rs.one w2 k r) (by omega) (by rw [nblk_alloc]; omega) ?_))
  intro v3 w3 hown3 hB3
  have hB3' := ((Below.refl w1.heap.size w2).alloc hs2 _).trans hB3
  have hs3 := hB3'.size
  have HO3 := Lib.hid hown3
  have HP3 := Lib.hid (HP2.out.below hB3' (by omega))
  have HS3 := Lib.hid (HS2.out.below hB3' (by omega))
  have HR3 := Lib.hid (HR1.out.below (HB2.out.trans hB3') (Nat.le_refl _))
  have HB3 := Lib.hid (HB2.out.trans hB3')
  have b1 := HP3.out.cell (i := 1) rfl
  clear hown3 hB3 hB3' HO2 HB2 HP2 HS2 HR1
  go_wp2_with (at_builtin; go_must (refine wpList_app rfl (.tmp 29) (.tmp 33) rfl w1.heap.size _ (q + 1) (xs.take q ++ [(k, r)]) rfl HO3.out _ (n - q) (c - q) (xs.drop q) rfl (by rw [List.length_drop]; omega) (HR3.out.drop q (by omega)) (by omega) (by omega) ?_))
  all_goals
    intro v4 w4 hown4 hB4
    have hs4 := hB4.size
    have hP4 := HP3.out.below hB4 (by omega)
    have hS4 := HS3.out.below hB4 (by omega)
    rw [← HIC.out] at hown4
    have e2 : q + 1 + (n - q) = n + 1 := by omega
    rw [e2] at hown4
    obtain ⟨A4, c4, rfl, hl4, hR4, hA4⟩ := Rs.own hown4
    have b0 := hP4.cell (i := 0) rfl
    have b1 := hP4.cell (i := 1) rfl
    have b2 := hP4.cell (i := 2) rfl
    have b3 := hP4.cell (i := 3) rfl
    have b4 := hP4.cell (i := 4) rfl
    have x1 := hP4.frozen 1
    have y0 := hS4.cell (i := 0) rfl
    have y1 := hS4.cell (i := 1) rfl
    have y2 := hS4.cell (i := 2) rfl
    have y3 := hS4.cell (i := 3) rfl
    have y4 := hS4.cell (i := 4) rfl
    have z0 := hS4.frozen 0
    have z1 := hS4.frozen 1
    have z2 := hS4.frozen 2
    have z3 := hS4.frozen 3
    have z4 := hS4.frozen 4
    have HO4 := Lib.hid hown4
    have HB4 := Lib.hid (HB1.out.trans ((HB3.out.trans hB4).mono (by omega)))
    clear hown4 hP4 hS4 hB4 HO3 HB3 HP3 HS3 HR3 hR4 hA4 hl4 e2 HIC
    go_wp2
    refine bodyPost_ret (v := .tuple #[.agg #[.int .i64 lv, .slice A4 (n + 1) c4, .string hi, .bool la, .int .u64 (rt : Int)], .bool true]) (by simp [results, Try.results35, go_sem, *]) rfl ?_
    exact ⟨_, _, rfl, own_less (own_page HO4.out (by omega) (by omega) _ _ _ _ _ _) (by omega), below_page HB4.out (Nat.le_refl _) (Nat.le_succ _) _ _ _ _ _ _⟩
end

section
open Go.RowKit Go.Deep Plain
set_option linter.unusedVariables false

set_option maxHeartbeats 2000000 in
set_option maxHeartbeats 4000000 in
theorem refInsert_yes (lv : Int) (A : Option Addr) (c : Nat) (hi : ByteArray) (la : Bool) (rt : Nat) (xs : List Sl) (k : ByteArray) (r : Nat) (w : World) (n : Nat) (hn : xs.length = n) (h40 : n ≤ 1099511627776) (hR : Rs w A c xs) (ha : Asc xs) (hk : has k xs = false) (hlt : n < 1099511627776) :
    Calls Try.prog 10 #[.agg #[.int .i64 lv, .slice A n c, .string hi, .bool la, .int .u64 (rt : Int)], .string k, .int .u64 (r : Int)] w fun e w' => ∃ A' c', e = .returned (.tuple #[.agg #[.int .i64 lv, .slice A' (n + 1) c', .string hi, .bool la, .int .u64 (rt : Int)], .bool true]) ∧
      w'.ownsRow w.heap.size 70 2 (.slice A' (n + 1) c') (n + 1) (flat (ins (k, r) xs)) ∧ Below w.heap.size w w' := by
  have hq := cnt_le k xs
  have hic := ins_cut xs (k, r) ha
  simp only at hic
  obtain ⟨P0, S0, B0, Z0⟩ := box_two w [.int .i64 lv, .slice A n c, .string hi, .bool la, .int .u64 (rt : Int)] [.int .i64 0, .slice none 0 0, .string ⟨#[]⟩, .bool false, .int .u64 0] 31 31
  go_enter Try.func10, Try.ntmps10
  go_wp2_with fail
  refine (refFind_any lv A c hi la rt xs k _ n hn h40 (hR.below B0 (Nat.le_refl _))).mono ?_; rintro e w1 ⟨rfl, hB1⟩
  rw [Z0] at hB1
  have P1 := P0.below hB1 (by omega)
  have S1 := S0.below hB1 (by omega)
  have B1 := B0.trans (hB1.mono (by omega))
  have R1 := hR.below B1 (Nat.le_refl _)
  have hs1 := hB1.size
  rw [Z0] at hs1
  rw [hk]
  generalize cnt k xs = q at *
  have HIC := Lib.hid hic
  have HR1 := Lib.hid R1
  have HB1 := Lib.hid B1
  have HP1 := Lib.hid P1
  have HS1 := Lib.hid S1
  clear hR R1 P0 S0 B0 Z0 P1 S1 B1 hB1 ha hk hic
  go_wp2_with fail
  go_loopw [10, 11] (fun l i wr => ∃ j : Nat, j ≤ q ∧ i = .int .i64 j ∧ wr.ownsRow w1.heap.size 70 2 l j (flat (xs.take j)) ∧ Below w1.heap.size w1 wr) (fun _ i _ => q - (intOf i).toNat)
  case atStart => exact ⟨0, by omega, rfl, World.ownsRow_nil _ _ _ _, Below.refl _ _⟩
  case round =>
    obtain ⟨j, hj, rfl, hown, hB⟩ := hrel
    have hszr := hB.size
    have HB := Lib.hid hB
    have HO := Lib.hid hown
    clear hown hB
    by_cases hjq : j < q
    · obtain ⟨x, hx⟩ : ∃ x, xs[j]? = some x := ⟨_, List.getElem?_eq_getElem (by omega)⟩
      obtain ⟨g, off, hA, hg, hcell⟩ := HR1.out.at (by omega)
      obtain ⟨c0, c1⟩ := hcell j x hx
      have c0 := (HB.out.cell (p := ⟨g, off + j * 2, none⟩) hg).trans c0
      have c1 := (HB.out.cell (p := ⟨g, off + j * 2 + 1, none⟩) hg).trans c1
      have b1 := (HP1.out.below HB.out (by omega)).cell (i := 1) rfl
      rw [hA] at b1
      have HST := Lib.hid (take_step hx)
      clear hcell hx hA
      go_wp2_with (at_builtin; go_must (refine wpList_app rfl (.tmp 26) (.tmp 32) rfl w1.heap.size _ j (xs.take j) rfl (HO.out.alloc _) (some ⟨wr.heap.size, 0, none⟩) 1 1 [x] rfl rfl (Rs.one wr x.1 x.2) (by omega) (by rw [nblk_alloc]; omega) ?_))
      intro v2 w2 hown2 hB2
      have hB3 := (HB.out.alloc hszr _).trans hB2
      have HB3 := Lib.hid hB3
      rw [← HST.out] at hown2
      have HO2 := Lib.hid hown2
      clear hown2 hB2 hB3 HO HB HST c0 c1 b1
      go_wp2
      go_roundw
      case rel => exact ⟨j + 1, by omega, by go_num, HO2.out, HB3.out⟩
      case measure => simp [intOf]; omega
    · obtain rfl : j = q := by omega
      rename World => w2
      go_wp2_with (at_builtin; go_must (refine wpList_app rfl (.tmp 34) (.tmp 38) rfl w1.heap.size _ j (xs.take j) rfl (HO.out.alloc _) (some ⟨w2.heap.size, 0, none⟩) 1 1 [(k, r)] rfl rfl (Rs.one w2 k r) (by omega) (by rw [nblk_alloc]; omega) ?_))
      intro v3 w3 hown3 hB3
      have HB3 := Lib.hid ((HB.out.alloc hszr _).trans hB3)
      rw [← insAt_start] at hown3
      have HO3 := Lib.hid hown3
      clear hown3 hB3 HO HB hszr
      go_wp2_with fail
      go_loopw [10, 12] (fun l i wr => ∃ t : Nat, j ≤ t ∧ t ≤ n ∧ i = .int .i64 t ∧ wr.ownsRow w1.heap.size 70 2 l (t + 1) (flat (insAt (k, r) xs j t)) ∧ Below w1.heap.size w1 wr) (fun _ i _ => n - (intOf i).toNat)
      case atStart => exact ⟨j, Nat.le_refl _, by omega, rfl, HO3.out, HB3.out⟩
      case round =>
        obtain ⟨t, hjt, htn, rfl, hown, hB⟩ := hrel
        have hszr := hB.size
        have HB := Lib.hid hB
        have HO := Lib.hid hown
        have hPr := HP1.out.below hB (by omega)
        have b1 := hPr.cell (i := 1) rfl
        clear hown hB HO3 HB3
        by_cases htq : t < n
        · obtain ⟨x, hx⟩ : ∃ x, xs[t]? = some x := ⟨_, List.getElem?_eq_getElem (by omega)⟩
          obtain ⟨g, off, hA, hg, hcell⟩ := HR1.out.at (by omega)
          obtain ⟨c0, c1⟩ := hcell t x hx
          have c0 := (HB.out.cell (p := ⟨g, off + t * 2, none⟩) hg).trans c0
          have c1 := (HB.out.cell (p := ⟨g, off + t * 2 + 1, none⟩) hg).trans c1
          rw [hA] at b1
          have HST := Lib.hid (insAt_step (e := (k, r)) hjt hx)
          clear hcell hx hA hPr
          go_wp2_with (at_builtin; go_must (refine wpList_app rfl (.tmp 48) (.tmp 54) rfl w1.heap.size _ (t + 1) (insAt (k, r) xs j t) rfl (HO.out.alloc _) (some ⟨wr.heap.size, 0, none⟩) 1 1 [x] rfl rfl (Rs.one wr x.1 x.2) (by omega) (by rw [nblk_alloc]; omega) ?_))
          intro v2 w2 hown2 hB2
          have hB3 := (HB.out.alloc hszr _).trans hB2
          have HB3 := Lib.hid hB3
          rw [← HST.out] at hown2
          have HO2 := Lib.hid hown2
          clear hown2 hB2 hB3 HO HB HST c0 c1 b1
          go_wp2
          go_roundw
          case rel => exact ⟨t + 1, by omega, by omega, by go_num, HO2.out, HB3.out⟩
          case measure => simp [intOf]; omega
        · obtain rfl : t = n := by omega
          have hown4 := HO.out
          have he := insAt_end (k, r) xs j
          rw [hn, ← HIC.out] at he
          rw [he] at hown4
          obtain ⟨A4, c4, rfl, hl4, hR4, hA4⟩ := Rs.own hown4
          have hS4 := HS1.out.below HB.out (by omega)
          have b0 := hPr.cell (i := 0) rfl
          have b2 := hPr.cell (i := 2) rfl
          have b3 := hPr.cell (i := 3) rfl
          have b4 := hPr.cell (i := 4) rfl
          have x1 := hPr.frozen 1
          have y0 := hS4.cell (i := 0) rfl
          have y1 := hS4.cell (i := 1) rfl
          have y2 := hS4.cell (i := 2) rfl
          have y3 := hS4.cell (i := 3) rfl
          have y4 := hS4.cell (i := 4) rfl
          have z0 := hS4.frozen 0
          have z1 := hS4.frozen 1
          have z2 := hS4.frozen 2
          have z3 := hS4.frozen 3
          have z4 := hS4.frozen 4
          have HO4 := Lib.hid hown4
          have HB4 := Lib.hid (HB1.out.trans (HB.out.mono (by omega)))
          clear hown4 hS4 hPr hR4 hA4 hl4 he HO HB
          go_wp2
          refine bodyPost_ret (v := .tuple #[.agg #[.int .i64 lv, .slice A4 (t + 1) c4, .string hi, .bool la, .int .u64 (rt : Int)], .bool true]) (by simp [results, Try.results10, go_sem, *]) rfl ?_
          exact ⟨_, _, rfl, own_less (own_page HO4.out (by omega) (by omega) _ _ _ _ _ _) (by omega), below_page HB4.out (Nat.le_refl _) (Nat.le_succ _) _ _ _ _ _ _⟩
end

section
open Go.RowKit Go.Deep Plain
set_option linter.unusedVariables false

theorem ret_int2 {k : IntKind} {a b : Int} (h : a = b) : Ending.returned (.int k a) = .returned (.int k b) := by rw [h]

set_option maxHeartbeats 400000 in
theorem common_any (a b : ByteArray) (w : World) (ha : a.size ≤ maxLen) :
    Calls Try.prog 96 #[.string a, .string b] w fun e w' => e = .returned (.int .i64 (com a.toList b.toList)) ∧ ∃ n, w' = w.drewN n := by
  unfold maxLen at ha
  have hcl := com_le a.toList b.toList
  rw [len_toList, len_toList] at hcl
  have hst := com_step a.toList b.toList
  have HS := Lib.hid hst
  clear hst
  go_enter Try.func96, Try.ntmps96
  go_wp2
  go_loopw [5] (fun i wr => ∃ k n : Nat, k ≤ com a.toList b.toList ∧ i = .int .i64 k ∧ wr = w.drewN n) (fun i _ => com a.toList b.toList - (intOf i).toNat)
  case atStart => exact ⟨0, 0, by omega, rfl, rfl⟩
  case round =>
    obtain ⟨k, n, hk, rfl, rfl⟩ := hrel
    have hs := HS.out k hk
    rw [len_toList, len_toList] at hs
    by_cases h1 : k < a.size
    · by_cases h2 : k < b.size
      · rw [getD_toList a k h1, getD_toList b k h2] at hs
        by_cases h3 : a[k] = b[k]
        · have hne : k ≠ com a.toList b.toList := fun e => hs.1 e ⟨h1, h2, h3⟩
          have hlt : k < com a.toList b.toList := by omega
          have h4 : ((a[k].toNat : Int) == (b[k].toNat : Int)) = true := by rw [h3]; simp
          clear hs h3 hne
          go_wp2_with fail
          go_quiet (fail)
          go_wp2
          go_roundw
          case rel => exact ⟨k + 1, n + nq, by omega, by go_num, rfl⟩
          case measure => simp [intOf]; omega
        · have he : k = com a.toList b.toList := hs.2 (fun h => h3 h.2.2)
          have h4 : ((a[k].toNat : Int) == (b[k].toNat : Int)) = false := by
            rw [beq_eq_false_iff_ne]; intro e; exact h3 (u8_eq (by omega))
          have HE := Lib.hid he
          clear hs h3 he
          go_wp2_with fail
          go_quiet (fail)
          go_wp2
          go_ret
          exact ⟨ret_int2 (by rw [← HE.out]), n + nq, by rw [World.drewN_drewN]⟩
      · have he : k = com a.toList b.toList := by omega
        have HE := Lib.hid he
        have h5 : decide (k < b.size) = false := by simpa using h2
        clear hs he
        go_wp2_with fail
        go_quiet (fail)
        go_wp2
        go_ret
        exact ⟨ret_int2 (by rw [← HE.out]), n + nq, by rw [World.drewN_drewN]⟩
    · have he : k = com a.toList b.toList := by omega
      have HE := Lib.hid he
      have h5 : decide (k < a.size) = false := by simpa using h1
      clear hs he
      go_wp2_with fail
      go_quiet (fail)
      go_wp2
      go_ret
      exact ⟨ret_int2 (by rw [← HE.out]), n + nq, by rw [World.drewN_drewN]⟩

set_option maxHeartbeats 400000 in
theorem sep_any (a b s : ByteArray) (w : World) (ha : a.size ≤ maxLen) (hb : b.size ≤ maxLen) (hs : sepB a b = s) :
    Calls Try.prog 93 #[.string a, .string b] w fun e w' => e = .returned (.string s) ∧ Below w.heap.size w w' := by
  subst hs
  have e1 := bytesLess_ltB a.toList b.toList
  have hc := com_lt a.toList b.toList
  rw [len_toList] at hc
  have ha' := ha
  have hb' := hb
  unfold maxLen at ha' hb'
  unfold sepB
  cases h : ltB a.toList b.toList
  · rw [h] at e1
    clear hc h
    go_enter Try.func93, Try.ntmps93
    go_wp2
    go_ret
    exact ⟨rfl, Below.refl _ _⟩
  · have hlt := hc h
    rw [h] at e1
    clear hc h
    go_enter Try.func93, Try.ntmps93
    go_wp2_with (go_at_call 96; refine (common_any _ _ _ ha).mono ?_; rintro e w' ⟨rfl, n, rfl⟩)
    go_ret
    exact ⟨rfl, below_drewN (Below.refl _ _) _⟩

set_option maxHeartbeats 1000000 in
theorem separatorAt_leaf (lv : Int) (A : Option Addr) (c : Nat) (hi : ByteArray) (la : Bool) (rt : Nat) (xs : List Sl) (m : Nat) (w : World) (n : Nat) (hn : xs.length = n) (h40 : n ≤ 1099511627776) (hR : Rs w A c xs) (x y : Sl) (hm : 0 < m) (hx : xs[m - 1]? = some x) (hy : xs[m]? = some y) (hxs : x.1.size ≤ maxLen) (hys : y.1.size ≤ maxLen) (hlv : lv = 0) (s : ByteArray) (hs : sepB x.1 y.1 = s) :
    Calls Try.prog 79 #[.agg #[.int .i64 lv, .slice A n c, .string hi, .bool la, .int .u64 (rt : Int)], .int .i64 (m : Int)] w fun e w' => e = .returned (.string s) ∧ Below w.heap.size w w' := by
  subst hlv
  obtain ⟨P0, B0, Z0⟩ := box_one w (.int .i64 0 :: .slice A n c :: .string hi :: .bool la :: .int .u64 (rt : Int) :: []) 31
  have hmn : m < n := by have := (List.getElem?_eq_some_iff.1 hy).1; omega
  obtain ⟨g, off, rfl, hg, hcell⟩ := (hR.below B0 (Nat.le_refl _)).at (by omega)
  obtain ⟨c0, c1⟩ := hcell (m - 1) x hx
  obtain ⟨d0, d1⟩ := hcell m y hy
  clear hcell hx hy P0 B0 Z0 hR
  have HS := Lib.hid hs
  clear hs
  go_enter Try.func79, Try.ntmps79
  go_wp2_with fail
  refine (sep_any _ _ _ _ hxs hys HS.out).mono ?_; rintro e w1 ⟨rfl, hB1⟩
  have hB2 := ((Below.refl w.heap.size w).alloc (Nat.le_refl _) _).trans (hB1.mono (by simp))
  go_wp2
  go_ret
  exact ⟨rfl, hB2⟩
end
end Go.Proofs.Ythpaolhpkmgelaa
