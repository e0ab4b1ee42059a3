/-
  What the reference's Put answers: a new list, the entry in its place; what was there stays as it was. Condition: at most 2^40 entries.
-/
import Derived.Test.YtodenkamlbihnaaBatMem
namespace Go.Proofs.Ytodenkamlbihnaa
open Go.RowKit Go.Deep Plain PlainE
set_option linter.unusedVariables false
/-- A slice value that reads as n elements' cells xs, all below block B. -/
def Rdv (w : World) (B : Nat) (v : Value) (n : Nat) (xs : List Value) : Prop :=
  ∃ A c, v = .slice A n c ∧ n ≤ c ∧ c ≤ maxLen ∧ (0 < n → ∃ g off, A = some ⟨g, off, none⟩ ∧ g < B ∧ ∀ j u, xs[j]? = some u → w.cell? ⟨g, off + j, none⟩ = some u)
theorem rdv_own {w : World} {base e size n : Nat} {v : Value} {xs : List Value} (h : w.ownsRow base e size v n xs) : Rdv w w.heap.size v n xs := by
  rcases h.2 with ⟨rfl, rfl⟩ | ⟨g, cap, cur, rfl, hb, hg, hc, hm, rest⟩
  · exact ⟨none, 0, rfl, Nat.le_refl _, Nat.zero_le _, fun h => absurd h (by omega)⟩
  · refine ⟨_, cap, rfl, hc, hm, fun _ => ⟨g, 0, rfl, (Array.getElem?_eq_some_iff.1 hg).1, fun j u hu => ?_⟩⟩
    have := h.cells (g := g) rfl j u hu
    rw [Addr.add_lit] at this
    exact this

theorem own_drewNE {w : World} {base e size n : Nat} {v : Value} {xs : List Value} (h : w.ownsRow base e size v n xs) (q : Nat) : (w.drewN q).ownsRow base e size v n xs := h
theorem own_lessE {w : World} {base base' e size n : Nat} {v : Value} {xs : List Value} (h : w.ownsRow base e size v n xs) (hb : base' ≤ base) : w.ownsRow base' e size v n xs := by
  refine ⟨h.1, ?_⟩
  rcases h.2 with hn | ⟨g, cap, cur, rfl, hg, rest⟩
  · exact .inl hn
  · exact .inr ⟨g, cap, cur, rfl, Nat.le_trans hb hg, rest⟩
theorem cells_twoE (W : World) (E : TypeId) (a b : Value) {cs : Array Value} (hcs : cs = #[a, b]) : ∀ j u, [a, b][j]? = some u → (W.alloc (.cells cs E)).cell? ((⟨W.heap.size, 0, none⟩ : Addr).add j) = some u := by
  subst hcs
  intro j u hu
  match j, hu with
  | 0, hu => simp at hu; subst hu; simp [Addr.add]
  | 1, hu => simp at hu; subst hu; simp [Addr.add]
theorem after_appE {B e size n : Nat} {W wr w1 : World} {v : Value} {xs : List Value} {o : Obj} {q : Nat} (hb : Below B W wr) (ho : wr.ownsRow B e size v n xs) (hB : B ≤ wr.heap.size)
    (hg : ((wr.drewN q).alloc o).grownBy w1 v.ownBlock) : (Below B W w1 ∧ wr.heap.size ≤ w1.heap.size) ∧ ∀ p : Addr, p.block < B → w1.cell? p = wr.cell? p := by
  have hrow : ∀ k, v.ownBlock = some k → B ≤ k := fun k hk => (ho.lt k hk).1
  have h1 : Below B wr w1 := ((below_drewN (Below.refl B wr) q).alloc hB o).grown hg (by simp; omega) hrow
  exact ⟨⟨hb.trans h1, h1.size⟩, fun p hp => h1.cell hp⟩

set_option maxHeartbeats 4000000 in
theorem put_any (A : Option Addr) (n c : Nat) (xs : List Ent) (k v : ByteArray) (w : World) (hn : xs.length = n) (hn40 : n ≤ 1099511627776)
    (hR : Rdv w w.heap.size (.slice A n c) n (PlainE.flat xs)) :
    Calls Try.prog 57 #[.slice A n c, .agg #[.string k, .string v]] w fun e w' => 
      ∃ v', e = .returned v' ∧ w'.ownsRow w.heap.size 57 2 v' (putL xs (k, v)).length (PlainE.flat (putL xs (k, v))) ∧ Below w.heap.size w w' := by
  obtain ⟨i0, hi, hz0, hz1, hz2⟩ := info_parts Try.info57
  go_enter Try.func57, Try.ntmps57
  go_wp2
  go_loopw [5, 6, 7] (fun o d i wr => ∃ j : Nat, j ≤ n ∧ i = .int .i64 j ∧ d = .bool (run (k, v) (xs.take j)).2 ∧ wr.ownsRow (w.heap.size + 1) 57 2 o (run (k, v) (xs.take j)).1.length (PlainE.flat (run (k, v) (xs.take j)).1) ∧ Below (w.heap.size + 1) (w.alloc (.cells #[.string k, .string v] 57)) wr)
    (fun _ _ i _ => n - (intOf i).toNat)
  case atStart => exact ⟨0, by omega, rfl, rfl, World.ownsRow_nil _ _ _ _, Below.refl _ _⟩
  case round =>
    obtain ⟨j, hj, rfl, rfl, hown, hbel⟩ := hrel
    have hzr : w.heap.size + 1 ≤ wr.heap.size := by have := hbel.size; simp at this; omega
    by_cases hlt : j < n
    · obtain ⟨A', c', he, hc, hcm, hA⟩ := hR
      obtain ⟨rfl, rfl⟩ : A = A' ∧ c = c' := by simpa using he
      obtain ⟨g, off, rfl, hg, hcell⟩ := hA (by omega)
      obtain ⟨x, hx⟩ : ∃ x, x = xs[j] := ⟨_, rfl⟩
      have hst := run_take (k, v) xs j (by omega)
      rw [← hx] at hst
      have hfa := PlainE.flat_at xs j (by omega)
      rw [← hx] at hfa
      have hx1 : wr.cell? ⟨g, off + j * 2, none⟩ = some (.string x.1) := by
        rw [hbel.cell (p := ⟨g, _, none⟩) (by show g < _; omega), World.cell?_alloc_lt w _ _ hg]; exact hcell _ _ hfa.1
      have hx2 : wr.cell? ⟨g, off + j * 2 + 1, none⟩ = some (.string x.2) := by
        rw [hbel.cell (p := ⟨g, _, none⟩) (by show g < _; omega), World.cell?_alloc_lt w _ _ hg]; exact hcell _ _ hfa.2
      have hk1 : wr.cell? ⟨w.heap.size, 0, none⟩ = some (.string k) := by
        rw [hbel.cell (p := ⟨w.heap.size, _, none⟩) (by show w.heap.size < _; omega)]; simp
      have hk2 : wr.cell? ⟨w.heap.size, 1, none⟩ = some (.string v) := by
        rw [hbel.cell (p := ⟨w.heap.size, _, none⟩) (by show w.heap.size < _; omega)]; simp
      generalize hrun : run (k, v) (xs.take j) = st at hst hown ⊢
      obtain ⟨l, d⟩ := st
      have hll := run_len' (k, v) xs j (by omega)
      rw [hrun] at hll
      have HST := Lib.hid hst
      clear hst hrun hfa hcell hx
      simp only at hll
      cases hlt2 : ltB x.1.toList k.toList <;> cases hne2 : x.1.toList == k.toList
      all_goals have hge : Op.bytesLess x.1.toList k.toList = _ := (bytesLess_ltB _ _).trans hlt2
      all_goals have hneq := hne2
      all_goals cases d
      · skip
        have hs : Hid (run (k, v) (xs.take (j + 1)) = (l ++ [(k, v)] ++ [x], true)) := Lib.hid (by rw [HST.out]; simp [stp, geE, neE, hlt2, hne2])
        clear HST hlt2 hne2
        go_wp2_with fail
        go_quiet (fail)
        go_wp2_with (at_builtin; go_must (refine wpList_append_own _ rfl (.tmp 26) (.tmp 28) 53 rfl (w.heap.size + 1) 57 i0 _ 2 32 Try.underlying53 hi hz0 hz1 hz2 rfl (by decide) _ _ _ rfl (hown.alloc _) ⟨wr.heap.size, 0, none⟩ 1 1 [.string k, .string v] rfl rfl ?a1 ?b1 ?c1 ?d1 ?e1 ?_))
        try case a1 => exact cells_twoE _ _ _ _ rfl
        case b1 => first | exact ⟨rfl, rfl⟩ | (intro u hu; simp at hu; rcases hu with rfl | rfl <;> rfl)
        case c1 => unfold maxLen; omega
        case d1 => omega
        case e1 => first | omega | (simp; omega)
        intro v1 w1 hown1 hgr1 _
        obtain ⟨hbel1, hkeep1⟩ := after_appE hbel hown (by omega) hgr1
        have hz1' : w.heap.size + 1 ≤ w1.heap.size := Nat.le_trans hzr hbel1.2
        have hbel1 := hbel1.1
        have hx1' := (hkeep1 ⟨g, off + j * 2, none⟩ (by show g < _; omega)).trans hx1
        have hx2' := (hkeep1 ⟨g, off + j * 2 + 1, none⟩ (by show g < _; omega)).trans hx2
        have hk1' := (hkeep1 ⟨w.heap.size, 0, none⟩ (by show w.heap.size < _; omega)).trans hk1
        have hk2' := (hkeep1 ⟨w.heap.size, 1, none⟩ (by show w.heap.size < _; omega)).trans hk2
        clear hx1 hx2 hk1 hk2 hkeep1 hgr1 hbel hown
        go_wp2_with fail
        go_quiet (fail)
        go_wp2_with (at_builtin; go_must (refine wpList_append_own _ rfl (.tmp 38) (.tmp 43) 53 rfl (w.heap.size + 1) 57 i0 _ 2 32 Try.underlying53 hi hz0 hz1 hz2 rfl (by decide) _ _ _ rfl (hown1.alloc _) ⟨w1.heap.size, 0, none⟩ 1 1 [.string x.1, .string x.2] rfl rfl ?a2 ?b2 ?c2 ?d2 ?e2 ?_))
        try case a2 => exact cells_twoE _ _ _ _ rfl
        case b2 => first | exact ⟨rfl, rfl⟩ | (intro u hu; simp at hu; rcases hu with rfl | rfl <;> rfl)
        case c2 => unfold maxLen; omega
        case d2 => omega
        case e2 => first | omega | (simp; omega)
        intro v2 w2 hown2 hgr2 _
        obtain ⟨hbel2, _⟩ := after_appE hbel1 hown1 (by omega) hgr2
        have hbel2 := hbel2.1
        clear hgr2
        go_wp2
        go_roundw
        case rel => exact ⟨j + 1, by omega, by go_num, by rw [hs.out], by rw [hs.out]; simpa [PlainE.flat_append, PlainE.flat, Nat.add_assoc] using hown2, hbel2⟩
        case measure => simp [intOf]; omega
      · skip
        have hs : Hid (run (k, v) (xs.take (j + 1)) = (l ++ [x], true)) := Lib.hid (by rw [HST.out]; simp [stp, geE, neE, hlt2, hne2])
        clear HST hlt2 hne2
        go_wp2_with fail
        go_quiet (fail)
        go_wp2_with fail
        go_quiet (fail)
        go_wp2_with (at_builtin; go_must (refine wpList_append_own _ rfl (.tmp 38) (.tmp 43) 53 rfl (w.heap.size + 1) 57 i0 _ 2 32 Try.underlying53 hi hz0 hz1 hz2 rfl (by decide) _ _ _ rfl (hown.alloc _) ⟨wr.heap.size, 0, none⟩ 1 1 [.string x.1, .string x.2] rfl rfl ?a3 ?b3 ?c3 ?d3 ?e3 ?_))
        try case a3 => exact cells_twoE _ _ _ _ rfl
        case b3 => first | exact ⟨rfl, rfl⟩ | (intro u hu; simp at hu; rcases hu with rfl | rfl <;> rfl)
        case c3 => unfold maxLen; omega
        case d3 => omega
        case e3 => first | omega | (simp; omega)
        intro v2 w2 hown2 hgr2 _
        obtain ⟨hbel2, _⟩ := after_appE hbel hown (by omega) hgr2
        have hbel2 := hbel2.1
        clear hgr2
        go_wp2
        go_roundw
        case rel => exact ⟨j + 1, by omega, by go_num, by rw [hs.out], by rw [hs.out]; simpa [PlainE.flat_append, PlainE.flat, Nat.add_assoc] using hown2, hbel2⟩
        case measure => simp [intOf]; omega
      · skip
        have hs : Hid (run (k, v) (xs.take (j + 1)) = (l ++ [(k, v)], true)) := Lib.hid (by rw [HST.out]; simp [stp, geE, neE, hlt2, hne2])
        clear HST hlt2 hne2
        go_wp2_with fail
        go_quiet (fail)
        go_wp2_with (at_builtin; go_must (refine wpList_append_own _ rfl (.tmp 26) (.tmp 28) 53 rfl (w.heap.size + 1) 57 i0 _ 2 32 Try.underlying53 hi hz0 hz1 hz2 rfl (by decide) _ _ _ rfl (hown.alloc _) ⟨wr.heap.size, 0, none⟩ 1 1 [.string k, .string v] rfl rfl ?a4 ?b4 ?c4 ?d4 ?e4 ?_))
        try case a4 => exact cells_twoE _ _ _ _ rfl
        case b4 => first | exact ⟨rfl, rfl⟩ | (intro u hu; simp at hu; rcases hu with rfl | rfl <;> rfl)
        case c4 => unfold maxLen; omega
        case d4 => omega
        case e4 => first | omega | (simp; omega)
        intro v1 w1 hown1 hgr1 _
        obtain ⟨hbel1, hkeep1⟩ := after_appE hbel hown (by omega) hgr1
        have hz1' : w.heap.size + 1 ≤ w1.heap.size := Nat.le_trans hzr hbel1.2
        have hbel1 := hbel1.1
        have hx1' := (hkeep1 ⟨g, off + j * 2, none⟩ (by show g < _; omega)).trans hx1
        have hx2' := (hkeep1 ⟨g, off + j * 2 + 1, none⟩ (by show g < _; omega)).trans hx2
        have hk1' := (hkeep1 ⟨w.heap.size, 0, none⟩ (by show w.heap.size < _; omega)).trans hk1
        have hk2' := (hkeep1 ⟨w.heap.size, 1, none⟩ (by show w.heap.size < _; omega)).trans hk2
        clear hx1 hx2 hk1 hk2 hkeep1 hgr1 hbel hown
        go_wp2_with fail
        go_quiet (fail)
        go_wp2
        go_roundw
        case rel => exact ⟨j + 1, by omega, by go_num, by rw [hs.out], by rw [hs.out]; simpa [PlainE.flat_append, PlainE.flat] using own_drewNE hown1 _, below_drewN hbel1 _⟩
        case measure => simp [intOf]; omega
      · skip
        have hs : Hid (run (k, v) (xs.take (j + 1)) = (l, true)) := Lib.hid (by rw [HST.out]; simp [stp, geE, neE, hlt2, hne2])
        clear HST hlt2 hne2
        go_wp2_with fail
        go_quiet (fail)
        go_wp2_with fail
        go_quiet (fail)
        go_wp2
        go_roundw
        case rel => exact ⟨j + 1, by omega, by go_num, by rw [hs.out], by rw [hs.out]; exact own_drewNE hown _, below_drewN hbel _⟩
        case measure => simp [intOf]; omega
      · skip
        have hs : Hid (run (k, v) (xs.take (j + 1)) = (l ++ [x], false)) := Lib.hid (by rw [HST.out]; simp [stp, geE, neE, hlt2, hne2])
        clear HST hlt2 hne2
        go_wp2_with fail
        go_quiet (fail)
        go_wp2_with fail
        go_quiet (fail)
        go_wp2_with (at_builtin; go_must (refine wpList_append_own _ rfl (.tmp 38) (.tmp 43) 53 rfl (w.heap.size + 1) 57 i0 _ 2 32 Try.underlying53 hi hz0 hz1 hz2 rfl (by decide) _ _ _ rfl (hown.alloc _) ⟨wr.heap.size, 0, none⟩ 1 1 [.string x.1, .string x.2] rfl rfl ?a5 ?b5 ?c5 ?d5 ?e5 ?_))
        try case a5 => exact cells_twoE _ _ _ _ rfl
        case b5 => first | exact ⟨rfl, rfl⟩ | (intro u hu; simp at hu; rcases hu with rfl | rfl <;> rfl)
        case c5 => unfold maxLen; omega
        case d5 => omega
        case e5 => first | omega | (simp; omega)
        intro v2 w2 hown2 hgr2 _
        obtain ⟨hbel2, _⟩ := after_appE hbel hown (by omega) hgr2
        have hbel2 := hbel2.1
        clear hgr2
        go_wp2
        go_roundw
        case rel => exact ⟨j + 1, by omega, by go_num, by rw [hs.out], by rw [hs.out]; simpa [PlainE.flat_append, PlainE.flat, Nat.add_assoc] using hown2, hbel2⟩
        case measure => simp [intOf]; omega
      · skip
        have hs : Hid (run (k, v) (xs.take (j + 1)) = (l ++ [x], true)) := Lib.hid (by rw [HST.out]; simp [stp, geE, neE, hlt2, hne2])
        clear HST hlt2 hne2
        go_wp2_with fail
        go_quiet (fail)
        go_wp2_with fail
        go_quiet (fail)
        go_wp2_with (at_builtin; go_must (refine wpList_append_own _ rfl (.tmp 38) (.tmp 43) 53 rfl (w.heap.size + 1) 57 i0 _ 2 32 Try.underlying53 hi hz0 hz1 hz2 rfl (by decide) _ _ _ rfl (hown.alloc _) ⟨wr.heap.size, 0, none⟩ 1 1 [.string x.1, .string x.2] rfl rfl ?a6 ?b6 ?c6 ?d6 ?e6 ?_))
        try case a6 => exact cells_twoE _ _ _ _ rfl
        case b6 => first | exact ⟨rfl, rfl⟩ | (intro u hu; simp at hu; rcases hu with rfl | rfl <;> rfl)
        case c6 => unfold maxLen; omega
        case d6 => omega
        case e6 => first | omega | (simp; omega)
        intro v2 w2 hown2 hgr2 _
        obtain ⟨hbel2, _⟩ := after_appE hbel hown (by omega) hgr2
        have hbel2 := hbel2.1
        clear hgr2
        go_wp2
        go_roundw
        case rel => exact ⟨j + 1, by omega, by go_num, by rw [hs.out], by rw [hs.out]; simpa [PlainE.flat_append, PlainE.flat, Nat.add_assoc] using hown2, hbel2⟩
        case measure => simp [intOf]; omega
      · skip
        have hs : Hid (run (k, v) (xs.take (j + 1)) = (l, false)) := Lib.hid (by rw [HST.out]; simp [stp, geE, neE, hlt2, hne2])
        clear HST hlt2 hne2
        go_wp2_with fail
        go_quiet (fail)
        go_wp2_with fail
        go_quiet (fail)
        go_wp2
        go_roundw
        case rel => exact ⟨j + 1, by omega, by go_num, by rw [hs.out], by rw [hs.out]; exact own_drewNE hown _, below_drewN hbel _⟩
        case measure => simp [intOf]; omega
      · skip
        have hs : Hid (run (k, v) (xs.take (j + 1)) = (l, true)) := Lib.hid (by rw [HST.out]; simp [stp, geE, neE, hlt2, hne2])
        clear HST hlt2 hne2
        go_wp2_with fail
        go_quiet (fail)
        go_wp2_with fail
        go_quiet (fail)
        go_wp2
        go_roundw
        case rel => exact ⟨j + 1, by omega, by go_num, by rw [hs.out], by rw [hs.out]; exact own_drewNE hown _, below_drewN hbel _⟩
        case measure => simp [intOf]; omega
    · obtain rfl : j = n := by omega
      have hfull : xs.take j = xs := by rw [List.take_of_length_le (by omega)]
      rw [hfull] at hown
      have hll := run_len' (k, v) xs xs.length (Nat.le_refl _)
      rw [List.take_length] at hll
      have hk1 : wr.cell? ⟨w.heap.size, 0, none⟩ = some (.string k) := by
        rw [hbel.cell (p := ⟨w.heap.size, _, none⟩) (by show w.heap.size < _; omega)]; simp
      have hk2 : wr.cell? ⟨w.heap.size, 1, none⟩ = some (.string v) := by
        rw [hbel.cell (p := ⟨w.heap.size, _, none⟩) (by show w.heap.size < _; omega)]; simp
      have hw0 : Below w.heap.size w wr := ((Below.refl _ w).alloc (Nat.le_refl _) _).trans (hbel.mono (by omega))
      have hput : putL xs (k, v) = if (run (k, v) xs).2 = true then (run (k, v) xs).1 else (run (k, v) xs).1 ++ [(k, v)] := rfl
      rw [hfull]
      clear hfull
      generalize run (k, v) xs = st at hown hll hput ⊢
      obtain ⟨l, d⟩ := st
      simp only at hown hll
      have HP := Lib.hid hput
      clear hput
      cases d
      · skip
        go_wp2_with (at_builtin; go_must (refine wpList_append_own _ rfl (.tmp 47) (.tmp 49) 53 rfl (w.heap.size + 1) 57 i0 _ 2 32 Try.underlying53 hi hz0 hz1 hz2 rfl (by decide) _ _ _ rfl (hown.alloc _) ⟨wr.heap.size, 0, none⟩ 1 1 [.string k, .string v] rfl rfl ?a7 ?b7 ?c7 ?d7 ?e7 ?_))
        try case a7 => exact cells_twoE _ _ _ _ rfl
        case b7 => first | exact ⟨rfl, rfl⟩ | (intro u hu; simp at hu; rcases hu with rfl | rfl <;> rfl)
        case c7 => unfold maxLen; omega
        case d7 => omega
        case e7 => first | omega | (simp; omega)
        intro v3 w3 hown3 hgr3 _
        obtain ⟨hbel3, _⟩ := after_appE (q := 0) hbel hown (by omega) hgr3
        go_wp2
        go_ret
        exact ⟨_, rfl, by rw [HP.out]; simpa [PlainE.flat_append, PlainE.flat] using own_lessE hown3 (Nat.le_succ _), ((Below.refl _ w).alloc (Nat.le_refl _) _).trans (hbel3.1.mono (by omega))⟩
      · go_wp2
        go_ret
        exact ⟨_, rfl, by rw [HP.out]; exact own_lessE hown (Nat.le_succ _), hw0⟩


theorem flatE_eq : ∀ xs : List Ent, flatE xs = PlainE.flat xs
  | [] => rfl
  | x :: r => by rw [flatE, PlainE.flat, flatE_eq r]
/-- The reference's Put, its row as a row of entries. -/
theorem put_yes (A : Option Addr) (n c : Nat) (xs : List Ent) (k v : ByteArray) (w : World) (hn : xs.length = n) (h40 : n ≤ 1099511627776) (hR : RE w A c xs) (m : Nat) (hm : (putL xs (k, v)).length = m) :
    Calls Try.prog 57 #[.slice A n c, .agg #[.string k, .string v]] w fun e w' => ∃ A' c', e = .returned (.slice A' m c') ∧ RE w' A' c' (putL xs (k, v)) ∧ Below w.heap.size w w' := by
  refine (put_any A n c xs k v w hn h40 ⟨A, c, rfl, by have := hR.le; omega, hR.max, fun hp => ?_⟩).mono ?_
  · obtain ⟨g, off, e, hg, hc⟩ := hR.some' (by omega)
    exact ⟨g, off, e, hg, fun j u hu => hc j u (by rw [flatE_eq]; exact hu)⟩
  · rintro e w' ⟨v', rfl, ho, hB⟩
    rw [← flatE_eq] at ho
    obtain ⟨A', c', rfl, hl, hR', _⟩ := RE.own ho
    exact ⟨A', c', by rw [hm], hR', hB⟩
end Go.Proofs.Ytodenkamlbihnaa
