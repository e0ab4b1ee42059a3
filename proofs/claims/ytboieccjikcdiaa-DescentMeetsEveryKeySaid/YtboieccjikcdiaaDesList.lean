/-
  What blinktreekit.Keys answers: the keys of a list of strings, cut, ascending, each once. Condition: at most a million keys are asked for.
-/
import Derived.Test.YtboieccjikcdiaaDesPut
namespace Go.Proofs.Ytboieccjikcdiaa
open Go.RowKit Plain PlainE

namespace PlainE
def cutB (r : ByteArray) : ByteArray := r.extract 0 (min r.size 32)
def keysE (raw : List ByteArray) : List Ent := raw.foldl (fun l r => putL l (cutB r, ⟨#[]⟩)) []
theorem keysE_snoc (xs : List ByteArray) (x : ByteArray) : keysE (xs ++ [x]) = putL (keysE xs) (cutB x, ⟨#[]⟩) := by unfold keysE; rw [List.foldl_append]; rfl
theorem cutB_size (r : ByteArray) : (cutB r).size ≤ 32 := by unfold cutB; rw [ByteArray.size_extract]; omega
theorem keysE_asc (xs : List ByteArray) : Asc (keysE xs) := by
  have : ∀ (xs : List ByteArray) (l : List Ent), Asc l → Asc (xs.foldl (fun l r => putL l (cutB r, ⟨#[]⟩)) l) := by
    intro xs
    induction xs with
    | nil => intro l h; exact h
    | cons x r ih => intro l h; exact ih _ (putL_asc _ _ h)
  exact this xs [] trivial
theorem keysE_size (xs : List ByteArray) : ∀ y ∈ keysE xs, y.1.size ≤ 32 := by
  have : ∀ (xs : List ByteArray) (l : List Ent), (∀ y ∈ l, y.1.size ≤ 32) → ∀ y ∈ xs.foldl (fun l r => putL l (cutB r, ⟨#[]⟩)) l, y.1.size ≤ 32 := by
    intro xs
    induction xs with
    | nil => intro l h; exact h
    | cons x r ih =>
      intro l h
      refine ih _ fun y hy => ?_
      simp only [putL_ins] at hy
      rcases ins_mem _ _ _ _ hy with rfl | hy
      · exact cutB_size x
      · exact h y hy
  exact this xs [] (by simp)
theorem keysE_len (xs : List ByteArray) : (keysE xs).length ≤ xs.length := by
  have : ∀ (xs : List ByteArray) (l : List Ent), (xs.foldl (fun l r => putL l (cutB r, ⟨#[]⟩)) l).length ≤ l.length + xs.length := by
    intro xs
    induction xs with
    | nil => intro l; simp
    | cons x r ih =>
      intro l
      have h1 := ih (putL l (cutB x, ⟨#[]⟩))
      have h2 := putL_len l (cutB x, ⟨#[]⟩)
      simp only [List.foldl_cons, List.length_cons]
      omega
  have h := this xs []
  rw [List.length_nil, Nat.zero_add] at h
  exact h
/-- The keys alone, as cells. -/
def keyCells (l : List Ent) : List Value := l.map fun x => .string x.1
end PlainE

theorem Try.info9 : (Try.prog.info? 9).map (fun i => (i.zero, i.size, i.bytes)) = some (some (.string ByteArray.empty), 1, 16) := by kernel_rfl

set_option maxHeartbeats 1000000 in
theorem keys_any (A : Option Addr) (n c : Nat) (ss : List ByteArray) (most : Nat) (w : World) (hn : ss.length = n) (hm : most ≤ 1000000)
    (hR : Rdv w w.heap.size (.slice A n c) n (ss.map Value.string)) (hsz : ∀ s ∈ ss, s.size ≤ maxLen) :
    Calls Try.prog 29 #[.slice A n c, .int .i64 most] w fun e w' => 
      ∃ v', e = .returned v' ∧ w'.ownsRow w.heap.size 9 1 v' (keysE (ss.take most)).length (keyCells (keysE (ss.take most))) ∧ Below w.heap.size w w' := by
  obtain ⟨i0, hi, hz0, hz1, hz2⟩ := info_parts Try.info9
  have hnm : n ≤ maxLen := by
    obtain ⟨A', c', he, h1, h2, _⟩ := hR
    omega
  unfold maxLen at hnm
  go_enter Try.func29, Try.ntmps29
  go_wp2
  go_loopw [5, 6] (fun l i wr => ∃ j : Nat, j ≤ n ∧ j ≤ most ∧ i = .int .i64 j ∧ wr.ownsRow w.heap.size 96 2 l (keysE (ss.take j)).length (flat (keysE (ss.take j))) ∧ Below w.heap.size w wr)
    (fun _ i _ => n - (intOf i).toNat)
  case atStart => exact ⟨0, by omega, by omega, rfl, World.ownsRow_nil _ _ _ _, Below.refl _ _⟩
  case round =>
    obtain ⟨j, hj, hjm, rfl, hown, hbel⟩ := hrel
    by_cases hlt : j < n ∧ j < most
    · obtain ⟨h1, h2⟩ := hlt
      obtain ⟨A', c', he, hc, hcm, hA⟩ := hR
      obtain ⟨rfl, rfl⟩ : A = A' ∧ c = c' := by simpa using he
      obtain ⟨g, off, rfl, hg, hcell⟩ := hA (by omega)
      obtain ⟨x, hx⟩ : ∃ x, x = ss[j] := ⟨_, rfl⟩
      have hst : keysE (ss.take (j + 1)) = putL (keysE (ss.take j)) (cutB x, ⟨#[]⟩) := by rw [take_snoc ss j (by omega), keysE_snoc, hx]
      have hx1 : wr.cell? ⟨g, off + j, none⟩ = some (.string x) := by
        rw [hbel.cell (p := ⟨g, _, none⟩) hg]; exact hcell _ _ (by rw [List.getElem?_map, List.getElem?_eq_getElem (by omega), hx]; rfl)
      have hxs : x.size ≤ maxLen := hsz x (by rw [hx]; exact List.getElem_mem _)
      unfold maxLen at hxs
      have hll := keysE_len (ss.take j)
      rw [List.length_take] at hll
      obtain ⟨A1, c1, rfl, r1⟩ := rdv_own hown
      have hRd : Rdv wr wr.heap.size (.slice A1 (keysE (ss.take j)).length c1) (keysE (ss.take j)).length (flat (keysE (ss.take j))) := ⟨A1, c1, rfl, r1⟩
      have HST := Lib.hid hst
      clear hst hx hcell r1
      by_cases h32 : 32 < x.size
      · have hcut : x.extract 0 32 = cutB x := by unfold cutB; rw [Nat.min_eq_right (by omega)]
        have HC := Lib.hid hcut
        clear hcut
        go_wp2_with fail
        rw [HC.out]
        refine (put_any _ _ _ _ _ _ _ rfl (by omega) hRd).mono ?_
        rintro e w1 ⟨v1, rfl, hown1, hbel1⟩
        have hz1' := hbel.size
        go_wp2
        go_roundw
        case rel => exact ⟨j + 1, by omega, by omega, by go_num, by rw [HST.out]; exact own_lessE hown1 hz1', hbel.trans (hbel1.mono hz1')⟩
        case measure => simp [intOf]; omega
      · have hcut : cutB x = x := by
          unfold cutB; rw [Nat.min_eq_left (by omega)]; exact ByteArray.extract_zero_size
        have HST2 : Hid (keysE (ss.take (j + 1)) = putL (keysE (ss.take j)) (x, ⟨#[]⟩)) := Lib.hid (by rw [HST.out, hcut])
        clear hcut HST
        go_wp2_with fail
        refine (put_any _ _ _ _ _ _ _ rfl (by omega) hRd).mono ?_
        rintro e w1 ⟨v1, rfl, hown1, hbel1⟩
        have hz1' := hbel.size
        go_wp2
        go_roundw
        case rel => exact ⟨j + 1, by omega, by omega, by go_num, by rw [HST2.out]; exact own_lessE hown1 hz1', hbel.trans (hbel1.mono hz1')⟩
        case measure => simp [intOf]; omega
    · have hfull : ss.take j = ss.take most := by
        rcases Nat.lt_or_ge j n with h | h
        · have : j = most := by omega
          rw [this]
        · rw [List.take_of_length_le (by omega), List.take_of_length_le (by omega)]
      rw [hfull] at hown
      have hll := keysE_len (ss.take most)
      rw [List.length_take] at hll
      have htest : (decide (j < n) && decide (j < most)) = false := by simpa using hlt
      clear hfull hR hlt
      obtain ⟨L, hL⟩ : ∃ L, keysE (ss.take most) = L := ⟨_, rfl⟩
      rw [hL] at hown hll
      have HL := Lib.hid hL
      clear hL
      rename World => W1
      have hcl := hown.lt
      obtain ⟨A1, c1, rfl, hc1, hcm1, r1⟩ := rdv_own hown
      have hj' : j < n → decide (j < most) = false := fun h => by simp [h] at htest; simp; exact htest
      by_cases hjn : j < n
      · have hjm2 := hj' hjn
        clear hj' htest
        go_wp2_with fail
        go_loopw [8, 9] (fun o i wr => ∃ q : Nat, q ≤ L.length ∧ i = .int .i64 q ∧ wr.ownsRow W1.heap.size 9 1 o q (keyCells (L.take q)) ∧ Below W1.heap.size W1 wr) (fun _ i _ => L.length - (intOf i).toNat)
        case atStart => exact ⟨0, by omega, rfl, World.ownsRow_nil _ _ _ _, Below.refl _ _⟩
        case round =>
          obtain ⟨q, hq, rfl, hownq, hbelq⟩ := hrel
          by_cases hql : q < L.length
          · obtain ⟨g, off, rfl, hg, hcell⟩ := r1 (by omega)
            obtain ⟨x, hx⟩ : ∃ x, x = L[q] := ⟨_, rfl⟩
            have hfa := flat_at L q hql
            rw [← hx] at hfa
            have hx1 : wr.cell? ⟨g, off + q * 2, none⟩ = some (.string x.1) := by
              rw [hbelq.cell (p := ⟨g, _, none⟩) hg]; exact hcell _ _ hfa.1
            have hst : Hid (keyCells (L.take (q + 1)) = keyCells (L.take q) ++ [.string x.1]) := Lib.hid (by rw [take_snoc L q hql, hx]; unfold keyCells; rw [List.map_append]; rfl)
            have hzq := hbelq.size
            clear hx hfa hcell
            go_wp2_with (at_builtin; go_must (refine wpList_append_own _ rfl (.tmp 39) (.tmp 45) 22 rfl W1.heap.size 9 i0 _ 1 16 Try.underlying22 hi hz0 hz1 hz2 rfl (by decide) _ _ _ rfl (hownq.alloc _) ⟨wr.heap.size, 0, none⟩ 1 1 [.string x.1] rfl rfl ?a1 ?b1 ?c1 ?d1 ?e1 ?_))
            try case a1 => exact cell_one_new _ _ _
            try case b1 => first | rfl | (intro u hu; simp at hu; subst hu; rfl)
            try case c1 => unfold maxLen; omega
            try case d1 => omega
            try case e1 => first | omega | (simp; omega)
            intro v2 w2 hown2 hgr2 _
            obtain ⟨hbel2, _⟩ := after_appE (q := 0) hbelq hownq (by omega) hgr2
            go_wp2
            go_roundw
            case rel => exact ⟨q + 1, by omega, by go_num, by rw [hst.out]; exact hown2, hbel2.1⟩
            case measure => simp [intOf]; omega
          · obtain rfl : q = L.length := by omega
            rw [List.take_of_length_le (Nat.le_refl _)] at hownq
            go_wp2
            go_ret
            exact ⟨_, rfl, by rw [HL.out]; exact own_lessE hownq hbel.size, hbel.trans (hbelq.mono hbel.size)⟩
      · clear hj' htest
        go_wp2_with fail
        go_loopw [8, 9] (fun o i wr => ∃ q : Nat, q ≤ L.length ∧ i = .int .i64 q ∧ wr.ownsRow W1.heap.size 9 1 o q (keyCells (L.take q)) ∧ Below W1.heap.size W1 wr) (fun _ i _ => L.length - (intOf i).toNat)
        case atStart => exact ⟨0, by omega, rfl, World.ownsRow_nil _ _ _ _, Below.refl _ _⟩
        case round =>
          obtain ⟨q, hq, rfl, hownq, hbelq⟩ := hrel
          by_cases hql : q < L.length
          · obtain ⟨g, off, rfl, hg, hcell⟩ := r1 (by omega)
            obtain ⟨x, hx⟩ : ∃ x, x = L[q] := ⟨_, rfl⟩
            have hfa := flat_at L q hql
            rw [← hx] at hfa
            have hx1 : wr.cell? ⟨g, off + q * 2, none⟩ = some (.string x.1) := by
              rw [hbelq.cell (p := ⟨g, _, none⟩) hg]; exact hcell _ _ hfa.1
            have hst : Hid (keyCells (L.take (q + 1)) = keyCells (L.take q) ++ [.string x.1]) := Lib.hid (by rw [take_snoc L q hql, hx]; unfold keyCells; rw [List.map_append]; rfl)
            have hzq := hbelq.size
            clear hx hfa hcell
            go_wp2_with (at_builtin; go_must (refine wpList_append_own _ rfl (.tmp 39) (.tmp 45) 22 rfl W1.heap.size 9 i0 _ 1 16 Try.underlying22 hi hz0 hz1 hz2 rfl (by decide) _ _ _ rfl (hownq.alloc _) ⟨wr.heap.size, 0, none⟩ 1 1 [.string x.1] rfl rfl ?a2 ?b2 ?c2 ?d2 ?e2 ?_))
            try case a2 => exact cell_one_new _ _ _
            try case b2 => first | rfl | (intro u hu; simp at hu; subst hu; rfl)
            try case c2 => unfold maxLen; omega
            try case d2 => omega
            try case e2 => first | omega | (simp; omega)
            intro v2 w2 hown2 hgr2 _
            obtain ⟨hbel2, _⟩ := after_appE (q := 0) hbelq hownq (by omega) hgr2
            go_wp2
            go_roundw
            case rel => exact ⟨q + 1, by omega, by go_num, by rw [hst.out]; exact hown2, hbel2.1⟩
            case measure => simp [intOf]; omega
          · obtain rfl : q = L.length := by omega
            rw [List.take_of_length_le (Nat.le_refl _)] at hownq
            go_wp2
            go_ret
            exact ⟨_, rfl, by rw [HL.out]; exact own_lessE hownq hbel.size, hbel.trans (hbelq.mono hbel.size)⟩

end Go.Proofs.Ytboieccjikcdiaa
