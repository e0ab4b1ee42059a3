/-
  What lastWrites answers: the normal form of a batch. Condition: batches of at most a million writes, keys within the model's reach.
-/
import Derived.Test.YtodenkamlbihnaaBatSort
import Derived.Maps.OwnOps
import Derived.Maps.Views
import Derived.Carry
import Derived.StringKeys
namespace Go.Proofs.Ytodenkamlbihnaa
open Go.WideMaps Go.Maps Go.ChangeShapes Go.RowKit Go.Deep Plain PlainE
set_option linter.unusedVariables false

/-! ### The map from keys to places -/
def keyL (k : ByteArray) : Lit := .string k.data.toList
theorem keyL_ne {a b : ByteArray} (h : a ≠ b) : keyL a ≠ keyL b := fun e => h (by
  unfold keyL at e
  have e2 : a.data.toList = b.data.toList := by simpa using e
  cases a; cases b
  have : _ = _ := Array.toList_inj.1 e2
  simp at this; rw [this])
/-- The map holds the place of the last write of each key. -/
def MapIx (b : List Wri) (D : DataW Unit) : Prop := IsMap D ∧ ∀ (k : ByteArray) (i : Nat), lastIx b k = some i → D.atKey (keyL k) (.lit (.int .i64 0)) = .lit (.int .i64 (i : Int))
theorem MapIx.nil : MapIx [] (.map []) := ⟨isMap_empty, fun k i h => by cases h⟩
theorem MapIx.put {b : List Wri} {D : DataW Unit} (h : MapIx b D) (w : Wri) : MapIx (b ++ [w]) (D.put (keyL w.1) (.lit (.int .i64 (b.length : Int)))) := by
  refine ⟨h.1.put _ _, fun k i hi => ?_⟩
  rw [lastIx_snoc] at hi
  by_cases hk : w.1 = k
  · rw [if_pos hk] at hi
    cases hi
    rw [← hk]
    exact atKey_put_same h.1 (by unfold keyL; trivial) _ _
  · rw [if_neg hk] at hi
    rw [atKey_put_other (keyL_ne (fun e => hk e.symm))]
    exact h.2 k i hi
theorem ownsMap_below {P : Program} {k : TypeId} {R : Value → Option (DataW Unit × List MemPlace)} {w w' : World} {b n B : Nat} {D : DataW Unit} (h : w.ownsMap P k R b n D) (hb : Below B w w') (hB : b < B) : w'.ownsMap P k R b n D := by
  obtain ⟨es, clock, h1, F, hs, hD⟩ := h
  exact ⟨es, clock, (hb.block b hB).trans h1, F, hs, hD⟩
theorem lawK : Keyed Try.prog 9 := string_keyed Try.underlying9
theorem zeroI (w : World) : (zeroValue 3).run Try.prog w = .ok (.int .i64 0) w := by kernel_rfl
theorem key_at {s : ByteArray} (hs : s.size ≤ maxLen) : keyOf Try.prog 9 (.string s) = some (keyL s) := keyOf_string_mk Try.underlying9 hs

set_option maxRecDepth 100000 in
set_option maxHeartbeats 4000000 in
theorem lastWrites_any (A : Option Addr) (c : Nat) (b : List Wri) (w : World) (n : Nat) (hn : b.length = n) (h40 : n ≤ 1000000) (hR : RW w A c b) (hs : ∀ x ∈ b, Sz x) (r : Nat) (hr : (normL b).length = r) :
    Calls Try.prog 41 #[.slice A n c] w fun e w' => ∃ A' c', e = .returned (.slice A' r c') ∧ RW w' A' c' (normL b) ∧ Below w.heap.size w w' ∧ ∀ a, A' = some a → w.heap.size ≤ a.block := by
  have HR := Lib.hid hR
  have HSZ := Lib.hid hs
  have HN := Lib.hid hn
  have HRR := Lib.hid hr
  clear hR hs hr
  have hmm := @run_makeMap Try.prog
  go_enter Try.func41, Try.ntmps41
  go_wp2_with fail
  go_loopw [12] (fun i wr => ∃ (j : Nat) (D : DataW Unit), j ≤ n ∧ i = .int .i64 j ∧ wr.ownsMap Try.prog 9 (plainElem Try.prog 3) w.heap.size j D ∧ MapIx (b.take j) D ∧ Below w.heap.size w wr) (fun i _ => n - (intOf i).toNat)
  case atStart => exact ⟨0, .map [], Nat.zero_le _, rfl, World.ownsMap_made _ _ _ _, MapIx.nil, (Below.refl _ _).alloc (Nat.le_refl _) _⟩
  case round =>
    obtain ⟨j, D, hj, rfl, hown, hmap, hbel⟩ := hrel
    have HO := Lib.hid hown
    have HM := Lib.hid hmap
    have HB := Lib.hid hbel
    have hsz := hbel.size
    clear hown hmap
    by_cases hlt : j < n
    · obtain ⟨x, hx⟩ : ∃ x, b[j]? = some x := ⟨_, List.getElem?_eq_getElem (by omega)⟩
      obtain ⟨g, off, rfl, hg, hcell⟩ := (HR.out.below hbel (Nat.le_refl _)).at (by omega)
      obtain ⟨d0, d1, d2⟩ := hcell j x hx
      have hkey := key_at (HSZ.out x (List.mem_of_getElem? hx)).1
      have hput := HM.out.put x
      rw [← take_nx hx, List.length_take, Nat.min_eq_left (by omega)] at hput
      have HP := Lib.hid hput
      clear hcell hx hput hbel
      go_wp2_with (first
        | (at_mapUpdate; go_must (refine wpList_mapUpdate_own _ rfl _ _ _ 98 rfl 9 3 lawK Try.underlying98 _ w.heap.size j _ rfl (HO.out.alloc _) (by unfold maxLen; omega) _ _ _ rfl rfl hkey _ [] (plainElem_int Try.underlying3 (WalkArith.wf_i64 (by omega))) ?_))
        | fail)
      intro w1 hown1 hgrow1
      have HO1 := Lib.hid hown1
      have HB1 := Lib.hid ((HB.out.alloc hsz _).grown hgrow1 (by rw [nblk_alloc]; omega) (fun k hk => by cases hk; exact Nat.le_refl _))
      clear hown1 hgrow1 d0 d1 d2 hkey
      go_wp2
      go_roundw
      case rel => exact ⟨j + 1, _, by omega, by go_num, HO1.out, HP.out, HB1.out⟩
      case measure => simp [intOf]; omega
    · have hjn : j = n := by omega
      have hfull : b.take j = b := List.take_of_length_le (by omega)
      have hm2 := HM.out
      rw [hfull] at hm2
      have HM2 := Lib.hid hm2
      have HJ := Lib.hid hjn
      have hlt0 := HO.out.lt
      have HLT := Lib.hid hlt0
      clear hm2 hfull HM hjn hlt0 hbel
      go_wp2_with fail
      go_loopw [6, 24] (fun o i wr2 => ∃ k q : Nat, k ≤ n ∧ q ≤ k ∧ i = .int .i64 k ∧ (keepTo b k).length = q ∧ wr2.ownsRow (w.heap.size + 1) 44 3 o q (flatW (keepTo b k)) ∧ wr2.ownsMap Try.prog 9 (plainElem Try.prog 3) w.heap.size j D ∧ Below w.heap.size w wr2) (fun _ i _ => n - (intOf i).toNat)
      case atStart => exact ⟨0, 0, Nat.zero_le _, Nat.le_refl _, rfl, rfl, World.ownsRow_nil _ _ _ _, HO.out, HB.out⟩
      case round =>
        clear HO HB HLT
        obtain ⟨k, q, hk, hq, rfl, hl, hrow, hown, hbel⟩ := hrel
        have HL := Lib.hid hl
        have HW := Lib.hid hrow
        have HO := Lib.hid hown
        have HB := Lib.hid hbel
        have hs2 := hbel.size
        have hs3 := hown.lt
        clear hl hrow hown
        by_cases hlt : k < n
        · obtain ⟨x, hx⟩ : ∃ x, b[k]? = some x := ⟨_, List.getElem?_eq_getElem (by omega)⟩
          obtain ⟨g, off, rfl, hg, hcell⟩ := (HR.out.below hbel (Nat.le_refl _)).at (by omega)
          obtain ⟨d0, d1, d2⟩ := hcell k x hx
          have hkey := key_at (HSZ.out x (List.mem_of_getElem? hx)).1
          obtain ⟨i, hi⟩ : ∃ i, lastIx b x.1 = some i := by
            cases h : lastIx b x.1 with
            | some i => exact ⟨i, rfl⟩
            | none => exact absurd rfl (lastW_none.1 (lastIx_take_none.1 h) x (List.mem_of_getElem? hx))
          have hD := HM2.out.2 _ _ hi
          have HX := Lib.hid hx
          have HI := Lib.hid hi
          have HD := Lib.hid hD
          clear hcell hx hi hD hbel
          by_cases hik : i = k
          · have hkeep := keep_yes HX.out (by rw [HI.out, hik])
            have hb3 : ((i : Int) == (k : Int)) = true := by rw [hik]; simp
            have HK := Lib.hid hkeep
            clear hkeep hik
            go_wp2_with (first
              | (at_lookup; go_must (refine wpList_lookup_own_int _ rfl _ _ 98 rfl 9 3 .i64 lawK Try.underlying98 Try.underlying3 (zeroI _) w.heap.size j D rfl (HO.out.alloc _) _ _ rfl hkey ?_))
              | fail)
            intro c9 hat _
            rw [HD.out] at hat
            obtain rfl : (i : Int) = c9 := by simpa using hat
            clear hat
            go_wp2_with (at_builtin; go_must (refine wpList_appW rfl (.tmp 35) (.tmp 37) rfl (w.heap.size + 1) _ q (keepTo b k) rfl ((HW.out.alloc _).alloc _) _ 1 1 [x] rfl rfl (RW.oneAt _ x _ (nblk_alloc _ _)) (by omega) (by rw [nblk_alloc, nblk_alloc]; omega) ?_))
            intro v1 w1 hown1 hB1
            have HW1 := Lib.hid hown1
            have hbb := ((Below.refl (w.heap.size + 1) wr).alloc (by omega) (.cells #[.string x.1, .string x.2.1, .bool x.2.2] 44))
            have hbc := (hbb.alloc (by rw [nblk_alloc]; omega) (.cells #[.string x.1, .string x.2.1, .bool x.2.2] 44)).trans hB1
            have HO1 := Lib.hid (ownsMap_below HO.out hbc (Nat.lt_succ_self _))
            have HB1 := Lib.hid (HB.out.trans (hbc.mono (Nat.le_succ _)))
            clear hown1 hB1 hbb hbc d0 d1 d2 hkey
            go_wp2
            go_roundw
            case rel => exact ⟨k + 1, q + 1, by omega, by omega, by go_num, by rw [HK.out, List.length_append, HL.out]; rfl, by rw [HK.out]; exact HW1.out, HO1.out, HB1.out⟩
            case measure => simp [intOf]; omega
          · have hkeep := keep_no HX.out (by rw [HI.out]; intro e; exact hik (Option.some.inj e))
            have hb3 : ((i : Int) == (k : Int)) = false := by simp; omega
            have HK := Lib.hid hkeep
            clear hkeep hik
            go_wp2_with (first
              | (at_lookup; go_must (refine wpList_lookup_own_int _ rfl _ _ 98 rfl 9 3 .i64 lawK Try.underlying98 Try.underlying3 (zeroI _) w.heap.size j D rfl (HO.out.alloc _) _ _ rfl hkey ?_))
              | fail)
            intro c9 hat _
            rw [HD.out] at hat
            obtain rfl : (i : Int) = c9 := by simpa using hat
            have HO1 := Lib.hid (HO.out.alloc (.cells #[.string x.1, .string x.2.1, .bool x.2.2] 44))
            have HW1 := Lib.hid (HW.out.alloc (.cells #[.string x.1, .string x.2.1, .bool x.2.2] 44))
            have HB1 := Lib.hid (HB.out.alloc hs2 (.cells #[.string x.1, .string x.2.1, .bool x.2.2] 44))
            clear hat d0 d1 d2 hkey
            go_wp2
            go_roundw
            case rel => exact ⟨k + 1, q, by omega, by omega, by go_num, by rw [HK.out]; exact HL.out, by rw [HK.out]; exact HW1.out, HO1.out, HB1.out⟩
            case measure => simp [intOf]; omega
        · have hkn : k = b.length := by have := HN.out; omega
          have hrow := HW.out
          rw [hkn] at hrow
          have HW := Lib.hid hrow
          have hqn : q ≤ 1099511627776 := by omega
          clear hrow
          go_wp2_with fail
          refine (sort_any _ _ q _ _ hqn HW.out).mono ?_; rintro e w1 ⟨rfl, A1, c1, l1, rfl, hl1, hR1, hp1, hs1, hB1⟩
          have HFR := Lib.hid (show ∀ a, A1 = some a → w.heap.size ≤ a.block from fun a ha => by
            subst ha
            rcases HW.out.2 with ⟨h9, _⟩ | ⟨g9, cap9, cur9, h9, hb9, _⟩
            · cases h9
            · cases h9; show w.heap.size ≤ g9; omega)
          have hnorm := sorted_norm hp1 hs1
          rw [hnorm] at hR1 hl1
          rw [HRR.out] at hl1
          have HR1 := Lib.hid hR1
          have HB1 := Lib.hid (HB.out.trans (hB1.mono (Nat.le_succ _)))
          subst hl1
          clear hnorm hR1 hp1 hs1 hB1
          go_wp2
          go_ret
          exact ⟨_, _, rfl, HR1.out, HB1.out, HFR.out⟩
end Go.Proofs.Ytodenkamlbihnaa
