/-
  The statement of layer 1 'the separators of successive keys ascend': it returns true whatever the list of strings is; nothing that was there is written. Condition: strings and the list within the model's reach.
-/
import Derived.Test.YtkkneljjmmpnmaaKeysList
import Derived.Test.YtkkneljjmmpnmaaKeysLaws
namespace Go.Proofs.Ytkkneljjmmpnmaa
open Go.RowKit Plain

/-- Nothing but draws lies between. -/
def Drawn (W wr : World) : Prop := ∃ q, wr = W.drewN q
theorem Drawn.cell {W wr : World} (h : Drawn W wr) (a : Addr) : wr.cell? a = W.cell? a := by obtain ⟨q, rfl⟩ := h; rfl
theorem Drawn.more {W wr : World} (h : Drawn W wr) (q : Nat) : Drawn W (wr.drewN q) := by obtain ⟨p, rfl⟩ := h; exact ⟨p + q, by rw [World.drewN_drewN]⟩
theorem Drawn.below {W wr : World} (h : Drawn W wr) (B : Nat) : Below B W wr := by obtain ⟨q, rfl⟩ := h; exact below_drewN (Below.refl B W) q

set_option maxHeartbeats 1000000 in
theorem lawAscend (A : Option Addr) (n c : Nat) (ss : List ByteArray) (w : World) (hn : ss.length = n)
    (hR : Rd w w.heap.size (.slice A n c) n (ss.map Value.string)) (hsz : ∀ s ∈ ss, s.size ≤ maxLen) :
    Calls Try.prog 7 #[.slice A n c] w fun e w' => e = .returned (.bool true) ∧ Below w.heap.size w w' := by
  go_enter Try.func7, Try.ntmps7
  go_wp2_with fail
  refine (keys_any A n c ss 20 w hn (by omega) hR hsz).mono ?_
  rintro e W1 ⟨v1, rfl, hown1, hbel1⟩
  obtain ⟨A1, c1, rfl, hc1, hcm1, r1⟩ := rd_own hown1
  have hasc := asc_at _ (keysE_asc (ss.take 20))
  have hsize := keysE_size (ss.take 20)
  have hlen := keysE_len (ss.take 20)
  rw [List.length_take] at hlen
  clear hown1
  generalize keysE (ss.take 20) = L at hasc hsize hlen r1 hc1 ⊢
  have HASC := Lib.hid hasc
  have HSZ := Lib.hid hsize
  clear hasc hsize hsz hR
  go_wp2_with fail
  go_loopw [4, 5] (fun last i wr => ∃ (p : Nat) (lst : ByteArray), (p + 1 ≤ L.length ∨ p = 0) ∧ i = .int .i64 ((p : Int) + 1) ∧ last = .string lst ∧ (∀ h : p < L.length, 0 < p → ltB (L[p]).1.toList lst.toList = false) ∧ Drawn W1 wr)
    (fun _ i _ => L.length - (intOf i).toNat)
  case atStart => exact ⟨0, ⟨#[]⟩, .inr rfl, rfl, rfl, fun _ h => absurd h (by omega), 0, rfl⟩
  case round =>
    obtain ⟨p, lst, hp, rfl, rfl, hlst, hdr⟩ := hrel
    by_cases hlt : p + 1 < L.length
    · obtain ⟨g, off, rfl, hg, hcell⟩ := r1 (by omega)
      obtain ⟨a, ha⟩ : ∃ a, a = (L[p]).1 := ⟨_, rfl⟩
      obtain ⟨b, hb⟩ : ∃ b, b = (L[p + 1]).1 := ⟨_, rfl⟩
      have h1 : wr.cell? ⟨g, off + p, none⟩ = some (.string a) := (hdr.cell _).trans <| hcell _ _ (by unfold keyCells; rw [List.getElem?_map, List.getElem?_eq_getElem (by omega), ha]; rfl)
      have h2 : wr.cell? ⟨g, off + (p + 1), none⟩ = some (.string b) := (hdr.cell _).trans <| hcell _ _ (by unfold keyCells; rw [List.getElem?_map, List.getElem?_eq_getElem (by omega), hb]; rfl)
      have hab : ltB a.toList b.toList = true := by rw [ha, hb]; exact HASC.out p hlt
      have hsa : a.size ≤ maxLen := by have := HSZ.out _ (List.getElem_mem (show p < L.length by omega)); rw [ha]; unfold maxLen; omega
      have hsb : b.size ≤ maxLen := by have := HSZ.out _ (List.getElem_mem (show p + 1 < L.length by omega)); rw [hb]; unfold maxLen; omega
      have hl := hlst (by omega)
      rw [← ha] at hl
      have hnext : Hid (∀ h : p + 1 < L.length, 0 < p + 1 → ltB (L[p + 1]).1.toList (sepB a b).toList = false) := Lib.hid fun h _ => by
        rw [← hb, sepB_toList]; unfold sep; rw [if_pos hab]; exact take_le _ _
      obtain ⟨s, hs, f1, f2, f3, f4, f5, f6, f7, f8, f9⟩ := sepFacts a b hab
      have hf : 0 < p → (Op.bytesLess s.toList lst.toList || s.toList == lst.toList) = false := fun h => le_false _ _ (le_lt _ a.toList _ (hl h) (by
        have := gt_ltB s.toList a.toList; rw [f1] at this; exact this.symm))
      rw [hs] at hnext
      have HS := Lib.hid hs
      clear hs ha hb hl hlst hab f3 f4 f5 f6 f7 f8 f9 hcell
      by_cases h0 : 0 < p
      · have hf' := hf h0
        clear hf
        go_wp2_with fail
        go_quiet ((go_at_call 15; exact Calls.quiet_of (sep_of a b s _ hsa hsb HS.out)))
        go_wp2_with fail
        go_roundw
        case rel => exact ⟨p + 1, s, .inl (by omega), by go_num, rfl, hnext.out, hdr.more _⟩
        case measure => simp [intOf]; omega
      · clear hf
        go_wp2_with fail
        go_quiet ((go_at_call 15; exact Calls.quiet_of (sep_of a b s _ hsa hsb HS.out)))
        go_wp2_with fail
        go_roundw
        case rel => exact ⟨p + 1, s, .inl (by omega), by go_num, rfl, hnext.out, hdr.more _⟩
        case measure => simp [intOf]; omega
    · clear hlst
      go_wp2_with (go_at_call 8; refine (awake_any _).mono ?_; rintro e w' ⟨rfl, n, rfl⟩)
      go_ret
      exact ⟨rfl, hbel1.trans ((hdr.below _).trans (below_drewN (Below.refl _ _) _))⟩

end Go.Proofs.Ytkkneljjmmpnmaa
