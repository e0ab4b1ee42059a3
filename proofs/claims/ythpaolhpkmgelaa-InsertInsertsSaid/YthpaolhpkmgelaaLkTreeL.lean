/-
  What a Find at its end answers, the kit's memory, and the keys of the laws' trees. Condition: the kit's small configurations.
-/
import Derived.Test.YthpaolhpkmgelaaLkPlant
import Derived.Test.YthpaolhpkmgelaaLkKeys
import Derived.Test.YthpaolhpkmgelaaLkFind
namespace Go.Proofs.Ythpaolhpkmgelaa
section
open Go.RowKit Go.Deep Plain
set_option linter.unusedVariables false

theorem root_of {F : Nat} (h4 : 4 ≤ F) (h6 : F ≤ 6) : cellAt (startCells 1 2 100 100 200 (F : Int)) 0 = (((1 : Nat) : Int), (⟨#[]⟩ : ByteArray), (0 : Int)) := by
  have hlen := startCells_length 1 2 100 100 200 (F : Int) (limF h4 h6)
  have hall : allCells 1 2 100 100 200 (F : Int) = 10 + (100 * (F : Int) + 400) + 100 + 600 := by
    unfold allCells firstRecord firstChain firstNode; omega
  have he : nodeAt 100 (F : Int) (firstNode 1 2) 1 2 = nad F 1 1 := rfl
  have hlo : nad F 1 1 = 12 := by rw [nad_eq (by omega) (by omega) (by omega), nla_eq (by omega) (by omega)]; omega
  have hr : ((List.replicate (allCells 1 2 100 100 200 (F : Int)).toNat cel0).length : Int) = allCells 1 2 100 100 200 (F : Int) := by rw [List.length_replicate]; omega
  unfold startCells
  rw [he, cellAt_other (by omega), cellAt_other (by omega), cellAt_same ⟨by omega, by omega⟩]; rfl
end

section
open Go.RowKit Go.Deep Plain
set_option linter.unusedVariables false

/-- The keys of the laws' trees. -/
def keysOf (ss : List ByteArray) : List ByteArray := (PlainE.keysE (ss.take 40)).map (·.1)
theorem keysOf_facts (ss : List ByteArray) : (∀ k ∈ keysOf ss, k.size ≤ 32) ∧ ∀ i a b, (keysOf ss)[i]? = some a → (keysOf ss)[i + 1]? = some b → kl a b = true := by
  refine ⟨fun k hk => ?_, fun i a b ha hb => ?_⟩
  · obtain ⟨y, hy, rfl⟩ := List.mem_map.1 hk
    exact PlainE.keysE_size _ y hy
  · unfold keysOf at ha hb
    rw [List.getElem?_map] at ha hb
    cases h1 : (PlainE.keysE (ss.take 40))[i]? with
    | none => rw [h1] at ha; cases ha
    | some x =>
      cases h2 : (PlainE.keysE (ss.take 40))[i + 1]? with
      | none => rw [h2] at hb; cases hb
      | some y =>
        rw [h1] at ha; rw [h2] at hb
        cases ha; cases hb
        have hl := (List.getElem?_eq_some_iff.1 h2).1
        have := PlainE.asc_at _ (PlainE.keysE_asc (ss.take 40)) i hl
        rw [List.getElem?_eq_getElem (by omega)] at h1
        rw [List.getElem?_eq_getElem hl] at h2
        cases h1; cases h2; exact this
theorem keys_read {w : World} {base n : Nat} {v : Value} {l : List PlainE.Ent} (h : w.ownsRow base 9 1 v n (PlainE.keyCells l)) : ∃ A c, v = .slice A (l.map (·.1)).length c ∧ Kr w A (l.map (·.1)) ∧ ∀ a, A = some a → base ≤ a.block ∧ a.block < w.heap.size := by
  have hl : (l.map (·.1)).length = n := by have := h.1; unfold PlainE.keyCells at this; rw [List.length_map] at this ⊢; omega
  rcases h.2 with ⟨rfl, rfl⟩ | ⟨g, cap, cur, rfl, hb, hg, hc, hm, rest⟩
  · exact ⟨none, 0, by rw [hl], fun hp => by omega, fun a h => by cases h⟩
  · have hgl := (Array.getElem?_eq_some_iff.1 hg).1
    refine ⟨_, cap, by rw [hl], fun _ => ⟨g, 0, rfl, hgl, fun i k hi => ?_⟩, fun a ha => by cases ha; exact ⟨hb, hgl⟩⟩
    have := World.ownsRow.cells h (g := g) rfl i (.string k) (by
      unfold PlainE.keyCells; rw [List.getElem?_map] at hi ⊢
      cases hx : l[i]? with
      | none => rw [hx] at hi; cases hi
      | some x => rw [hx] at hi; cases hi; rfl)
    rw [Addr.add_lit] at this
    exact this
end

section
open Go.RowKit Go.Deep Plain
set_option linter.unusedVariables false

theorem Holds.inj {ad : Nat → Int} {l : List Cel} {P Q : Pg} (hP : Holds ad l P) (hQ : Holds ad l Q) (wP : Wf P) (wQ : Wf Q) : P = Q := by
  obtain ⟨lv, hi, la, rt, xs⟩ := P
  obtain ⟨lv2, hi2, la2, rt2, xs2⟩ := Q
  have h0 : ((xs.length : Int), (⟨#[]⟩ : ByteArray), (lv : Int)) = ((xs2.length : Int), (⟨#[]⟩ : ByteArray), (lv2 : Int)) := (hP 0 (by omega)).symm.trans (hQ 0 (by omega))
  have h1 : hiCel hi la = hiCel hi2 la2 := (hP 1 (by omega)).symm.trans (hQ 1 (by omega))
  have h2 : ((rt : Int), (⟨#[]⟩ : ByteArray), (0 : Int)) = ((rt2 : Int), (⟨#[]⟩ : ByteArray), (0 : Int)) := (hP 2 (by omega)).symm.trans (hQ 2 (by omega))
  have e0 : xs.length = xs2.length ∧ lv = lv2 := by injection h0 with a b; injection b with _ b; omega
  have e2 : rt = rt2 := by injection h2 with a _; omega
  have e1 : la = la2 ∧ hi = hi2 := by
    unfold hiCel at h1
    cases la <;> cases la2 <;> simp at h1
    · exact ⟨rfl, h1⟩
    · exact ⟨rfl, (wP rfl).trans (wQ rfl).symm⟩
  obtain ⟨rfl, rfl⟩ := e1
  obtain ⟨e3, rfl⟩ := e0
  subst e2
  have e4 : xs = xs2 := by
    apply List.ext_getElem e3
    intro i h1 h2
    have a := (hP (i + 3) (by show i + 3 < xs.length + 3; omega)).symm.trans (hQ (i + 3) (by show i + 3 < xs2.length + 3; omega))
    rw [pc_slot (j := i) (List.getElem?_eq_getElem h1), pc_slot (j := i) (List.getElem?_eq_getElem h2)] at a
    unfold slCel at a
    injection a with a b
    injection b with b _
    exact Prod.ext b (by omega)
  rw [e4]
theorem Nd.inj {F n : Nat} {l : List Cel} {P Q : Pg} (h : Nd F l n P) (k : Nd F l n Q) : P = Q := h.holds.inj k.holds h.wf k.wf
end
end Go.Proofs.Ythpaolhpkmgelaa
