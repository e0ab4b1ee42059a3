/-
  What a Find at its end answers, the kit's memory, and the keys of the laws' trees. Condition: the kit's small configurations.
-/
import Derived.Test.YtkpbbnpfdighjaaGreatLkPlant
import Derived.Test.YtkpbbnpfdighjaaGreatLkKeys
import Derived.Test.YtkpbbnpfdighjaaGreatLkFind
namespace Go.Proofs.YtkpbbnpfdighjaaGreat
section
open Go.RowKit Go.Deep Plain
set_option linter.unusedVariables false

theorem root_of {F : Nat} (h4 : 4 ≤ F) (h6 : F ≤ 6) : cellAt (startCells 1 2 100 100 200 (F : Int)) 0 = (((1 : Nat) : Int), (⟨#[]⟩ : ByteArray), (0 : Int)) := by
  have hlen := startCells_length 1 2 100 100 200 (F : Int) (limF h4 h6)
  have hall : allCells 1 2 100 100 200 (F : Int) = 10 + (100 * (F : Int) + 400) + 100 + 600 := by
    unfold allCells firstRecord firstChain firstNode; omega
  have he : nodeAt 100 (F : Int) (firstNode 1 2) 1 2 = nad F 1 1 := rfl
  have hlo : nad F 1 1 = 12 := by rw [nad_eq (by omega) (by omega) (by omega), nla_eq (by omega) (by omega)]; omega
  have hr : ((List.replicate (allCells 1 2 100 100 200 (F : Int)).toNat cel0).length : Int) = allCells 1 2 100 100 200 (F : Int) := by rw [List.length_replicate]; omega
  unfold startCells
  rw [he, cellAt_other (by omega), cellAt_other (by omega), cellAt_same ⟨by omega, by omega⟩]; rfl
theorem Start.latches {F : Nat} {l : List Cel} (h4 : 4 ≤ F) (h6 : F ≤ 6) (h : Start F l) : ∀ m, 1 ≤ m → m ≤ 100 → cellAt l (nla F m) = cel0 := fun m h1 h2 => by
  have hlo : nad F 1 1 = 12 := by rw [nad_eq (by omega) (by omega) (by omega), nla_eq (by omega) (by omega)]; omega
  rcases nla_lin h4 h6 h1 h2 with ⟨e, a⟩ | ⟨e, a⟩ | ⟨e, a⟩ <;> exact h.zero _ (by omega) (by omega) (by omega)
end

section
open Go.RowKit Go.Deep Plain
set_option linter.unusedVariables false

/-- The keys of the laws' trees. -/
def keysOf (ss : List ByteArray) : List ByteArray := (PlainE.keysE (ss.take 40)).map (·.1)
theorem keysOf_facts (ss : List ByteArray) : (∀ k ∈ keysOf ss, k.size ≤ 32) ∧ ∀ i a b, (keysOf ss)[i]? = some a → (keysOf ss)[i + 1]? = some b → kl a b = true := by
  refine ⟨fun k hk => ?_, fun i a b ha hb => ?_⟩
  · obtain ⟨y, hy, rfl⟩ := List.mem_map.1 hk
    exact PlainE.keysE_size _ y hy
  · unfold keysOf at ha hb
    rw [List.getElem?_map] at ha hb
    cases h1 : (PlainE.keysE (ss.take 40))[i]? with
    | none => rw [h1] at ha; cases ha
    | some x =>
      cases h2 : (PlainE.keysE (ss.take 40))[i + 1]? with
      | none => rw [h2] at hb; cases hb
      | some y =>
        rw [h1] at ha; rw [h2] at hb
        cases ha; cases hb
        have hl := (List.getElem?_eq_some_iff.1 h2).1
        have := PlainE.asc_at _ (PlainE.keysE_asc (ss.take 40)) i hl
        rw [List.getElem?_eq_getElem (by omega)] at h1
        rw [List.getElem?_eq_getElem hl] at h2
        cases h1; cases h2; exact this
theorem Rdv.keptN {w w' : World} {B : Nat} {v : Value} {n : Nat} {xs : List Value} (h : Rdv w B v n xs) (hk : Kept (fun _ => False) w w') (hB : B ≤ w.heap.size) : Rdv w' w'.heap.size v n xs := by
  obtain ⟨A, c, e, h1, h2, h3⟩ := h
  refine ⟨A, c, e, h1, h2, fun hp => ?_⟩
  obtain ⟨g, off, e2, hg, hc⟩ := h3 hp
  have := hk.size
  exact ⟨g, off, e2, by omega, fun j u hu => (hk.cell (p := ⟨g, off + j, none⟩) (show g < _ by omega) (fun h => h)).trans (hc j u hu)⟩
theorem keys_read {w : World} {base n : Nat} {v : Value} {l : List PlainE.Ent} (h : w.ownsRow base 9 1 v n (PlainE.keyCells l)) : ∃ A c, v = .slice A (l.map (·.1)).length c ∧ Kr w A (l.map (·.1)) ∧ ∀ a, A = some a → base ≤ a.block ∧ a.block < w.heap.size := by
  have hl : (l.map (·.1)).length = n := by have := h.1; unfold PlainE.keyCells at this; rw [List.length_map] at this ⊢; omega
  rcases h.2 with ⟨rfl, rfl⟩ | ⟨g, cap, cur, rfl, hb, hg, hc, hm, rest⟩
  · exact ⟨none, 0, by rw [hl], fun hp => by omega, fun a h => by cases h⟩
  · have hgl := (Array.getElem?_eq_some_iff.1 hg).1
    refine ⟨_, cap, by rw [hl], fun _ => ⟨g, 0, rfl, hgl, fun i k hi => ?_⟩, fun a ha => by cases ha; exact ⟨hb, hgl⟩⟩
    have := World.ownsRow.cells h (g := g) rfl i (.string k) (by
      unfold PlainE.keyCells; rw [List.getElem?_map] at hi ⊢
      cases hx : l[i]? with
      | none => rw [hx] at hi; cases hi
      | some x => rw [hx] at hi; cases hi; rfl)
    rw [Addr.add_lit] at this
    exact this
end

section
open Go.RowKit Go.Deep Plain
set_option linter.unusedVariables false

end
end Go.Proofs.YtkpbbnpfdighjaaGreat
