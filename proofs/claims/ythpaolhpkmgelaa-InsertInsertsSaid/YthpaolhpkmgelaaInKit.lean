/-
  The kit's memory with its counter of nodes; rows of slots; fields. Condition: a fanout of four to six.
-/
import Derived.Test.YthpaolhpkmgelaaInRun
import Derived.Test.YthpaolhpkmgelaaLkTreeL
namespace Go.Proofs.Ythpaolhpkmgelaa
open Go.RowKit Go.Deep Plain
set_option linter.unusedVariables false

theorem count_of {F : Nat} (h4 : 4 ≤ F) (h6 : F ≤ 6) : cellAt (startCells 1 2 100 100 200 (F : Int)) 4 = (((1 : Nat) : Int), (⟨#[]⟩ : ByteArray), (0 : Int)) := by
  have hlen := startCells_length 1 2 100 100 200 (F : Int) (limF h4 h6)
  have hall : allCells 1 2 100 100 200 (F : Int) = 10 + (100 * (F : Int) + 400) + 100 + 600 := by
    unfold allCells firstRecord firstChain firstNode; omega
  have he : nodeAt 100 (F : Int) (firstNode 1 2) 1 2 = nad F 1 1 := rfl
  have hlo : nad F 1 1 = 12 := by rw [nad_eq (by omega) (by omega) (by omega), nla_eq (by omega) (by omega)]; omega
  have hr : ((List.replicate (allCells 1 2 100 100 200 (F : Int)).toNat cel0).length : Int) = allCells 1 2 100 100 200 (F : Int) := by rw [List.length_replicate]; omega
  unfold startCells
  rw [he, cellAt_other (by omega), cellAt_same ⟨by omega, by rw [putAt_length]; omega⟩]; rfl
theorem kitMem3 (F : Nat) (h4 : 4 ≤ F) (h6 : F ≤ 6) (w : World) :
    Calls Try.prog 26 #[.agg #[.int .i64 1, .int .i64 2, .int .i64 100, .int .i64 100, .int .i64 200, .int .i64 (F : Int), .int .u64 1000]] w fun e w' => ∃ (b g : Nat) (l : List Cel) (fb fd : Int), e = .returned (.tuple #[.agg #[.int .i64 1, .int .i64 2, .int .i64 100, .int .i64 100, .int .i64 200, .int .i64 (F : Int), .int .u64 1000, .int .i64 10, .int .i64 fb, .int .i64 fd], .pointer (some ⟨b, 0, none⟩)]) ∧ Mem w' b g l 0 ∧ Start F l ∧ (cellAt l 0 = (((1 : Nat) : Int), (⟨#[]⟩ : ByteArray), (0 : Int)) ∧ cellAt l 4 = (((1 : Nat) : Int), (⟨#[]⟩ : ByteArray), (0 : Int))) ∧ Reach3 10 fb fd ∧ w.heap.size ≤ b ∧ w.heap.size ≤ g ∧ Kept (fun _ => False) w w' := by
  refine (kitMemory_yes 1 2 100 100 200 (F : Int) 1000 (limF h4 h6) (by omega) (by omega) w).mono ?_
  rintro e w' ⟨b, g, he, hM, hb, hg, hK⟩
  exact ⟨b, g, _, firstChain 1 2 100 (F : Int), firstRecord 1 2 100 100 (F : Int), he, hM, start_of h4 h6, ⟨root_of h4 h6, count_of h4 h6⟩, (limF h4 h6).reach, hb, hg, hK⟩
theorem Rs.blk {w : World} {g n : Nat} {xs : List Sl} (h : Blk w g 70 (flat xs)) (hn : xs.length = n) (hm : n ≤ 1000) : Rs w (some ⟨g, 0, none⟩) n xs :=
  ⟨by omega, by unfold maxLen; omega, fun e => (by cases e), fun _ => ⟨g, 0, rfl, h.lt, fun j u hu => by rw [Nat.zero_add]; exact h.cell hu⟩⟩
theorem pfieldS (lv : Int) (A : Option Addr) (n c : Nat) (hi : ByteArray) (la : Bool) (rt : Int) (w : World) : (Instr.field 31 (.agg #[.int .i64 lv, .slice A n c, .string hi, .bool la, .int .u64 rt]) 1).run Try.prog w = .ok (.slice A n c) w := by kernel_rfl
theorem hfield0 (i wd lv : Int) (A : Option Addr) (n c : Nat) (hi : ByteArray) (la : Bool) (rt : Int) (w : World) : (Instr.field 33 (.agg #[.int .u64 i, .int .u64 wd, .int .i64 lv, .slice A n c, .string hi, .bool la, .int .u64 rt]) 0).run Try.prog w = .ok (.int .u64 i) w := by kernel_rfl
theorem hfield2 (i wd lv : Int) (A : Option Addr) (n c : Nat) (hi : ByteArray) (la : Bool) (rt : Int) (w : World) : (Instr.field 33 (.agg #[.int .u64 i, .int .u64 wd, .int .i64 lv, .slice A n c, .string hi, .bool la, .int .u64 rt]) 2).run Try.prog w = .ok (.agg #[.int .i64 lv, .slice A n c, .string hi, .bool la, .int .u64 rt]) w := by kernel_rfl
/-- The separator that a page with two slots or more has. -/
theorem sepr_ex (lv : Nat) (xs : List Sl) (k : Nat) (hk : 1 ≤ k) (hl : k < xs.length) : ∃ sp, Sepr lv xs k sp := by
  obtain ⟨y0, hy0⟩ : ∃ y, xs[k - 1]? = some y := ⟨_, List.getElem?_eq_getElem (by omega)⟩
  obtain ⟨y1, hy1⟩ : ∃ y, xs[k]? = some y := ⟨_, List.getElem?_eq_getElem hl⟩
  exact ⟨_, fun a b ha hb => by rw [hy0] at ha; rw [hy1] at hb; cases ha; cases hb; rfl⟩
/-- The end of an Insert that needs a second node and gets it. -/
theorem Ipl.over {F : Nat} {N : Int} {id wd : Nat} {P X : Pg} {m : Nat} {sp : ByteArray} {lim Nv : Nat} {l0 l : List Cel} {K : ByteArray} {M : Int} {s : Is} (I : Ipl F N id wd P X m sp lim Nv l0 K M s l 0) (h2 : s.two = true) (hv : Nv < lim) : s = .don (some (Nv + 1)) := by
  generalize hd : 0 = d at I
  have hw1 := wrsN_len (F := F) (N := N) (id := id) (wd := wd) P (lpg X m sp (Nv + 1))
  cases I with
  | don1 hv => rfl
  | don0 => cases h2
  | ful hv => omega
  | tak0 hv => omega
  | none hv => omega
  | tak1 hv => omega
  | fil hv hj => omega
  | wri1 hv hj => omega
  | wri0 hj => omega

end Go.Proofs.Ythpaolhpkmgelaa
