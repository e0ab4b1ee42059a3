/-
  What the kit's Plant, View and Height answer. Condition: the kit's small configurations.
-/
import Derived.Test.YthpaolhpkmgelaaLkView
import Derived.Test.YthpaolhpkmgelaaLkTree
import Derived.Test.YthpaolhpkmgelaaLkPage
namespace Go.Proofs.Ythpaolhpkmgelaa
section
open Go.RowKit Go.Deep Plain
set_option linter.unusedVariables false

section
variable {w : World} {ops : Array Oper} {rest : List Oper} {o : Oper} {a : Act} {Q : Exit → Act → World → Prop}
end
/-- A slice that reads as these strings. -/
def Kr (w : World) (A : Option Addr) (ks : List ByteArray) : Prop := 0 < ks.length → ∃ g off, A = some ⟨g, off, none⟩ ∧ g < w.heap.size ∧ ∀ (i : Nat) (k : ByteArray), ks[i]? = some k → w.cell? ⟨g, off + i, none⟩ = some (.string k)
theorem Kr.kept {w w' : World} {A : Option Addr} {ks : List ByteArray} {Y : Nat → Prop} (h : Kr w A ks) (hk : Kept Y w w') (hY : ∀ a, A = some a → ¬ Y a.block) : Kr w' A ks := fun hp => by
  obtain ⟨g, off, e, hg, hc⟩ := h hp
  exact ⟨g, off, e, Nat.lt_of_lt_of_le hg hk.size, fun i k hi => (hk.cell (p := ⟨g, off + i, none⟩) hg (show ¬ Y g from hY _ e)).trans (hc i k hi)⟩
set_option linter.unusedVariables false

theorem Rs.keptP {Y : Nat → Prop} {w w' : World} {A : Option Addr} {c : Nat} {xs : List Sl} (h : Rs w A c xs) (hk : Kept Y w w') (hA : 0 < xs.length → ∀ a, A = some a → ¬ Y a.block) : Rs w' A c xs :=
  ⟨h.le, h.max, h.none', fun hp => by
    obtain ⟨g, off, e, hg, hc⟩ := h.some' hp
    exact ⟨g, off, e, Nat.lt_of_lt_of_le hg hk.size, fun j u hu => (hk.cell (p := ⟨g, off + j, none⟩) hg (show ¬ Y g from hA hp _ e)).trans (hc j u hu)⟩⟩
theorem kput_to (F nid : Nat) (h4 : 4 ≤ F) (h6 : F ≤ 6) (hn1 : 1 ≤ nid) (hn2 : nid ≤ 100) (lv : Nat) (A : Option Addr) (c : Nat) (hi : ByteArray) (la : Bool) (rt : Nat) (xs : List Sl) (n : Nat) (hn : xs.length = n) (hw : la = true → hi = ⟨#[]⟩) (hlen : n ≤ F) (hlv : lv < 9223372036854775808) (b g : Nat) (l : List Cel) (k : Nat) (w : World) (hm : Mem w b g l k) (hR : Rs w A c xs) (hA : ∀ a, A = some a → ¬ Own b g a.block) :
    Calls Try.prog 29 #[.agg #[.int .i64 1, .int .i64 2, .int .i64 100, .int .i64 100, .int .i64 200, .int .i64 (F : Int), .int .u64 1000], .pointer (some ⟨b, 0, none⟩), .int .u64 (nid : Int), .agg #[.int .i64 (lv : Int), .slice A n c, .string hi, .bool la, .int .u64 (rt : Int)]] w fun e w' => e = .returned (.tuple #[]) ∧ Mem w' b g (app l (pst (nad F nid) (⟨lv, hi, la, rt, xs⟩ : Pg))) k ∧ Kept (Own b g) w w' := by
  subst hn; exact kput_any F nid h4 h6 hn1 hn2 ⟨lv, hi, la, rt, xs⟩ hw hlen hlv A c b g l k w hm hR hA
/-- A slice that reads as these numbers; its row lies at base or behind. -/
def Ir (w : World) (A : Option Addr) (base : Nat) (ps : List Nat) : Prop := 0 < ps.length → ∃ g off, A = some ⟨g, off, none⟩ ∧ g < w.heap.size ∧ base ≤ g ∧ ∀ (i p : Nat), ps[i]? = some p → w.cell? ⟨g, off + i, none⟩ = some (.int .i64 (p : Int))
theorem Ir.kept {w w' : World} {A : Option Addr} {base : Nat} {ps : List Nat} {Y : Nat → Prop} (h : Ir w A base ps) (hk : Kept Y w w') (hY : ∀ i, base ≤ i → ¬ Y i) : Ir w' A base ps := fun hp => by
  obtain ⟨g, off, e, hg, hb, hc⟩ := h hp
  exact ⟨g, off, e, Nat.lt_of_lt_of_le hg hk.size, hb, fun i p hi => (hk.cell (p := ⟨g, off + i, none⟩) hg (show ¬ Y g from hY _ hb)).trans (hc i p hi)⟩
theorem Bt.small {F L nx : Nat} {l : List Cel} {S : List Sl} {ks : List ByteArray} {hide : Bool} {st mm : Nat → Nat} {lo : Nat → Nat → ByteArray} {pg : Nat → Nat → Pg} {off : Nat → Nat} (B : Bt F l L nx S ks hide st mm lo pg off) : S.length ≤ 1000 := by
  rcases Nat.eq_zero_or_pos L with e | e
  · have := (B.base e).2.2.1; omega
  · obtain ⟨L', rfl⟩ : ∃ L', L = L' + 1 := ⟨L - 1, by omega⟩
    have := (B.more L' rfl).2.2.2.1
    unfold cap at this; split at this <;> omega
end

section
open Go.RowKit Go.Deep Plain
set_option linter.unusedVariables false

theorem cells_at (b g : Nat) (l : List Cel) (k : Nat) (w : World) (gv : Nat) (hgv : w.heap.size = gv) (h : Mem w b g l k) (hl : l.length ≤ 1099511627776) :
    Calls Try.prog 6 #[.pointer (some ⟨b, 0, none⟩)] w fun e w' => e = .returned (.slice (some ⟨gv, 0, none⟩) l.length l.length) ∧ Blk w' gv 50 (flat3 l) ∧ Kept (fun _ => False) w w' := by
  subst hgv; exact kitCells_any b g l k w h hl
end
end Go.Proofs.Ythpaolhpkmgelaa
