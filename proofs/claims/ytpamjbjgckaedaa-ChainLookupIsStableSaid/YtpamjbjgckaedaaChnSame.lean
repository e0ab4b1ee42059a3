/-
  The kit's Same of versions, where both rows read alike; append of one word. Condition: rows of at most 2^40 elements.
-/
import Derived.Test.YtpamjbjgckaedaaRecMem
namespace Go.Proofs.Ytpamjbjgckaedaa
open Go.RowKit Go.Deep Plain
set_option linter.unusedVariables false


/-- A slice that reads as these words. -/
structure Rw (w : World) (A : Option Addr) (c : Nat) (ns : List Nat) : Prop where
  le : ns.length ≤ c
  max : c ≤ maxLen
  some' : 0 < ns.length → ∃ g off, A = some ⟨g, off, none⟩ ∧ g < w.heap.size ∧ ∀ j x, ns[j]? = some x → w.cell? ⟨g, off + j, none⟩ = some (.int .u64 ((x : Nat) : Int))
def words (ns : List Nat) : List Value := ns.map fun x => .int .u64 ((x : Nat) : Int)
theorem words_one (ns : List Nat) : ∀ u ∈ words ns, u.oneCell' = true := fun u hu => by
  obtain ⟨x, _, rfl⟩ := List.mem_map.1 hu
  rfl
theorem Rw.below {w w' : World} {A : Option Addr} {c : Nat} {xs : List Nat} {B : Nat} (h : Rw w A c xs) (hb : Below B w w') (hB : w.heap.size ≤ B) : Rw w' A c xs :=
  ⟨h.le, h.max, fun hp => by
    obtain ⟨g, off, e, hg, hc⟩ := h.some' hp
    exact ⟨g, off, e, Nat.lt_of_lt_of_le hg hb.size, fun j u hu => (hb.cell (p := ⟨g, off + j, none⟩) (Nat.lt_of_lt_of_le hg hB)).trans (hc j u hu)⟩⟩
theorem Rw.at {w : World} {A : Option Addr} {c : Nat} {xs : List Nat} (h : Rw w A c xs) (hp : 0 < xs.length) : ∃ g off, A = some ⟨g, off, none⟩ ∧ g < w.heap.size ∧ ∀ (i : Nat) (x : Nat), xs[i]? = some x → w.cell? ⟨g, off + i, none⟩ = some (.int .u64 (x : Int)) := h.some' hp
theorem Rw.own {w : World} {base : Nat} {v : Value} {n : Nat} {xs : List Nat} (h : w.ownsRow base 23 1 v n (words xs)) : ∃ A c, v = .slice A n c ∧ xs.length = n ∧ Rw w A c xs := by
  have hl : xs.length = n := by have := h.1; unfold words at this; rw [List.length_map] at this; omega
  rcases h.2 with ⟨rfl, rfl⟩ | ⟨g, cap, cur, rfl, hb, hg, hc, hm, rest⟩
  · exact ⟨none, 0, rfl, hl, ⟨by omega, Nat.zero_le _, fun h => absurd h (by omega)⟩⟩
  · refine ⟨_, cap, rfl, hl, ⟨by omega, hm, fun _ => ⟨g, 0, rfl, (Array.getElem?_eq_some_iff.1 hg).1, fun j u hu => ?_⟩⟩⟩
    have := h.cells (g := g) rfl j (.int .u64 (u : Int)) (by unfold words; rw [List.getElem?_map, hu]; rfl)
    rw [Addr.add_lit] at this
    exact this

section
variable {w : World} {ops : Array Oper} {rest : List Oper} {o : Oper} {a : Act} {Q : Exit → Act → World → Prop}
/-- append(s, x) of a word: s a row of the call's own. -/
theorem wpList_appw (hgd : o.guard = none) (s x : Operand) (ho : o.op = .call { callee := .builtin .append, args := #[s, x], argTypes := #[34, 34] })
    (base : Nat) (v : Value) (n : Nat) (xs : List Nat) (hs : a.eval s = v) (hown : w.ownsRow base 23 1 v n (words xs)) (g off : Nat) (r : Nat) (hx : a.eval x = .slice (some ⟨g, off, none⟩) 1 1)
    (hc : w.cell? ⟨g, off, none⟩ = some (.int .u64 (r : Int))) (h40 : n + 1 ≤ 1099511627776) (hbase : base ≤ w.heap.size)
    (h : ∀ v' w', w'.ownsRow base 23 1 v' (n + 1) (words (xs ++ [r])) → Below base w w' → wpList Try.prog ops Q rest (a.put o.dst v') w') : wpList Try.prog ops Q (o :: rest) a w := by
  obtain ⟨i, hi, hz0, hz1, hz2⟩ := info_parts Try.info23
  refine wpList_append_own w hgd s x 34 ho base 23 i _ 1 8 Try.underlying34 hi hz0 hz1 hz2 rfl (by decide) v n (words xs) hs hown ⟨g, off, none⟩ 1 1 (words [r]) hx rfl ?_ (words_one _) (by unfold maxLen; omega) (by omega) hbase ?_
  · intro j u hu
    cases j with
    | zero => simp [words] at hu; subst hu; rw [Addr.add_lit]; exact hc
    | succ j => simp [words] at hu
  · intro v' w' hown' hgr _
    refine h v' w' (by unfold words at hown' ⊢; rw [List.map_append]; exact hown') ?_
    exact (Below.refl base w).grown hgr hbase fun k hk => (hown.lt k hk).1
end

set_option maxHeartbeats 1000000 in
theorem same_any (A A2 : Option Addr) (c c2 : Nat) (xs : List Ve) (w : World) (n : Nat) (hn : xs.length = n) (h40 : n ≤ 1099511627776) (hR : Rv w A c xs) (hR2 : Rv w A2 c2 xs) :
    Calls Try.prog 22 #[.slice A n c, .slice A2 n c2] w fun e w' => e = .returned (.bool true) ∧ Below w.heap.size w w' := by
  have HR := Lib.hid hR
  have HR2 := Lib.hid hR2
  clear hR hR2
  go_enter Try.func22, Try.ntmps22
  go_wp2
  go_loopw [5] (fun i wr => ∃ j : Nat, j ≤ n ∧ i = .int .i64 j ∧ Below w.heap.size w wr) (fun i _ => n - (intOf i).toNat)
  case atStart => exact ⟨0, by omega, rfl, Below.refl _ _⟩
  case round =>
    obtain ⟨j, hj, rfl, hB⟩ := hrel
    have HB := Lib.hid hB
    by_cases hlt : j < n
    · obtain ⟨x, hx⟩ : ∃ x, xs[j]? = some x := ⟨_, List.getElem?_eq_getElem (by omega)⟩
      obtain ⟨g, off, rfl, hg, hcell⟩ := (HR.out.below hB (Nat.le_refl _)).at (by omega)
      obtain ⟨c0, c1, c2⟩ := hcell j x hx
      obtain ⟨g2, off2, rfl, hg2, hcell2⟩ := (HR2.out.below hB (Nat.le_refl _)).at (by omega)
      obtain ⟨d0, d1, d2⟩ := hcell2 j x hx
      clear hcell hcell2 hx hB
      go_wp2_with fail
      go_quiet (fail)
      go_wp2
      go_roundw
      case rel => exact ⟨j + 1, by omega, by go_num, below_drewN HB.out _⟩
      case measure => simp [intOf]; omega
    · go_wp2
      go_ret
      exact ⟨rfl, hB⟩

end Go.Proofs.Ytpamjbjgckaedaa
