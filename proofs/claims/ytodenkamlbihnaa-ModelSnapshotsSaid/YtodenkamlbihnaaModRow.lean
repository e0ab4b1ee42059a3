/-
  Rows of words; what cmp.Less of two words, math/bits.Len of a small number and the kit's Same of two equal rows of words answer. Condition: rows of at most 2^40 words.
-/
import Derived.Test.YtodenkamlbihnaaBatMem
import Derived.Test.YtodenkamlbihnaaBatRef
import Derived.Shelf.Small.Bits
import Derived.BigQuiet
namespace Go.Proofs.Ytodenkamlbihnaa
open Go.RowKit Go.Deep
set_option linter.unusedVariables false

/-- A row of words. -/
def words (ns : List Nat) : List Value := ns.map fun x => .int .u64 ((x : Nat) : Int)
theorem words_one (ns : List Nat) : ∀ u ∈ words ns, u.oneCell' = true := fun u hu => by
  obtain ⟨x, _, rfl⟩ := List.mem_map.1 hu
  rfl

theorem Try.info23 : (Try.prog.info? 23).map (fun i => (i.zero, i.size, i.bytes)) = some (some (.int .u64 0), 1, 8) := by kernel_rfl
section
variable {w : World} {ops : Array Oper} {rest : List Oper} {o : Oper} {a : Act} {Q : Exit → Act → World → Prop}
/-- append(s, x) of a word: s a row of the call's own. -/
theorem wpList_appw (hgd : o.guard = none) (s x : Operand) (ho : o.op = .call { callee := .builtin .append, args := #[s, x], argTypes := #[49, 49] })
    (base : Nat) (v : Value) (n : Nat) (xs : List Nat) (hs : a.eval s = v) (hown : w.ownsRow base 23 1 v n (words xs)) (g off : Nat) (r : Nat) (hx : a.eval x = .slice (some ⟨g, off, none⟩) 1 1)
    (hc : w.cell? ⟨g, off, none⟩ = some (.int .u64 (r : Int))) (h40 : n + 1 ≤ 1099511627776) (hbase : base ≤ w.heap.size)
    (h : ∀ v' w', w'.ownsRow base 23 1 v' (n + 1) (words (xs ++ [r])) → Below base w w' → wpList Try.prog ops Q rest (a.put o.dst v') w') : wpList Try.prog ops Q (o :: rest) a w := by
  obtain ⟨i, hi, hz0, hz1, hz2⟩ := info_parts Try.info23
  refine wpList_append_own w hgd s x 49 ho base 23 i _ 1 8 Try.underlying49 hi hz0 hz1 hz2 rfl (by decide) v n (words xs) hs hown ⟨g, off, none⟩ 1 1 (words [r]) hx rfl ?_ (words_one _) (by unfold maxLen; omega) (by omega) hbase ?_
  · intro j u hu
    cases j with
    | zero => simp [words] at hu; subst hu; rw [Addr.add_lit]; exact hc
    | succ j => simp [words] at hu
  · intro v' w' hown' hgr _
    refine h v' w' (by unfold words at hown' ⊢; rw [List.map_append]; exact hown') ?_
    exact (Below.refl base w).grown hgr hbase fun k hk => (hown.lt k hk).1
end
set_option maxHeartbeats 400000 in
theorem nan_no (x : Int) (w : World) :
    Calls Try.prog 86 #[.int .u64 x] w fun e w' => e = .returned (.bool false) ∧ w = w' := by
  go_enter Try.func86, Try.ntmps86
  go_wp2
  go_ret
  exact ⟨by simp, rfl⟩

set_option maxHeartbeats 400000 in
theorem less_any (x y : Nat) (w : World) :
    Calls Try.prog 83 #[.int .u64 (x : Int), .int .u64 (y : Int)] w fun e w' => e = .returned (.bool (decide (x < y))) ∧ w = w' := by
  have hd : decide ((x : Int) < (y : Int)) = decide (x < y) := by simp
  go_enter Try.func83, Try.ntmps83
  go_wp2_with fail
  refine (nan_no (x : Int) _).mono ?_; rintro e w1 ⟨rfl, rfl⟩
  go_wp2
  go_ret
  exact ⟨by rw [← hd]; rfl, rfl⟩

open Go.Shelf in
def lenRen : Go.Shelf.Ren := ⟨fun | 125 => 49 | 128 => 69 | 129 => 70 | n => n, fun | 3 => 3 | 4 => 4 | 5 => 5 | 9 => 9 | 46 => 94 | 51 => 114 | 53 => 23 | n => n, fun | n => n⟩
open Go.Shelf in
theorem lenLay : Lays.n125 Try.prog lenRen := {
  mixed := by kernel_rfl
  f125 := Try.func49.trans (congrArg some (by kernel_rfl))
  f128 := Try.func69.trans (congrArg some (by kernel_rfl))
  f129 := Try.func70.trans (congrArg some (by kernel_rfl))
  t3 := Try.underlying3
  a3 := Try.isAgg3
  z3 := Try.sizeOf3
  v3 := Try.zeroValue3
  t4 := Try.underlying4
  a4 := Try.isAgg4
  z4 := Try.sizeOf4
  v4 := Try.zeroValue4
  t5 := Try.underlying5
  a5 := Try.isAgg5
  z5 := Try.sizeOf5
  v5 := Try.zeroValue5
  t9 := Try.underlying9
  a9 := Try.isAgg9
  z9 := Try.sizeOf9
  v9 := Try.zeroValue9
  t46 := Try.underlying94
  a46 := Try.isAgg94
  z46 := Try.sizeOf94
  v46 := Try.zeroValue94
  t51 := Try.underlying114
  a51 := Try.isAgg114
  z51 := Try.sizeOf114
  v51 := Try.zeroValue114
  t53 := Try.underlying23
  a53 := Try.isAgg23
  z53 := Try.sizeOf23
  v53 := Try.zeroValue23 }
theorem len_any (x : Nat) (hx : x < 18446744073709551616) (w : World) :
    Calls Try.prog 49 #[.int .u64 (x : Int)] w fun e w' => e = .returned (.int .i64 ((Lib.bitLen x : Nat) : Int)) ∧ w = w' :=
  (Any.bits_Len lenLay (x : Int) w (by omega) (by omega)).mono fun e w' ⟨he, hw⟩ => ⟨by rw [he, Int.toNat_natCast], hw.symm⟩

/-- A slice that reads as these words. -/
structure Rw (w : World) (A : Option Addr) (c : Nat) (ns : List Nat) : Prop where
  le : ns.length ≤ c
  max : c ≤ maxLen
  some' : 0 < ns.length → ∃ g off, A = some ⟨g, off, none⟩ ∧ g < w.heap.size ∧ ∀ j x, ns[j]? = some x → w.cell? ⟨g, off + j, none⟩ = some (.int .u64 ((x : Nat) : Int))
theorem Rw.at {w : World} {A : Option Addr} {c : Nat} {xs : List Nat} (h : Rw w A c xs) (hp : 0 < xs.length) : ∃ g off, A = some ⟨g, off, none⟩ ∧ g < w.heap.size ∧ ∀ (i : Nat) (x : Nat), xs[i]? = some x → w.cell? ⟨g, off + i, none⟩ = some (.int .u64 (x : Int)) := h.some' hp
theorem Rw.below {w w' : World} {A : Option Addr} {c : Nat} {xs : List Nat} {B : Nat} (h : Rw w A c xs) (hb : Below B w w') (hB : w.heap.size ≤ B) : Rw w' A c xs :=
  ⟨h.le, h.max, fun hp => by
    obtain ⟨g, off, e, hg, hc⟩ := h.some' hp
    exact ⟨g, off, e, Nat.lt_of_lt_of_le hg hb.size, fun j u hu => (hb.cell (p := ⟨g, off + j, none⟩) (Nat.lt_of_lt_of_le hg hB)).trans (hc j u hu)⟩⟩
theorem Rw.drewN {w : World} {A : Option Addr} {c : Nat} {xs : List Nat} (h : Rw w A c xs) (m : Nat) : Rw (w.drewN m) A c xs := ⟨h.le, h.max, h.some'⟩
theorem Rw.own {w : World} {base : Nat} {v : Value} {n : Nat} {xs : List Nat} (h : w.ownsRow base 23 1 v n (words xs)) : ∃ A c, v = .slice A n c ∧ xs.length = n ∧ Rw w A c xs := by
  have hl : xs.length = n := by have := h.1; unfold words at this; rw [List.length_map] at this; omega
  rcases h.2 with ⟨rfl, rfl⟩ | ⟨g, cap, cur, rfl, hb, hg, hc, hm, rest⟩
  · exact ⟨none, 0, rfl, hl, ⟨by omega, Nat.zero_le _, fun h => absurd h (by omega)⟩⟩
  · refine ⟨_, cap, rfl, hl, ⟨by omega, hm, fun _ => ⟨g, 0, rfl, (Array.getElem?_eq_some_iff.1 hg).1, fun j u hu => ?_⟩⟩⟩
    have := h.cells (g := g) rfl j (.int .u64 (u : Int)) (by unfold words; rw [List.getElem?_map, hu]; rfl)
    rw [Addr.add_lit] at this
    exact this

theorem below_drewW {B : Nat} {w w' : World} (h : Below B w w') (n : Nat) : Below B w (w'.drewN n) := ⟨h.os, h.tape, h.output, h.size, h.block⟩
set_option maxHeartbeats 1000000 in
theorem sameU_any (A A2 : Option Addr) (c c2 : Nat) (xs : List Nat) (w : World) (n : Nat) (hn : xs.length = n) (h40 : n ≤ 1099511627776) (hR : Rw w A c xs) (hR2 : Rw w A2 c2 xs) :
    Calls Try.prog 23 #[.slice A n c, .slice A2 n c2] w fun e w' => e = .returned (.bool true) ∧ Below w.heap.size w w' := by
  have HR := Lib.hid hR
  have HR2 := Lib.hid hR2
  clear hR hR2
  go_enter Try.func23, Try.ntmps23
  go_wp2
  go_loopw [5] (fun i wr => ∃ j : Nat, j ≤ n ∧ i = .int .i64 j ∧ Below w.heap.size w wr) (fun i _ => n - (intOf i).toNat)
  case atStart => exact ⟨0, by omega, rfl, Below.refl _ _⟩
  case round =>
    obtain ⟨j, hj, rfl, hB⟩ := hrel
    have HB := Lib.hid hB
    by_cases hlt : j < n
    · obtain ⟨x, hx⟩ : ∃ x, xs[j]? = some x := ⟨_, List.getElem?_eq_getElem (by omega)⟩
      obtain ⟨g, off, rfl, hg, hcell⟩ := (HR.out.below hB (Nat.le_refl _)).at (by omega)
      obtain c0 := hcell j x hx
      obtain ⟨g2, off2, rfl, hg2, hcell2⟩ := (HR2.out.below hB (Nat.le_refl _)).at (by omega)
      obtain d0 := hcell2 j x hx
      clear hcell hcell2 hx hB
      go_wp2_with fail
      go_quiet (fail)
      go_wp2
      go_roundw
      case rel => exact ⟨j + 1, by omega, by go_num, below_drewW HB.out _⟩
      case measure => simp [intOf]; omega
    · go_wp2
      go_ret
      exact ⟨rfl, hB⟩

end Go.Proofs.Ytodenkamlbihnaa
