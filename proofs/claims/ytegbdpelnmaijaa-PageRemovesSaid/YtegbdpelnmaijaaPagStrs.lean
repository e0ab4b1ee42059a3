/-
  Rows of strings in memory: what append does with them, what they look like; what is found in a page whose slots were removed. Condition: rows of at most 2^40 strings.
-/
import Derived.Test.YtegbdpelnmaijaaPagRem
import Derived.Deep.AppendLies
namespace Go.Proofs.Ytegbdpelnmaijaa
open Go.RowKit Go.Deep Plain
set_option linter.unusedVariables false

theorem infoStr : (Try.prog.info? 9).map (fun i => (i.zero, i.size, i.bytes)) = some (some (.string ByteArray.empty), 1, 16) := by kernel_rfl

/-- A row of strings of the call's own. -/
def Ks (w : World) (base : Nat) (v : Value) (n : Nat) (ks : List ByteArray) : Prop := w.ownsRow base 9 1 v n (ks.map .string)
theorem Ks.nil (w : World) (base : Nat) : Ks w base (.slice none 0 0) 0 [] := World.ownsRow_nil _ _ _ _
theorem Ks.rk {w : World} {base n : Nat} {v : Value} {ks : List ByteArray} (h : Ks w base v n ks) : ∃ A c, v = .slice A n c ∧ ks.length = n ∧ Rk w A ks := by
  have hl : ks.length = n := by have := h.1; rw [List.length_map] at this; omega
  rcases h.2 with ⟨rfl, rfl⟩ | ⟨g, cap, cur, rfl, hb, hg, hc, hm, rest⟩
  · exact ⟨none, 0, rfl, hl, ⟨fun h => absurd h (by omega)⟩⟩
  · refine ⟨_, cap, rfl, hl, ⟨fun _ => ⟨g, 0, rfl, (Array.getElem?_eq_some_iff.1 hg).1, fun i k hk => ?_⟩⟩⟩
    have := World.ownsRow.cells h (g := g) rfl i (.string k) (by rw [List.getElem?_map, hk]; rfl)
    rw [Addr.add_lit] at this
    exact this
theorem Ks.below {w w' : World} {base n B : Nat} {v : Value} {ks : List ByteArray} (h : Ks w base v n ks) (hb : Below B w w') (hB : w.heap.size ≤ B) : Ks w' base v n ks := own_below h hb hB
theorem Ks.len {w : World} {base n : Nat} {v : Value} {ks : List ByteArray} (h : Ks w base v n ks) : ks.length = n := by have := h.1; rw [List.length_map] at this; omega

section
variable {w : World} {ops : Array Oper} {rest : List Oper} {o : Oper} {a : Act} {Q : Exit → Act → World → Prop}
/-- append(s, x...) of strings: s a row of the call's own, x any strings. -/
theorem wpList_apps (hgd : o.guard = none) (s x : Operand) (ho : o.op = .call { callee := .builtin .append, args := #[s, x], argTypes := #[44, 44] })
    (base : Nat) (v : Value) (n : Nat) (ks : List ByteArray) (hs : a.eval s = v) (hown : Ks w base v n ks) (A : Option Addr) (m c : Nat) (ys : List ByteArray) (hx : a.eval x = .slice A m c)
    (hm : ys.length = m) (hz : A = none → c = 0) (hR : Rk w A ys) (h40 : n + m ≤ 1099511627776) (hbase : base ≤ w.heap.size)
    (h : ∀ v' w', Ks w' base v' (n + m) (ks ++ ys) → Below base w w' → wpList Try.prog ops Q rest (a.put o.dst v') w') : wpList Try.prog ops Q (o :: rest) a w := by
  obtain ⟨i, hi, hz0, hz1, hz2⟩ := info_parts infoStr
  cases A with
  | none =>
    obtain rfl := hz rfl
    have h0 : ys.length = 0 := by
      rcases Nat.eq_zero_or_pos ys.length with h0 | h0
      · exact h0
      · obtain ⟨_, _, e, _⟩ := hR.at' h0; cases e
    have h0 : ys = [] := List.eq_nil_of_length_eq_zero h0
    subst h0
    obtain rfl : m = 0 := by simpa using hm.symm
    refine wpList_append_own_none hgd s x 44 ho base 9 i 1 Try.underlying44 hi v n _ hs hown hx ?_
    refine h _ _ ?_ (Below.refl _ _)
    rw [List.append_nil]; exact hown
  | some ad =>
    refine wpList_append_own w hgd s x 44 ho base 9 i _ 1 16 Try.underlying44 hi hz0 hz1 hz2 rfl (by decide) v n _ hs hown ad m c (ys.map .string) hx (by rw [List.length_map, hm, Nat.mul_one]) ?_ (fun u hu => by obtain ⟨k, _, rfl⟩ := List.mem_map.1 hu; rfl) (by unfold maxLen; omega) (by omega) hbase ?_
    · intro j u hu
      rw [List.getElem?_map] at hu
      cases hk : ys[j]? with
      | none => rw [hk] at hu; cases hu
      | some k =>
        rw [hk] at hu; cases hu
        obtain ⟨g, off, e, _, hc⟩ := hR.at' (by have := (List.getElem?_eq_some_iff.1 hk).1; omega)
        cases e
        rw [Addr.add_lit]; exact hc j k hk
    · intro v' w' hown' hgr _
      refine h v' w' (by unfold Ks; rw [List.map_append]; exact hown') ?_
      exact (Below.refl base w).grown hgr hbase fun k hk => (hown.lt k hk).1
end

theorem gone_has {ks : List ByteArray} {ys : List Sl} {j : Nat} {x : Sl} (h : ys[j]? = some x) : has x.1 (rem ks ys) = !gone ks x := by
  cases hg : gone ks x
  · have : x ∈ rem ks ys := List.mem_filter.2 ⟨List.mem_of_getElem? h, by rw [hg]; rfl⟩
    exact List.any_eq_true.2 ⟨x, this, eqk_self x.1 x.2⟩
  · cases hh : has x.1 (rem ks ys)
    · rfl
    · obtain ⟨z, hz, he⟩ := List.any_eq_true.1 hh
      obtain ⟨_, hz2⟩ := List.mem_filter.1 hz
      have e := eqk_eq he
      have : gone ks z = gone ks x := by unfold gone; rw [e]
      rw [this, hg] at hz2; cases hz2
end Go.Proofs.Ytegbdpelnmaijaa
