/-
  The kit's group: how many slots each node of a level gets. Condition: a fanout of 4 to 6, at most a million slots.
-/
import Derived.Test.YtboieccjikcdiaaDesView
namespace Go.Proofs.Ytboieccjikcdiaa
open Go.RowKit Go.Deep Plain
set_option linter.unusedVariables false

theorem infoInt : (Try.prog.info? 3).map (fun i => (i.zero, i.size, i.bytes)) = some (some (.int .i64 0), 1, 8) := by kernel_rfl
/-- The cells of a row of numbers. -/
def ints (ps : List Nat) : List Value := ps.map fun (p : Nat) => Value.int .i64 (p : Int)
theorem ints_length (ps : List Nat) : (ints ps).length = ps.length := by unfold ints; simp
theorem ints_at {ps : List Nat} {i p : Nat} (h : ps[i]? = some p) : (ints ps)[i]? = some (.int .i64 (p : Int)) := by unfold ints; rw [List.getElem?_map, h]; rfl
/-- What group builds: so many slots in nodes, m left. -/
structure Grp (F least n m : Nat) (ps : List Nat) : Prop where
  sum : ps.sum + m = n
  le : ∀ i p : Nat, ps[i]? = some p → 1 ≤ p ∧ p ≤ F
  ge : ∀ i p : Nat, ps[i]? = some p → least ≤ p ∨ (m = 0 ∧ i + 1 = ps.length)
theorem Grp.step {F least n m k : Nat} {ps : List Nat} (h : Grp F least n m ps) (hm : 0 < m) (hk : least ≤ k) (hk1 : 1 ≤ k) (hkF : k ≤ F) : Grp F least n (m - min k m) (ps ++ [min k m]) := by
  refine ⟨?_, fun i p hp => ?_, fun i p hp => ?_⟩
  · have := h.sum; rw [List.sum_append]; simp; omega
  · rcases Nat.lt_or_ge i ps.length with h1 | h1
    · rw [List.getElem?_append_left h1] at hp; exact h.le i p hp
    · rw [List.getElem?_append_right h1] at hp
      have h2 := (List.getElem?_eq_some_iff.1 hp).1
      simp at h2
      rw [show i - ps.length = 0 by omega] at hp
      have hp' : min k m = p := by simpa using hp
      omega
  · rcases Nat.lt_or_ge i ps.length with h1 | h1
    · rw [List.getElem?_append_left h1] at hp
      rcases h.ge i p hp with h2 | h2
      · exact .inl h2
      · omega
    · rw [List.getElem?_append_right h1] at hp
      have h2 := (List.getElem?_eq_some_iff.1 hp).1
      simp at h2
      rw [show i - ps.length = 0 by omega] at hp
      have hp' : min k m = p := by simpa using hp
      rcases (by omega : least ≤ p ∨ m < least) with h3 | h3
      · exact .inl h3
      · exact .inr ⟨by omega, by rw [List.length_append]; simp; omega⟩
theorem Grp.len {F least n m : Nat} {ps : List Nat} (h : Grp F least n m ps) : ps.length ≤ n := by
  have h1 : ∀ qs : List Nat, (∀ p ∈ qs, 1 ≤ p) → qs.length ≤ qs.sum := by
    intro qs
    induction qs with
    | nil => intro _; exact Nat.le_refl _
    | cons q r ih =>
      intro hq
      have := ih fun p hp => hq p (List.mem_cons_of_mem _ hp)
      have := hq q (List.mem_cons_self ..)
      rw [List.length_cons, List.sum_cons]; omega
  have := h1 ps fun p hp => by obtain ⟨i, hi⟩ := List.mem_iff_getElem?.1 hp; exact (h.le i p hi).1
  have := h.sum
  omega
set_option maxRecDepth 100000 in
set_option maxHeartbeats 2000000 in
theorem group_any (F least n : Nat) (h4 : 4 ≤ F) (h6 : F ≤ 6) (hl1 : 1 ≤ least) (hl2 : least ≤ 2) (hn : n ≤ 1000000) (sh : Int) (hs : 0 ≤ sh) (w : World) :
    Calls Try.prog 48 #[.int .i64 (n : Int), .int .i64 (least : Int), .int .i64 (F : Int), .int .u64 sh] w fun e w' => ∃ (v : Value) (ps : List Nat), e = .returned v ∧ Grp F least n 0 ps ∧ w'.ownsRow w.heap.size 3 1 v ps.length (ints ps) ∧ Below w.heap.size w w' := by
  obtain ⟨i0, hi0, hz0, hz1, hz2⟩ := info_parts infoInt
  have HI0 := Lib.hid hi0
  have HI1 := Lib.hid hz0
  have HI2 := Lib.hid hz1
  have HI3 := Lib.hid hz2
  clear hi0 hz0 hz1 hz2
  go_enter Try.func48, Try.ntmps48
  go_wp2
  go_loopw [0, 3, 9] (fun nv sv v wr => ∃ (m : Nat) (s : Int) (ps : List Nat), m ≤ n ∧ 0 ≤ s ∧ nv = .int .i64 m ∧ sv = .int .u64 s ∧ Grp F least n m ps ∧ wr.ownsRow w.heap.size 3 1 v ps.length (ints ps) ∧ Below w.heap.size w wr) (fun nv _ _ _ => (intOf nv).toNat)
  case atStart => exact ⟨n, sh, [], Nat.le_refl _, hs, rfl, rfl, ⟨by simp, fun i p h => by simp at h, fun i p h => by simp at h⟩, by exact World.ownsRow_nil _ _ _ _, Below.refl _ _⟩
  case round =>
    obtain ⟨m, s, ps, hm, hs0, rfl, rfl, hG, hO, hB⟩ := hrel
    have HG := Lib.hid hG
    have HO := Lib.hid hO
    have HB := Lib.hid hB
    have hlp := hG.len
    have hzr := hB.size
    clear hG hO hB
    by_cases hm0 : 0 < m
    · obtain ⟨d, hd⟩ : ∃ d : Nat, F + 1 = least + d := ⟨F + 1 - least, by omega⟩
      have hd0 : (F : Int) - (least : Int) + 1 = (d : Int) := by omega
      have hdp : 0 < (d : Int) := by omega
      have hd7 : d ≤ 6 := by omega
      obtain ⟨r, hr⟩ : ∃ r : Nat, s % (d : Int) = (r : Int) := ⟨(s % (d : Int)).toNat, by have := Int.emod_nonneg s (b := (d : Int)) (by omega); omega⟩
      have hrl : r < d := by have := Int.emod_lt_of_pos s (b := (d : Int)) (by omega); omega
      have hrt : s.tmod (d : Int) = (r : Int) := by rw [Int.tmod_eq_emod_of_nonneg hs0]; exact hr
      clear hd hrt
      by_cases hmin : least + r ≤ m
      · obtain ⟨k, hk⟩ : ∃ k : Nat, least + r = k := ⟨_, rfl⟩
        have hkV : (least : Int) + (r : Int) = (k : Int) := by omega
        have hkk : min (least + r) m = k := by omega
        have hkI : (k : Int) ≤ (m : Int) := by omega
        have HGS := Lib.hid (by have := HG.out.step hm0 (k := least + r) (by omega) (by omega) (by omega); rw [hkk] at this; exact this)
        have hkm : k ≤ m := by omega
        clear hkk hk
        have hown := HO.out
        go_wp2_with (at_builtin; go_must (refine wpList_append_own _ rfl (.tmp 26) (.tmp 28) 98 rfl w.heap.size 3 i0 _ 1 8 Try.underlying98 HI0.out HI1.out HI2.out HI3.out rfl (by decide) _ _ _ rfl (hown.alloc _) ⟨wr.heap.size, 0, none⟩ 1 1 [.int .i64 (k : Int)] rfl rfl ?a1 ?b1 ?c1 ?d1 ?e1 ?_))
        try case a1 =>
          intro j u hu
          match j, hu with
          | 0, hu => simp at hu; subst hu; simp [Addr.add]
          | j + 1, hu => simp at hu
        case b1 => first | exact rfl | (intro u hu; simp at hu; subst hu; rfl)
        case c1 => unfold maxLen; omega
        case d1 => omega
        case e1 => first | omega | (simp; omega)
        intro v1 w1 hown1 hgr1 _
        have hal := (Below.refl wr.heap.size wr).alloc (Nat.le_refl _) (.cells #[.int .i64 (k : Int)] 3)
        have hB1 := Below.grown (hal.mono hzr) hgr1 (by rw [nblk_alloc]; omega) fun q hq => (hown.lt q hq).1
        have HB1 := Lib.hid (HB.out.trans hB1)
        have HO1 := Lib.hid (show w1.ownsRow w.heap.size 3 1 v1 (ps ++ [k]).length (ints (ps ++ [k])) from by
          have e : ints (ps ++ [k]) = ints ps ++ [.int .i64 (k : Int)] := by unfold ints; rw [List.map_append]; rfl
          rw [e, List.length_append]; exact hown1)
        clear hown1 hgr1 hal hB1 hown HO HB HG
        go_wp2
        go_roundw
        case rel => exact ⟨m - k, _, ps ++ [k], by omega, by rw [IntKind.wrap_u64]; omega, by go_num, rfl, HGS.out, HO1.out, HB1.out⟩
        case measure => simp [intOf]; omega
      · have hkk : min (least + r) m = m := by omega
        have hkI : ¬ (least : Int) + (r : Int) ≤ (m : Int) := by omega
        have HGS := Lib.hid (by have := HG.out.step hm0 (k := least + r) (by omega) (by omega) (by omega); rw [hkk] at this; exact this)
        have hkm : m ≤ m := by omega
        clear hkk
        have hown := HO.out
        go_wp2_with (at_builtin; go_must (refine wpList_append_own _ rfl (.tmp 26) (.tmp 28) 98 rfl w.heap.size 3 i0 _ 1 8 Try.underlying98 HI0.out HI1.out HI2.out HI3.out rfl (by decide) _ _ _ rfl (hown.alloc _) ⟨wr.heap.size, 0, none⟩ 1 1 [.int .i64 (m : Int)] rfl rfl ?a1 ?b1 ?c1 ?d1 ?e1 ?_))
        try case a1 =>
          intro j u hu
          match j, hu with
          | 0, hu => simp at hu; subst hu; simp [Addr.add]
          | j + 1, hu => simp at hu
        case b1 => first | exact rfl | (intro u hu; simp at hu; subst hu; rfl)
        case c1 => unfold maxLen; omega
        case d1 => omega
        case e1 => first | omega | (simp; omega)
        intro v1 w1 hown1 hgr1 _
        have hal := (Below.refl wr.heap.size wr).alloc (Nat.le_refl _) (.cells #[.int .i64 (m : Int)] 3)
        have hB1 := Below.grown (hal.mono hzr) hgr1 (by rw [nblk_alloc]; omega) fun q hq => (hown.lt q hq).1
        have HB1 := Lib.hid (HB.out.trans hB1)
        have HO1 := Lib.hid (show w1.ownsRow w.heap.size 3 1 v1 (ps ++ [m]).length (ints (ps ++ [m])) from by
          have e : ints (ps ++ [m]) = ints ps ++ [.int .i64 (m : Int)] := by unfold ints; rw [List.map_append]; rfl
          rw [e, List.length_append]; exact hown1)
        clear hown1 hgr1 hal hB1 hown HO HB HG
        go_wp2
        go_roundw
        case rel => exact ⟨m - m, _, ps ++ [m], by omega, by rw [IntKind.wrap_u64]; omega, by go_num, rfl, HGS.out, HO1.out, HB1.out⟩
        case measure => simp [intOf]; omega
    · obtain rfl : m = 0 := by omega
      go_wp2
      go_ret
      exact ⟨_, ps, rfl, HG.out, HO.out, HB.out⟩

theorem group_to (F least n : Nat) (lI : Int) (hlI : lI = (least : Int)) (h4 : 4 ≤ F) (h6 : F ≤ 6) (hl1 : 1 ≤ least) (hl2 : least ≤ 2) (hn : n ≤ 1000000) (sh : Int) (hs : 0 ≤ sh) (w : World) :
    Calls Try.prog 48 #[.int .i64 (n : Int), .int .i64 lI, .int .i64 (F : Int), .int .u64 sh] w fun e w' => ∃ (v : Value) (ps : List Nat), e = .returned v ∧ Grp F least n 0 ps ∧ w'.ownsRow w.heap.size 3 1 v ps.length (ints ps) ∧ Below w.heap.size w w' := by
  subst hlI; exact group_any F least n h4 h6 hl1 hl2 hn sh hs w
end Go.Proofs.Ytboieccjikcdiaa
