/-
  What Time, List, Watermark, Raise and snap of the reference's world answer. Condition: at most a hundred batches of at most five writes, at most a million snapshots.
-/
import Derived.Test.YtodenkamlbihnaaModWdm
import Derived.Test.YtodenkamlbihnaaBatRef
import Derived.BigQuiet
namespace Go.Proofs.Ytodenkamlbihnaa
open Go.RowKit Go.Deep Plain PlainE
set_option linter.unusedVariables false

theorem stateL_nx {bs : List (List Wri)} {i : Nat} {b : List Wri} (h : bs[i]? = some b) : stateL bs (i + 1) = applyL (stateL bs i) b := by
  unfold stateL; rw [take_nx h, List.foldl_append]; rfl
/-- A cell of a row of one's own. -/
theorem own_cell1 {w : World} {base e n : Nat} {v : Value} {xs : List Value} (h : w.ownsRow base e 1 v n xs) {i : Nat} {u : Value} (hu : xs[i]? = some u) : ∃ g c, v = .slice (some ⟨g, 0, none⟩) n c ∧ i < n ∧ w.cell? ⟨g, i, none⟩ = some u := by
  have hi := (List.getElem?_eq_some_iff.1 hu).1
  have h1 := h.1
  rcases h.2 with ⟨rfl, rfl⟩ | ⟨g, cap, cur, rfl, rest⟩
  · omega
  · have := h.cells (g := g) rfl i u hu
    rw [Addr.add_lit, Nat.zero_add] at this
    exact ⟨g, cap, rfl, by omega, this⟩
theorem own_cells3 {w : World} {base n : Nat} {v : Value} {sv : List Sp} (h : w.ownsRow base 69 3 v n (flatN sv)) {i : Nat} {x : Sp} (hx : sv[i]? = some x) :
    ∃ g c, v = .slice (some ⟨g, 0, none⟩) n c ∧ i < n ∧ w.cell? ⟨g, i * 3, none⟩ = some (.int .i64 x.1) ∧ w.cell? ⟨g, i * 3 + 1, none⟩ = some (.int .i64 x.2.1) ∧ w.cell? ⟨g, i * 3 + 2, none⟩ = some (.int .u64 (x.2.2 : Int)) := by
  have hi := (List.getElem?_eq_some_iff.1 hx).1
  have h1 := h.1
  rw [flatN_length] at h1
  obtain ⟨f0, f1, f2⟩ := flatN_at sv i x hx
  rcases h.2 with ⟨rfl, rfl⟩ | ⟨g, cap, cur, rfl, rest⟩
  · omega
  · have k0 := h.cells (g := g) rfl _ _ f0
    have k1 := h.cells (g := g) rfl _ _ f1
    have k2 := h.cells (g := g) rfl _ _ f2
    rw [Addr.add_lit, Nat.zero_add] at k0 k1 k2
    exact ⟨g, cap, rfl, by omega, k0, k1, k2⟩

set_option maxHeartbeats 1000000 in
theorem wtime_any {q B : Nat} {Z : Nat → Prop} {bs : List (List Wri)} {fl : Nat} {sv : List Sp} (w : World) (h : WdS w q B Z bs fl sv) (hT : bs.length ≤ 100) :
    Calls Try.prog 15 #[.pointer (some ⟨q, 0, none⟩)] w fun e w' => e = .returned (.int .u64 (bs.length : Int)) ∧ w = w' := by
  obtain ⟨vB, vS, vals, h⟩ := h
  obtain ⟨A, c, rfl⟩ := own_slice h.b
  have c0 := h.p.cell (i := 0) rfl
  have ew : IntKind.u64.wrap (bs.length : Int) = (bs.length : Int) := by rw [IntKind.wrap_u64]; omega
  clear h
  go_enter Try.func15, Try.ntmps15
  go_wp2
  go_ret
  exact ⟨by first | rfl | simp [ew], rfl⟩

set_option maxRecDepth 100000 in
set_option maxHeartbeats 2000000 in
theorem wlist_any {q B : Nat} {Z : Nat → Prop} {bs : List (List Wri)} {fl : Nat} {sv : List Sp} (w : World) (h : WdS w q B Z bs fl sv) (hT : bs.length ≤ 100) (hb5 : ∀ b ∈ bs, b.length ≤ 5) (t : Nat) :
    Calls Try.prog 33 #[.pointer (some ⟨q, 0, none⟩), .int .u64 (t : Int)] w fun e w' => ∃ A r c, e = .returned (.slice A r c) ∧ RE w' A c (stateL bs t) ∧ (stateL bs t).length = r ∧ Below w.heap.size w w' := by
  obtain ⟨vB, vS, vals, h⟩ := h
  have HW := Lib.hid h
  obtain ⟨AB, cB, eB⟩ := own_slice h.b
  subst eB
  have hlen : ∀ i, (stateL bs i).length ≤ 1000 := fun i => by have := stateL_len_le hb5 i; omega
  obtain ⟨T, hTT⟩ : ∃ T, bs.length = T := ⟨_, rfl⟩
  have HT := Lib.hid hTT
  have c0 := h.p.cell (i := 0) rfl
  have hql := h.p.lt
  rw [hTT] at hT c0
  have HLN := Lib.hid hlen
  have HB5 := Lib.hid hb5
  have HQL := Lib.hid hql
  have HC0 := Lib.hid c0
  clear h hTT hlen hb5 hql c0
  go_enter Try.func33, Try.ntmps33
  go_wp2_with fail
  go_loopw [5, 6] (fun o i wr => ∃ (k r c : Nat) (A : Option Addr), o = .slice A r c ∧ i = .int .i64 k ∧ k ≤ T ∧ k ≤ t ∧ RE wr A c (stateL bs k) ∧ (stateL bs k).length = r ∧ Below w.heap.size w wr) (fun _ i _ => T - (intOf i).toNat)
  case atStart => exact ⟨0, 0, 0, none, rfl, rfl, Nat.zero_le _, Nat.zero_le _, RE.nil _, rfl, Below.refl _ _⟩
  case round =>
    obtain ⟨k, r, c, A, rfl, rfl, hk, hkt, hR, hr, hbel⟩ := hrel
    have HR := Lib.hid hR
    have HB := Lib.hid hbel
    have HRL := Lib.hid hr
    have hsz := hbel.size
    have c0 := (hbel.cell (p := ⟨q, 0, none⟩) HQL.out).trans HC0.out
    have ew : IntKind.u64.wrap (k : Int) = (k : Int) := by rw [IntKind.wrap_u64]; omega
    clear hR hr hbel
    by_cases hlt : k < T
    · by_cases hlt2 : k < t
      · have hd1 : decide ((k : Int) < (t : Int)) = true := by simp [hlt2]
        obtain ⟨b, hb⟩ : ∃ b, bs[k]? = some b := ⟨_, List.getElem?_eq_getElem (by have := HT.out; omega)⟩
        obtain ⟨v, hv1, hv2, _⟩ := HW.out.r k b hb
        obtain ⟨g, cc, eg, hkl, hcl⟩ := own_cell1 HW.out.b hv1
        injection eg with eg _ _
        subst eg
        obtain ⟨A2, c2, e2, hn2, hR2, _⟩ := RW.own hv2
        subst e2
        have d0 := (HB.out.cell (p := ⟨g, k, none⟩) (World.block_lt_of_cell? w _ hcl)).trans hcl
        have HR2 := Lib.hid (hR2.below HB.out (Nat.le_refl _))
        have HNX := Lib.hid (stateL_nx hb)
        have hb5' := HB5.out b (List.mem_of_getElem? hb)
        have hr1 : r ≤ 1000 := by rw [← HRL.out]; exact HLN.out k
        have con := fun W (hW : RE W A c (stateL bs k)) (hW2 : RW W A2 c2 b) => refApply_any A A2 c c2 (stateL bs k) b W r b.length HRL.out rfl (by omega) (by omega) hW hW2 _ rfl
        rw [← stateL_nx hb] at con
        generalize b.length = m9 at *
        obtain ⟨r2, hr2⟩ : ∃ r2, (stateL bs (k + 1)).length = r2 := ⟨_, rfl⟩
        rw [hr2] at con
        have HR2L := Lib.hid hr2
        have hkl' : (k : Int) < (T : Int) := by omega
        have hTw := HT.out
        clear hb hv1 hv2 hR2 hr2 hcl hn2 hkl hTw
        go_wp2_with fail
        refine (con _ HR.out HR2.out).mono ?_; rintro e w1 ⟨A3, c3, rfl, hR3, hB3⟩
        have HR3 := Lib.hid hR3
        have HB3 := Lib.hid (HB.out.trans (hB3.mono hsz))
        clear hR3 hB3 con d0 c0
        go_wp2
        go_roundw
        case rel => exact ⟨k + 1, r2, c3, A3, rfl, by go_num, by omega, by omega, HR3.out, HR2L.out, HB3.out⟩
        case measure => simp [intOf]; omega
      · have hd1 : decide ((k : Int) < (t : Int)) = false := by simp; omega
        obtain rfl : k = t := by omega
        go_wp2
        go_ret
        exact ⟨_, _, _, rfl, HR.out, HRL.out, HB.out⟩
    · obtain rfl : k = T := by omega
      have hst : stateL bs t = stateL bs k := by rw [stateL_sat (by have := HT.out; omega), ← HT.out]
      have HS := Lib.hid hst
      clear hst
      go_wp2
      go_ret
      exact ⟨_, _, _, rfl, by rw [HS.out]; exact HR.out, by rw [HS.out]; exact HRL.out, HB.out⟩

set_option maxRecDepth 100000 in
set_option maxHeartbeats 2000000 in
theorem wwater_any {q B : Nat} {Z : Nat → Prop} {bs : List (List Wri)} {fl : Nat} {sv : List Sp} (w : World) (h : WdS w q B Z bs fl sv) (hT : bs.length ≤ 100) (hs : sv.length ≤ 1000000) :
    Calls Try.prog 31 #[.pointer (some ⟨q, 0, none⟩)] w fun e w' => e = .returned (.int .u64 ((leastS bs.length sv : Nat) : Int)) ∧ w = w' := by
  have con := wtime_any w h hT
  obtain ⟨vB, vS, vals, h⟩ := h
  have HW := Lib.hid h
  obtain ⟨AS, cS, eS⟩ := own_slice h.s
  subst eS
  obtain ⟨T, hTT⟩ : ∃ T, bs.length = T := ⟨_, rfl⟩
  obtain ⟨n, hn⟩ : ∃ n, sv.length = n := ⟨_, rfl⟩
  have c2 := h.p.cell (i := 2) rfl
  rw [hn] at hs c2
  rw [hTT] at con ⊢
  have HN := Lib.hid hn
  clear h hTT hn
  go_enter Try.func31, Try.ntmps31
  go_wp2_with fail
  refine con.mono ?_; rintro e w1 ⟨rfl, rfl⟩
  go_wp2_with fail
  go_loopw [3, 4] (fun l i wr => ∃ k : Nat, i = .int .i64 k ∧ k ≤ n ∧ l = .int .u64 ((leastS T (sv.take k) : Nat) : Int) ∧ w = wr) (fun _ i _ => n - (intOf i).toNat)
  case atStart => exact ⟨0, rfl, Nat.zero_le _, rfl, rfl⟩
  case round =>
    obtain ⟨k, rfl, hk, rfl, rfl⟩ := hrel
    by_cases hlt : k < n
    · obtain ⟨x, hx⟩ : ∃ x, sv[k]? = some x := ⟨_, List.getElem?_eq_getElem (by have := HN.out; omega)⟩
      obtain ⟨g, cc, eg, hkl, k0, k1, k2⟩ := own_cells3 HW.out.s hx
      injection eg with eg _ _
      subst eg
      have hst : leastS T (sv.take (k + 1)) = min (leastS T (sv.take k)) x.2.2 := by rw [take_nx hx, leastS_snoc]
      have HST := Lib.hid hst
      generalize leastS T (sv.take k) = l at *
      obtain ⟨x0, x1, x2⟩ := x
      clear hx hst hkl k0 k1
      by_cases hm : (l : Int) ≤ (x2 : Int)
      · go_wp2
        go_roundw
        case rel => exact ⟨k + 1, by go_num, by omega, by rw [HST.out]; show _ = Value.int .u64 ((min l x2 : Nat) : Int); rw [show min l x2 = l by omega], by first | rfl | trivial⟩
        case measure => simp [intOf]; omega
      · go_wp2
        go_roundw
        case rel => exact ⟨k + 1, by go_num, by omega, by rw [HST.out]; show _ = Value.int .u64 ((min l x2 : Nat) : Int); rw [show min l x2 = x2 by omega], by first | rfl | trivial⟩
        case measure => simp [intOf]; omega
    · have hfull : sv.take k = sv := List.take_of_length_le (by have := HN.out; omega)
      have HF := Lib.hid (show leastS T (sv.take k) = leastS T sv by rw [hfull])
      clear hfull
      go_wp2
      go_ret
      exact ⟨by first | (rw [← HF.out]; rfl) | simp [HF.out], rfl⟩

theorem WdS.setFloor {w : World} {q B : Nat} {Z : Nat → Prop} {bs : List (List Wri)} {fl : Nat} {sv : List Sp} (h : WdS w q B Z bs fl sv) (f : Nat) : WdS (w.setCell ⟨q, 1, none⟩ (.int .u64 (f : Int))) q B Z bs f sv := by
  obtain ⟨vB, vS, vals, h⟩ := h
  have hk : Kept (fun i => i = q) w (w.setCell ⟨q, 1, none⟩ (.int .u64 (f : Int))) := (Kept.refl (fun i => i = q) w).setCell (a := ⟨q, 1, none⟩) (fun _ => rfl) _
  have ne : ∀ {b e s n : Nat} {v : Value} {x : List Value}, w.ownsRow b e s v n x → e ≠ 31 → ∀ g, v.ownBlock = some g → (w.setCell ⟨q, 1, none⟩ (.int .u64 (f : Int))).heap[g]? = w.heap[g]? := fun ho hne g hg =>
    hk.block g (own_cells ho hg).2.1 (fun e => own_blk ho h.p hne (e ▸ hg))
  exact ⟨vB, vS, vals, h.p.set 1 _, own_of h.b (ne h.b (by decide)), own_of h.s (ne h.s (by decide)), fun i x hx => by
    obtain ⟨v, h1, h2, h3⟩ := h.r i x hx
    exact ⟨v, h1, own_of h2 (ne h2 (by decide)), h3⟩, h.zq, h.zb, h.zs, fun i hi => ⟨(h.z i hi).1, Nat.lt_of_lt_of_le (h.z i hi).2 hk.size⟩⟩

set_option maxHeartbeats 1000000 in
theorem wraise_any {q B : Nat} {Z : Nat → Prop} {bs : List (List Wri)} {fl : Nat} {sv : List Sp} (w : World) (h : WdS w q B Z bs fl sv) (hT : bs.length ≤ 100) (hs : sv.length ≤ 1000000) (u : Nat) (x : Nat) (hx : leastS bs.length sv = x) :
    Calls Try.prog 17 #[.pointer (some ⟨q, 0, none⟩), .int .u64 (u : Int)] w fun e w' => e = .returned (.bool (decide (u ≤ x))) ∧ WdS w' q B Z bs (if u ≤ x then max fl u else fl) sv ∧ Kept Z w w' := by
  have HM := Lib.hid h
  have con := wwater_any w h hT hs
  rw [hx] at con
  clear hx
  have hzq : Z q := by obtain ⟨_, _, _, h⟩ := h; exact h.zq
  obtain ⟨vB, vS, vals, hh⟩ := h
  have c1 := hh.p.cell (i := 1) rfl
  have f1 := hh.p.frozen 1
  clear hh
  go_enter Try.func17, Try.ntmps17
  go_wp2_with fail
  refine con.mono ?_; rintro e w1 ⟨rfl, rfl⟩
  clear con
  by_cases hu : u ≤ x
  · have hx1 : ¬ (x : Int) < (u : Int) := by omega
    by_cases hf : (fl : Int) < (u : Int)
    · go_wp2
      go_ret
      refine ⟨by first | rfl | simp [hu], ?_, (Kept.refl Z w).setCell (a := ⟨q, 1, none⟩) (fun _ => hzq) _⟩
      try rw [if_pos hu]
      rw [show max fl u = u by omega]
      exact HM.out.setFloor u
    · go_wp2
      go_ret
      refine ⟨by first | rfl | simp [hu], ?_, (Kept.refl Z w).setCell (a := ⟨q, 1, none⟩) (fun _ => hzq) _⟩
      try rw [if_pos hu]
      rw [show max fl u = fl by omega]
      exact HM.out.setFloor fl
  · have hx1 : (x : Int) < (u : Int) := by omega
    go_wp2
    go_ret
    exact ⟨by first | rfl | simp [hu], by first | exact HM.out | (rw [if_neg hu]; exact HM.out), Kept.refl _ _⟩

/-- The place of a snapshot as the reference tells it. -/
def ixV (o : Option Nat) : Int := match o with
  | some i => i
  | none => -1
set_option maxRecDepth 100000 in
set_option maxHeartbeats 2000000 in
theorem wsnap_any {q B : Nat} {Z : Nat → Prop} {bs : List (List Wri)} {fl : Nat} {sv : List Sp} (w : World) (h : WdS w q B Z bs fl sv) (hs : sv.length ≤ 1000000) (t j : Int) :
    Calls Try.prog 30 #[.pointer (some ⟨q, 0, none⟩), .int .i64 t, .int .i64 j] w fun e w' => e = .returned (.int .i64 (ixV (ixS t j sv))) ∧ w = w' := by
  obtain ⟨vB, vS, vals, h⟩ := h
  have HW := Lib.hid h
  obtain ⟨AS, cS, eS⟩ := own_slice h.s
  subst eS
  obtain ⟨n, hn⟩ : ∃ n, sv.length = n := ⟨_, rfl⟩
  have c2 := h.p.cell (i := 2) rfl
  rw [hn] at hs c2
  have HN := Lib.hid hn
  clear h hn
  go_enter Try.func30, Try.ntmps30
  go_wp2_with fail
  go_loopw [7] (fun i wr => ∃ k : Nat, i = .int .i64 k ∧ k ≤ n ∧ (∀ (m : Nat) (x : Sp), m < k → sv[m]? = some x → ¬ (x.1 = t ∧ x.2.1 = j)) ∧ w = wr) (fun i _ => n - (intOf i).toNat)
  case atStart => exact ⟨0, rfl, Nat.zero_le _, fun m x hm => absurd hm (Nat.not_lt_zero _), rfl⟩
  case round =>
    obtain ⟨k, rfl, hk, hno, rfl⟩ := hrel
    have HNO := Lib.hid hno
    clear hno
    by_cases hlt : k < n
    · obtain ⟨x, hx⟩ : ∃ x, sv[k]? = some x := ⟨_, List.getElem?_eq_getElem (by have := HN.out; omega)⟩
      obtain ⟨g, cc, eg, hkl, k0, k1, k2⟩ := own_cells3 HW.out.s hx
      injection eg with eg _ _
      subst eg
      have HX := Lib.hid hx
      have hnext : ¬ (x.1 = t ∧ x.2.1 = j) → ∀ (m : Nat) (y : Sp), m < k + 1 → sv[m]? = some y → ¬ (y.1 = t ∧ y.2.1 = j) := fun hne m y hm hy => by
        by_cases e : m = k
        · subst e; rw [hx] at hy; cases hy; exact hne
        · exact HNO.out m y (by omega) hy
      have HNX := Lib.hid hnext
      obtain ⟨x0, x1, x2⟩ := x
      clear hx hkl k2 hnext
      by_cases e0 : x0 = t
      · by_cases e1 : x1 = j
        · have hix : ixS t j sv = some k := ixS_hit HNO.out ⟨_, HX.out, e0, e1⟩
          have b0 : (x0 == t) = true := by simp [e0]
          have b1 : (x1 == j) = true := by simp [e1]
          have HIX := Lib.hid hix
          clear e0 e1 hix
          go_wp2
          go_ret
          exact ⟨by rw [HIX.out]; first | rfl | simp [ixV], rfl⟩
        · have b0 : (x0 == t) = true := by simp [e0]
          have b1 : (x1 == j) = false := by simp [e1]
          have HE := Lib.hid (show ¬ (x0 = t ∧ x1 = j) from fun h => e1 h.2)
          clear e0 e1
          go_wp2
          go_roundw
          case rel => exact ⟨k + 1, by go_num, by omega, HNX.out HE.out, by first | rfl | trivial⟩
          case measure => simp [intOf]; omega
      · have b0 : (x0 == t) = false := by simp [e0]
        have HE := Lib.hid (show ¬ (x0 = t ∧ x1 = j) from fun h => e0 h.1)
        clear e0
        go_wp2
        go_roundw
        case rel => exact ⟨k + 1, by go_num, by omega, HNX.out HE.out, by first | rfl | trivial⟩
        case measure => simp [intOf]; omega
    · have hix : ixS t j sv = none := ixS_miss fun x hx => by
        obtain ⟨m, hm⟩ := List.getElem?_of_mem hx
        have := (List.getElem?_eq_some_iff.1 hm).1
        exact HNO.out m x (by have := HN.out; omega) hm
      have HIX := Lib.hid hix
      clear hix
      go_wp2
      go_ret
      exact ⟨by rw [HIX.out]; first | rfl | simp [ixV], rfl⟩
end Go.Proofs.Ytodenkamlbihnaa
