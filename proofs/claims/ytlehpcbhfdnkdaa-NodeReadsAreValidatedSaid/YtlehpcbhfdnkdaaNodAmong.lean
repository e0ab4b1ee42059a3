/-
  The law's among: true if one of the pages is the one that is looked for. Condition: at most 1000 slots each.
-/
import Derived.Test.YtlehpcbhfdnkdaaNodSame
namespace Go.Proofs.Ytlehpcbhfdnkdaa
open Go.RowKit Go.Deep Plain
set_option linter.unusedVariables false

/-- Pages in memory: a page, and where its slots lie. -/
structure Pv where
  p : Pg
  A : Option Addr
  c : Nat
def pvc (x : Pv) : List Value := [.int .i64 (x.p.lv : Int), .slice x.A x.p.xs.length x.c, .string x.p.hi, .bool x.p.la, .int .u64 (x.p.rt : Int)]
def flatP : List Pv → List Value
  | [] => []
  | x :: r => pvc x ++ flatP r
theorem flatP_length : ∀ l : List Pv, (flatP l).length = l.length * 5
  | [] => rfl
  | x :: r => by simp [flatP, pvc, flatP_length r]; omega
theorem flatP_append : ∀ a b : List Pv, flatP (a ++ b) = flatP a ++ flatP b
  | [], _ => rfl
  | x :: r, b => by simp [flatP, flatP_append r b]
theorem flatP_at : ∀ (l : List Pv) (i k : Nat) (x : Pv), k < 5 → l[i]? = some x → (flatP l)[i * 5 + k]? = (pvc x)[k]?
  | [], i, k, x, _, h => by simp at h
  | y :: r, 0, k, x, hk, h => by
    simp at h; subst h
    have hl : (pvc y).length = 5 := rfl
    rw [Nat.zero_mul, Nat.zero_add, flatP, List.getElem?_append_left (by omega)]
  | y :: r, i + 1, k, x, hk, h => by
    have := flatP_at r i k x hk (by simpa using h)
    have hl : (pvc y).length = 5 := rfl
    rw [flatP, List.getElem?_append_right (by omega), show (i + 1) * 5 + k - (pvc y).length = i * 5 + k by omega]
    exact this
theorem flatP_one : ∀ (l : List Pv), ∀ u ∈ flatP l, u.oneCell' = true
  | [], u, h => by simp [flatP] at h
  | x :: r, u, h => by
    rcases List.mem_append.1 h with h | h
    · simp [pvc] at h; rcases h with rfl | rfl | rfl | rfl | rfl <;> rfl
    · exact flatP_one r u h
/-- The cells of a list of pages from an address on. -/
def Pcs (w : World) (g off : Nat) (l : List Pv) : Prop := ∀ (i k : Nat) (x : Pv) (u : Value), l[i]? = some x → (pvc x)[k]? = some u → w.cell? ⟨g, off + (i * 5 + k), none⟩ = some u

set_option maxHeartbeats 2000000 in
theorem among_yes (l : List Pv) (g off n cl : Nat) (Q : Pg) (AQ : Option Addr) (cQ : Nat) (w : World) (hn : l.length = n) (hnb : n ≤ 1000) (hg : g < w.heap.size) (hL : Pcs w g off l) (hR : ∀ (i : Nat) (x : Pv), l[i]? = some x → Rs w x.A x.c x.p.xs) (hln : ∀ (i : Nat) (x : Pv), l[i]? = some x → x.p.xs.length ≤ 1000) (hQ : Rs w AQ cQ Q.xs) (hin : ∃ (i : Nat) (x : Pv), l[i]? = some x ∧ x.p = Q) :
    Calls Try.prog 34 #[.slice (some ⟨g, off, none⟩) n cl, .agg #[.int .i64 (Q.lv : Int), .slice AQ Q.xs.length cQ, .string Q.hi, .bool Q.la, .int .u64 (Q.rt : Int)]] w fun e w' => e = .returned (.bool true) ∧ Kept (fun _ => False) w w' := by
  have HQ := Lib.hid hQ
  have HL := Lib.hid hL
  have HG := Lib.hid hg
  have HR := Lib.hid hR
  obtain ⟨P0, B0, Z0⟩ := box_one w [.int .i64 (Q.lv : Int), .slice AQ Q.xs.length cQ, .string Q.hi, .bool Q.la, .int .u64 (Q.rt : Int)] 25
  have HP := Lib.hid P0
  have HB := Lib.hid B0
  have HIN := Lib.hid hin
  have HLN := Lib.hid hln
  clear hln hQ hL hR P0 B0 Z0 hin hg
  go_enter Try.func34, Try.ntmps34
  go_wp2_with fail
  generalize w.alloc (.cells #[.int .i64 (Q.lv : Int), .slice AQ Q.xs.length cQ, .string Q.hi, .bool Q.la, .int .u64 (Q.rt : Int)] 25) = W at *
  go_loopw [5] (fun i wr => ∃ j : Nat, j ≤ n ∧ i = .int .i64 j ∧ (∀ i x, i < j → l[i]? = some x → x.p ≠ Q) ∧ Below W.heap.size W wr) (fun i _ => n - (intOf i).toNat)
  case atStart => exact ⟨0, by omega, rfl, fun i x h => by omega, Below.refl _ _⟩
  case round =>
    obtain ⟨j, hj, rfl, hno, hB⟩ := hrel
    rename World => wr
    have HNO := Lib.hid hno
    have HB2 := Lib.hid hB
    have HK := Lib.hid (HB.out.trans (hB.mono HB.out.size))
    have HPr := Lib.hid (HP.out.below hB HP.out.lt)
    clear hno hB
    have hlt : j < n := by
      rcases Nat.lt_or_ge j n with h | h
      · exact h
      · obtain ⟨i, x, hx, e⟩ := HIN.out
        exact absurd e (HNO.out i x (by have := (List.getElem?_eq_some_iff.1 hx).1; omega) hx)
    obtain ⟨x, hx⟩ : ∃ x, l[j]? = some x := ⟨_, List.getElem?_eq_getElem (by omega)⟩
    have hRx := (HR.out j x hx).below HK.out (Nat.le_refl _)
    have hc : ∀ (k : Nat) (u : Value), (pvc x)[k]? = some u → wr.cell? ⟨g, off + (j * 5 + k), none⟩ = some u := fun k u hu => (HK.out.cell (p := ⟨g, off + (j * 5 + k), none⟩) HG.out).trans (HL.out j k x u hx hu)
    have c0 : wr.cell? ⟨g, off + j * 5, none⟩ = some (.int .i64 (x.p.lv : Int)) := hc 0 _ rfl
    have c1 : wr.cell? ⟨g, off + j * 5 + 1, none⟩ = some (.slice x.A x.p.xs.length x.c) := hc 1 _ rfl
    have c2 : wr.cell? ⟨g, off + j * 5 + 2, none⟩ = some (.string x.p.hi) := hc 2 _ rfl
    have c3 : wr.cell? ⟨g, off + j * 5 + 3, none⟩ = some (.bool x.p.la) := hc 3 _ rfl
    have c4 : wr.cell? ⟨g, off + j * 5 + 4, none⟩ = some (.int .u64 (x.p.rt : Int)) := hc 4 _ rfl
    have HRX := Lib.hid hRx
    have HX := Lib.hid hx
    have hjn : (j : Int) < (n : Int) := by omega
    have hgw : g < wr.heap.size := Nat.lt_of_lt_of_le HG.out HK.out.size
    clear hRx hc hx
    go_upto_region 4 with fail
    refine wp_region_held_drew (S := (fun w' => Blk w' w.heap.size 25 [.int .i64 (Q.lv : Int), .slice AQ Q.xs.length cQ, .string Q.hi, .bool Q.la, .int .u64 (Q.rt : Int)] ∧ w'.cell? ⟨g, off + j * 5, none⟩ = some (.int .i64 (x.p.lv : Int)) ∧ w'.cell? ⟨g, off + j * 5 + 1, none⟩ = some (.slice x.A x.p.xs.length x.c) ∧ w'.cell? ⟨g, off + j * 5 + 2, none⟩ = some (.string x.p.hi) ∧ w'.cell? ⟨g, off + j * 5 + 3, none⟩ = some (.bool x.p.la) ∧ w'.cell? ⟨g, off + j * 5 + 4, none⟩ = some (.int .u64 (x.p.rt : Int)))) (by kernel_rfl) ?_ (fun hHeld => ?_)
    · exact ⟨HPr.out, c0, c1, c2, c3, c4⟩
    refine wpAnyH_take (i := 0) (oi := ⟨some 12, _, _, _, _, _⟩) (v := ?_) rfl (by kernel_rfl) (by kernel_rfl) (by kernel_rfl) (fun _ _ _ h => h) (Or.inl ⟨by rfl, ?_⟩) hHeld ?_
    rotate_left
    · (intro wq hSw; go_simp; try with_reducible rfl)
    try simp only [Act.put, List.setIfInBounds_toArray, List.set_cons_zero, List.set_cons_succ]
    refine wpAnyH_take (i := 1) (oi := ⟨some 13, _, _, _, _, _⟩) (v := ?_) rfl (by kernel_rfl) (by kernel_rfl) (by kernel_rfl) (fun _ _ _ h => h) (Or.inl ⟨by rfl, ?_⟩) hHeld ?_
    rotate_left
    · (intro wq hSw; go_simp; try with_reducible rfl)
    try simp only [Act.put, List.setIfInBounds_toArray, List.set_cons_zero, List.set_cons_succ]
    refine wpAnyH_take (i := 2) (oi := ⟨some 14, _, _, _, _, _⟩) (v := .pointer (some ⟨g, off + j * 5, none⟩)) rfl (by kernel_rfl) (by kernel_rfl) (by kernel_rfl) (fun _ _ _ h => h) (Or.inl ⟨by rfl, ?_⟩) hHeld ?_
    · (intro wq hSw; go_simp; try first | (with_reducible rfl) | (simp; omega) | (intros; omega) | simp [*])
    try simp only [Act.put, List.setIfInBounds_toArray, List.set_cons_zero, List.set_cons_succ]
    refine wpAnyH_take (i := 3) (oi := ⟨some 15, _, _, _, _, _⟩) (v := ?_) rfl (by kernel_rfl) (by kernel_rfl) (by kernel_rfl) (fun _ _ _ h => h) (Or.inl ⟨by rfl, ?_⟩) hHeld ?_
    rotate_left
    · (intro wq hSw; obtain ⟨hb9, d0, d1, d2, d3, d4⟩ := hSw; have x0 := hb9.cell (i := 0) rfl; have x1 := hb9.cell (i := 1) rfl; have x2 := hb9.cell (i := 2) rfl; have x3 := hb9.cell (i := 3) rfl; have x4 := hb9.cell (i := 4) rfl; clear hb9; go_simp; try with_reducible rfl)
    try simp only [Act.put, List.setIfInBounds_toArray, List.set_cons_zero, List.set_cons_succ]
    refine wpAnyH_take (i := 4) (oi := ⟨some 16, _, _, _, _, _⟩) (v := ?_) rfl (by kernel_rfl) (by kernel_rfl) (by kernel_rfl) (fun _ _ _ h => h) (Or.inl ⟨by rfl, ?_⟩) hHeld ?_
    rotate_left
    · (intro wq hSw; obtain ⟨hb9, d0, d1, d2, d3, d4⟩ := hSw; have x0 := hb9.cell (i := 0) rfl; have x1 := hb9.cell (i := 1) rfl; have x2 := hb9.cell (i := 2) rfl; have x3 := hb9.cell (i := 3) rfl; have x4 := hb9.cell (i := 4) rfl; clear hb9; go_simp; try with_reducible rfl)
    try simp only [Act.put, List.setIfInBounds_toArray, List.set_cons_zero, List.set_cons_succ]
    refine wpAnyH_ready (rs := [5]) (by kernel_rfl) (by simp) ?_
    refine AllReadyH.cons (o := ⟨some 17, _, _, _, _, _⟩) rfl (fun KK hK => ?_) AllReadyH.nil
    go_simp
    go_at_call 14
    refine (refSame_ex x.p Q x.A AQ x.c cQ _ (by have := HLN.out j x HX.out; omega) (HRX.out.keptF ((Kept.refl (fun _ => False) wr).drew) (fun _ _ h => h)) (HQ.out.below (HK.out.trans ((Below.refl wr.heap.size wr).drew.mono HK.out.size)) (Nat.le_refl _))).mono ?_; rintro e w5 ⟨bb, rfl, hK5, hbb⟩
    have hk5 := ((Kept.refl (fun _ => False) wr).drew).trans hK5 (fun _ _ h => h)
    replace HPr := Lib.hid (hk5.blk HPr.out (fun h => h))
    replace c0 := (hk5.cell (p := ⟨g, off + j * 5, none⟩) hgw (fun h => h)).trans c0
    replace c1 := (hk5.cell (p := ⟨g, off + j * 5 + 1, none⟩) hgw (fun h => h)).trans c1
    replace c2 := (hk5.cell (p := ⟨g, off + j * 5 + 2, none⟩) hgw (fun h => h)).trans c2
    replace c3 := (hk5.cell (p := ⟨g, off + j * 5 + 3, none⟩) hgw (fun h => h)).trans c3
    replace c4 := (hk5.cell (p := ⟨g, off + j * 5 + 4, none⟩) hgw (fun h => h)).trans c4
    have HK5 := Lib.hid hk5
    have HBB := Lib.hid hbb
    clear hK5 hk5 hbb
    refine hK.out _ _ ?_ (fun hHeld2 => ?_)
    · exact ⟨HPr.out, c0, c1, c2, c3, c4⟩
    clear hK KK hHeld
    have hHeld := hHeld2
    clear hHeld2
    try simp only [Act.put, List.setIfInBounds_toArray, List.set_cons_zero, List.set_cons_succ]
    refine wpAnyH_done (by kernel_rfl) ?_ _
    clear hHeld
    cases bb
    · have hne : x.p ≠ Q := fun e => by have := HBB.out e; cases this
      have HNE := Lib.hid hne
      clear hne c0 c1 c2 c3 c4
      go_wp2
      go_roundw
      case rel => exact ⟨j + 1, by omega, by go_num, fun i y hi hy => by
        rcases (by omega : i < j ∨ i = j) with h | h
        · exact HNO.out i y h hy
        · subst h; rw [HX.out] at hy; cases hy; exact HNE.out, HB2.out.trans ((HK5.out.below (Nat.le_refl _) (fun _ h => h.elim)).mono HB2.out.size)⟩
      case measure => simp [intOf]; omega
    · go_wp2
      go_ret
      exact ⟨rfl, HK.out.kept0.trans HK5.out (fun _ _ h => h)⟩

end Go.Proofs.Ytlehpcbhfdnkdaa
