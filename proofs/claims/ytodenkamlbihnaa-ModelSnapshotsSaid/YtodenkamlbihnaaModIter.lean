/-
  What Snapshots of a model answers: the timestamps of the open snapshots, sorted; maps.Values, slices.AppendSeq, slices.Collect and slices.Sorted as far as it calls them. Condition: at most 12 open snapshots.
-/
import Derived.Test.YtodenkamlbihnaaModSnap
import Derived.Test.YtodenkamlbihnaaModSrt
import Derived.RangeFuncBox
import Derived.RangeFuncLeaves
import Derived.RangeFuncStops
import Derived.RangeFuncWrites
import Derived.Shelf.Abstract
import Derived.OwnWalkIn
import Derived.TacticsInMore
import Derived.RegionIn
import Derived.LoopNIn
import Derived.LoopIn
import Derived.Maps.AppendAt
import Derived.Maps.OwnIn
import Derived.Sort.MapsRangeIn
namespace Go.Proofs.Ytodenkamlbihnaa
open Go.RowKit Go.Deep Plain PlainE Go.Shelf
set_option linter.unusedVariables false
attribute [local go_sem] Oper.semAt_some

/-- These are the timestamps of all open snapshots, in some order: each name once. -/
def AllV (sn : Lit → Option Nat) (xs : List Nat) : Prop := ∃ ks : List Lit, ks.Nodup ∧ (∀ kl, kl ∈ ks ↔ (sn kl).isSome = true) ∧ ks.map sn = xs.map some

set_option maxRecDepth 100000 in
set_option maxHeartbeats 1000000 in
theorem vals1_in (F : Fence) (n : Nat) (h8 : F.fn 45) (hro : F.round = none) (hn : 1 ≤ n) (l Bm b nn : Nat) (D0 : DataW Value) (sn : Lit → Option Nat)
    (hhas : ∀ kl, Maps.has D0 kl = (sn kl).isSome) (hval : ∀ kl x, sn kl = some x → ∀ z, D0.atKey kl z = .lit (.int .u64 (x : Int))) (J Jx : List Nat → World → Prop)
    (hY : ∀ (pre : List Nat) (x : Nat) (W : World), J pre W → pre.length < Maps.size D0 → YieldAt F (n - 1) Try.prog l #[.int .u64 (x : Int)] W fun e W' =>
      (e = .returned (.bool true) ∧ J (pre ++ [x]) W' ∧ KeepsWalks W W') ∨ (e = .returned (.bool false) ∧ Jx (pre ++ [x]) W'))
    (W : World) (hJ : AbidesFrom W.heap.size J) (hm : W.cell? ⟨Bm, 0, none⟩ = some (.map (some b))) (hown : W.ownsMap Try.prog 67 (plainElem Try.prog 23) b nn D0) (h0 : J [] W) :
    CallsIn F n Try.prog 45 #[.func (.yield l) #[] #[], .pointer (some ⟨Bm, 0, none⟩)] W fun e W' => (∃ v, e = .returned v) ∧
      ((∃ xs, AllV sn xs ∧ J xs W') ∨ (∃ pre, True ∧ Jx pre W')) := by
  refine callsIn_of_wp Try.func45 rfl h8 ?_ hro
  simp only [Try.ntmps45, List.size_toArray, List.length_cons, List.length_nil, Nat.reduceAdd, Nat.reduceSub, Array.replicate_succ, Array.replicate_zero, List.push_toArray, List.append_toArray, List.nil_append, List.cons_append]
  gi_wp2_with (first
    | (gi_at_range; refine wpListIn_range_own _ rfl _ 63 rfl 67 23 keyedP Try.underlying63 _ b nn _ rfl hown ?_; intro w0 hrg0 hg0 hs0)
    | gi_in)
  go_frame
  gi_loopw [4] (fun _ wr => ∃ (left : Lit → Bool) (cnt : Nat) (ks : List Lit) (xs : List Nat), wr.ranges Try.prog 67 (plainElem Try.prog 23) b W.heap.size nn D0 left cnt ∧ xs.length + cnt ≤ Maps.size D0 ∧ ks.Nodup ∧ (∀ kl, kl ∈ ks ↔ (Maps.has D0 kl = true ∧ left kl = false)) ∧ ks.map sn = xs.map some ∧ J xs wr)
    (fun _ wr => wr.rangeLeft b W.heap.size)
  case atStart =>
    exact ⟨_, _, [], [], hrg0, by simp, List.nodup_nil, fun kl => by cases Maps.has D0 kl <;> simp, rfl, hJ [] W w0 none h0 hg0 (fun r e => by cases e)⟩
  case round =>
    obtain ⟨left, cnt, ks, xs, hrg, hcs, hnd, hmem, hmap, hJs⟩ := hrel
    gi_wp2_with (first
      | (gi_at_next; refine wpListIn_next_ranges _ rfl _ rfl 67 keyedP (plainElem Try.prog 23) (fun v : Value => v) (fun c : Nat => Value.int .u64 (c : Int)) (fun key kl _ => ⟨key, rfl⟩) ?_ b W.heap.size nn _ _ _ rfl hrg ?_ ?_)
      | gi_in)
    · intro v y hv
      obtain ⟨a, rfl, _, hw⟩ := plainElem_int_inv Try.underlying23 hv
      have : 0 ≤ a := by
        simp [Lit.wf, IntKind.min, IntKind.max, IntKind.signed, IntKind.bits] at hw
        omega
      exact ⟨a.toNat, by rw [Int.toNat_of_nonneg this]⟩
    · intro hc0 hl0
      gi_wp2
      go_end0
      exact ⟨⟨_, rfl⟩, .inl ⟨xs, ⟨ks, hnd, fun kl => by rw [hmem kl, hl0, hhas]; simp, hmap⟩, hJs⟩⟩
    · intro key c kl yd yp w2 cnt2 hkey hlk hv hat hrg2 hlt hg2 hs2 hen
      have hh : Maps.has D0 kl = true := Maps.has_true_of_atKey hat
      have hsn : sn kl = some c := by
        have h1 := (hhas kl).symm
        rw [hh] at h1
        cases hs : sn kl with
        | none => rw [hs] at h1; cases h1
        | some d =>
          have h2 := (hat .nil).symm.trans (hval kl d hs .nil)
          obtain ⟨a, ha, hya, _⟩ := plainElem_int_inv Try.underlying23 hv
          have h2 := (Prod.mk.inj hya).1.symm.trans h2
          have e1 : a = (c : Int) := by cases ha; rfl
          rw [e1] at h2
          have e3 : (c : Int) = (d : Int) := (Lit.int.inj (DataW.lit.inj h2)).2
          rw [Int.ofNat_inj.1 e3]
      have hkk := keyedP.key hkey
      have hJ2 : J xs w2 := hJ _ wr w2 (some W.heap.size) hJs hg2 (fun r e => by cases e; exact ⟨Nat.le_refl _, hrg.iter_walk⟩)
      obtain ⟨fn, tmps, assign, body, hy, hR⟩ := hY xs c w2 hJ2 (by omega)
      have hnew : kl ∉ ks := fun hx => by have := ((hmem kl).1 hx).2; rw [hlk] at this; cases this
      have hnd2 : (ks ++ [kl]).Nodup := List.nodup_append.2 ⟨hnd, by simp, fun a ha b hb => by simp at hb; subst hb; exact fun e => hnew (e ▸ ha)⟩
      have hmem2 : ∀ z, z ∈ ks ++ [kl] ↔ (Maps.has D0 z = true ∧ (left z && !z.sameKey kl) = false) := fun z => by
        by_cases e : z = kl
        · subst e; simp [hh, WideAt.sameKey_self hkk]
        · rw [List.mem_append, hmem z, Maps.sameKey_ne e]; simp [e]
      have hmap2 : (ks ++ [kl]).map sn = (xs ++ [c]).map some := by rw [List.map_append, List.map_append, hmap]; simp [hsn]
      clear hs2 hkk hkey hv hat
      gi_wp2
      refine hR.mono ?_
      rintro e W3 (⟨rfl, hJ3, hk3⟩ | ⟨rfl, hJx3⟩)
      · gi_wp2
        have hrg3 := hrg2.of_walks hk3
        go_roundw
        case rel => exact ⟨_, cnt2, ks ++ [kl], xs ++ [c], hrg3, by simp; omega, hnd2, hmem2, hmap2, hJ3⟩
        case measure => rw [hrg3.left_eq, hrg.left_eq]; exact hlt
      · gi_wp2
        refine bodyPost_ret (results_none rfl _ _ _) rfl ?_
        exact ⟨⟨_, rfl⟩, .inr ⟨xs ++ [c], trivial, hJx3⟩⟩

theorem vals_stops (F : Fence) (n : Nat) (h8 : F.fn 45) (hro : F.round = none) (hn : 1 ≤ n) (Bm b nn : Nat) (D0 : DataW Value) (sn : Lit → Option Nat)
    (hhas : ∀ kl, Maps.has D0 kl = (sn kl).isSome) (hval : ∀ kl x, sn kl = some x → ∀ z, D0.atKey kl z = .lit (.int .u64 (x : Int))) (w : World) (hBm : Bm < w.heap.size) (hm : w.cell? ⟨Bm, 0, none⟩ = some (.map (some b)))
    (hown : w.ownsMap Try.prog 67 (plainElem Try.prog 23) b nn D0) :
    SeqStops F n Try.prog 45 #[.pointer (some ⟨Bm, 0, none⟩)] (fun c : Nat => Value.int .u64 (c : Int)) (AllV sn) (fun _ => True) (Maps.size D0) w := fun l J Jx W hW hJ _ hY h0 =>
  vals1_in F n h8 hro hn l Bm b nn D0 sn hhas hval J Jx hY W hJ ((hW.cell (p := ⟨Bm, 0, none⟩) hBm).trans hm) (map_of hown (hW.block b hown.lt)) h0

set_option maxRecDepth 100000 in
set_option maxHeartbeats 2000000 in
theorem appendSeq_in (F : Fence) (n : Nat) (h5 : F.fn 58) (h8 : F.fn 45) (hro : F.round = none) (hn : 3 ≤ n) (Bm b nn : Nat) (D0 : DataW Value) (sn : Lit → Option Nat)
    (hhas : ∀ kl, Maps.has D0 kl = (sn kl).isSome) (hval : ∀ kl x, sn kl = some x → ∀ z, D0.atKey kl z = .lit (.int .u64 (x : Int))) (w : World) (hBm : Bm < w.heap.size) (hm : w.cell? ⟨Bm, 0, none⟩ = some (.map (some b)))
    (hown : w.ownsMap Try.prog 67 (plainElem Try.prog 23) b nn D0) (hsz : Maps.size D0 ≤ 1000000) :
    CallsIn F n Try.prog 58 #[.slice none 0 0, .func (.func 45) #[] #[.pointer (some ⟨Bm, 0, none⟩)]] w fun e W' => ∃ v xs, e = .returned v ∧ AllV sn xs ∧ W'.ownsRow w.heap.size 23 1 v xs.length (words xs) ∧ Below w.heap.size w W' := by
  have h1 : 1 ≤ n := by omega
  obtain ⟨i0, hi, hz0, hz1, hz2⟩ := info_parts Try.info23
  refine callsIn_of_wp_marks Try.func58 rfl h5 ?_ hro
  simp only [Try.ntmps58, List.size_toArray, List.length_cons, List.length_nil, Nat.reduceAdd, Nat.reduceSub, Array.replicate_succ, Array.replicate_zero, List.push_toArray, List.append_toArray, List.nil_append, List.cons_append]
  gi_wp2
  have bO := Boxed.new w 49 (.slice none 0 0)
  have hB0 : Below w.heap.size w (w.alloc (.cells #[.slice none 0 0] 49)) := (Below.refl _ w).alloc (Nat.le_refl _) _
  refine wpIn_rangeFunc_ownG hro h1 (gf := 45) (lb := #[.pointer (some ⟨Bm, 0, none⟩)]) rfl h8 (enters_of Try.func45 (by kernel_rfl) rfl)
    (vals_stops F (n - 1) h8 hro (by omega) Bm b nn D0 sn hhas hval _ (Nat.lt_of_lt_of_le hBm hB0.size) ((hB0.cell (p := ⟨Bm, 0, none⟩) hBm).trans hm) (map_of hown (hB0.block b hown.lt))) walksK_t walksK_b (Below.refl _ _) (fun _ => rfl)
    (fun pre W => (∃ v, Boxed W w.heap.size 49 v ∧ W.ownsRow w.heap.size 23 1 v pre.length (words pre) ∧ True) ∧ Below w.heap.size w W)
    (fun _ _ _ => False)
    (OwnFrom.and (Own.from (holdsRow_own w.heap.size w.heap.size 49 23 1 (fun pre => List.length pre) (fun pre => words pre) (fun _ _ => True)) _) (ownFrom_below (Nat.le_refl _) (by simp)))
    (fun _ _ _ _ _ hs _ _ => hs)
    ⟨⟨_, bO, World.ownsRow_nil _ _ _ _, trivial⟩, hB0⟩
    (fun x => { tmps := #[.slice none 0 0, .func (.func 45) #[] #[.pointer (some ⟨Bm, 0, none⟩)], .pointer (some ⟨w.heap.size, 0, none⟩), undef, .slice none 0 0, .int .u64 (x : Int), .func (.func 45) #[] #[.pointer (some ⟨Bm, 0, none⟩)], .int .u64 (x : Int), undef, undef, undef, undef, undef], defers := [] }) ?assign ?body ?done ?stop
  case assign =>
    intro l x W K hK
    gi_wp2
    exact hK
  case body =>
    rintro l pre x W ⟨⟨v, hv, hrow, _⟩, hB⟩ hlt
    have hc := hv.cell
    have hws : words (pre ++ [x]) = words pre ++ [.int .u64 (x : Int)] := by unfold words; rw [List.map_append]; rfl
    gi_wp2_with (gi_at_builtin; refine wpListIn_append_own _ rfl _ _ 49 rfl w.heap.size 23 i0 (.int .u64 0) 1 8 Try.underlying49 hi hz0 hz1 hz2 rfl (by decide) _ _ _ rfl (hrow.alloc _) ⟨W.heap.size, 0, none⟩ 1 1 [.int .u64 (x : Int)] rfl rfl (cell_one_new _ _ _) (by simp [Value.oneCell']) (by unfold maxLen; omega) (by omega) (by have := hB.size; simp; omega) ?_; intro v' w1 hown' hgrow _; obtain ⟨g', cap', rfl⟩ := ownsRow_succ hown'; obtain ⟨hv1, hv2, hr2, hk2, hb2⟩ := hv.appended (by decide) hrow hB.size (Nat.le_refl _) hown' hgrow; have hc1 := hv1.cell; have hf1 := hv1.frozen)
    exact ⟨hk2.from _, hk2.walks, ⟨_, hv2, by rw [hws]; simpa using hr2, trivial⟩, hB.trans hb2⟩
  case done =>
    rintro D xs W hD hall ⟨⟨v, hv, hrow, _⟩, hB⟩ hK
    have hc := hv.cell
    gi_wp2
    refine ⟨by simp, .inl ⟨_, _, rfl, run_takeDeferred hK, ?_⟩⟩
    exact ⟨_, results_tmp rfl _ _ _, v, xs, rfl, hall, ownsRow_putObj hrow _ hK rfl, hB.trans (belowK_b (w := w) (Nat.le_refl _) W D _ _ (by simp at hD; omega) hK rfl rfl)⟩
  case stop =>
    rintro D c pre W _ _ h _
    exact h.elim

set_option maxHeartbeats 1000000 in
theorem collect_any (Bm b nn : Nat) (D0 : DataW Value) (sn : Lit → Option Nat)
    (hhas : ∀ kl, Maps.has D0 kl = (sn kl).isSome) (hval : ∀ kl x, sn kl = some x → ∀ z, D0.atKey kl z = .lit (.int .u64 (x : Int))) (w : World) (hBm : Bm < w.heap.size) (hm : w.cell? ⟨Bm, 0, none⟩ = some (.map (some b)))
    (hown : w.ownsMap Try.prog 67 (plainElem Try.prog 23) b nn D0) (hsz : Maps.size D0 ≤ 1000000) :
    Calls Try.prog 43 #[.func (.func 45) #[] #[.pointer (some ⟨Bm, 0, none⟩)]] w fun e W' => ∃ v xs, e = .returned v ∧ AllV sn xs ∧ W'.ownsRow w.heap.size 23 1 v xs.length (words xs) ∧ Below w.heap.size w W' := by
  have con := (callsIn_wide (n := 5)).1 (appendSeq_in Fence.wide 5 trivial trivial rfl (by omega) Bm b nn D0 sn hhas hval w hBm hm hown hsz)
  clear hhas hval hBm hm hown hsz
  go_enter Try.func43, Try.ntmps43
  go_wp2_with fail
  refine con.mono ?_; rintro e w1 ⟨v, xs, rfl, hA, hr, hB⟩
  have HA := Lib.hid hA
  have HR := Lib.hid hr
  have HB := Lib.hid hB
  clear con hA hr hB
  go_wp2
  go_ret
  exact ⟨v, xs, rfl, HA.out, HR.out, HB.out⟩

theorem own_frz {w : World} {base e size n c : Nat} {A : Option Addr} {xs : List Value} (h : w.ownsRow base e size (.slice A n c) n xs) : ∀ g off, A = some ⟨g, off, none⟩ → base ≤ g ∧ ∀ j, j < n → w.frozen? ⟨g, off + j, none⟩ = false := fun g off hA => by
  subst hA
  obtain ⟨h1, _, cur, hh⟩ := own_cells h rfl
  refine ⟨h1, fun j _ => ?_⟩
  unfold World.frozen?
  rw [hh]; simp

set_option maxHeartbeats 1000000 in
theorem sorted_any (Bm b nn : Nat) (D0 : DataW Value) (sn : Lit → Option Nat)
    (hhas : ∀ kl, Maps.has D0 kl = (sn kl).isSome) (hval : ∀ kl x, sn kl = some x → ∀ z, D0.atKey kl z = .lit (.int .u64 (x : Int))) (w : World) (hBm : Bm < w.heap.size) (hm : w.cell? ⟨Bm, 0, none⟩ = some (.map (some b)))
    (hown : w.ownsMap Try.prog 67 (plainElem Try.prog 23) b nn D0) (hsz : Maps.size D0 ≤ 1000000) (h12 : ∀ xs, AllV sn xs → xs.length ≤ 12) :
    Calls Try.prog 35 #[.func (.func 45) #[] #[.pointer (some ⟨Bm, 0, none⟩)]] w fun e W' => ∃ A r c xs, e = .returned (.slice A r c) ∧ AllV sn xs ∧ xs.length = r ∧ Rw W' A c (xs.mergeSort (fun x y => decide (x ≤ y))) ∧ Below w.heap.size w W' := by
  have con := collect_any Bm b nn D0 sn hhas hval w hBm hm hown hsz
  have H12 := Lib.hid h12
  clear hhas hval hBm hm hown hsz h12
  go_enter Try.func35, Try.ntmps35
  go_wp2_with fail
  refine con.mono ?_; rintro e w1 ⟨v, xs, rfl, hA, hr, hB⟩
  obtain ⟨A, c, rfl, hl, hR⟩ := Rw.own hr
  have hF := own_frz hr
  have h12 := H12.out xs hA
  obtain ⟨r, hrr⟩ : ∃ r, xs.length = r := ⟨_, rfl⟩
  rw [hrr] at hF h12
  have con2 := sort12_any A c xs w1 r w.heap.size hrr h12 hR hB.size hF
  have HA := Lib.hid hA
  have HB := Lib.hid hB
  have HL := Lib.hid hrr
  rw [hrr]
  clear con hA hr hB hl hR hF hrr
  go_wp2_with fail
  refine con2.mono ?_; rintro e w2 ⟨rfl, hR2, hB2⟩
  have HR := Lib.hid hR2
  have HB2 := Lib.hid (HB.out.trans hB2)
  clear con2 hR2 hB2
  go_wp2
  go_ret
  exact ⟨A, r, c, xs, rfl, HA.out, HL.out, HR.out, HB2.out⟩

set_option maxHeartbeats 1000000 in
theorem values_any (mb : Option Nat) (w : World) :
    Calls Try.prog 36 #[.map mb] w fun e w' => e = .returned (.func (.func 45) #[] #[.pointer (some ⟨w.heap.size, 0, none⟩)]) ∧ w' = w.alloc (.cells #[.map mb] 63) := by
  go_enter Try.func36, Try.ntmps36
  go_wp2
  go_ret
  exact ⟨rfl, rfl⟩

set_option maxHeartbeats 1000000 in
theorem snapshots_any {p B m : Nat} {Z : Nat → Prop} {bs : List (List Wri)} {fl : Nat} {sn : Lit → Option Nat} (w : World) (h : MdS w p B Z m bs fl sn) (hm : m ≤ 1000000) (h12 : ∀ xs, AllV sn xs → xs.length ≤ 12) :
    Calls Try.prog 24 #[.pointer (some ⟨p, 0, none⟩)] w fun e w' => ∃ A r c xs, e = .returned (.slice A r c) ∧ AllV sn xs ∧ xs.length = r ∧ Rw w' A c (xs.mergeSort (fun x y => decide (x ≤ y))) ∧ Below w.heap.size w w' := by
  obtain ⟨bc, bn, nc, nn, Dc, Dn, sl, ch, hp, hc, hs, h1, h2, h3, h4, h5, h6, h7, h8, hz⟩ := h
  have c3 := hp.cell (i := 3) rfl
  have hsz : Maps.size Dn ≤ 1000000 := by have := hs.own.size_le; omega
  have HS := Lib.hid hs
  have H12 := Lib.hid h12
  clear h1 h2 h3 h4 h5 h6 h7 h8 hz hc hs hp h12
  go_enter Try.func24, Try.ntmps24
  go_wp2_with fail
  refine (values_any (some bn) _).mono ?_; rintro e w1 ⟨rfl, hw1⟩
  have hb : Blk w1 w.heap.size 63 [.map (some bn)] := hw1 ▸ Blk.new w _ _
  have hB1 : Below w.heap.size w w1 := hw1 ▸ (Below.refl _ w).alloc (Nat.le_refl _) _
  have con := sorted_any w.heap.size bn nn Dn sn HS.out.has HS.out.val w1 hb.lt (hb.cell (i := 0) rfl) (map_of HS.out.own (hB1.block bn HS.out.own.lt)) hsz H12.out
  have HB1 := Lib.hid hB1
  have hs1 := hB1.size
  clear hb hB1 hw1 c3
  go_wp2_with fail
  refine con.mono ?_; rintro e w2 ⟨A, r, c, xs, rfl, hA, hl, hR, hB⟩
  have HA := Lib.hid hA
  have HL := Lib.hid hl
  have HR := Lib.hid hR
  have HB := Lib.hid (HB1.out.trans (hB.mono hs1))
  clear con hA hl hR hB
  go_wp2
  go_ret
  exact ⟨A, r, c, xs, rfl, HA.out, HL.out, HR.out, HB.out⟩
end Go.Proofs.Ytodenkamlbihnaa
