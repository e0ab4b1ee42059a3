/-
  What the statements' own 'valid' makes of any page: a page in order whose references and ends are allowed, in a row of its own. Condition: rows and strings within the model's reach.
-/
import Derived.Test.YtegbdpelnmaijaaPagSort
import Derived.Test.YtegbdpelnmaijaaPagChk
import Derived.Test.YtegbdpelnmaijaaPagSame
import Derived.Deep.RegionHeld3
import Derived.StillTailTactics
import Derived.Deep.AppendLies
import Derived.Deep.DeepCutAuto
import Derived.Deep.CutBlock
namespace Go.Proofs.Ytegbdpelnmaijaa
open Go.RowKit Go.Deep Plain
set_option linter.unusedVariables false

/-- The page that 'valid' makes. -/
def vSlots (xs : List Sl) : List Sl := if (sorted (xs.take 40)).length = 0 then [(⟨#[]⟩, 1)] else (sorted (xs.take 40)).map fix
/-- References made valid as far as place j. -/
def fixTo (l : List Sl) (j : Nat) : List Sl := (l.take j).map fix ++ l.drop j
theorem fixTo_zero (l : List Sl) : fixTo l 0 = l := by simp [fixTo]
theorem fixTo_end (l : List Sl) : fixTo l l.length = l.map fix := by simp [fixTo]
theorem fixTo_length (l : List Sl) (j : Nat) (h : j ≤ l.length) : (fixTo l j).length = l.length := by simp [fixTo]; omega
theorem fixTo_at {l : List Sl} {j : Nat} {x : Sl} (h : l[j]? = some x) : (fixTo l j)[j]? = some x := by
  obtain ⟨hj, rfl⟩ := List.getElem?_eq_some_iff.1 h
  unfold fixTo; rw [List.getElem?_append_right (by simp; omega)]
  have e1 : ((l.take j).map fix).length = j := by simp; omega
  rw [e1, Nat.sub_self]; simp
theorem fixTo_step {l : List Sl} {j : Nat} {x : Sl} (h : l[j]? = some x) : (fixTo l j).set j (x.1, x.2 % 1000 + 1) = fixTo l (j + 1) := by
  obtain ⟨hj, rfl⟩ := List.getElem?_eq_some_iff.1 h
  unfold fixTo
  have e1 : ((l.take j).map fix).length = j := by simp; omega
  rw [List.set_append_right _ _ (by omega), e1, Nat.sub_self, List.drop_eq_getElem_cons hj, List.set_cons_zero, List.take_succ_eq_append_getElem hj, List.map_append, List.append_assoc]
  rfl

/-- What is known of the page that 'valid' makes. -/
structure Val (ys : List Sl) (l4 : Nat) (hi : ByteArray) (la : Bool) (rt : Nat) : Prop where
  asc : AscI ys
  ref : RefI ys
  ends : EndI ys hi la rt
  pos : 0 < ys.length
  small : ys.length ≤ 40
  lev : l4 < 4
  keys : ∀ y ∈ ys, y.1.size < maxLen

theorem lt_app : ∀ (x : List UInt8) (b : UInt8) (r : List UInt8), ltB x (x ++ b :: r) = true
  | [], _, _ => rfl
  | a :: x, b, r => by rw [List.cons_append, ltB_cons_iff]; exact .inr ⟨rfl, lt_app x b r⟩
theorem app_toList (a b : ByteArray) : (a ++ b).toList = a.toList ++ b.toList := by
  rw [Lib.toList_data, Lib.toList_data, Lib.toList_data, ByteArray.data_append, Array.toList_append]
theorem lt_one (x : Sl) : lt x (x.1 ++ ⟨#[1]⟩) = true := by
  unfold lt; rw [app_toList]
  have : (⟨#[1]⟩ : ByteArray).toList = [1] := by rw [Lib.toList_data]
  rw [this]; exact lt_app _ _ _
theorem fix_ref (l : List Sl) : RefI (l.map fix) := fun i x hx => by
  rw [List.getElem?_map] at hx
  cases h : l[i]? with
  | none => rw [h] at hx; cases hx
  | some y => rw [h] at hx; cases hx; exact Nat.succ_ne_zero _

theorem Rs.one_at2 (w : World) (k : ByteArray) (r b : Nat) (h : w.heap.size = b) : Rs (w.alloc (.cells #[.string k, .int .u64 (r : Int)] 32)) (some ⟨b, 0, none⟩) 1 [(k, r)] := by subst h; exact Rs.one w k r
theorem one_asc (x : Sl) : AscI [x] := fun i a b _ hb => by simp at hb
theorem one_ref (k : ByteArray) : RefI [(k, 1)] := fun i x hx => by
  cases i with
  | zero => simp at hx; subst hx; exact Nat.one_ne_zero
  | succ i => simp at hx
theorem one_end {x : Sl} {hi : ByteArray} (h : lt x hi = true) : ∀ y ∈ [x], lt y hi = true := fun y hy => by simp at hy; subst hy; exact h
theorem one_key : ∀ y ∈ [((⟨#[]⟩, 1) : Sl)], y.1.size < maxLen := fun y hy => by
  simp at hy; subst hy; unfold maxLen; exact Nat.lt_of_le_of_lt (Nat.zero_le 0) (by decide)
theorem lt_nil {hi : ByteArray} (h : hi ≠ ⟨#[]⟩) : lt ((⟨#[]⟩, 1) : Sl) hi = true := by
  have h2 := empty_list h
  unfold lt
  have e : (⟨#[]⟩ : ByteArray).toList = [] := by rw [Lib.toList_data]
  rw [e]
  cases hl : hi.toList with
  | nil => rw [hl] at h2; cases h2
  | cons a r => rfl

set_option maxRecDepth 100000 in
set_option maxHeartbeats 8000000 in
theorem valid_any (lv : Int) (A : Option Addr) (c : Nat) (hi : ByteArray) (la : Bool) (rt : Nat) (xs : List Sl) (w : World) (n : Nat) (hn : xs.length = n) (h47 : n ≤ maxLen) (hR : Rs w A c xs) (hks : ∀ x ∈ xs, x.1.size < maxLen) :
    Calls Try.prog 12 #[.agg #[.int .i64 lv, .slice A n c, .string hi, .bool la, .int .u64 (rt : Int)]] w fun e w' => ∃ (l4 : Nat) (A' : Option Addr) (m c' : Nat) (hi' : ByteArray) (rt' : Nat) (ys : List Sl), e = .returned (.agg #[.int .i64 (l4 : Int), .slice A' m c', .string hi', .bool la, .int .u64 (rt' : Int)]) ∧
      ys.length = m ∧ Rs w' A' c' ys ∧ Val ys l4 hi' la rt' ∧ Below w.heap.size w w' := by
  obtain ⟨P0, S0, B0, Z0⟩ := box_two w [.int .i64 lv, .slice A n c, .string hi, .bool la, .int .u64 (rt : Int)] [.int .i64 0, .slice none 0 0, .string ⟨#[]⟩, .bool false, .int .u64 0] 25 25
  have R0 := hR.below B0 (Nat.le_refl _)
  obtain ⟨ys0, hys0⟩ : ∃ ys0, sorted (xs.take 40) = ys0 := ⟨_, rfl⟩
  obtain ⟨m, hm⟩ : ∃ m, ys0.length = m := ⟨_, rfl⟩
  have hasc := sorted_asc (xs.take 40)
  have hlen := sorted_length (xs.take 40)
  rw [hys0] at hasc hlen
  rw [List.length_take, hm] at hlen
  have hkey : ∀ y ∈ ys0, y.1.size < maxLen := fun y hy => by rw [← hys0] at hy; exact hks y (List.mem_of_mem_take (sorted_mem hy))
  obtain ⟨l4, hl4⟩ : ∃ l4 : Nat, lv % 4 = (l4 : Int) := ⟨(lv % 4).toNat, by omega⟩
  have hl4' : l4 < 4 := by omega
  obtain ⟨q, hq⟩ : ∃ q : Nat, rt % 1000 + 1 = q := ⟨_, rfl⟩
  have hq0 : q ≠ 0 := by omega
  have hq1 : (rt : Int) % 1000 + 1 = (q : Int) := by omega
  have hq2 : (rt : Int).tmod 1000 + 1 = (q : Int) := by rw [Int.tmod_eq_emod_of_nonneg (by omega)]; omega
  have hq3 : IntKind.u64.wrap ((rt : Int) % 1000 + 1) = (q : Int) := by rw [hq1]; unfold IntKind.wrap; simp [IntKind.bits, IntKind.signed]; omega
  have HASC := Lib.hid hasc
  have HKEY := Lib.hid hkey
  have HL4 := Lib.hid hl4
  have HQ3 := Lib.hid hq3
  have hm40 : m ≤ 40 := by omega
  clear hasc hkey hl4 hlen hks hq
  go_enter Try.func12, Try.ntmps12
  go_wp2_with fail
  refine (sorted_any lv A c hi la rt xs _ n hn h47 R0 ys0 hys0 m hm).mono ?_; rintro e w1 ⟨A1, c1, rfl, hO1, hB1⟩
  rw [Z0] at hO1 hB1
  have hs1 := hB1.size
  rw [Z0] at hs1
  have P1 := P0.below hB1 (by omega)
  have S1 := S0.below hB1 (by omega)
  have B1 := B0.trans (hB1.mono (by omega))
  have x0 := P1.cell (i := 0) rfl
  have x1 := P1.cell (i := 1) rfl
  have x2 := P1.cell (i := 2) rfl
  have x3 := P1.cell (i := 3) rfl
  have x4 := P1.cell (i := 4) rfl
  have xf0 := P1.frozen 0
  have xf1 := P1.frozen 1
  have xf2 := P1.frozen 2
  have xf3 := P1.frozen 3
  have xf4 := P1.frozen 4
  have P2 : Blk ((((((w1.setCell ⟨w.heap.size, 0, none⟩ (.int .i64 lv)).setCell ⟨w.heap.size, 1, none⟩ (.slice A1 m c1)).setCell ⟨w.heap.size, 2, none⟩ (.string hi)).setCell ⟨w.heap.size, 3, none⟩ (.bool la)).setCell ⟨w.heap.size, 4, none⟩ (.int .u64 (rt : Int))).setCell ⟨w.heap.size, 0, none⟩ (.int .i64 (l4 : Int))) w.heap.size 25 [.int .i64 (l4 : Int), .slice A1 m c1, .string hi, .bool la, .int .u64 (rt : Int)] := ((((((P1.set 0 (.int .i64 lv)).set 1 (.slice A1 m c1)).set 2 (.string hi)).set 3 (.bool la)).set 4 (.int .u64 (rt : Int))).set 0 (.int .i64 (l4 : Int)))
  have S2 := ((((((S1.other (a := ⟨w.heap.size, 0, none⟩) (show w.heap.size + 1 ≠ w.heap.size by omega) (.int .i64 lv)).other (a := ⟨w.heap.size, 1, none⟩) (show w.heap.size + 1 ≠ w.heap.size by omega) (.slice A1 m c1)).other (a := ⟨w.heap.size, 2, none⟩) (show w.heap.size + 1 ≠ w.heap.size by omega) (.string hi)).other (a := ⟨w.heap.size, 3, none⟩) (show w.heap.size + 1 ≠ w.heap.size by omega) (.bool la)).other (a := ⟨w.heap.size, 4, none⟩) (show w.heap.size + 1 ≠ w.heap.size by omega) (.int .u64 (rt : Int))).other (a := ⟨w.heap.size, 0, none⟩) (show w.heap.size + 1 ≠ w.heap.size by omega) (.int .i64 (l4 : Int)))
  have O2 := (ownsRow_setCell_below (ownsRow_setCell_below (ownsRow_setCell_below (ownsRow_setCell_below (ownsRow_setCell_below (ownsRow_setCell_below hO1 (a := ⟨w.heap.size, 0, none⟩) (show w.heap.size < w.heap.size + 2 by omega) (.int .i64 lv)) (a := ⟨w.heap.size, 1, none⟩) (show w.heap.size < w.heap.size + 2 by omega) (.slice A1 m c1)) (a := ⟨w.heap.size, 2, none⟩) (show w.heap.size < w.heap.size + 2 by omega) (.string hi)) (a := ⟨w.heap.size, 3, none⟩) (show w.heap.size < w.heap.size + 2 by omega) (.bool la)) (a := ⟨w.heap.size, 4, none⟩) (show w.heap.size < w.heap.size + 2 by omega) (.int .u64 (rt : Int))) (a := ⟨w.heap.size, 0, none⟩) (show w.heap.size < w.heap.size + 2 by omega) (.int .i64 (l4 : Int)))
  have B2 := ((((((B1.setCell (p := ⟨w.heap.size, 0, none⟩) (Nat.le_refl _) (.int .i64 lv)).setCell (p := ⟨w.heap.size, 1, none⟩) (Nat.le_refl _) (.slice A1 m c1)).setCell (p := ⟨w.heap.size, 2, none⟩) (Nat.le_refl _) (.string hi)).setCell (p := ⟨w.heap.size, 3, none⟩) (Nat.le_refl _) (.bool la)).setCell (p := ⟨w.heap.size, 4, none⟩) (Nat.le_refl _) (.int .u64 (rt : Int))).setCell (p := ⟨w.heap.size, 0, none⟩) (Nat.le_refl _) (.int .i64 (l4 : Int)))
  have hz2 : ((((((w1.setCell ⟨w.heap.size, 0, none⟩ (.int .i64 lv)).setCell ⟨w.heap.size, 1, none⟩ (.slice A1 m c1)).setCell ⟨w.heap.size, 2, none⟩ (.string hi)).setCell ⟨w.heap.size, 3, none⟩ (.bool la)).setCell ⟨w.heap.size, 4, none⟩ (.int .u64 (rt : Int))).setCell ⟨w.heap.size, 0, none⟩ (.int .i64 (l4 : Int))).heap.size = w1.heap.size := by simp [World.setCell]
  have HZ2 := Lib.hid hz2
  have HO2 := Lib.hid O2
  have HP2 := Lib.hid P2
  have HS2 := Lib.hid S2
  have HB2 := Lib.hid B2
  clear hR R0 P0 S0 B0 Z0 hO1 hB1 P1 S1 B1 hys0 P2 S2 O2 B2 hz2
  go_wp2_with fail
  refine (mod_any lv 4 l4 _ (by omega) (by omega) HL4.out).mono ?_; rintro e w2 ⟨rfl, rfl⟩
  go_wp2_with fail
  generalize ((((((w1.setCell ⟨w.heap.size, 0, none⟩ (.int .i64 lv)).setCell ⟨w.heap.size, 1, none⟩ (.slice A1 m c1)).setCell ⟨w.heap.size, 2, none⟩ (.string hi)).setCell ⟨w.heap.size, 3, none⟩ (.bool la)).setCell ⟨w.heap.size, 4, none⟩ (.int .u64 (rt : Int))).setCell ⟨w.heap.size, 0, none⟩ (.int .i64 (l4 : Int))) = W2 at *
  have hs2 : w.heap.size + 2 ≤ W2.heap.size := by have := HZ2.out; omega
  clear HZ2 HL4 x0 x1 x2 x3 x4 xf0 xf1 xf2 xf3 xf4
  go_loopw [3] (fun i wr => ∃ j : Nat, j ≤ m ∧ i = .int .i64 j ∧ wr.ownsRow (w.heap.size + 2) 32 2 (.slice A1 m c1) m (flat (fixTo ys0 j)) ∧ Below (w.heap.size + 2) W2 wr) (fun i _ => m - (intOf i).toNat)
  case atStart => exact ⟨0, Nat.zero_le _, rfl, by rw [fixTo_zero]; exact HO2.out, Below.refl _ _⟩
  case round =>
    obtain ⟨j, hj, rfl, hO, hB⟩ := hrel
    have hPr := HP2.out.below hB (by omega)
    have b1 := hPr.cell (i := 1) rfl
    have hszr := hB.size
    by_cases hlt : j < m
    · obtain ⟨x, hx⟩ : ∃ x, ys0[j]? = some x := ⟨_, List.getElem?_eq_getElem (by omega)⟩
      have hfa := fixTo_at hx
      have hfs := fixTo_step hx
      obtain ⟨g, cap, hg1, hg2, hg3⟩ := hO.form (by omega)
      cases hg1
      obtain ⟨f1, f2⟩ := flat_at _ _ _ hfa
      have c1' := (hO.cellAt (j * 2 + 1) (by omega)).trans f2
      have z1 := hO.frozenAt (j * 2 + 1)
      obtain ⟨r, hr⟩ : ∃ r : Nat, x.2 % 1000 + 1 = r := ⟨_, rfl⟩
      have hr1 : (x.2 : Int) % 1000 + 1 = (r : Int) := by omega
      have hr2 : (x.2 : Int).tmod 1000 + 1 = (r : Int) := by rw [Int.tmod_eq_emod_of_nonneg (by omega)]; omega
      obtain ⟨hst, hgr⟩ := hO.stored (j * 2 + 1) (.int .u64 (r : Int))
      have hO5 : (wr.setCell ⟨g, j * 2 + 1, none⟩ (.int .u64 (r : Int))).ownsRow (w.heap.size + 2) 32 2 (.slice (some ⟨g, 0, none⟩) m c1) m (flat (fixTo ys0 (j + 1))) := by
        rw [flat_set _ _ _ hfa] at hst
        rw [← hfs, hr]; exact hst
      have hB5 : Below (w.heap.size + 2) W2 (wr.setCell ⟨g, j * 2 + 1, none⟩ (.int .u64 (r : Int))) := hB.setCell (p := ⟨g, j * 2 + 1, none⟩) hg2 _
      have HO5 := Lib.hid hO5
      have HB5 := Lib.hid hB5
      clear hO hB hx hfa hfs f1 f2 hst hgr hO5 hB5 hr hPr
      go_wp2_with fail
      go_still_tail 13, (by kernel_rfl)
      change wpList _ _ _ _ _ wr.drew
      go_wp2
      go_roundw
      case rel => exact ⟨j + 1, by omega, by go_num, HO5.out, HB5.out.drew⟩
      case measure => simp [intOf]; omega
    · obtain rfl : j = m := by omega
      have he : fixTo ys0 j = ys0.map fix := by rw [← hm]; exact fixTo_end _
      rw [he] at hO
      have hSr := HS2.out.below hB (by omega)
      have hBr := HB2.out.trans (hB.mono (by omega))
      have hKf : ∀ y ∈ ys0.map fix, y.1.size < maxLen := fun y hy => by
        obtain ⟨z, hz, rfl⟩ := List.mem_map.1 hy
        exact HKEY.out z hz
      have hAf : AscI (ys0.map fix) := ascI_of (asc_map HASC.out)
      have HAf := Lib.hid hAf
      have HKf := Lib.hid hKf
      have HOr := Lib.hid hO
      have HPr := Lib.hid hPr
      have HSr := Lib.hid hSr
      have HBr := Lib.hid hBr
      clear hAf hKf hO hPr hSr hBr hB he
      by_cases h0 : j = 0
      · have h0' : ((j : Int) == 0) = true := by simp; omega
        clear h0
        have x0 := HPr.out.cell (i := 0) rfl
        have x1 := HPr.out.cell (i := 1) rfl
        have x2 := HPr.out.cell (i := 2) rfl
        have x3 := HPr.out.cell (i := 3) rfl
        have x4 := HPr.out.cell (i := 4) rfl
        have xf0 := HPr.out.frozen 0
        have xf1 := HPr.out.frozen 1
        have xf2 := HPr.out.frozen 2
        have xf3 := HPr.out.frozen 3
        have xf4 := HPr.out.frozen 4
        have y0 := HSr.out.cell (i := 0) rfl
        have y1 := HSr.out.cell (i := 1) rfl
        have y2 := HSr.out.cell (i := 2) rfl
        have y3 := HSr.out.cell (i := 3) rfl
        have y4 := HSr.out.cell (i := 4) rfl
        have yf0 := HSr.out.frozen 0
        have yf1 := HSr.out.frozen 1
        have yf2 := HSr.out.frozen 2
        have yf3 := HSr.out.frozen 3
        have yf4 := HSr.out.frozen 4
        have hpw : w.heap.size < wr.heap.size := by omega
        have hpw2 : w.heap.size + 1 < wr.heap.size := by omega
        have hb0 : Op.bytesLess hi.toList [] = false := by cases hi.toList <;> rfl
        cases la
        · by_cases hh : hi = ⟨#[]⟩
          · subst hh
            go_wp2
            refine bodyPost_ret (v := .agg #[.int .i64 (l4 : Int), .slice (some ⟨wr.heap.size, 0, none⟩) 1 1, .string (⟨#[]⟩ ++ ⟨#[1]⟩), .bool false, .int .u64 (q : Int)]) (by simp [results, Try.results12, go_sem, *]) rfl ?_
            exact ⟨l4, _, 1, _, _, q, [(⟨#[]⟩, 1)], rfl, rfl, Rs.one_at2 _ _ _ _ (by simp [World.setCell]), ⟨one_asc _, one_ref _, ⟨fun h => (by cases h), fun _ => ⟨hq0, one_end (lt_one _)⟩⟩, Nat.one_pos, by decide, hl4', one_key⟩, ((below_res (((HBr.out.setCell (p := ⟨w.heap.size, 1, none⟩) (Nat.le_refl _) _).setCell (p := ⟨w.heap.size, 4, none⟩) (Nat.le_refl _) _).setCell (p := ⟨w.heap.size, 2, none⟩) (Nat.le_refl _) _) (Nat.le_succ _) _ _ _ _ _).alloc (by simp [World.setCell]; omega) _)⟩
          · have hh' := empty_list hh
            have HH := Lib.hid hh
            clear hh
            go_wp2
            refine bodyPost_ret (v := .agg #[.int .i64 (l4 : Int), .slice (some ⟨wr.heap.size, 0, none⟩) 1 1, .string hi, .bool false, .int .u64 (q : Int)]) (by simp [results, Try.results12, go_sem, *]) rfl ?_
            exact ⟨l4, _, 1, _, _, q, [(⟨#[]⟩, 1)], rfl, rfl, Rs.one_at2 _ _ _ _ (by simp [World.setCell]), ⟨one_asc _, one_ref _, ⟨fun h => (by cases h), fun _ => ⟨hq0, one_end (lt_nil HH.out)⟩⟩, Nat.one_pos, by decide, hl4', one_key⟩, ((below_res ((HBr.out.setCell (p := ⟨w.heap.size, 1, none⟩) (Nat.le_refl _) _).setCell (p := ⟨w.heap.size, 4, none⟩) (Nat.le_refl _) _) (Nat.le_succ _) _ _ _ _ _).alloc (by simp [World.setCell]; omega) _)⟩
        · go_wp2
          refine bodyPost_ret (v := .agg #[.int .i64 (l4 : Int), .slice (some ⟨wr.heap.size, 0, none⟩) 1 1, .string ⟨#[]⟩, .bool true, .int .u64 0]) (by simp [results, Try.results12, go_sem, *]) rfl ?_
          exact ⟨l4, _, 1, _, _, 0, [(⟨#[]⟩, 1)], rfl, rfl, Rs.one_at2 _ _ _ _ (by simp [World.setCell]), ⟨one_asc _, one_ref _, ⟨fun _ => ⟨rfl, rfl⟩, fun h => (by cases h)⟩, Nat.one_pos, by decide, hl4', one_key⟩, ((below_res (((HBr.out.setCell (p := ⟨w.heap.size, 1, none⟩) (Nat.le_refl _) _).setCell (p := ⟨w.heap.size, 2, none⟩) (Nat.le_refl _) _).setCell (p := ⟨w.heap.size, 4, none⟩) (Nat.le_refl _) _) (Nat.le_succ _) _ _ _ _ _).alloc (by simp [World.setCell]; omega) _)⟩
      · have h0' : ((j : Int) == 0) = false := by simp; omega
        have b1 := HPr.out.cell (i := 1) rfl
        have b3 := HPr.out.cell (i := 3) rfl
        go_upto_if 39 with fail
        have hO := HOr.out
        have hP := HPr.out
        have hQ := HSr.out
        have hB := HBr.out
        have hY : (ys0.map fix).length = j := by rw [List.length_map]; exact hm
        have hA := HAf.out
        have hF := fix_ref ys0
        have hK := HKf.out
        clear b1 b3 HPr HSr HBr HOr HAf HKf
        generalize ys0.map fix = ys at *
        rename World => V
        have HP := Lib.hid hP
        have HQ := Lib.hid hQ
        have HO := Lib.hid hO
        have HB := Lib.hid hB
        have HY := Lib.hid hY
        have HA := Lib.hid hA
        have HF := Lib.hid hF
        have HK := Lib.hid hK
        have x0 := hP.cell (i := 0) rfl
        have x1 := hP.cell (i := 1) rfl
        have x2 := hP.cell (i := 2) rfl
        have x3 := hP.cell (i := 3) rfl
        have x4 := hP.cell (i := 4) rfl
        have xf0 := hP.frozen 0
        have xf1 := hP.frozen 1
        have xf2 := hP.frozen 2
        have xf3 := hP.frozen 3
        have xf4 := hP.frozen 4
        have y0 := hQ.cell (i := 0) rfl
        have y1 := hQ.cell (i := 1) rfl
        have y2 := hQ.cell (i := 2) rfl
        have y3 := hQ.cell (i := 3) rfl
        have y4 := hQ.cell (i := 4) rfl
        have yf0 := hQ.frozen 0
        have yf1 := hQ.frozen 1
        have yf2 := hQ.frozen 2
        have yf3 := hQ.frozen 3
        have yf4 := hQ.frozen 4
        clear hP hQ hO hB hY hA hF hK
        cases la
        · obtain ⟨lst, hlst⟩ : ∃ x, ys[j - 1]? = some x := ⟨_, List.getElem?_eq_getElem (by have := HY.out; omega)⟩
          obtain ⟨_, _, e9, hl9, hR9, _⟩ := Rs.own HO.out
          cases e9
          obtain ⟨g, off, rfl, hg, hcell⟩ := hR9.at (by omega)
          obtain ⟨d0, d1⟩ := hcell (j - 1) lst hlst
          have hend := end_last HA.out (hi := hi) HY.out hlst
          have hend2 := end_last HA.out (hi := lst.1 ++ ⟨#[1]⟩) HY.out hlst
          have hksz := HK.out lst (List.mem_of_getElem? hlst)
          have hadd : ∀ W, (Op.stringOp .add lst.1 ⟨#[1]⟩).run Try.prog W = .ok (.string (lst.1 ++ ⟨#[1]⟩)) W := fun W => run_string_add_sum W lst.1 _ (by unfold maxLen at hksz; have : (⟨#[1]⟩ : ByteArray).size = 1 := rfl; omega)
          have hgw : g ≠ w.heap.size := by
            rcases HO.out.2 with ⟨h, _⟩ | ⟨g', _, _, h, hb, _⟩
            · cases h
            · cases h; omega
          have HE := Lib.hid hend
          have HE2 := Lib.hid hend2
          clear hcell hlst hend hend2 hl9 hR9 hksz
          cases h1 : ltB hi.toList lst.1.toList
          · have hb1 : Op.bytesLess hi.toList lst.1.toList = false := (bytesLess_ltB _ _).trans h1
            cases h2 : hi.toList == lst.1.toList
            · have hlt : lt lst hi = true := by
                cases h3 : ltB lst.1.toList hi.toList
                · have := ltB_tri _ _ h1 h3; rw [this] at h2; simp at h2
                · exact h3
              have HLT := Lib.hid hlt
              clear h1 hlt hadd
              go_wp2
              refine bodyPost_ret (v := .agg #[.int .i64 (l4 : Int), .slice (some ⟨g, off, none⟩) j c1, .string hi, .bool false, .int .u64 (q : Int)]) (by simp [results, Try.results12, go_sem, *]) rfl ?_
              obtain ⟨_, _, e9, _, hR9, _⟩ := Rs.own (own_res (ownsRow_setCell_below HO.out (a := ⟨w.heap.size, 4, none⟩) (show w.heap.size < w.heap.size + 2 by omega) _) (r := w.heap.size + 1) (by omega) _ _ _ _ _)
              cases e9
              exact ⟨l4, _, j, _, _, q, ys, rfl, HY.out, hR9, ⟨HA.out, HF.out, ⟨fun h => (by cases h), fun _ => ⟨hq0, HE.out.2 HLT.out⟩⟩, by have := HY.out; omega, by have := HY.out; omega, hl4', HK.out⟩, (below_res (HB.out.setCell (p := ⟨w.heap.size, 4, none⟩) (Nat.le_refl _) _) (Nat.le_succ _) _ _ _ _ _)⟩
            · clear h1
              go_wp2
              refine bodyPost_ret (v := .agg #[.int .i64 (l4 : Int), .slice (some ⟨g, off, none⟩) j c1, .string (lst.1 ++ ⟨#[1]⟩), .bool false, .int .u64 (q : Int)]) (by simp [results, Try.results12, go_sem, *]) rfl ?_
              obtain ⟨_, _, e9, _, hR9, _⟩ := Rs.own (own_res (ownsRow_setCell_below (ownsRow_setCell_below HO.out (a := ⟨w.heap.size, 4, none⟩) (show w.heap.size < w.heap.size + 2 by omega) _) (a := ⟨w.heap.size, 2, none⟩) (show w.heap.size < w.heap.size + 2 by omega) _) (r := w.heap.size + 1) (by omega) _ _ _ _ _)
              cases e9
              exact ⟨l4, _, j, _, _, q, ys, rfl, HY.out, hR9, ⟨HA.out, HF.out, ⟨fun h => (by cases h), fun _ => ⟨hq0, HE2.out.2 (lt_one lst)⟩⟩, by have := HY.out; omega, by have := HY.out; omega, hl4', HK.out⟩, (below_res ((HB.out.setCell (p := ⟨w.heap.size, 4, none⟩) (Nat.le_refl _) _).setCell (p := ⟨w.heap.size, 2, none⟩) (Nat.le_refl _) _) (Nat.le_succ _) _ _ _ _ _)⟩
          · have hb1 : Op.bytesLess hi.toList lst.1.toList = true := (bytesLess_ltB _ _).trans h1
            clear h1
            go_wp2
            refine bodyPost_ret (v := .agg #[.int .i64 (l4 : Int), .slice (some ⟨g, off, none⟩) j c1, .string (lst.1 ++ ⟨#[1]⟩), .bool false, .int .u64 (q : Int)]) (by simp [results, Try.results12, go_sem, *]) rfl ?_
            obtain ⟨_, _, e9, _, hR9, _⟩ := Rs.own (own_res (ownsRow_setCell_below (ownsRow_setCell_below HO.out (a := ⟨w.heap.size, 4, none⟩) (show w.heap.size < w.heap.size + 2 by omega) _) (a := ⟨w.heap.size, 2, none⟩) (show w.heap.size < w.heap.size + 2 by omega) _) (r := w.heap.size + 1) (by omega) _ _ _ _ _)
            cases e9
            exact ⟨l4, _, j, _, _, q, ys, rfl, HY.out, hR9, ⟨HA.out, HF.out, ⟨fun h => (by cases h), fun _ => ⟨hq0, HE2.out.2 (lt_one lst)⟩⟩, by have := HY.out; omega, by have := HY.out; omega, hl4', HK.out⟩, (below_res ((HB.out.setCell (p := ⟨w.heap.size, 4, none⟩) (Nat.le_refl _) _).setCell (p := ⟨w.heap.size, 2, none⟩) (Nat.le_refl _) _) (Nat.le_succ _) _ _ _ _ _)⟩
        · go_wp2
          refine bodyPost_ret (v := .agg #[.int .i64 (l4 : Int), .slice A1 j c1, .string ⟨#[]⟩, .bool true, .int .u64 0]) (by simp [results, Try.results12, go_sem, *]) rfl ?_
          obtain ⟨_, _, e9, _, hR9, _⟩ := Rs.own (own_res (ownsRow_setCell_below (ownsRow_setCell_below HO.out (a := ⟨w.heap.size, 2, none⟩) (show w.heap.size < w.heap.size + 2 by omega) _) (a := ⟨w.heap.size, 4, none⟩) (show w.heap.size < w.heap.size + 2 by omega) _) (r := w.heap.size + 1) (by omega) _ _ _ _ _)
          cases e9
          exact ⟨l4, _, j, _, _, 0, ys, rfl, HY.out, hR9, ⟨HA.out, HF.out, ⟨fun _ => ⟨rfl, rfl⟩, fun h => (by cases h)⟩, by have := HY.out; omega, by have := HY.out; omega, hl4', HK.out⟩, (below_res ((HB.out.setCell (p := ⟨w.heap.size, 2, none⟩) (Nat.le_refl _) _).setCell (p := ⟨w.heap.size, 4, none⟩) (Nat.le_refl _) _) (Nat.le_succ _) _ _ _ _ _)⟩
end Go.Proofs.Ytegbdpelnmaijaa
