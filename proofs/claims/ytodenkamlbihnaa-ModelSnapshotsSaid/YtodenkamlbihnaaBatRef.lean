/-
  What the reference's Drop, Apply, Get and Normalize, slices.BinarySearchFunc over compareEntry and the law's list and fit answer. Condition: lists of at most a million elements.
-/
import Derived.Test.YtodenkamlbihnaaBatFns
import Derived.Test.YtodenkamlbihnaaBatKeep
namespace Go.Proofs.Ytodenkamlbihnaa
open Go.RowKit Go.Deep Plain PlainE
set_option linter.unusedVariables false

theorem dropL_snoc (a : List Ent) (x : Ent) (k : ByteArray) : dropL (a ++ [x]) k = dropL a k ++ (if eqk x.1 k = true then [] else [x]) := by
  unfold dropL
  rw [List.filter_append]
  congr 1
  rw [List.filter_cons]
  cases eqk x.1 k <;> simp
theorem take_nx {α : Type} {xs : List α} {j : Nat} {x : α} (h : xs[j]? = some x) : xs.take (j + 1) = xs.take j ++ [x] := by
  obtain ⟨hj, rfl⟩ := List.getElem?_eq_some_iff.1 h
  exact List.take_succ_eq_append_getElem hj
theorem dropL_len (xs : List Ent) (k : ByteArray) : (dropL xs k).length ≤ xs.length := List.length_filter_le _ _
theorem perf_len (xs : List Ent) (w : Wri) : (perf xs w).length ≤ xs.length + 1 := by
  unfold perf
  split
  · exact Nat.le_trans (dropL_len _ _) (Nat.le_succ _)
  · exact putL_len _ _
theorem applyL_len : ∀ (b : List Wri) (xs : List Ent), (applyL xs b).length ≤ xs.length + b.length
  | [], xs => Nat.le_refl _
  | w :: r, xs => by
    show (applyL (perf xs w) r).length ≤ _
    have h1 := applyL_len r (perf xs w)
    have h2 := perf_len xs w
    simp; omega
theorem applyL_take {xs : List Ent} {b : List Wri} {j : Nat} {x : Wri} (h : b[j]? = some x) : applyL xs (b.take (j + 1)) = perf (applyL xs (b.take j)) x := by rw [take_nx h, applyL_snoc]

set_option maxHeartbeats 1000000 in
theorem drop_any (A : Option Addr) (c : Nat) (xs : List Ent) (k : ByteArray) (w : World) (n : Nat) (hn : xs.length = n) (h40 : n ≤ 1099511627776) (hR : RE w A c xs) (m : Nat) (hm : (dropL xs k).length = m) :
    Calls Try.prog 56 #[.slice A n c, .string k] w fun e w' => ∃ A' c', e = .returned (.slice A' m c') ∧ RE w' A' c' (dropL xs k) ∧ Below w.heap.size w w' := by
  have HR := Lib.hid hR
  have HM := Lib.hid hm
  clear hR hm
  go_enter Try.func56, Try.ntmps56
  go_wp2_with fail
  go_loopw [5, 6] (fun o i wr => ∃ j q : Nat, j ≤ n ∧ q ≤ j ∧ i = .int .i64 j ∧ (dropL (xs.take j) k).length = q ∧ wr.ownsRow w.heap.size 57 2 o q (flatE (dropL (xs.take j) k)) ∧ Below w.heap.size w wr) (fun _ i _ => n - (intOf i).toNat)
  case atStart => exact ⟨0, 0, Nat.zero_le _, Nat.le_refl _, rfl, rfl, World.ownsRow_nil _ _ _ _, Below.refl _ _⟩
  case round =>
    obtain ⟨j, q, hj, hq, rfl, hl, hown, hbel⟩ := hrel
    have HL := Lib.hid hl
    have HO := Lib.hid hown
    have HB := Lib.hid hbel
    have hs := hbel.size
    clear hl
    by_cases hlt : j < n
    · obtain ⟨x, hx⟩ : ∃ x, xs[j]? = some x := ⟨_, List.getElem?_eq_getElem (by omega)⟩
      obtain ⟨g, off, rfl, hg, hcell⟩ := (HR.out.below hbel (Nat.le_refl _)).at (by omega)
      obtain ⟨c0, c1⟩ := hcell j x hx
      have hst := dropL_snoc (xs.take j) x k
      rw [← take_nx hx] at hst
      obtain ⟨b, hb⟩ : ∃ b, (x.1.toList == k.toList) = b := ⟨_, rfl⟩
      have hb2 : eqk x.1 k = b := hb
      rw [hb2] at hst
      have HST := Lib.hid hst
      clear hcell hx hst hb2 hbel
      cases b
      · clear hown
        go_wp2_with (at_builtin; go_must (refine wpList_appE rfl (.tmp 20) (.tmp 25) rfl (w.heap.size) _ (q) (dropL (xs.take j) k) rfl (HO.out.alloc _) _ 1 1 [x] rfl rfl (RE.one wr x _) (by omega) (by first | omega | (simp; omega)) ?_))
        intro v1 w1 hown1 hB1
        have HB1 := Lib.hid ((HB.out.alloc hs _).trans hB1)
        have HO1 := Lib.hid hown1
        clear hB1 hown1
        go_wp2
        go_roundw
        case rel => exact ⟨j + 1, q + 1, by omega, by omega, by go_num, by rw [HST.out, if_neg (by decide), List.length_append, HL.out]; rfl, by rw [HST.out, if_neg (by decide)]; exact HO1.out, HB1.out⟩
        case measure => simp [intOf]; omega
      · go_wp2
        go_roundw
        case rel => exact ⟨j + 1, q, by omega, by omega, by go_num, by rw [HST.out, if_pos rfl, List.append_nil]; exact HL.out, by rw [HST.out, if_pos rfl, List.append_nil]; exact HO.out, HB.out⟩
        case measure => simp [intOf]; omega
    · have hfull : xs.take j = xs := List.take_of_length_le (by omega)
      have hqm : q = m := by rw [← HL.out, hfull]; exact HM.out
      subst hqm
      obtain ⟨A2, c2, rfl, _, hR2, _⟩ := RE.own HO.out
      rw [hfull] at hR2
      have HR2 := Lib.hid hR2
      clear hR2 hown hbel
      go_wp2
      go_ret
      exact ⟨_, _, rfl, HR2.out, HB.out⟩

set_option maxHeartbeats 2000000 in
theorem refApply_any (A B : Option Addr) (c d : Nat) (xs : List Ent) (b : List Wri) (w : World) (n m : Nat) (hn : xs.length = n) (hm : b.length = m) (h40 : n ≤ 1000000) (h41 : m ≤ 1000000) (hR : RE w A c xs) (hR2 : RW w B d b) (r : Nat) (hr : (applyL xs b).length = r) :
    Calls Try.prog 42 #[.slice A n c, .slice B m d] w fun e w' => ∃ A' c', e = .returned (.slice A' r c') ∧ RE w' A' c' (applyL xs b) ∧ Below w.heap.size w w' := by
  have HR := Lib.hid hR
  have HR2 := Lib.hid hR2
  have HRR := Lib.hid hr
  clear hR hR2 hr
  go_enter Try.func42, Try.ntmps42
  go_wp2_with fail
  go_loopw [0, 5] (fun o i wr => ∃ (j q : Nat) (A1 : Option Addr) (c1 : Nat), j ≤ m ∧ q ≤ n + j ∧ i = .int .i64 j ∧ o = .slice A1 q c1 ∧ (applyL xs (b.take j)).length = q ∧ RE wr A1 c1 (applyL xs (b.take j)) ∧ Below w.heap.size w wr) (fun _ i _ => m - (intOf i).toNat)
  case atStart => exact ⟨0, n, A, c, Nat.zero_le _, Nat.le_refl _, rfl, rfl, hn, HR.out, Below.refl _ _⟩
  case round =>
    obtain ⟨j, q, A1, c1, hj, hq, rfl, rfl, hl, hR1, hbel⟩ := hrel
    have HL := Lib.hid hl
    have HR1 := Lib.hid hR1
    have HB := Lib.hid hbel
    have hs := hbel.size
    clear hl hR1
    by_cases hlt : j < m
    · obtain ⟨x, hx⟩ : ∃ x, b[j]? = some x := ⟨_, List.getElem?_eq_getElem (by omega)⟩
      obtain ⟨g, off, rfl, hg, hcell⟩ := (HR2.out.below hbel (Nat.le_refl _)).at (by omega)
      obtain ⟨d0, d1, d2⟩ := hcell j x hx
      have hst := applyL_take (xs := xs) hx
      obtain ⟨ka, va, de⟩ := x
      simp only at d0 d1 d2
      obtain ⟨q2, hq2⟩ : ∃ q2, (perf (applyL xs (b.take j)) (ka, va, de)).length = q2 := ⟨_, rfl⟩
      have hq2n : q2 ≤ q + 1 := by rw [← hq2, ← HL.out]; exact perf_len _ _
      have HST := Lib.hid hst
      have HQ2 := Lib.hid hq2
      clear hcell hx hst hbel hq2
      cases de
      · have hp : perf (applyL xs (b.take j)) (ka, va, false) = putL (applyL xs (b.take j)) (ka, va) := rfl
        have HP := Lib.hid hp
        clear hp
        go_wp2_with fail
        have hBd := (Below.refl wr.heap.size wr).drew
        have hg2 := hg
        refine wp_region_held_drew (S := (fun w' => w'.cell? ⟨g, off + j * 3, none⟩ = some (.string ka) ∧ w'.cell? ⟨g, off + j * 3 + 1, none⟩ = some (.string va))) (by kernel_rfl) ?_ (fun hHeld => ?_)
        · exact ⟨d0, d1⟩
        generalize wr.drew = G at *
        refine wpAnyH_take (i := 0) (oi := ⟨some 24, _, _, _, _, _⟩) (v := ?_) rfl (by kernel_rfl) (by kernel_rfl) (by kernel_rfl) (fun _ _ _ h => h) (Or.inl ⟨by rfl, ?_⟩) hHeld ?_
        rotate_left
        · (intro wq hSw; have q0 := hSw.1; have q1 := hSw.2; go_simp; try with_reducible rfl)
        try simp only [Act.put, List.setIfInBounds_toArray, List.set_cons_zero, List.set_cons_succ]
        refine wpAnyH_take (i := 1) (oi := ⟨some 25, _, _, _, _, _⟩) (v := ?_) rfl (by kernel_rfl) (by kernel_rfl) (by kernel_rfl) (fun _ _ _ h => h) (Or.inl ⟨by rfl, ?_⟩) hHeld ?_
        rotate_left
        · (intro wq hSw; have q0 := hSw.1; have q1 := hSw.2; go_simp; try with_reducible rfl)
        try simp only [Act.put, List.setIfInBounds_toArray, List.set_cons_zero, List.set_cons_succ]
        refine wpAnyH_take (i := 2) (oi := ⟨some 26, _, _, _, _, _⟩) (v := ?_) rfl (by kernel_rfl) (by kernel_rfl) (by kernel_rfl) (fun _ _ _ h => h) (Or.inl ⟨by rfl, ?_⟩) hHeld ?_
        rotate_left
        · (intro wq hSw; have q0 := hSw.1; have q1 := hSw.2; go_simp; try with_reducible rfl)
        try simp only [Act.put, List.setIfInBounds_toArray, List.set_cons_zero, List.set_cons_succ]
        refine wpAnyH_take (i := 3) (oi := ⟨some 27, _, _, _, _, _⟩) (v := ?_) rfl (by kernel_rfl) (by kernel_rfl) (by kernel_rfl) (fun _ _ _ h => h) (Or.inl ⟨by rfl, ?_⟩) hHeld ?_
        rotate_left
        · (intro wq hSw; have q0 := hSw.1; have q1 := hSw.2; go_simp; try with_reducible rfl)
        try simp only [Act.put, List.setIfInBounds_toArray, List.set_cons_zero, List.set_cons_succ]
        refine wpAnyH_take (i := 4) (oi := ⟨some 28, _, _, _, _, _⟩) (v := ?_) rfl (by kernel_rfl) (by kernel_rfl) (by kernel_rfl) (fun _ _ _ h => h) (Or.inl ⟨by rfl, ?_⟩) hHeld ?_
        rotate_left
        · (intro wq hSw; have q0 := hSw.1; have q1 := hSw.2; go_simp; try with_reducible rfl)
        try simp only [Act.put, List.setIfInBounds_toArray, List.set_cons_zero, List.set_cons_succ]
        refine wpAnyH_take (i := 5) (oi := ⟨some 29, _, _, _, _, _⟩) (v := ?_) rfl (by kernel_rfl) (by kernel_rfl) (by kernel_rfl) (fun _ _ _ h => h) (Or.inl ⟨by rfl, ?_⟩) hHeld ?_
        rotate_left
        · (intro wq hSw; have q0 := hSw.1; have q1 := hSw.2; go_simp; try with_reducible rfl)
        try simp only [Act.put, List.setIfInBounds_toArray, List.set_cons_zero, List.set_cons_succ]
        refine wpAnyH_take (i := 6) (oi := ⟨some 30, _, _, _, _, _⟩) (v := ?_) rfl (by kernel_rfl) (by kernel_rfl) (by kernel_rfl) (fun _ _ _ h => h) (Or.inl ⟨by rfl, ?_⟩) hHeld ?_
        rotate_left
        · (intro wq hSw; have q0 := hSw.1; have q1 := hSw.2; go_simp; try with_reducible rfl)
        try simp only [Act.put, List.setIfInBounds_toArray, List.set_cons_zero, List.set_cons_succ]
        refine wpAnyH_take (i := 7) (oi := ⟨some 31, _, _, _, _, _⟩) (v := ?_) rfl (by kernel_rfl) (by kernel_rfl) (by kernel_rfl) (fun _ _ _ h => h) (Or.inl ⟨by rfl, ?_⟩) hHeld ?_
        rotate_left
        · (intro wq hSw; have q0 := hSw.1; have q1 := hSw.2; go_simp; try with_reducible rfl)
        try simp only [Act.put, List.setIfInBounds_toArray, List.set_cons_zero, List.set_cons_succ]
        refine wpAnyH_take (i := 8) (oi := ⟨some 32, _, _, _, _, _⟩) (v := ?_) rfl (by kernel_rfl) (by kernel_rfl) (by kernel_rfl) (fun _ _ _ h => h) (Or.inl ⟨by rfl, ?_⟩) hHeld ?_
        rotate_left
        · (intro wq hSw; have q0 := hSw.1; have q1 := hSw.2; go_simp; try with_reducible rfl)
        try simp only [Act.put, List.setIfInBounds_toArray, List.set_cons_zero, List.set_cons_succ]
        refine wpAnyH_take (i := 9) (oi := ⟨some 33, _, _, _, _, _⟩) (v := ?_) rfl (by kernel_rfl) (by kernel_rfl) (by kernel_rfl) (fun _ _ _ h => h) (Or.inl ⟨by rfl, ?_⟩) hHeld ?_
        rotate_left
        · (intro wq hSw; have q0 := hSw.1; have q1 := hSw.2; go_simp; try with_reducible rfl)
        try simp only [Act.put, List.setIfInBounds_toArray, List.set_cons_zero, List.set_cons_succ]
        refine wpAnyH_take (i := 10) (oi := ⟨some 34, _, _, _, _, _⟩) (v := ?_) rfl (by kernel_rfl) (by kernel_rfl) (by kernel_rfl) (fun _ _ _ h => h) (Or.inl ⟨by rfl, ?_⟩) hHeld ?_
        rotate_left
        · (intro wq hSw; have q0 := hSw.1; have q1 := hSw.2; go_simp; try with_reducible rfl)
        try simp only [Act.put, List.setIfInBounds_toArray, List.set_cons_zero, List.set_cons_succ]
        refine wpAnyH_take (i := 11) (oi := ⟨some 35, _, _, _, _, _⟩) (v := ?_) rfl (by kernel_rfl) (by kernel_rfl) (by kernel_rfl) (fun _ _ _ h => h) (Or.inl ⟨by rfl, ?_⟩) hHeld ?_
        rotate_left
        · (intro wq hSw; have q0 := hSw.1; have q1 := hSw.2; go_simp; try with_reducible rfl)
        try simp only [Act.put, List.setIfInBounds_toArray, List.set_cons_zero, List.set_cons_succ]
        refine wpAnyH_ready (rs := [12]) (by kernel_rfl) (by simp) ?_
        refine AllReadyH.cons (o := ⟨some 36, _, _, _, _, _⟩) rfl (fun KK hK => ?_) AllReadyH.nil
        go_simp
        go_at_call 57
        refine (put_yes A1 q c1 _ ka va _ HL.out (by omega) (HR1.out.below hBd (Nat.le_refl _)) q2 (by rw [← HP.out]; exact HQ2.out)).mono ?_; rintro e w1 ⟨A2, c2, rfl, hR3, hB1⟩
        have hBq := hBd.trans (hB1.mono hBd.size)
        refine hK.out _ _ ?_ (fun hHeld2 => ?_)
        · exact ⟨(hBq.cell (p := ⟨g, _, none⟩) hg2).trans d0, (hBq.cell (p := ⟨g, _, none⟩) hg2).trans d1⟩
        clear hK KK hHeld
        have hHeld := hHeld2
        clear hHeld2
        try simp only [Act.put, List.setIfInBounds_toArray, List.set_cons_zero, List.set_cons_succ]
        refine wpAnyH_take (i := 13) (oi := ⟨some 0, _, _, _, _, _⟩) (v := ?_) rfl (by kernel_rfl) (by kernel_rfl) (by kernel_rfl) (fun _ _ _ h => h) (Or.inl ⟨by rfl, ?_⟩) hHeld ?_
        rotate_left
        · (intro wq hSw; have q0 := hSw.1; have q1 := hSw.2; go_simp; try with_reducible rfl)
        try simp only [Act.put, List.setIfInBounds_toArray, List.set_cons_zero]
        refine wpAnyH_done (by kernel_rfl) ?_ _
        clear hHeld

        have HB1 := Lib.hid (HB.out.trans (hBq.mono hs))
        have HR3 := Lib.hid hR3
        clear hB1 hR3 hBq hBd
        go_wp2
        go_roundw
        case rel => exact ⟨j + 1, q2, _, _, by omega, by omega, by go_num, rfl, by rw [HST.out]; exact HQ2.out, by rw [HST.out, HP.out]; exact HR3.out, HB1.out⟩
        case measure => simp [intOf]; omega
      · have hp : perf (applyL xs (b.take j)) (ka, va, true) = dropL (applyL xs (b.take j)) ka := rfl
        have HP := Lib.hid hp
        clear hp
        go_wp2_with fail
        refine (drop_any A1 c1 _ ka _ q HL.out (by omega) HR1.out q2 (by rw [← HP.out]; exact HQ2.out)).mono ?_; rintro e w1 ⟨A2, c2, rfl, hR3, hB1⟩
        have HB1 := Lib.hid (HB.out.trans (hB1.mono hs))
        have HR3 := Lib.hid hR3
        clear hB1 hR3
        go_wp2
        go_roundw
        case rel => exact ⟨j + 1, q2, _, _, by omega, by omega, by go_num, rfl, by rw [HST.out]; exact HQ2.out, by rw [HST.out, HP.out]; exact HR3.out, HB1.out⟩
        case measure => simp [intOf]; omega
    · have hfull : b.take j = b := List.take_of_length_le (by omega)
      have hqm : q = r := by rw [← HL.out, hfull]; exact HRR.out
      subst hqm
      rw [hfull] at HR1
      clear hbel
      go_wp2
      go_ret
      exact ⟨_, _, rfl, HR1.out, HB.out⟩

def getV (xs : List Ent) (k : ByteArray) : ByteArray := (getL xs k).getD ⟨#[]⟩
def getB (xs : List Ent) (k : ByteArray) : Bool := (getL xs k).isSome
theorem drop_nx {α : Type} {xs : List α} {j : Nat} {x : α} (h : xs[j]? = some x) : xs.drop j = x :: xs.drop (j + 1) := by
  obtain ⟨hj, rfl⟩ := List.getElem?_eq_some_iff.1 h
  exact List.drop_eq_getElem_cons hj
set_option maxHeartbeats 1000000 in
theorem get_any (A : Option Addr) (c : Nat) (xs : List Ent) (k : ByteArray) (w : World) (n : Nat) (hn : xs.length = n) (h40 : n ≤ 1099511627776) (hR : RE w A c xs) (v : ByteArray) (b : Bool) (hv : getV xs k = v) (hb : getB xs k = b) :
    Calls Try.prog 34 #[.slice A n c, .string k] w fun e w' => e = .returned (.tuple #[.string v, .bool b]) ∧ w' = w := by
  have HR := Lib.hid hR
  have HV := Lib.hid hv
  have HBV := Lib.hid hb
  clear hR hv hb
  go_enter Try.func34, Try.ntmps34
  go_wp2_with fail
  go_loopw [6] (fun i wr => ∃ j : Nat, j ≤ n ∧ i = .int .i64 j ∧ getL xs k = getL (xs.drop j) k ∧ w = wr) (fun i _ => n - (intOf i).toNat)
  case atStart => exact ⟨0, Nat.zero_le _, rfl, rfl, rfl⟩
  case round =>
    obtain ⟨j, hj, rfl, hl, rfl⟩ := hrel
    have HL := Lib.hid hl
    clear hl
    by_cases hlt : j < n
    · obtain ⟨x, hx⟩ : ∃ x, xs[j]? = some x := ⟨_, List.getElem?_eq_getElem (by omega)⟩
      obtain ⟨g, off, rfl, hg, hcell⟩ := HR.out.at (by omega)
      obtain ⟨c0, c1⟩ := hcell j x hx
      have hst := HL.out
      rw [drop_nx hx, getL] at hst
      obtain ⟨e, he⟩ : ∃ e, (x.1.toList == k.toList) = e := ⟨_, rfl⟩
      have he2 : eqk x.1 k = e := he
      rw [he2] at hst
      have HST := Lib.hid hst
      clear hcell hx hst he2
      cases e
      · go_wp2
        go_roundw
        case rel => exact ⟨j + 1, by omega, by go_num, by rw [HST.out, if_neg (by decide)], by first | rfl | trivial⟩
        case measure => simp [intOf]; omega
      · obtain rfl : x.2 = v := by rw [← HV.out]; unfold getV; rw [HST.out, if_pos rfl]; rfl
        obtain rfl : b = true := by rw [← HBV.out]; unfold getB; rw [HST.out, if_pos rfl]; rfl
        go_wp2
        go_ret2
        exact ⟨rfl, rfl⟩
    · have h0 : xs.drop j = [] := List.drop_of_length_le (by omega)
      have hst := HL.out
      rw [h0, getL] at hst
      obtain rfl : v = ⟨#[]⟩ := by rw [← HV.out]; unfold getV; rw [hst]; rfl
      obtain rfl : b = false := by rw [← HBV.out]; unfold getB; rw [hst]; rfl
      go_wp2
      go_ret2
      exact ⟨rfl, rfl⟩

theorem inE_at {xs : List Ent} {k : ByteArray} {q : Nat} {x : Ent} (ha : Asc xs) (hq : cntE k xs = q) (hx : xs[q]? = some x) : (cmp x.1.toList k.toList == 0) = inE k xs := by
  have h1 : ltB x.1.toList k.toList = false := by rw [ltE_at xs ha k q x hx, hq]; exact decide_eq_false (Nat.lt_irrefl _)
  have h2 : inE k xs = eqk x.1 k := by unfold inE; rw [hq, hx]
  rw [h2]
  unfold cmp
  rw [h1]
  by_cases e : x.1 = k
  · rw [eqk_iff.2 e, e, ltB_self]; rfl
  · have h3 : ltB k.toList x.1.toList = true := by
      cases h : ltB k.toList x.1.toList
      · exact absurd (toList_inj (ltB_tri _ _ h1 h)) e
      · rfl
    rw [h3, eqk_ne.2 e]; rfl
def listL (raw : List Ent) : List Ent := (raw.take 30).foldl putL []
theorem foldl_putL_len : ∀ (b xs : List Ent), (b.foldl putL xs).length ≤ xs.length + b.length
  | [], xs => Nat.le_refl _
  | w :: r, xs => by
    show (r.foldl putL (putL xs w)).length ≤ _
    have h1 := foldl_putL_len r (putL xs w)
    have h2 := putL_len xs w
    simp; omega
theorem foldl_putL_asc : ∀ (b xs : List Ent), Asc xs → Asc (b.foldl putL xs)
  | [], xs, h => h
  | w :: r, xs, h => foldl_putL_asc r _ (putL_asc _ _ h)
theorem listL_asc (raw : List Ent) : Asc (listL raw) := foldl_putL_asc _ _ trivial
theorem listL_len (raw : List Ent) : (listL raw).length ≤ 30 := by
  have := foldl_putL_len (raw.take 30) []
  rw [List.length_take] at this
  unfold listL; simp at this ⊢; omega
end Go.Proofs.Ytodenkamlbihnaa
