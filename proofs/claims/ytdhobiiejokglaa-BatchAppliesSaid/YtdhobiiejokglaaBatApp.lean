/-
  What Apply answers: the list behind a batch. Condition: lists and batches of at most a million elements, keys within the model's reach.
-/
import Derived.Test.YtdhobiiejokglaaBatLast
import Derived.Deep.Cut
import Derived.Deep.CutBlock
namespace Go.Proofs.Ytdhobiiejokglaa
open Go.RowKit Go.Deep Plain PlainE
set_option linter.unusedVariables false

theorem ascW_drop : ∀ (n : Nat) {z : List Wri}, AscW z → AscW (z.drop n)
  | 0, z, h => by simpa using h
  | n + 1, [], h => by simpa using h
  | n + 1, a :: t, h => by simpa using ascW_drop n (ascW_tail h)
theorem own_at {W : World} {base e size n : Nat} {v : Value} {ys : List Value} {b : Nat} (h : W.ownsRow base e size v n ys) (hb : v.ownBlock = some b) : ∃ a c, v = .slice (some a) n c ∧ a.block = b := by
  rcases h.2 with ⟨rfl, _⟩ | ⟨g, cap, cur, rfl, _⟩
  · cases hb
  · exact ⟨_, _, rfl, Option.some.inj hb⟩
theorem dropRow {w : World} {A : Option Addr} {c t : Nat} {xs : List Ent} (h : RE w A c xs) (ht : xs.length = t) (i : Nat) (hi : i ≤ t) : ∃ A' c', (if c = i then A else A.map (·.add (i * 2))) = A' ∧ c - i = c' ∧ (c : Int) - (i : Int) = (c' : Int) ∧ RE w A' c' (xs.drop i) :=
  ⟨_, _, rfl, rfl, by have := h.le; omega, h.drop i (by omega)⟩
set_option maxRecDepth 100000 in
set_option maxHeartbeats 8000000 in
theorem apply_any (A B : Option Addr) (c d : Nat) (xs : List Ent) (b : List Wri) (w : World) (n m : Nat) (hn : xs.length = n) (hm : b.length = m) (h40 : n ≤ 1000000) (h41 : m ≤ 1000000) (hR : RE w A c xs) (hR2 : RW w B d b) (hs : ∀ x ∈ b, Sz x) (ha : Asc xs) (r : Nat) (hr : (applyL xs b).length = r) :
    Calls Try.prog 16 #[.slice A n c, .slice B m d] w fun e w' => ∃ A' c', e = .returned (.slice A' r c') ∧ RE w' A' c' (applyL xs b) ∧ Below w.heap.size w w' := by
  obtain ⟨N, hN⟩ : ∃ N, normL b = N := ⟨_, rfl⟩
  obtain ⟨p, hp⟩ : ∃ p, N.length = p := ⟨_, rfl⟩
  have hpm : p ≤ m := by
    rw [← hp, ← hN, normL_length, ← hm]
    have : ∀ b : List Wri, (keysB b).length ≤ b.length := snoc_ind (Nat.le_refl _) fun b w ih => by
      rw [keysB_len_snoc, List.length_append]; split <;> simp <;> omega
    exact this b
  have hasc := normL_asc b
  rw [hN] at hasc
  have happ := applyL_normL ha b
  rw [hN] at happ
  have HR := Lib.hid hR
  have HR2 := Lib.hid hR2
  have HSZ := Lib.hid hs
  have HA := Lib.hid ha
  have HN := Lib.hid hN
  have HP := Lib.hid hp
  have HAS := Lib.hid hasc
  have HAPP := Lib.hid happ
  have HRR := Lib.hid hr
  clear hR hR2 hs ha hN hp hasc happ hr
  go_enter Try.func16, Try.ntmps16
  go_wp2_with fail
  refine (lastWrites_any B d b _ m hm h41 HR2.out HSZ.out p (by rw [HN.out]; exact HP.out)).mono ?_; rintro e w0 ⟨AN, cN, rfl, hRN, hB0⟩
  rw [HN.out] at hRN
  have HRN := Lib.hid hRN
  have HR0 := Lib.hid (HR.out.below hB0 (Nat.le_refl _))
  have HB0 := Lib.hid hB0
  have hs0 := hB0.size
  clear hRN hB0 HR HR2
  go_wp2_with fail
  go_loopw [0, 5, 13] (fun sl o i wr => ∃ (j q t : Nat) (A1 : Option Addr) (c1 : Nat) (rest res : List Ent), j ≤ p ∧ q ≤ n + j ∧ t ≤ n ∧ i = .int .i64 j ∧ sl = .slice A1 t c1 ∧ rest.length = t ∧ RE w0 A1 c1 rest ∧ Asc rest ∧ applyL xs b = res ++ applyL rest (N.drop j) ∧ q + t ≤ n + j ∧ wr.ownsRow w0.heap.size 34 2 o q (flatE res) ∧ res.length = q ∧ Below w0.heap.size w0 wr) (fun _ _ i _ => p - (intOf i).toNat)
  case atStart => exact ⟨0, 0, n, A, c, xs, [], Nat.zero_le _, Nat.zero_le _, Nat.le_refl _, rfl, rfl, hn, HR0.out, HA.out, by rw [List.drop_zero, HAPP.out]; rfl, by omega, World.ownsRow_nil _ _ _ _, rfl, Below.refl _ _⟩
  case round =>
    clear HR0 HA HAPP
    obtain ⟨j, q, t, A1, c1, rest, res, hj, hq, ht, rfl, rfl, hl, hR1, hA1, heq, hqt, hown, hql, hbel⟩ := hrel
    have HT := Lib.hid hl
    have HR1 := Lib.hid hR1
    have HA1 := Lib.hid hA1
    have HEQ := Lib.hid heq
    have HO := Lib.hid hown
    have HQ := Lib.hid hql
    have HB := Lib.hid hbel
    have hsz := hbel.size
    clear hl hR1 hA1 heq hown hql
    by_cases hlt : j < p
    · obtain ⟨x, hx⟩ : ∃ x, N[j]? = some x := ⟨_, List.getElem?_eq_getElem (by rw [HP.out]; exact hlt)⟩
      obtain ⟨g, off, rfl, hg, hcell⟩ := (HRN.out.below hbel (Nat.le_refl _)).at (by rw [HP.out]; omega)
      obtain ⟨d0, d1, d2⟩ := hcell j x hx
      have hdrop := drop_nx hx
      have hst := pass_step HA1.out (w := x) (r := N.drop (j + 1)) (by rw [← hdrop]; exact ascW_drop j HAS.out)
      rw [← hdrop] at hst
      obtain ⟨ka, va, de⟩ := x
      simp only at d0 d1 d2 hst
      obtain ⟨i, hi⟩ : ∃ i, cntE ka rest = i := ⟨_, rfl⟩
      obtain ⟨inn, hinn⟩ : ∃ inn, inE ka rest = inn := ⟨_, rfl⟩
      have hit : i ≤ t := by rw [← hi, ← HT.out]; exact cntE_le _ _
      rw [hi, hinn] at hst
      have hst3 := HEQ.out.trans (congrArg (res ++ ·) hst)
      have hin2 : inn = true → i < t := fun h => by
        rw [h] at hinn
        unfold inE at hinn
        rw [hi] at hinn
        cases hx9 : rest[i]? with
        | none => rw [hx9] at hinn; cases hinn
        | some y => have := (List.getElem?_eq_some_iff.1 hx9).1; rw [HT.out] at this; exact this
      have HST := Lib.hid hst3
      have HI := Lib.hid hi
      have HIN := Lib.hid hinn
      have HIN2 := Lib.hid hin2
      clear hcell hx hdrop hst hst3 hi hinn hin2 hbel
      go_wp2_with fail
      have P0 := Lib.hid (Blk.new wr [.string ka, .string va, .bool de] 38)
      have hbx := (Below.refl wr.heap.size wr).alloc (Nat.le_refl _) (.cells #[.string ka, .string va, .bool de] 38)
      have hR1w := (HR1.out.below (HB.out.trans (hbx.mono hsz)) (Nat.le_refl _))
      refine (bsearch_any A1 c1 rest ka _ t HT.out (by omega) hR1w HA1.out i HI.out inn HIN.out).mono ?_; rintro e w1 ⟨rfl, hB1⟩
      have hs1 := hB1.size
      rw [nblk_alloc] at hs1 hB1
      have P1 := Lib.hid (P0.out.below hB1 (by omega))
      have HO2 := Lib.hid (own_below HO.out (hbx.trans (hB1.mono (by omega))) (Nat.le_refl _))
      have HB2 := Lib.hid (HB.out.trans ((hbx.trans (hB1.mono (by omega))).mono hsz))
      have hnb := Lib.hid (own_not HO.out (b := wr.heap.size) (Nat.le_refl _))
      have hsz2 : w0.heap.size ≤ w1.heap.size := by omega
      have hbk : wr.heap.size < w1.heap.size := by omega
      have hbw0 : w0.heap.size ≤ wr.heap.size := hsz
      generalize wr.heap.size = b0 at *
      clear hbx hB1 hs1 P0 HO HB d0 d1 d2 hsz hR1w
      have hR1w := HR1.out.below HB2.out (Nat.le_refl _)
      have hc1 := hR1w.le
      rw [HT.out] at hc1
      have hcm := hR1w.max
      unfold maxLen at hcm
      go_wp2_with (at_builtin; go_must (refine wpList_appEG rfl (.tmp 24) (.tmp 27) rfl w0.heap.size _ q res rfl HO2.out A1 i c1 (rest.take i) rfl (by rw [List.length_take, HT.out]; omega) (hR1w.take i) (by omega) hsz2 ?_))
      intro v3 w3 hown3 hB3 hg3
      have hs3 := hg3.size
      have P3 := Lib.hid (P1.out.of (hg3.block b0 hbk (fun e => by
        obtain ⟨a9, c9, h9, h10⟩ := own_at HO2.out e.symm
        exact hnb.out a9 c9 h9 h10)))
      have HO3 := Lib.hid hown3
      have HB3 := Lib.hid (HB2.out.trans hB3)
      have hsz3 : w0.heap.size ≤ w3.heap.size := by omega
      have hbk3 : b0 < w3.heap.size := by omega
      obtain ⟨A2, c2, hA2, hc2, hc3, hR4⟩ := dropRow HR1.out HT.out i hit
      have HR4 := Lib.hid hR4
      clear hown3 hB3 hg3 hs3 P1 HO2 HB2 hnb hR1w hR4 hsz2 hbk
      have p0 := P3.out.cell (i := 0) rfl
      have p1 := P3.out.cell (i := 1) rfl
      have p2 := P3.out.cell (i := 2) rfl
      go_upto_region 8 with fail
      cases inn <;> cases de
      · have hst2 : applyL xs b = (res ++ rest.take i ++ [(ka, va)]) ++ applyL (rest.drop (i + 0)) (N.drop (j + 1)) := by rw [HST.out]; simp [oneE]
        have HST2 := Lib.hid hst2
        clear hst2
        have HR5 := HR4
        go_wp2_with (at_builtin; go_must (refine wpList_appE rfl (.tmp 38) (.tmp 44) rfl (w0.heap.size) _ (q + i) (res ++ rest.take i) rfl (HO3.out.alloc _) _ 1 1 [(ka, va)] rfl rfl (RE.one w3 (ka, va) _) (by omega) (by first | omega | (simp; omega)) ?_))
        intro v5 w5 hown5 hB5
        have HB5 := Lib.hid (HB3.out.trans (((Below.refl _ _).alloc hsz3 _).trans hB5))
        have HO5 := Lib.hid hown5
        clear hown5 hB5
        clear p0 p1 p2
        go_wp2
        go_roundw
        case rel => exact ⟨j + 1, q + i + 1, t - i - 0, _, _, rest.drop (i + 0), res ++ rest.take i ++ [(ka, va)], by omega, by omega, by omega, by go_num, by first | rfl | (go_num), by rw [List.length_drop, HT.out]; omega, HR5.out, asc_drop _ HA1.out, HST2.out, by omega, by simpa using HO5.out, by simp [HQ.out, HT.out]; omega, HB5.out⟩
        case measure => simp [intOf]; omega
      · have hst2 : applyL xs b = (res ++ rest.take i ++ []) ++ applyL (rest.drop (i + 0)) (N.drop (j + 1)) := by rw [HST.out]; simp [oneE]
        have HST2 := Lib.hid hst2
        clear hst2
        have HR5 := HR4
        have HB5 := HB3
        have HO5 := HO3
        clear p0 p1
        go_wp2
        go_roundw
        case rel => exact ⟨j + 1, q + i, t - i - 0, _, _, rest.drop (i + 0), res ++ rest.take i ++ [], by omega, by omega, by omega, by go_num, by first | rfl | (go_num), by rw [List.length_drop, HT.out]; omega, HR5.out, asc_drop _ HA1.out, HST2.out, by omega, by simpa using HO5.out, by simp [HQ.out, HT.out]; omega, HB5.out⟩
        case measure => simp [intOf]; omega
      · have hst2 : applyL xs b = (res ++ rest.take i ++ [(ka, va)]) ++ applyL (rest.drop (i + 1)) (N.drop (j + 1)) := by rw [HST.out]; simp [oneE]
        have HST2 := Lib.hid hst2
        clear hst2
        have hit2 : i < t := HIN2.out rfl
        have hlen4 : (rest.drop i).length = t - i := by rw [List.length_drop, HT.out]
        obtain ⟨A3, c3, hA3, hc3', hc3'', hR5⟩ := dropRow HR4.out hlen4 1 (by omega)
        rw [List.drop_drop] at hR5
        simp only [Nat.one_mul] at hA3
        have hA3b : (if c2 = 1 then A2 else Option.map (fun x => ({ block := x.block, off := x.off + 2, spot := none } : Addr)) A2) = A3 := hA3
        have HR5 := Lib.hid hR5
        have hc2p : 1 ≤ c2 := by have := HR4.out.le; rw [hlen4] at this; omega
        have hti1 : 1 ≤ t - i := by omega
        have hti2 : (1 : Int) ≤ (t : Int) - (i : Int) := by omega
        clear hR5 hlen4
        go_wp2_with (at_builtin; go_must (refine wpList_appE rfl (.tmp 38) (.tmp 44) rfl (w0.heap.size) _ (q + i) (res ++ rest.take i) rfl (HO3.out.alloc _) _ 1 1 [(ka, va)] rfl rfl (RE.one w3 (ka, va) _) (by omega) (by first | omega | (simp; omega)) ?_))
        intro v5 w5 hown5 hB5
        have HB5 := Lib.hid (HB3.out.trans (((Below.refl _ _).alloc hsz3 _).trans hB5))
        have HO5 := Lib.hid hown5
        clear hown5 hB5
        clear p0 p1 p2
        go_wp2
        go_roundw
        case rel => exact ⟨j + 1, q + i + 1, t - i - 1, _, _, rest.drop (i + 1), res ++ rest.take i ++ [(ka, va)], by omega, by omega, by omega, by go_num, by first | rfl | (go_num), by rw [List.length_drop, HT.out]; omega, HR5.out, asc_drop _ HA1.out, HST2.out, by omega, by simpa using HO5.out, by simp [HQ.out, HT.out]; omega, HB5.out⟩
        case measure => simp [intOf]; omega
      · have hst2 : applyL xs b = (res ++ rest.take i ++ []) ++ applyL (rest.drop (i + 1)) (N.drop (j + 1)) := by rw [HST.out]; simp [oneE]
        have HST2 := Lib.hid hst2
        clear hst2
        have hit2 : i < t := HIN2.out rfl
        have hlen4 : (rest.drop i).length = t - i := by rw [List.length_drop, HT.out]
        obtain ⟨A3, c3, hA3, hc3', hc3'', hR5⟩ := dropRow HR4.out hlen4 1 (by omega)
        rw [List.drop_drop] at hR5
        simp only [Nat.one_mul] at hA3
        have hA3b : (if c2 = 1 then A2 else Option.map (fun x => ({ block := x.block, off := x.off + 2, spot := none } : Addr)) A2) = A3 := hA3
        have HR5 := Lib.hid hR5
        have hc2p : 1 ≤ c2 := by have := HR4.out.le; rw [hlen4] at this; omega
        have hti1 : 1 ≤ t - i := by omega
        have hti2 : (1 : Int) ≤ (t : Int) - (i : Int) := by omega
        clear hR5 hlen4
        have HB5 := HB3
        have HO5 := HO3
        clear p0 p1
        go_wp2
        go_roundw
        case rel => exact ⟨j + 1, q + i, t - i - 1, _, _, rest.drop (i + 1), res ++ rest.take i ++ [], by omega, by omega, by omega, by go_num, by first | rfl | (go_num), by rw [List.length_drop, HT.out]; omega, HR5.out, asc_drop _ HA1.out, HST2.out, by omega, by simpa using HO5.out, by simp [HQ.out, HT.out]; omega, HB5.out⟩
        case measure => simp [intOf]; omega
    · have hfull : N.drop j = [] := List.drop_of_length_le (by rw [HP.out]; omega)
      have heq := HEQ.out
      rw [hfull] at heq
      have heq2 : applyL xs b = res ++ rest := heq
      have hrq : q + t = r := by rw [← HRR.out, heq2, List.length_append, HQ.out, HT.out]
      have HE := Lib.hid heq2
      have hrq2 := Lib.hid hrq
      clear heq heq2 hrq hbel
      go_wp2_with (at_builtin; go_must (refine wpList_appE rfl (.tmp 47) (.tmp 48) rfl w0.heap.size _ q res rfl HO.out A1 t c1 rest rfl HT.out (HR1.out.below HB.out (Nat.le_refl _)) (by omega) hsz ?_))
      intro v3 w3 hown3 hB3
      rw [← HE.out, hrq2.out] at hown3
      obtain ⟨A2, c2, rfl, hl2, hR2, _⟩ := RE.own hown3
      have HR3 := Lib.hid hR2
      have HB3 := Lib.hid (HB0.out.trans ((HB.out.trans hB3).mono hs0))
      clear hown3 hl2 hR2 hB3
      go_wp2
      go_ret
      exact ⟨_, _, rfl, HR3.out, HB3.out⟩
end Go.Proofs.Ytdhobiiejokglaa
