/-
  The law BatchesCommute answers yes for all batches and lists. Condition: none beside the form's own reach.
-/
import Derived.Test.YtdhobiiejokglaaBatAwk
namespace Go.Proofs.Ytdhobiiejokglaa
open Go.RowKit Go.Deep Plain PlainE
set_option linter.unusedVariables false

/-- The writes of b whose keys a does not write. -/
def othW (a b : List Wri) : List Wri := b.filter fun x => !(a.any fun v => eqk v.1 x.1)
theorem othW_ne {a b : List Wri} {x : Wri} (h : x ∈ othW a b) (v : Wri) (hv : v ∈ a) : v.1 ≠ x.1 := fun e => by
  have h1 := (List.mem_filter.1 h).2
  rw [Bool.not_eq_true'] at h1
  exact List.any_eq_false.1 h1 v hv (eqk_iff.2 e)
theorem othW_sub {a b : List Wri} {x : Wri} (h : x ∈ othW a b) : x ∈ b := (List.mem_filter.1 h).1
theorem othW_len (a b : List Wri) : (othW a b).length ≤ b.length := List.length_filter_le _ _
theorem othW_nx {a b : List Wri} {j : Nat} {x : Wri} (h : b[j]? = some x) : othW a (b.take (j + 1)) = othW a (b.take j) ++ (if a.any (fun v => eqk v.1 x.1) = true then [] else [x]) := by
  unfold othW
  rw [take_nx h, List.filter_append]
  congr 1
  rw [List.filter_cons]
  cases a.any (fun v => eqk v.1 x.1) <;> simp
set_option maxRecDepth 100000 in
set_option maxHeartbeats 8000000 in
theorem lawBatchesCommute (w : World) (A0 : Option Addr) (c0 : Nat) (l0 : List Wri) (n0 : Nat) (hn0 : l0.length = n0) (hm0 : n0 ≤ maxLen) (hR0 : RW w A0 c0 l0) (hs0 : ∀ y ∈ l0, y.1.size ≤ maxLen ∧ y.2.1.size ≤ maxLen) (A1 : Option Addr) (c1 : Nat) (l1 : List Wri) (n1 : Nat) (hn1 : l1.length = n1) (hm1 : n1 ≤ maxLen) (hR1 : RW w A1 c1 l1) (hs1 : ∀ y ∈ l1, y.1.size ≤ maxLen ∧ y.2.1.size ≤ maxLen) (A2 : Option Addr) (c2 : Nat) (l2 : List Ent) (n2 : Nat) (hn2 : l2.length = n2) (hm2 : n2 ≤ maxLen) (hR2 : RE w A2 c2 l2) (hs2 : ∀ y ∈ l2, y.1.size ≤ maxLen ∧ y.2.size ≤ maxLen) :
    Calls Try.prog 7 #[.slice A0 n0 c0, .slice A1 n1 c1, .slice A2 n2 c2] w fun e w' => e = .returned (.bool true) ∧ Below w.heap.size w w' := by
  have HSraw0 : Hid (∀ x ∈ l0, Sz x) := Lib.hid hs0
  have HRraw0 := Lib.hid hR0
  clear hR0 hs0
  have HSraw1 : Hid (∀ x ∈ l1, Sz x) := Lib.hid hs1
  have HRraw1 := Lib.hid hR1
  clear hR1 hs1
  have HRraw2 := Lib.hid hR2
  clear hR2 hs2
  have HB := Lib.hid (Below.refl w.heap.size w)
  have hw : w.heap.size ≤ w.heap.size := Nat.le_refl _
  go_enter Try.func7, Try.ntmps7
  go_wp2_with fail
  refine (fit_any A0 c0 l0 _ n0 hn0 hm0 HRraw0.out HSraw0.out).mono ?_; rintro e w1 ⟨Aa, ca, na, rfl, hl9, hba, hR9, hB9⟩
  have hs9 := hB9.size
  replace HB := Lib.hid (HB.out.trans (hB9.mono hw))
  replace HRraw0 := Lib.hid (HRraw0.out.below hB9 (Nat.le_refl _))
  replace HRraw1 := Lib.hid (HRraw1.out.below hB9 (Nat.le_refl _))
  replace HRraw2 := Lib.hid (HRraw2.out.below hB9 (Nat.le_refl _))
  replace hw := Nat.le_trans hw hs9
  clear hB9 hs9
  have HLa := Lib.hid hl9
  have HSa := Lib.hid (fitL_sz l0)
  clear hl9
  have HRa := Lib.hid hR9
  clear hR9
  obtain ⟨ea, he9⟩ : ∃ e, fitL l0 = e := ⟨_, rfl⟩
  have HCa := Lib.hid (fitL_chk l0)
  rw [he9] at HLa HSa HRa HCa
  clear he9
  go_wp2_with fail
  refine (list_any A2 c2 l2 _ n2 hn2 hm2 HRraw2.out).mono ?_; rintro e w2 ⟨Al, cl, nl, rfl, hl9, hbl, hR9, hB9⟩
  have hs9 := hB9.size
  replace HB := Lib.hid (HB.out.trans (hB9.mono hw))
  replace HRraw0 := Lib.hid (HRraw0.out.below hB9 (Nat.le_refl _))
  replace HRraw1 := Lib.hid (HRraw1.out.below hB9 (Nat.le_refl _))
  replace HRraw2 := Lib.hid (HRraw2.out.below hB9 (Nat.le_refl _))
  replace HRa := Lib.hid (HRa.out.below hB9 (Nat.le_refl _))
  replace hw := Nat.le_trans hw hs9
  clear hB9 hs9
  have HLl := Lib.hid hl9
  have HAl := Lib.hid (listL_asc l2)
  clear hl9
  have HRl := Lib.hid hR9
  clear hR9
  obtain ⟨el, he9⟩ : ∃ e, listL l2 = e := ⟨_, rfl⟩
  rw [he9] at HLl HAl HRl
  clear he9
  go_wp2_with fail
  refine (fit_any A1 c1 l1 _ n1 hn1 hm1 HRraw1.out HSraw1.out).mono ?_; rintro e w3 ⟨Ab, cb, nb, rfl, hl9, hbb, hR9, hB9⟩
  have hs9 := hB9.size
  replace HB := Lib.hid (HB.out.trans (hB9.mono hw))
  replace HRraw0 := Lib.hid (HRraw0.out.below hB9 (Nat.le_refl _))
  replace HRraw1 := Lib.hid (HRraw1.out.below hB9 (Nat.le_refl _))
  replace HRraw2 := Lib.hid (HRraw2.out.below hB9 (Nat.le_refl _))
  replace HRa := Lib.hid (HRa.out.below hB9 (Nat.le_refl _))
  replace HRl := Lib.hid (HRl.out.below hB9 (Nat.le_refl _))
  replace hw := Nat.le_trans hw hs9
  clear hB9 hs9
  have HLb := Lib.hid hl9
  have HSb := Lib.hid (fitL_sz l1)
  clear hl9
  have HRb := Lib.hid hR9
  clear hR9
  obtain ⟨eb, he9⟩ : ∃ e, fitL l1 = e := ⟨_, rfl⟩
  have HCb := Lib.hid (fitL_chk l1)
  rw [he9] at HLb HSb HRb HCb
  clear he9
  obtain ⟨ex, hex⟩ : ∃ e, othW ea eb = e := ⟨_, rfl⟩
  have hdis : ∀ v ∈ ea, ∀ x ∈ ex, v.1 ≠ x.1 := fun v hv x hx => othW_ne (by rw [hex]; exact hx) v hv
  have hsx : ∀ x ∈ ex, Sz x := fun x hx => HSb.out x (othW_sub (a := ea) (by rw [hex]; exact hx))
  have hlx0 : ex.length ≤ nb := by rw [← hex, ← HLb.out]; exact othW_len ea eb
  obtain ⟨nx, hnx⟩ : ∃ n, ex.length = n := ⟨_, rfl⟩
  have hbx : nx ≤ nb := by rw [← hnx]; exact hlx0
  have HEX := Lib.hid hex
  have HDI := Lib.hid hdis
  have HSx := Lib.hid hsx
  have HLx := Lib.hid hnx
  clear hex hdis hsx hlx0 hnx
  obtain ⟨ep, hep⟩ : ∃ e, applyL el ea = e := ⟨_, rfl⟩
  obtain ⟨np, hlp⟩ : ∃ n, ep.length = n := ⟨_, rfl⟩
  have hbp : np ≤ nl + na := by rw [← hlp, ← hep, ← HLl.out, ← HLa.out]; exact applyL_len _ _
  have HAp := Lib.hid (asc_applyL ea HAl.out)
  rw [hep] at HAp
  have HEp := Lib.hid hep
  have HLp := Lib.hid hlp
  clear hep hlp
  obtain ⟨eq, heq⟩ : ∃ e, applyL ep ex = e := ⟨_, rfl⟩
  obtain ⟨nq, hlq⟩ : ∃ n, eq.length = n := ⟨_, rfl⟩
  have hbq : nq ≤ np + nx := by rw [← hlq, ← heq, ← HLp.out, ← HLx.out]; exact applyL_len _ _
  have HAq := Lib.hid (asc_applyL ex HAp.out)
  rw [heq] at HAq
  have HEq := Lib.hid heq
  have HLq := Lib.hid hlq
  clear heq hlq
  obtain ⟨er, her⟩ : ∃ e, applyL el ex = e := ⟨_, rfl⟩
  obtain ⟨nr, hlr⟩ : ∃ n, er.length = n := ⟨_, rfl⟩
  have hbr : nr ≤ nl + nx := by rw [← hlr, ← her, ← HLl.out, ← HLx.out]; exact applyL_len _ _
  have HAr := Lib.hid (asc_applyL ex HAl.out)
  rw [her] at HAr
  have HEr := Lib.hid her
  have HLr := Lib.hid hlr
  clear her hlr
  obtain ⟨et, het⟩ : ∃ e, applyL er ea = e := ⟨_, rfl⟩
  obtain ⟨nt, hlt⟩ : ∃ n, et.length = n := ⟨_, rfl⟩
  have hbt : nt ≤ nr + na := by rw [← hlt, ← het, ← HLr.out, ← HLa.out]; exact applyL_len _ _
  have HAt := Lib.hid (asc_applyL ea HAr.out)
  rw [het] at HAt
  have HEt := Lib.hid het
  have HLt := Lib.hid hlt
  clear het hlt
  have hqt : eq = et := by rw [← HEq.out, ← HEp.out, ← HEt.out, ← HEr.out]; exact applyL_comm HAl.out HDI.out
  have HQT := Lib.hid hqt
  clear hqt
  go_wp2_with fail
  go_loopw [9, 21] (fun o i wr => ∃ (j q : Nat) (vo : Value), vo = o ∧ j ≤ nb ∧ q ≤ j ∧ i = .int .i64 j ∧ (othW ea (eb.take j)).length = q ∧ wr.ownsRow w3.heap.size 38 3 vo q (flatW (othW ea (eb.take j))) ∧ Below w3.heap.size w3 wr) (fun _ i _ => nb - (intOf i).toNat)
  case atStart => exact ⟨0, 0, _, rfl, Nat.zero_le _, Nat.le_refl _, rfl, rfl, World.ownsRow_nil _ _ _ _, Below.refl _ _⟩
  case round =>
    obtain ⟨j, q, vo, rfl, hj, hq, rfl, hlq, hown, hbel⟩ := hrel
    have HLQ := Lib.hid hlq
    have HO := Lib.hid hown
    have HBE := Lib.hid hbel
    have hsz := hbel.size
    clear hlq hown
    by_cases hlt : j < nb
    · obtain ⟨x, hx⟩ : ∃ x, eb[j]? = some x := ⟨_, List.getElem?_eq_getElem (by have := HLb.out; omega)⟩
      obtain ⟨g0, off0, rfl, hg0, hcell0⟩ := (HRb.out.below hbel (Nat.le_refl _)).at (by have := HLb.out; omega)
      obtain ⟨x0, x1, x2⟩ := hcell0 j x hx
      rename World => V0
      have P0 := Lib.hid (Blk.new V0 [.string x.1, .string x.2.1, .bool x.2.2] 38)
      have hbx := (Below.refl V0.heap.size V0).alloc (Nat.le_refl _) (.cells #[.string x.1, .string x.2.1, .bool x.2.2] 38)
      have HRv := Lib.hid (HRa.out.below (hbel.trans (hbx.mono hsz)) (Nat.le_refl _))
      have HOv := Lib.hid (own_below HO.out hbx (Nat.le_refl _))
      have HBv := Lib.hid (hbel.trans (hbx.mono hsz))
      have hszv : w3.heap.size ≤ (V0.alloc (.cells #[.string x.1, .string x.2.1, .bool x.2.2] 38)).heap.size := HBv.out.size
      obtain ⟨f, hf⟩ : ∃ f, ea.any (fun v => eqk v.1 x.1) = f := ⟨_, rfl⟩
      have hst := othW_nx (a := ea) hx
      rw [hf] at hst
      have HF := Lib.hid hf
      have HST := Lib.hid hst
      clear hcell0 hx hf hst hbel HO HBE
      go_wp2_with fail
      generalize hV1 : V0.alloc (.cells #[.string x.1, .string x.2.1, .bool x.2.2] 38) = V1 at *
      have hb0 : V0.heap.size < V1.heap.size := by rw [← hV1, nblk_alloc]; omega
      generalize V0.heap.size = b0 at *
      clear hV1 hbx x0 x1 x2 hsz
      go_loopw [12, 13] (fun q i wr => ∃ k : Nat, k ≤ na ∧ i = .int .i64 k ∧ q = .bool ((ea.take k).any fun v => eqk v.1 x.1) ∧ Below V1.heap.size V1 wr) (fun _ i _ => na - (intOf i).toNat)
      case atStart => exact ⟨0, Nat.zero_le _, rfl, rfl, Below.refl _ _⟩
      case round =>
        obtain ⟨k, hk, rfl, rfl, hbel⟩ := hrel
        rename World => V2
        have HBF := Lib.hid hbel
        have P2 := P0.out.below hbel hb0
        have p0 := P2.cell (i := 0) rfl
        have p1 := P2.cell (i := 1) rfl
        have p2 := P2.cell (i := 2) rfl
        by_cases hlt2 : k < na
        · obtain ⟨v, hv⟩ : ∃ v, ea[k]? = some v := ⟨_, List.getElem?_eq_getElem (by have := HLa.out; omega)⟩
          obtain ⟨g, off, rfl, hg, hcell⟩ := (HRv.out.below hbel (Nat.le_refl _)).at (by have := HLa.out; omega)
          obtain ⟨d0, _, _⟩ := hcell k v hv
          obtain ⟨fs, hfs⟩ : ∃ fs, ((ea.take k).any fun v => eqk v.1 x.1) = fs := ⟨_, rfl⟩
          obtain ⟨bb, hbb⟩ : ∃ bb, (v.1.toList == x.1.toList) = bb := ⟨_, rfl⟩
          have hst : ((ea.take (k + 1)).any fun v => eqk v.1 x.1) = (fs || bb) := by
            rw [take_nx hv, List.any_append, List.any_cons, List.any_nil, Bool.or_false, hfs]
            show (fs || (v.1.toList == x.1.toList)) = _
            rw [hbb]
          rw [hfs]
          have HST2 := Lib.hid hst
          clear hcell hv hst hbel hfs P2 p1 p2
          cases fs
          · cases bb
            all_goals
              go_wp2_with fail
              go_quiet (fail)
              go_wp2
              go_roundw
              case rel => exact ⟨k + 1, by omega, by go_num, by rw [HST2.out]; rfl, below_drewN HBF.out _⟩
              case measure => simp [intOf]; omega
          · go_wp2_with fail
            go_quiet (fail)
            go_wp2
            go_roundw
            case rel => exact ⟨k + 1, by omega, by go_num, by rw [HST2.out]; rfl, below_drewN HBF.out _⟩
            case measure => simp [intOf]; omega
        · have hfull : ea.take k = ea := List.take_of_length_le (by have := HLa.out; omega)
          rw [hfull, HF.out]
          have HB7 := Lib.hid (HBv.out.trans (HBF.out.mono hszv))
          have HO7 := Lib.hid (own_below HOv.out HBF.out (Nat.le_refl _))
          have hs7 : w3.heap.size ≤ V2.heap.size := HB7.out.size
          clear hfull hbel P2
          cases f
          · go_wp2_with (at_builtin; go_must (refine wpList_appW rfl (.tmp 44) (.tmp 46) rfl w3.heap.size _ q (othW ea (eb.take j)) rfl (HO7.out.alloc _) _ 1 1 [x] rfl rfl (RW.one _ x _) (by omega) (by rw [nblk_alloc]; omega) ?_))
            intro v8 W8 hown8 hB8
            have HO8 := Lib.hid hown8
            have HB8 := Lib.hid (HB7.out.trans (((Below.refl _ _).alloc hs7 _).trans hB8))
            clear hown8 hB8
            go_wp2
            go_roundw
            case rel => exact ⟨j + 1, q + 1, _, rfl, by omega, by omega, by go_num, by rw [HST.out, List.length_append, HLQ.out]; rfl, by rw [HST.out]; exact HO8.out, HB8.out⟩
            case measure => simp [intOf]; omega
          · go_wp2
            go_roundw
            case rel => exact ⟨j + 1, q, _, rfl, by omega, by omega, by go_num, by rw [HST.out]; simpa using HLQ.out, by rw [HST.out]; simpa using HO7.out, HB7.out⟩
            case measure => simp [intOf]; omega
    · have hfull : eb.take j = eb := List.take_of_length_le (by have := HLb.out; omega)
      have hO := HO.out
      have hlq := HLQ.out
      rw [hfull, HEX.out] at hO hlq
      rw [HLx.out] at hlq
      subst hlq
      obtain ⟨Ax, cx, rfl, _, hR8, _⟩ := RW.own hO
      have hB9 := hbel
      clear hbel hfull hO
      have hs9 := hB9.size
      replace HB := Lib.hid (HB.out.trans (hB9.mono hw))
      replace HRraw0 := Lib.hid (HRraw0.out.below hB9 (Nat.le_refl _))
      replace HRraw1 := Lib.hid (HRraw1.out.below hB9 (Nat.le_refl _))
      replace HRraw2 := Lib.hid (HRraw2.out.below hB9 (Nat.le_refl _))
      replace HRa := Lib.hid (HRa.out.below hB9 (Nat.le_refl _))
      replace HRl := Lib.hid (HRl.out.below hB9 (Nat.le_refl _))
      replace HRb := Lib.hid (HRb.out.below hB9 (Nat.le_refl _))
      replace hw := Nat.le_trans hw hs9
      clear hB9 hs9
      have HRx := Lib.hid hR8
      clear hR8
      go_wp2_with fail
      refine (awake_any _).mono ?_; rintro e w4 ⟨rfl, hB9⟩
      have hs9 := hB9.size
      replace HB := Lib.hid (HB.out.trans (hB9.mono hw))
      replace HRraw0 := Lib.hid (HRraw0.out.below hB9 (Nat.le_refl _))
      replace HRraw1 := Lib.hid (HRraw1.out.below hB9 (Nat.le_refl _))
      replace HRraw2 := Lib.hid (HRraw2.out.below hB9 (Nat.le_refl _))
      replace HRa := Lib.hid (HRa.out.below hB9 (Nat.le_refl _))
      replace HRl := Lib.hid (HRl.out.below hB9 (Nat.le_refl _))
      replace HRb := Lib.hid (HRb.out.below hB9 (Nat.le_refl _))
      replace HRx := Lib.hid (HRx.out.below hB9 (Nat.le_refl _))
      replace hw := Nat.le_trans hw hs9
      clear hB9 hs9
      go_wp2_with fail
      refine (apply_any Al Aa cl ca el ea _ nl na HLl.out HLa.out (by omega) (by omega) HRl.out HRa.out HSa.out HAl.out np (by rw [HEp.out]; exact HLp.out)).mono ?_; rintro e w5 ⟨Ap, cp, rfl, hR9, hB9⟩
      have hs9 := hB9.size
      replace HB := Lib.hid (HB.out.trans (hB9.mono hw))
      replace HRraw0 := Lib.hid (HRraw0.out.below hB9 (Nat.le_refl _))
      replace HRraw1 := Lib.hid (HRraw1.out.below hB9 (Nat.le_refl _))
      replace HRraw2 := Lib.hid (HRraw2.out.below hB9 (Nat.le_refl _))
      replace HRa := Lib.hid (HRa.out.below hB9 (Nat.le_refl _))
      replace HRl := Lib.hid (HRl.out.below hB9 (Nat.le_refl _))
      replace HRb := Lib.hid (HRb.out.below hB9 (Nat.le_refl _))
      replace HRx := Lib.hid (HRx.out.below hB9 (Nat.le_refl _))
      replace hw := Nat.le_trans hw hs9
      clear hB9 hs9
      rw [HEp.out] at hR9
      have HRp := Lib.hid hR9
      clear hR9
      go_wp2_with fail
      refine (apply_any Ap Ax cp cx ep ex _ np nx HLp.out HLx.out (by omega) (by omega) HRp.out HRx.out HSx.out HAp.out nq (by rw [HEq.out]; exact HLq.out)).mono ?_; rintro e w6 ⟨Aq, cq, rfl, hR9, hB9⟩
      have hs9 := hB9.size
      replace HB := Lib.hid (HB.out.trans (hB9.mono hw))
      replace HRraw0 := Lib.hid (HRraw0.out.below hB9 (Nat.le_refl _))
      replace HRraw1 := Lib.hid (HRraw1.out.below hB9 (Nat.le_refl _))
      replace HRraw2 := Lib.hid (HRraw2.out.below hB9 (Nat.le_refl _))
      replace HRa := Lib.hid (HRa.out.below hB9 (Nat.le_refl _))
      replace HRl := Lib.hid (HRl.out.below hB9 (Nat.le_refl _))
      replace HRb := Lib.hid (HRb.out.below hB9 (Nat.le_refl _))
      replace HRx := Lib.hid (HRx.out.below hB9 (Nat.le_refl _))
      replace HRp := Lib.hid (HRp.out.below hB9 (Nat.le_refl _))
      replace hw := Nat.le_trans hw hs9
      clear hB9 hs9
      rw [HEq.out] at hR9
      have HRq := Lib.hid hR9
      clear hR9
      go_wp2_with fail
      refine (apply_any Al Ax cl cx el ex _ nl nx HLl.out HLx.out (by omega) (by omega) HRl.out HRx.out HSx.out HAl.out nr (by rw [HEr.out]; exact HLr.out)).mono ?_; rintro e w7 ⟨Ar, cr, rfl, hR9, hB9⟩
      have hs9 := hB9.size
      replace HB := Lib.hid (HB.out.trans (hB9.mono hw))
      replace HRraw0 := Lib.hid (HRraw0.out.below hB9 (Nat.le_refl _))
      replace HRraw1 := Lib.hid (HRraw1.out.below hB9 (Nat.le_refl _))
      replace HRraw2 := Lib.hid (HRraw2.out.below hB9 (Nat.le_refl _))
      replace HRa := Lib.hid (HRa.out.below hB9 (Nat.le_refl _))
      replace HRl := Lib.hid (HRl.out.below hB9 (Nat.le_refl _))
      replace HRb := Lib.hid (HRb.out.below hB9 (Nat.le_refl _))
      replace HRx := Lib.hid (HRx.out.below hB9 (Nat.le_refl _))
      replace HRp := Lib.hid (HRp.out.below hB9 (Nat.le_refl _))
      replace HRq := Lib.hid (HRq.out.below hB9 (Nat.le_refl _))
      replace hw := Nat.le_trans hw hs9
      clear hB9 hs9
      rw [HEr.out] at hR9
      have HRr := Lib.hid hR9
      clear hR9
      go_wp2_with fail
      refine (apply_any Ar Aa cr ca er ea _ nr na HLr.out HLa.out (by omega) (by omega) HRr.out HRa.out HSa.out HAr.out nt (by rw [HEt.out]; exact HLt.out)).mono ?_; rintro e w8 ⟨At, ct, rfl, hR9, hB9⟩
      have hs9 := hB9.size
      replace HB := Lib.hid (HB.out.trans (hB9.mono hw))
      replace HRraw0 := Lib.hid (HRraw0.out.below hB9 (Nat.le_refl _))
      replace HRraw1 := Lib.hid (HRraw1.out.below hB9 (Nat.le_refl _))
      replace HRraw2 := Lib.hid (HRraw2.out.below hB9 (Nat.le_refl _))
      replace HRa := Lib.hid (HRa.out.below hB9 (Nat.le_refl _))
      replace HRl := Lib.hid (HRl.out.below hB9 (Nat.le_refl _))
      replace HRb := Lib.hid (HRb.out.below hB9 (Nat.le_refl _))
      replace HRx := Lib.hid (HRx.out.below hB9 (Nat.le_refl _))
      replace HRp := Lib.hid (HRp.out.below hB9 (Nat.le_refl _))
      replace HRq := Lib.hid (HRq.out.below hB9 (Nat.le_refl _))
      replace HRr := Lib.hid (HRr.out.below hB9 (Nat.le_refl _))
      replace hw := Nat.le_trans hw hs9
      clear hB9 hs9
      rw [HEt.out] at hR9
      have HRt := Lib.hid hR9
      clear hR9
      go_wp2_with fail
      refine (sameE_any Aq At cq ct eq et _ nq nt HLq.out HLt.out (by omega) (by omega) HRq.out HRt.out true (by rw [HQT.out]; simp)).mono ?_; rintro e w9 ⟨rfl, hB9⟩
      have hs9 := hB9.size
      replace HB := Lib.hid (HB.out.trans (hB9.mono hw))
      replace HRraw0 := Lib.hid (HRraw0.out.below hB9 (Nat.le_refl _))
      replace HRraw1 := Lib.hid (HRraw1.out.below hB9 (Nat.le_refl _))
      replace HRraw2 := Lib.hid (HRraw2.out.below hB9 (Nat.le_refl _))
      replace HRa := Lib.hid (HRa.out.below hB9 (Nat.le_refl _))
      replace HRl := Lib.hid (HRl.out.below hB9 (Nat.le_refl _))
      replace HRb := Lib.hid (HRb.out.below hB9 (Nat.le_refl _))
      replace HRx := Lib.hid (HRx.out.below hB9 (Nat.le_refl _))
      replace HRp := Lib.hid (HRp.out.below hB9 (Nat.le_refl _))
      replace HRq := Lib.hid (HRq.out.below hB9 (Nat.le_refl _))
      replace HRr := Lib.hid (HRr.out.below hB9 (Nat.le_refl _))
      replace HRt := Lib.hid (HRt.out.below hB9 (Nat.le_refl _))
      replace hw := Nat.le_trans hw hs9
      clear hB9 hs9
      go_wp2
      go_ret
      exact ⟨by first | rfl | simp, HB.out⟩
end Go.Proofs.Ytdhobiiejokglaa
