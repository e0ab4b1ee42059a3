/-
  The law BatchesCompose answers yes for all batches and lists. Condition: none beside the form's own reach.
-/
import Derived.Test.YtdhobiiejokglaaBatAwk
namespace Go.Proofs.Ytdhobiiejokglaa
open Go.RowKit Go.Deep Plain PlainE
set_option linter.unusedVariables false
set_option maxRecDepth 100000 in
set_option maxHeartbeats 8000000 in
theorem lawBatchesCompose (w : World) (A0 : Option Addr) (c0 : Nat) (l0 : List Wri) (n0 : Nat) (hn0 : l0.length = n0) (hm0 : n0 ≤ maxLen) (hR0 : RW w A0 c0 l0) (hs0 : ∀ y ∈ l0, y.1.size ≤ maxLen ∧ y.2.1.size ≤ maxLen) (A1 : Option Addr) (c1 : Nat) (l1 : List Wri) (n1 : Nat) (hn1 : l1.length = n1) (hm1 : n1 ≤ maxLen) (hR1 : RW w A1 c1 l1) (hs1 : ∀ y ∈ l1, y.1.size ≤ maxLen ∧ y.2.1.size ≤ maxLen) (A2 : Option Addr) (c2 : Nat) (l2 : List Ent) (n2 : Nat) (hn2 : l2.length = n2) (hm2 : n2 ≤ maxLen) (hR2 : RE w A2 c2 l2) (hs2 : ∀ y ∈ l2, y.1.size ≤ maxLen ∧ y.2.size ≤ maxLen) :
    Calls Try.prog 6 #[.slice A0 n0 c0, .slice A1 n1 c1, .slice A2 n2 c2] w fun e w' => e = .returned (.bool true) ∧ Below w.heap.size w w' := by
  have HSraw0 : Hid (∀ x ∈ l0, Sz x) := Lib.hid hs0
  have HRraw0 := Lib.hid hR0
  clear hR0 hs0
  have HSraw1 : Hid (∀ x ∈ l1, Sz x) := Lib.hid hs1
  have HRraw1 := Lib.hid hR1
  clear hR1 hs1
  have HRraw2 := Lib.hid hR2
  clear hR2 hs2
  have HB := Lib.hid (Below.refl w.heap.size w)
  have hw : w.heap.size ≤ w.heap.size := Nat.le_refl _
  go_enter Try.func6, Try.ntmps6
  go_wp2_with fail
  refine (fit_any A0 c0 l0 _ n0 hn0 hm0 HRraw0.out HSraw0.out).mono ?_; rintro e w1 ⟨Aa, ca, na, rfl, hl9, hba, hR9, hB9⟩
  have hs9 := hB9.size
  replace HB := Lib.hid (HB.out.trans (hB9.mono hw))
  replace HRraw0 := Lib.hid (HRraw0.out.below hB9 (Nat.le_refl _))
  replace HRraw1 := Lib.hid (HRraw1.out.below hB9 (Nat.le_refl _))
  replace HRraw2 := Lib.hid (HRraw2.out.below hB9 (Nat.le_refl _))
  replace hw := Nat.le_trans hw hs9
  clear hB9 hs9
  have HLa := Lib.hid hl9
  have HSa := Lib.hid (fitL_sz l0)
  clear hl9
  have HRa := Lib.hid hR9
  clear hR9
  obtain ⟨ea, he9⟩ : ∃ e, fitL l0 = e := ⟨_, rfl⟩
  have HCa := Lib.hid (fitL_chk l0)
  rw [he9] at HLa HSa HRa HCa
  clear he9
  go_wp2_with fail
  refine (fit_any A1 c1 l1 _ n1 hn1 hm1 HRraw1.out HSraw1.out).mono ?_; rintro e w2 ⟨Ab, cb, nb, rfl, hl9, hbb, hR9, hB9⟩
  have hs9 := hB9.size
  replace HB := Lib.hid (HB.out.trans (hB9.mono hw))
  replace HRraw0 := Lib.hid (HRraw0.out.below hB9 (Nat.le_refl _))
  replace HRraw1 := Lib.hid (HRraw1.out.below hB9 (Nat.le_refl _))
  replace HRraw2 := Lib.hid (HRraw2.out.below hB9 (Nat.le_refl _))
  replace HRa := Lib.hid (HRa.out.below hB9 (Nat.le_refl _))
  replace hw := Nat.le_trans hw hs9
  clear hB9 hs9
  have HLb := Lib.hid hl9
  have HSb := Lib.hid (fitL_sz l1)
  clear hl9
  have HRb := Lib.hid hR9
  clear hR9
  obtain ⟨eb, he9⟩ : ∃ e, fitL l1 = e := ⟨_, rfl⟩
  have HCb := Lib.hid (fitL_chk l1)
  rw [he9] at HLb HSb HRb HCb
  clear he9
  go_wp2_with fail
  refine (list_any A2 c2 l2 _ n2 hn2 hm2 HRraw2.out).mono ?_; rintro e w3 ⟨Al, cl, nl, rfl, hl9, hbl, hR9, hB9⟩
  have hs9 := hB9.size
  replace HB := Lib.hid (HB.out.trans (hB9.mono hw))
  replace HRraw0 := Lib.hid (HRraw0.out.below hB9 (Nat.le_refl _))
  replace HRraw1 := Lib.hid (HRraw1.out.below hB9 (Nat.le_refl _))
  replace HRraw2 := Lib.hid (HRraw2.out.below hB9 (Nat.le_refl _))
  replace HRa := Lib.hid (HRa.out.below hB9 (Nat.le_refl _))
  replace HRb := Lib.hid (HRb.out.below hB9 (Nat.le_refl _))
  replace hw := Nat.le_trans hw hs9
  clear hB9 hs9
  have HLl := Lib.hid hl9
  have HAl := Lib.hid (listL_asc l2)
  clear hl9
  have HRl := Lib.hid hR9
  clear hR9
  obtain ⟨el, he9⟩ : ∃ e, listL l2 = e := ⟨_, rfl⟩
  rw [he9] at HLl HAl HRl
  clear he9
  go_wp2_with (at_builtin; go_must (refine wpList_appW rfl (.const (.slice none 0 0)) (.tmp 17) rfl w3.heap.size _ 0 [] rfl (World.ownsRow_nil _ _ _ _) Aa na ca ea rfl HLa.out HRa.out (by omega) (Nat.le_refl _) ?_))
  intro v8 W8 hown8 hB8
  go_wp2_with (at_builtin; go_must (refine wpList_appW rfl (.tmp 18) (.tmp 19) rfl w3.heap.size _ na ea rfl hown8 Ab nb cb eb rfl HLb.out (HRb.out.below hB8 (Nat.le_refl _)) (by omega) hB8.size ?_))
  intro v9 W9 hown9 hB9
  replace hB9 := hB8.trans hB9
  obtain ⟨Ax, cx, rfl, hlx, hR8, _⟩ := RW.own hown9
  clear hown8 hown9 hB8
  have hs9 := hB9.size
  replace HB := Lib.hid (HB.out.trans (hB9.mono hw))
  replace HRraw0 := Lib.hid (HRraw0.out.below hB9 (Nat.le_refl _))
  replace HRraw1 := Lib.hid (HRraw1.out.below hB9 (Nat.le_refl _))
  replace HRraw2 := Lib.hid (HRraw2.out.below hB9 (Nat.le_refl _))
  replace HRa := Lib.hid (HRa.out.below hB9 (Nat.le_refl _))
  replace HRb := Lib.hid (HRb.out.below hB9 (Nat.le_refl _))
  replace HRl := Lib.hid (HRl.out.below hB9 (Nat.le_refl _))
  replace hw := Nat.le_trans hw hs9
  clear hB9 hs9
  have HRx := Lib.hid hR8
  clear hR8
  obtain ⟨ex, hex⟩ : ∃ e, ea ++ eb = e := ⟨_, rfl⟩
  obtain ⟨nx, hnx⟩ : ∃ n, na + nb = n := ⟨_, rfl⟩
  have hsx : ∀ y ∈ ex, Sz y := fun y hy => by
    rw [← hex] at hy
    rcases List.mem_append.1 hy with h | h
    · exact HSa.out y h
    · exact HSb.out y h
  rw [hex] at HRx hlx
  rw [hnx] at hlx
  have HSx := Lib.hid hsx
  have HLx := Lib.hid hlx
  have hbx : nx ≤ 32 := by omega
  have HNX := Lib.hid hnx
  have HEX := Lib.hid hex
  clear hsx hlx hex
  obtain ⟨ep, hep⟩ : ∃ e, applyL el ea = e := ⟨_, rfl⟩
  obtain ⟨np, hlp⟩ : ∃ n, ep.length = n := ⟨_, rfl⟩
  have hbp : np ≤ nl + na := by rw [← hlp, ← hep, ← HLl.out, ← HLa.out]; exact applyL_len _ _
  have HAp := Lib.hid (asc_applyL ea HAl.out)
  rw [hep] at HAp
  have HEp := Lib.hid hep
  have HLp := Lib.hid hlp
  clear hep hlp
  obtain ⟨eq, heq⟩ : ∃ e, applyL ep eb = e := ⟨_, rfl⟩
  obtain ⟨nq, hlq⟩ : ∃ n, eq.length = n := ⟨_, rfl⟩
  have hbq : nq ≤ np + nb := by rw [← hlq, ← heq, ← HLp.out, ← HLb.out]; exact applyL_len _ _
  have HAq := Lib.hid (asc_applyL eb HAp.out)
  rw [heq] at HAq
  have HEq := Lib.hid heq
  have HLq := Lib.hid hlq
  clear heq hlq
  obtain ⟨er, her⟩ : ∃ e, applyL el ex = e := ⟨_, rfl⟩
  obtain ⟨nr, hlr⟩ : ∃ n, er.length = n := ⟨_, rfl⟩
  have hbr : nr ≤ nl + nx := by rw [← hlr, ← her, ← HLl.out, ← HLx.out]; exact applyL_len _ _
  have HAr := Lib.hid (asc_applyL ex HAl.out)
  rw [her] at HAr
  have HEr := Lib.hid her
  have HLr := Lib.hid hlr
  clear her hlr
  have hqr : eq = er := by rw [← HEq.out, ← HEp.out, ← HEr.out, ← HEX.out, applyL_append]
  have HQR := Lib.hid hqr
  clear hqr

  go_wp2_with fail
  refine (awake_any _).mono ?_; rintro e w4 ⟨rfl, hB9⟩
  have hs9 := hB9.size
  replace HB := Lib.hid (HB.out.trans (hB9.mono hw))
  replace HRraw0 := Lib.hid (HRraw0.out.below hB9 (Nat.le_refl _))
  replace HRraw1 := Lib.hid (HRraw1.out.below hB9 (Nat.le_refl _))
  replace HRraw2 := Lib.hid (HRraw2.out.below hB9 (Nat.le_refl _))
  replace HRa := Lib.hid (HRa.out.below hB9 (Nat.le_refl _))
  replace HRb := Lib.hid (HRb.out.below hB9 (Nat.le_refl _))
  replace HRl := Lib.hid (HRl.out.below hB9 (Nat.le_refl _))
  replace HRx := Lib.hid (HRx.out.below hB9 (Nat.le_refl _))
  replace hw := Nat.le_trans hw hs9
  clear hB9 hs9
  go_wp2_with fail
  refine (apply_any Al Aa cl ca el ea _ nl na HLl.out HLa.out (by omega) (by omega) HRl.out HRa.out HSa.out HAl.out np (by rw [HEp.out]; exact HLp.out)).mono ?_; rintro e w5 ⟨Ap, cp, rfl, hR9, hB9⟩
  have hs9 := hB9.size
  replace HB := Lib.hid (HB.out.trans (hB9.mono hw))
  replace HRraw0 := Lib.hid (HRraw0.out.below hB9 (Nat.le_refl _))
  replace HRraw1 := Lib.hid (HRraw1.out.below hB9 (Nat.le_refl _))
  replace HRraw2 := Lib.hid (HRraw2.out.below hB9 (Nat.le_refl _))
  replace HRa := Lib.hid (HRa.out.below hB9 (Nat.le_refl _))
  replace HRb := Lib.hid (HRb.out.below hB9 (Nat.le_refl _))
  replace HRl := Lib.hid (HRl.out.below hB9 (Nat.le_refl _))
  replace HRx := Lib.hid (HRx.out.below hB9 (Nat.le_refl _))
  replace hw := Nat.le_trans hw hs9
  clear hB9 hs9
  rw [HEp.out] at hR9
  have HRp := Lib.hid hR9
  clear hR9
  go_wp2_with fail
  refine (apply_any Ap Ab cp cb ep eb _ np nb HLp.out HLb.out (by omega) (by omega) HRp.out HRb.out HSb.out HAp.out nq (by rw [HEq.out]; exact HLq.out)).mono ?_; rintro e w6 ⟨Aq, cq, rfl, hR9, hB9⟩
  have hs9 := hB9.size
  replace HB := Lib.hid (HB.out.trans (hB9.mono hw))
  replace HRraw0 := Lib.hid (HRraw0.out.below hB9 (Nat.le_refl _))
  replace HRraw1 := Lib.hid (HRraw1.out.below hB9 (Nat.le_refl _))
  replace HRraw2 := Lib.hid (HRraw2.out.below hB9 (Nat.le_refl _))
  replace HRa := Lib.hid (HRa.out.below hB9 (Nat.le_refl _))
  replace HRb := Lib.hid (HRb.out.below hB9 (Nat.le_refl _))
  replace HRl := Lib.hid (HRl.out.below hB9 (Nat.le_refl _))
  replace HRx := Lib.hid (HRx.out.below hB9 (Nat.le_refl _))
  replace HRp := Lib.hid (HRp.out.below hB9 (Nat.le_refl _))
  replace hw := Nat.le_trans hw hs9
  clear hB9 hs9
  rw [HEq.out] at hR9
  have HRq := Lib.hid hR9
  clear hR9
  go_wp2_with fail
  refine (apply_any Al Ax cl cx el ex _ nl nx HLl.out HLx.out (by omega) (by omega) HRl.out HRx.out HSx.out HAl.out nr (by rw [HEr.out]; exact HLr.out)).mono ?_; rintro e w7 ⟨Ar, cr, rfl, hR9, hB9⟩
  have hs9 := hB9.size
  replace HB := Lib.hid (HB.out.trans (hB9.mono hw))
  replace HRraw0 := Lib.hid (HRraw0.out.below hB9 (Nat.le_refl _))
  replace HRraw1 := Lib.hid (HRraw1.out.below hB9 (Nat.le_refl _))
  replace HRraw2 := Lib.hid (HRraw2.out.below hB9 (Nat.le_refl _))
  replace HRa := Lib.hid (HRa.out.below hB9 (Nat.le_refl _))
  replace HRb := Lib.hid (HRb.out.below hB9 (Nat.le_refl _))
  replace HRl := Lib.hid (HRl.out.below hB9 (Nat.le_refl _))
  replace HRx := Lib.hid (HRx.out.below hB9 (Nat.le_refl _))
  replace HRp := Lib.hid (HRp.out.below hB9 (Nat.le_refl _))
  replace HRq := Lib.hid (HRq.out.below hB9 (Nat.le_refl _))
  replace hw := Nat.le_trans hw hs9
  clear hB9 hs9
  rw [HEr.out] at hR9
  have HRr := Lib.hid hR9
  clear hR9
  go_wp2_with fail
  refine (sameE_any Aq Ar cq cr eq er _ nq nr HLq.out HLr.out (by omega) (by omega) HRq.out HRr.out true (by rw [HQR.out]; simp)).mono ?_; rintro e w8 ⟨rfl, hB9⟩
  have hs9 := hB9.size
  replace HB := Lib.hid (HB.out.trans (hB9.mono hw))
  replace HRraw0 := Lib.hid (HRraw0.out.below hB9 (Nat.le_refl _))
  replace HRraw1 := Lib.hid (HRraw1.out.below hB9 (Nat.le_refl _))
  replace HRraw2 := Lib.hid (HRraw2.out.below hB9 (Nat.le_refl _))
  replace HRa := Lib.hid (HRa.out.below hB9 (Nat.le_refl _))
  replace HRb := Lib.hid (HRb.out.below hB9 (Nat.le_refl _))
  replace HRl := Lib.hid (HRl.out.below hB9 (Nat.le_refl _))
  replace HRx := Lib.hid (HRx.out.below hB9 (Nat.le_refl _))
  replace HRp := Lib.hid (HRp.out.below hB9 (Nat.le_refl _))
  replace HRq := Lib.hid (HRq.out.below hB9 (Nat.le_refl _))
  replace HRr := Lib.hid (HRr.out.below hB9 (Nat.le_refl _))
  replace hw := Nat.le_trans hw hs9
  clear hB9 hs9
  go_wp2_with fail
  refine (apply_any Al none cl 0 el [] _ nl 0 HLl.out rfl (by omega) (by omega) HRl.out (RW.nil _) (fun x hx => by simp at hx) HAl.out nl HLl.out).mono ?_; rintro e w9 ⟨Az, cz, rfl, hR9, hB9⟩
  have hs9 := hB9.size
  replace HB := Lib.hid (HB.out.trans (hB9.mono hw))
  replace HRraw0 := Lib.hid (HRraw0.out.below hB9 (Nat.le_refl _))
  replace HRraw1 := Lib.hid (HRraw1.out.below hB9 (Nat.le_refl _))
  replace HRraw2 := Lib.hid (HRraw2.out.below hB9 (Nat.le_refl _))
  replace HRa := Lib.hid (HRa.out.below hB9 (Nat.le_refl _))
  replace HRb := Lib.hid (HRb.out.below hB9 (Nat.le_refl _))
  replace HRl := Lib.hid (HRl.out.below hB9 (Nat.le_refl _))
  replace HRx := Lib.hid (HRx.out.below hB9 (Nat.le_refl _))
  replace HRp := Lib.hid (HRp.out.below hB9 (Nat.le_refl _))
  replace HRq := Lib.hid (HRq.out.below hB9 (Nat.le_refl _))
  replace HRr := Lib.hid (HRr.out.below hB9 (Nat.le_refl _))
  replace hw := Nat.le_trans hw hs9
  clear hB9 hs9
  have HRz := Lib.hid hR9
  clear hR9
  go_wp2_with fail
  refine (sameE_any Az Al cz cl (applyL el []) el _ nl nl HLl.out HLl.out (by omega) (by omega) HRz.out HRl.out true (by simp [applyL])).mono ?_; rintro e w10 ⟨rfl, hB9⟩
  have hs9 := hB9.size
  replace HB := Lib.hid (HB.out.trans (hB9.mono hw))
  replace HRraw0 := Lib.hid (HRraw0.out.below hB9 (Nat.le_refl _))
  replace HRraw1 := Lib.hid (HRraw1.out.below hB9 (Nat.le_refl _))
  replace HRraw2 := Lib.hid (HRraw2.out.below hB9 (Nat.le_refl _))
  replace HRa := Lib.hid (HRa.out.below hB9 (Nat.le_refl _))
  replace HRb := Lib.hid (HRb.out.below hB9 (Nat.le_refl _))
  replace HRl := Lib.hid (HRl.out.below hB9 (Nat.le_refl _))
  replace HRx := Lib.hid (HRx.out.below hB9 (Nat.le_refl _))
  replace HRp := Lib.hid (HRp.out.below hB9 (Nat.le_refl _))
  replace HRq := Lib.hid (HRq.out.below hB9 (Nat.le_refl _))
  replace HRr := Lib.hid (HRr.out.below hB9 (Nat.le_refl _))
  replace HRz := Lib.hid (HRz.out.below hB9 (Nat.le_refl _))
  replace hw := Nat.le_trans hw hs9
  clear hB9 hs9
  go_wp2
  go_ret
  exact ⟨by first | rfl | simp, HB.out⟩
end Go.Proofs.Ytdhobiiejokglaa
