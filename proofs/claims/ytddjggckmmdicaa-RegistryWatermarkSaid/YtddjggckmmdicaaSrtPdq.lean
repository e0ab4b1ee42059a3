/-
  The library's pdqsort on a part of a row of words, as the library's plain text says it. Condition: parts of fewer than 50 words.
-/
import Derived.Test.YtddjggckmmdicaaSrtBrk
import Derived.Test.YtddjggckmmdicaaSrtRnd
import Derived.Test.YtddjggckmmdicaaSrtPiv
namespace Go.Proofs.Ytddjggckmmdicaa
open Go.RowKit Go.Deep
open Go.Sort (swp size_swp breakPatterns choosePivot reverseRange partialInsertionSort partitionEqual pdq Hint)
set_option linter.unusedVariables false

theorem hint_two (h : Hint) : hintN h = 2 ↔ h = .decreasing := by cases h <;> simp [hintN]
theorem hint_one (h : Hint) : hintN h = 1 ↔ h = .increasing := by cases h <;> simp [hintN]

set_option maxHeartbeats 16000000 in
set_option maxRecDepth 100000 in
theorem srt_pdq (g off n cap : Nat) (hn2 : n < 2305843009213693952) : ∀ (s a0 b0 l0 : Nat) (d0 : Array Nat) (w0 w : World), b0 - a0 ≤ s → Ro w0 w g off d0 → g < w0.heap.size → d0.size = n → a0 ≤ b0 → b0 ≤ n → b0 - a0 < 50 → l0 < 2305843009213693952 →
    Calls Try.prog 42 #[.slice (some ⟨g, off, none⟩) n cap, .int .i64 (a0 : Int), .int .i64 (b0 : Int), .int .i64 (l0 : Int)] w fun e w' => e = .returned (.tuple #[]) ∧ Ro w0 w' g off (pdq ltW d0 a0 b0 l0 true true) ∧ (pdq ltW d0 a0 b0 l0 true true).size = n := by
  intro s
  induction s using Nat.strongRecOn with
  | _ s ih =>
  intro a0 b0 l0 d0 w0 w hs0 hS hg hn ha0 hb0 h50 hl0
  obtain ⟨D, hD⟩ : ∃ D, pdq ltW d0 a0 b0 l0 true true = D := ⟨_, rfl⟩
  rw [hD]
  have IH := Lib.hid ih
  have HR := Lib.hid hS
  have HK := Lib.hid hD
  clear ih hS hD
  go_enter Try.func42, Try.ntmps42
  go_wp2
  go_loopw [1, 2, 3, 8, 9] (fun u1 u2 u3 u8 u9 wr => ∃ (a b l : Nat) (wb wp : Bool) (di : Array Nat), u1 = .int .i64 (a : Int) ∧ u2 = .int .i64 (b : Int) ∧ u3 = .int .i64 (l : Int) ∧ u8 = .bool wb ∧ u9 = .bool wp ∧ a ≤ b ∧ b ≤ n ∧ b - a ≤ s ∧ b - a < 50 ∧ l < 2305843009213693952 ∧ di.size = n ∧ Ro w0 wr g off di ∧ pdq ltW di a b l wb wp = D) (fun u1 u2 _ _ _ _ => (intOf u2 - intOf u1).toNat)
  case atStart => exact ⟨a0, b0, l0, true, true, d0, rfl, rfl, rfl, rfl, rfl, ha0, hb0, hs0, h50, hl0, hn, HR.out, HK.out⟩
  case round =>
    obtain ⟨a, b, l, wb, wp, di, rfl, rfl, rfl, rfl, rfl, hab, hbn, hbs, hb50, hl, hsd, hR, hK⟩ := hrel
    clear HR HK hs0 ha0 hb0 h50 hl0 hn
    have HR := Lib.hid hR
    have HK := Lib.hid hK
    clear hR hK
    rename World => wr
    obtain ⟨L, hL⟩ : ∃ L, b - a = L := ⟨_, rfl⟩
    have hz1 : (b : Int) - (a : Int) = (L : Int) := by omega
    by_cases h12 : L ≤ 12
    · have hLz : (L : Int) ≤ 12 := by omega
      go_wp2_with fail
      refine (srt_ins g off n cap a b di w0 wr HR.out hsd (by omega) hab hbn).mono ?_; rintro e w2 ⟨rfl, hR2, hs2⟩
      have hk := HK.out
      rw [pdq_ins (by omega)] at hk
      rw [hk] at hR2 hs2
      go_wp2
      refine bodyPost_ret (results_none rfl _ _ _) rfl ?_
      exact ⟨rfl, hR2, hs2⟩
    · have hLz : ¬ (L : Int) ≤ 12 := by omega
      by_cases h0 : l = 0
      · have h0z : (l : Int) = 0 := by omega
        have hk := HK.out
        rw [h0, pdq_hp (by omega)] at hk
        have HK2 := Lib.hid hk
        clear hk
        go_wp2_with fail
        refine (srt_heap g off n cap a b di w0 wr HR.out hsd (by omega) (by omega) hbn).mono ?_; rintro e w2 ⟨rfl, hR2, hs2⟩
        rw [HK2.out] at hR2 hs2
        go_wp2
        refine bodyPost_ret (results_none rfl _ _ _) rfl ?_
        exact ⟨rfl, hR2, hs2⟩
      · have h0z : ¬ (l : Int) = 0 := by omega
        obtain ⟨d1, e1⟩ : ∃ d1, (if !wb then breakPatterns di a b else di) = d1 := ⟨_, rfl⟩
        obtain ⟨l2, e2⟩ : ∃ l2, (if !wb then l - 1 else l) = l2 := ⟨_, rfl⟩
        obtain ⟨⟨c, h⟩, e3⟩ : ∃ r, choosePivot ltW d1 a b = r := ⟨_, rfl⟩
        obtain ⟨d2, e4⟩ : ∃ d2, (if h = .decreasing then reverseRange d1 a b else d1) = d2 := ⟨_, rfl⟩
        obtain ⟨pv, e5⟩ : ∃ pv, (if h = .decreasing then (b - 1) - (c - a) else c) = pv := ⟨_, rfl⟩
        obtain ⟨hint, e6⟩ : ∃ hint, (if h = .decreasing then Hint.increasing else h) = hint := ⟨_, rfl⟩
        obtain ⟨⟨d3, ok⟩, e7⟩ : ∃ r, (if wb && wp && decide (hint = .increasing) then partialInsertionSort ltW d2 a b else (d2, false)) = r := ⟨_, rfl⟩
        have HRN := Lib.hid (rnd_of (by omega) h0 e1 e2 e3 e4 e5 e6 e7)
        obtain ⟨hc1, hc2⟩ := pivot_in (by omega) e3
        have hpv1 : a ≤ pv := by rw [← e5]; split <;> omega
        have hpv2 : pv < b := by rw [← e5]; split <;> omega
        have hl2 : l2 < 2305843009213693952 := by rw [← e2]; split <;> omega
        obtain ⟨q, hq⟩ : ∃ q, (wb && wp && decide (hint = .increasing)) = q := ⟨_, rfl⟩
        rw [hq] at e7
        obtain ⟨hv, hhv⟩ : ∃ hv, hintN h = hv := ⟨_, rfl⟩
        obtain ⟨ht, hht⟩ : ∃ ht, hintN hint = ht := ⟨_, rfl⟩
        have hhd := hint_two h
        have hhi := hint_one hint
        rw [hhv] at hhd
        rw [hht] at hhi
        have E1 := Lib.hid e1
        have E2 := Lib.hid e2
        have E3 := Lib.hid e3
        have E4 := Lib.hid e4
        have E5 := Lib.hid e5
        have E6 := Lib.hid e6
        have E7 := Lib.hid e7
        have HQ := Lib.hid hq
        have HHV := Lib.hid hhv
        have HHT := Lib.hid hht
        have HHD := Lib.hid hhd
        have HHI := Lib.hid hhi
        clear e1 e2 e3 e4 e5 e6 e7 hq hhv hht hhd hhi
        go_upto_if 35 with fail
        go_cut [3] (fun v wx => v = .int .i64 (l2 : Int) ∧ Ro w0 wx g off d1 ∧ d1.size = n)
        case first =>
          cases wb with
          | true =>
            have e1 : di = d1 := E1.out
            have e2 : l = l2 := E2.out
            go_wp2
            go_meet
            exact ⟨by first | rfl | rw [e2] | simp [e2], by rw [← e1]; exact HR.out, by rw [← e1]; exact hsd⟩
          | false =>
            have e1 : breakPatterns di a b = d1 := E1.out
            have e2 : l - 1 = l2 := E2.out
            go_wp2_with fail
            refine (srt_break g off n cap a b di w0 wr HR.out (by have := HR.out.kept.size; omega) hsd hn2 (by omega) hbn).mono ?_; rintro e w2 ⟨rfl, hR2, hs2⟩
            rw [e1] at hR2 hs2
            go_wp2
            go_meet
            exact ⟨by rw [← e2]; first | go_num | (congr 1; omega), hR2, hs2⟩
        case rest =>
          obtain ⟨rfl, hR, hs1⟩ := hcut
          clear HR hsd
          have HR := Lib.hid hR
          clear hR
          rename World => w1
          go_wp2_with fail
          refine (srt_pivot g off n cap a b d1 w0 w1 HR.out (by have := HR.out.kept.size; omega) hs1 hn2 hbn (by omega) (by omega) c h E3.out).mono ?_; rintro e w2 ⟨rfl, hR2⟩
          rw [HHV.out]
          clear HR
          have HR := Lib.hid hR2
          clear hR2
          go_upto_if 50 with fail
          go_cut [11, 12] (fun u v wx => u = .int .i64 (pv : Int) ∧ v = .int .i64 (ht : Int) ∧ Ro w0 wx g off d2 ∧ d2.size = n)
          case first =>
            by_cases hd : h = .decreasing
            · have hvz : (hv : Int) = 2 := by have := HHD.out.2 hd; omega
              have e4 := E4.out
              have e5 := E5.out
              have e6 := E6.out
              rw [if_pos hd] at e4 e5 e6
              have et : ht = 1 := by rw [← HHT.out, ← e6]; rfl
              go_wp2_with fail
              refine (srt_rev g off n cap a b d1 w0 w2 HR.out hs1 hn2 (by omega) hbn).mono ?_; rintro e w3 ⟨rfl, hR3, hs3⟩
              rw [e4] at hR3 hs3
              go_wp2
              go_meet
              exact ⟨by rw [← e5]; first | go_num | (congr 1; omega), by rw [et]; rfl, hR3, hs3⟩
            · have hvz : ¬ (hv : Int) = 2 := fun e => hd (HHD.out.1 (by omega))
              have e4 := E4.out
              have e5 := E5.out
              have e6 := E6.out
              rw [if_neg hd] at e4 e5 e6
              have et : hv = ht := by rw [← HHT.out, ← HHV.out, e6]
              go_wp2
              go_meet
              exact ⟨by rw [e5], by rw [et], by rw [← e4]; exact HR.out, by rw [← e4]; exact hs1⟩
          case rest =>
            obtain ⟨rfl, rfl, hR, hs2⟩ := hcut
            clear HR hs1
            have HR := Lib.hid hR
            clear hR E1 E2 E3 E4 E5 E6 HHV HHD HHT
            rename World => w3
            go_upto_region 15 with fail
            go_cut [68] (fun v wx => v = .bool q ∧ wx = w3)
            case first =>
              have hq := HQ.out
              by_cases hi : hint = .increasing
              · have htz : (ht : Int) = 1 := by have := HHI.out.2 hi; omega
                rw [decide_eq_true hi] at hq
                subst hq
                cases wb <;> cases wp <;> (go_wp2; go_meet; exact ⟨rfl, rfl⟩)
              · have htz : ¬ (ht : Int) = 1 := fun e => hi (HHI.out.1 (by omega))
                rw [decide_eq_false hi] at hq
                subst hq
                cases wb <;> cases wp <;> (go_wp2; go_meet; exact ⟨by first | rfl | simp [htz], rfl⟩)
            case rest =>
              obtain ⟨rfl, rfl⟩ := hcut
              rename World => w3
              go_upto_if 68 with fail
              go_cut [] (fun wx => ok = false ∧ Ro w0 wx g off d3 ∧ d3.size = n)
              case first =>
                cases q with
                | true =>
                  have e7 : partialInsertionSort ltW d2 a b = (d3, ok) := E7.out
                  go_wp2_with fail
                  refine (srt_pis g off n cap a b d2 w0 w3 HR.out hs2 hn2 (by omega) hbn (by omega) ok d3 e7).mono ?_; rintro e w4 ⟨rfl, hR4, hs4⟩
                  cases ok with
                  | true =>
                    have hk := HRN.out.done
                    rw [HK.out] at hk
                    rw [← hk] at hR4 hs4
                    go_wp2
                    refine bodyPost_ret (results_none rfl _ _ _) rfl ?_
                    exact ⟨rfl, hR4, hs4⟩
                  | false =>
                    go_wp2
                    go_meet
                    exact ⟨trivial, hR4, hs4⟩
                | false =>
                  have e7 : (d2, false) = (d3, ok) := E7.out
                  obtain ⟨e8, e9⟩ := Prod.mk.inj e7
                  go_wp2
                  go_meet
                  exact ⟨e9.symm, by rw [← e8]; exact HR.out, by rw [← e8]; exact hs2⟩
              case rest =>
                obtain ⟨hok, hR, hs3⟩ := hcut
                subst hok
                clear HR hs2 E7 HQ HHI
                have HR := Lib.hid hR
                clear hR
                rename World => w4
                obtain ⟨qe, hqe⟩ : ∃ qe, (decide (0 < a) && !ltW d3[a - 1]! d3[pv]!) = qe := ⟨_, rfl⟩
                have HQE := Lib.hid hqe
                clear hqe
                go_upto_region 17 with fail
                go_cut [87] (fun v wx => v = .bool qe ∧ Ro w0 wx g off d3)
                case first =>
                  have hqe := HQE.out
                  by_cases ha : 0 < a
                  · have hda : decide ((a : Int) > 0) = true := decide_eq_true (by omega)
                    rw [decide_eq_true ha] at hqe
                    cases hlv : ltW d3[a - 1]! d3[pv]! with
                    | true =>
                      rw [hlv] at hqe
                      subst hqe
                      obtain ⟨ni, hni⟩ : ∃ ni, ni = a - 1 := ⟨_, rfl⟩
                      obtain ⟨nj, hnj⟩ : ∃ nj, nj = pv := ⟨_, rfl⟩
                      obtain ⟨vx, hvx⟩ : ∃ vx, d3[ni]! = vx := ⟨_, rfl⟩
                      obtain ⟨vy, hvy⟩ : ∃ vy, d3[nj]! = vy := ⟨_, rfl⟩
                      have l0 := HR.out.cl ni (by omega)
                      have l1 := HR.out.cl nj (by omega)
                      have hi1 : ((a : Int) - 1).toNat = ni := by omega
                      have hi2 : (0 : Int) ≤ (a : Int) - 1 := by omega
                      have hi3 : (a : Int) - 1 < (n : Int) := by omega
                      have hi4 : IntKind.i64.wrap ((a : Int) - 1) = (a : Int) - 1 := by rw [IntKind.wrap_i64]; omega
                      have hj1 : ((pv : Int)).toNat = nj := by omega
                      have hj2 : (0 : Int) ≤ (pv : Int) := by omega
                      have hj3 : (pv : Int) < (n : Int) := by omega
                      have hj4 : IntKind.i64.wrap ((pv : Int)) = (pv : Int) := by rw [IntKind.wrap_i64]; omega
                      rw [hvx] at l0
                      rw [hvy] at l1
                      have hlt : ltW vx vy = true := by rw [← hvx, ← hvy, hni, hnj]; exact hlv
                      clear hvx hvy hni hnj
                      go_wp2_with fail
                      go_quiet ((go_at_call 56; exact Calls.still (less_w _ _ _ hlt _)))
                      have HR2 := Lib.hid (HR.out.drewN nq)
                      clear l0 l1 hlt HR hi1 hi2 hi3 hi4 hj1 hj2 hj3 hj4
                      rename Hid (Ro _ _ _ _ _) => HR
                      generalize w4.drewN nq = wq0 at *
                      go_wp2
                      go_meet
                      exact ⟨rfl, HR.out⟩
                    | false =>
                      rw [hlv] at hqe
                      subst hqe
                      obtain ⟨ni, hni⟩ : ∃ ni, ni = a - 1 := ⟨_, rfl⟩
                      obtain ⟨nj, hnj⟩ : ∃ nj, nj = pv := ⟨_, rfl⟩
                      obtain ⟨vx, hvx⟩ : ∃ vx, d3[ni]! = vx := ⟨_, rfl⟩
                      obtain ⟨vy, hvy⟩ : ∃ vy, d3[nj]! = vy := ⟨_, rfl⟩
                      have l0 := HR.out.cl ni (by omega)
                      have l1 := HR.out.cl nj (by omega)
                      have hi1 : ((a : Int) - 1).toNat = ni := by omega
                      have hi2 : (0 : Int) ≤ (a : Int) - 1 := by omega
                      have hi3 : (a : Int) - 1 < (n : Int) := by omega
                      have hi4 : IntKind.i64.wrap ((a : Int) - 1) = (a : Int) - 1 := by rw [IntKind.wrap_i64]; omega
                      have hj1 : ((pv : Int)).toNat = nj := by omega
                      have hj2 : (0 : Int) ≤ (pv : Int) := by omega
                      have hj3 : (pv : Int) < (n : Int) := by omega
                      have hj4 : IntKind.i64.wrap ((pv : Int)) = (pv : Int) := by rw [IntKind.wrap_i64]; omega
                      rw [hvx] at l0
                      rw [hvy] at l1
                      have hlt : ltW vx vy = false := by rw [← hvx, ← hvy, hni, hnj]; exact hlv
                      clear hvx hvy hni hnj
                      go_wp2_with fail
                      go_quiet ((go_at_call 56; exact Calls.still (less_w _ _ _ hlt _)))
                      have HR2 := Lib.hid (HR.out.drewN nq)
                      clear l0 l1 hlt HR hi1 hi2 hi3 hi4 hj1 hj2 hj3 hj4
                      rename Hid (Ro _ _ _ _ _) => HR
                      generalize w4.drewN nq = wq0 at *
                      go_wp2
                      go_meet
                      exact ⟨rfl, HR.out⟩
                  · have hda : decide ((a : Int) > 0) = false := decide_eq_false (by omega)
                    rw [decide_eq_false ha] at hqe
                    subst hqe
                    go_wp2_with fail
                    go_quiet (fail)
                    go_wp2
                    go_meet
                    exact ⟨rfl, HR.out.drewN _⟩
                case rest =>
                  obtain ⟨rfl, hR⟩ := hcut
                  clear HR
                  have HR := Lib.hid hR
                  clear hR
                  rename World => w5
                  cases qe with
                  | true =>
                    have hqe := HQE.out
                    simp only [Bool.and_eq_true, decide_eq_true_eq, Bool.not_eq_true'] at hqe
                    obtain ⟨ha, hlv⟩ := hqe
                    obtain ⟨⟨m, d4⟩, hp⟩ : ∃ r, partitionEqual ltW d3 a b pv = r := ⟨_, rfl⟩
                    have HP := Lib.hid hp
                    have HLV := Lib.hid hlv
                    clear hp hlv
                    go_wp2_with fail
                    refine (srt_parteq g off n cap a b pv d3 w0 w5 HR.out hs3 hn2 hpv1 hpv2 hbn m d4 HP.out).mono ?_; rintro e w6 ⟨rfl, hR6, hs6, hm1, hm2⟩
                    have hk := HRN.out.equal ha HLV.out HP.out hm1 hm2
                    rw [HK.out] at hk
                    have HK2 := Lib.hid hk.symm
                    have HR6 := Lib.hid hR6
                    clear hk hR6 HK HRN
                    go_wp2
                    go_roundw
                    case rel => exact ⟨m, b, l2, wb, wp, d4, rfl, rfl, rfl, rfl, rfl, hm2, hbn, by omega, by omega, hl2, hs6, HR6.out, HK2.out⟩
                    case measure => simp [intOf] <;> omega
                  | false =>
                    have hlv : ¬ 0 < a ∨ ltW d3[a - 1]! d3[pv]! = true := by
                      have hqe := HQE.out
                      by_cases ha : 0 < a
                      · right; rw [decide_eq_true ha] at hqe; simpa using hqe
                      · exact .inl ha
                    have HLV := Lib.hid hlv
                    obtain ⟨⟨m, ap, d4⟩, hp⟩ : ∃ r, Go.Sort.partition ltW d3 a b pv = r := ⟨_, rfl⟩
                    have HP := Lib.hid hp
                    clear hlv hp
                    go_wp2_with fail
                    refine (srt_part g off n cap a b pv d3 w0 w5 HR.out hs3 hn2 hpv1 hpv2 hbn m ap d4 HP.out).mono ?_; rintro e w6 ⟨rfl, hR6, hs6, hm1, hm2⟩
                    clear HR
                    have HR := Lib.hid hR6
                    clear hR6
                    obtain ⟨x, hx⟩ : ∃ x, m - a = x := ⟨_, rfl⟩
                    obtain ⟨y, hy⟩ : ∃ y, b - m = y := ⟨_, rfl⟩
                    obtain ⟨z, hz⟩ : ∃ z, L / 8 = z := ⟨_, rfl⟩
                    have hz2 : (m : Int) - (a : Int) = (x : Int) := by omega
                    have hz3 : (b : Int) - (m : Int) = (y : Int) := by omega
                    have hz4 : (L : Int) / 8 = (z : Int) := by omega
                    have hz5 : (L : Int).tdiv 8 = (z : Int) := by rw [Int.tdiv_eq_ediv_of_nonneg (by omega)]; exact hz4
                    have hdx : decide ((x : Int) ≥ (z : Int)) = decide (m - a ≥ (b - a) / 8) := by rw [hx, hL, hz]; simp
                    have hdy : decide ((y : Int) ≥ (z : Int)) = decide (b - m ≥ (b - a) / 8) := by rw [hy, hL, hz]; simp
                    have HDX := Lib.hid hdx
                    have HDY := Lib.hid hdy
                    clear hdx hdy
                    by_cases hxy : x < y
                    · have hxz : (x : Int) < (y : Int) := by omega
                      have hk := HRN.out.left HLV.out HP.out hm1 hm2 (by omega)
                      rw [HK.out] at hk
                      have HK2 := Lib.hid hk.symm
                      clear hk HK HRN
                      go_wp2_with fail
                      refine (IH.out (m - a) (by omega) a m l2 d4 w0 w6 (Nat.le_refl _) HR.out hg hs6 hm1 (by omega) (by omega) hl2).mono ?_; rintro e w7 ⟨rfl, hR7, hs7⟩
                      have HR7 := Lib.hid hR7
                      clear hR7 HR
                      go_wp2
                      go_roundw
                      case rel => exact ⟨m + 1, b, l2, _, ap, _, by go_num, rfl, rfl, by rw [← HDX.out]; simp, rfl, by omega, hbn, by omega, by omega, hl2, hs7, HR7.out, HK2.out⟩
                      case measure => simp [intOf] <;> omega
                    · have hxz : ¬ (x : Int) < (y : Int) := by omega
                      have hk := HRN.out.right HLV.out HP.out hm1 hm2 (by omega)
                      rw [HK.out] at hk
                      have HK2 := Lib.hid hk.symm
                      clear hk HK HRN
                      go_wp2_with fail
                      have hm1z : (m : Int) + 1 = ((m + 1 : Nat) : Int) := by omega
                      have hih := IH.out (b - (m + 1)) (by omega) (m + 1) b l2 d4 w0 w6 (Nat.le_refl _) HR.out hg hs6 (by omega) hbn (by omega) hl2
                      rw [← hm1z] at hih
                      clear hm1z
                      refine hih.mono ?_; rintro e w7 ⟨rfl, hR7, hs7⟩
                      have HR7 := Lib.hid hR7
                      clear hR7 HR
                      go_wp2
                      go_roundw
                      case rel => exact ⟨a, m, l2, _, ap, _, rfl, rfl, rfl, by rw [← HDY.out]; simp, rfl, hm1, by omega, by omega, by omega, hl2, hs7, HR7.out, HK2.out⟩
                      case measure => simp [intOf] <;> omega

end Go.Proofs.Ytddjggckmmdicaa
