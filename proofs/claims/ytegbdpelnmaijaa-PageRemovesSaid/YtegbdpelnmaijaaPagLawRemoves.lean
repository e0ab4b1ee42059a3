/-
  The statement of layer 7 'Remove returns the reference's result, removed keys are not found any more and the other ones are, the argument is not changed': it returns true. Condition: strings and rows within the model's reach.
-/
import Derived.Test.YtegbdpelnmaijaaPagLawCombine
import Derived.Test.YtegbdpelnmaijaaPagStrs
import Derived.Test.YtegbdpelnmaijaaKeptRegion
namespace Go.Proofs.Ytegbdpelnmaijaa
open Go.RowKit Go.Deep Plain
set_option linter.unusedVariables false

theorem kc2 {B : Nat} {W wq w9 : World} (hk : Below wq.heap.size wq w9) (h : Below B W wq) {p : Addr} (hp : p.block < W.heap.size) {v : Value} (hv : wq.cell? p = some v) : w9.cell? p = some v :=
  (hk.cell (p := p) (Nat.lt_of_lt_of_le hp h.size)).trans hv
set_option maxRecDepth 100000 in
set_option maxHeartbeats 8000000 in
theorem lawRemoves (lv : Int) (A : Option Addr) (c : Nat) (hi : ByteArray) (la : Bool) (rt : Nat) (xs : List Sl) (w : World) (n : Nat) (hn : xs.length = n) (h47 : n ≤ maxLen) (hR : Rs w A c xs) (hxk : ∀ y ∈ xs, y.1.size ≤ maxLen)
    (AK : Option Addr) (ck : Nat) (ks : List ByteArray) (hz : AK = none → ck = 0) (hK : Rk w AK ks) (hks : ∀ k ∈ ks, k.size ≤ maxLen)
    (AB : Option Addr) (cb : Nat) (bs : List Nat) (hbm : bs.length ≤ maxLen) (hbr : ∀ x ∈ bs, x < 256) (hbc : 0 < bs.length → ∃ g off, AB = some ⟨g, off, none⟩ ∧ g < w.heap.size ∧ ∀ (j x : Nat), bs[j]? = some x → w.cell? ⟨g, off + j, none⟩ = some (.int .u8 (x : Int))) :
    Calls Try.prog 6 #[.agg #[.int .i64 lv, .slice A n c, .string hi, .bool la, .int .u64 (rt : Int)], .slice AK ks.length ck, .slice AB bs.length cb] w fun e w' => e = .returned (.bool true) ∧ Below w.heap.size w w' := by
  obtain ⟨nk, hnk⟩ : ∃ nk, ks.length = nk := ⟨_, rfl⟩
  obtain ⟨nb, hnb⟩ : ∃ nb, bs.length = nb := ⟨_, rfl⟩
  rw [hnk, hnb]
  by_cases h1 : 20 < nk
  · have h1' : decide ((20 : Int) < (nk : Int)) = true := by simp; omega
    go_enter Try.func6, Try.ntmps6
    go_wp2_with fail
    refine (awake_any _).mono ?_; rintro e w2 ⟨rfl, hB9⟩
    have hB2 := ((Below.refl w.heap.size w).alloc (Nat.le_refl _) (.cells #[.int .i64 lv, .slice A n c, .string hi, .bool la, .int .u64 (rt : Int)] 25)).trans (hB9.mono (by rw [nblk_alloc]; omega))
    have HB := Lib.hid hB2
    clear hB9 hB2
    go_wp2
    go_ret
    exact ⟨rfl, HB.out⟩
  have h1' : decide ((20 : Int) < (nk : Int)) = false := by simp; omega
  by_cases h2 : 20 < nb
  · have h2' : decide ((20 : Int) < (nb : Int)) = true := by simp; omega
    go_enter Try.func6, Try.ntmps6
    go_wp2_with fail
    refine (awake_any _).mono ?_; rintro e w2 ⟨rfl, hB9⟩
    have hB2 := ((Below.refl w.heap.size w).alloc (Nat.le_refl _) (.cells #[.int .i64 lv, .slice A n c, .string hi, .bool la, .int .u64 (rt : Int)] 25)).trans (hB9.mono (by rw [nblk_alloc]; omega))
    have HB := Lib.hid hB2
    clear hB9 hB2
    go_wp2
    go_ret
    exact ⟨rfl, HB.out⟩
  have h2' : decide ((20 : Int) < (nb : Int)) = false := by simp; omega
  have HKS := Lib.hid hks
  have HBR := Lib.hid hbr
  have HBC := Lib.hid hbc
  have HRK := Lib.hid hK
  have HZK := Lib.hid hz
  clear hks hbr hbc hK hz
  obtain ⟨P0, B0, Z0⟩ := box_one w [.int .i64 lv, .slice A n c, .string hi, .bool la, .int .u64 (rt : Int)] 25
  obtain ⟨ys, hys⟩ : ∃ ys, sorted (xs.take 40) = ys := ⟨_, rfl⟩
  obtain ⟨m, hm⟩ : ∃ m, ys.length = m := ⟨_, rfl⟩
  have hasc := sorted_asc (xs.take 40)
  have hlen := sorted_length (xs.take 40)
  rw [hys] at hasc hlen
  rw [List.length_take, hm] at hlen
  have hm40 : m ≤ 40 := by omega
  clear hlen
  go_enter Try.func6, Try.ntmps6
  have HXS := Lib.hid (show ∀ y ∈ ys, y.1.size ≤ maxLen from fun y hy => hxk y (List.mem_of_mem_take (sorted_mem (by rw [hys]; exact hy))))
  clear hxk
  have HRK0 := HRK.out
  go_wp2_with fail
  go_wp2_with fail
  refine (sorted_any lv A c hi la rt xs _ n hn h47 (hR.below B0 (Nat.le_refl _)) ys hys m hm).mono ?_; rintro e w1 ⟨A1, c1, rfl, hO1, hB1⟩
  rw [Z0] at hO1 hB1
  have hs1 := hB1.size
  rw [Z0] at hs1
  have HB := Lib.hid (B0.trans (hB1.mono (by omega)))
  have hR1 : Rs w1 A1 c1 ys := by obtain ⟨_, _, e9, _, h9, _⟩ := Rs.own hO1; cases e9; exact h9
  have HR := Lib.hid hR1
  have HASC := Lib.hid hasc
  have HYS := Lib.hid hys
  have hw : w.heap.size ≤ w1.heap.size := by omega
  clear hO1 hB1 hs1 hR1 hasc P0 B0 Z0 hR hys
  go_upto_region 4 with fail
  have Hp := Lib.hid (Blk.new w1 [.int .i64 lv, .slice A1 m c1, .string hi, .bool la, .int .u64 (rt : Int)] 25)
  replace HR := Lib.hid (HR.out.below ((Below.refl _ _).alloc (Nat.le_refl _) (.cells #[.int .i64 lv, .slice A1 m c1, .string hi, .bool la, .int .u64 (rt : Int)] 25)) (Nat.le_refl _))
  replace HB := Lib.hid (HB.out.alloc hw (.cells #[.int .i64 lv, .slice A1 m c1, .string hi, .bool la, .int .u64 (rt : Int)] 25))
  have hz9 : (w1.alloc (.cells #[.int .i64 lv, .slice A1 m c1, .string hi, .bool la, .int .u64 (rt : Int)] 25)).heap.size = w1.heap.size + 1 := nblk_alloc _ _
  generalize w1.alloc (.cells #[.int .i64 lv, .slice A1 m c1, .string hi, .bool la, .int .u64 (rt : Int)] 25) = V2 at *
  generalize w1.heap.size = bp at *
  have ltp : bp < V2.heap.size := by omega
  replace hw : w.heap.size ≤ V2.heap.size := by omega
  clear hz9
  have pc0 := Hp.out.cell (i := 0) rfl
  have pc1 := Hp.out.cell (i := 1) rfl
  have pc2 := Hp.out.cell (i := 2) rfl
  have pc3 := Hp.out.cell (i := 3) rfl
  have pc4 := Hp.out.cell (i := 4) rfl
  replace HRK0 := HRK.out.below HB.out (Nat.le_refl _)
  obtain ⟨B0, hB0⟩ : ∃ B0, V2.heap.size = B0 := ⟨_, rfl⟩
  go_wp2_with (at_builtin; go_must (refine wpList_apps rfl (.const (.slice none 0 0)) (.tmp 28) rfl B0 _ 0 [] rfl (Ks.nil _ _) AK nk ck ks rfl hnk HZK.out HRK0 (by omega) (by omega) ?_))
  intro v9 w3 hO9 hB9
  have HKO := Lib.hid hO9
  have HB9 := Lib.hid hB9
  clear hO9 hB9 HRK0 HRK HZK
  clear pc0 pc1 pc2 pc3 pc4
  go_wp2_with fail
  go_loopw [8, 9] (fun kv i wr => ∃ (j k : Nat) (ls : List ByteArray), j ≤ nb ∧ i = .int .i64 j ∧ k ≤ 20 + j ∧ Ks wr B0 kv k ls ∧ (∀ k ∈ ls, k.size ≤ maxLen) ∧ Below B0 V2 wr) (fun _ i _ => nb - (intOf i).toNat)
  case atStart => exact ⟨0, nk, ks, by omega, rfl, by omega, HKO.out, HKS.out, HB9.out⟩
  case round =>
    obtain ⟨j, k, ls, hj, rfl, hk40, hO, hls, hB9⟩ := hrel
    rename World => wr
    clear HKO HB9 HKS
    rw [← hB0] at hB9
    have hb0 : B0 ≤ wr.heap.size := by have := hB9.size; omega
    have HKO := Lib.hid hO
    have HLS := Lib.hid hls
    have HD := Lib.hid hB9
    have pc1 := (Hp.out.below HD.out ltp).cell (i := 1) rfl
    clear hO hls hB9
    by_cases hgo : j < nb ∧ 0 < m
    · obtain ⟨hjb, h0⟩ := hgo
      have h0' : decide ((0 : Int) < (m : Int)) = true := by simpa using h0
      obtain ⟨e, he⟩ : ∃ e, bs[j]? = some e := ⟨_, List.getElem?_eq_getElem (by omega)⟩
      have he256 := HBR.out e (List.mem_of_getElem? he)
      obtain ⟨gb, offb, hAB, hgb, hcb⟩ := HBC.out (by omega)
      subst hAB
      have ce := (HB.out.cell (p := ⟨gb, offb + j, none⟩) hgb).trans (hcb j e he)
      have hgb2 : gb < V2.heap.size := Nat.lt_of_lt_of_le hgb hw
      obtain ⟨r, hr⟩ : ∃ r, e % m = r := ⟨_, rfl⟩
      have hrm : r < m := by rw [← hr]; exact Nat.mod_lt _ h0
      have hrt : (e : Int).tmod (m : Int) = (r : Int) := by rw [Int.tmod_eq_emod_of_nonneg (by omega)]; omega
      have hm0 : ¬ (m : Int) = 0 := by omega
      have hrm' : (r : Int) < (m : Int) := by omega
      have hjb' : (j : Int) < (nb : Int) := by omega
      have hwe : IntKind.i64.wrap (e : Int) = (e : Int) := by rw [IntKind.wrap_i64]; omega
      obtain ⟨z, hz⟩ : ∃ z, ys[r]? = some z := ⟨_, List.getElem?_eq_getElem (by omega)⟩
      have HZL := Lib.hid (HXS.out z (List.mem_of_getElem? hz))
      obtain ⟨g, off, hA1, hg, hcell⟩ := HR.out.at (by omega)
      subst hA1
      obtain ⟨cz, _⟩ := hcell r z hz
      obtain ⟨i0, hi0, hz0, hz1, hz2⟩ := info_parts infoStr
      have HI0 := Lib.hid hi0
      have HI1 := Lib.hid hz0
      have HI2 := Lib.hid hz1
      have HI3 := Lib.hid hz2
      have CE := Lib.hid ce
      have CZ := Lib.hid cz
      clear hi0 hz0 hz1 hz2 hcell hcb he hz hr ce cz
      go_upto_region 8 with fail
      clear pc1
      replace HD := Lib.hid HD.out.drew
      have HKO2 := Lib.hid (show Ks wr.drew B0 _ k ls from HKO.out)
      have hb1 : B0 ≤ wr.drew.heap.size := hb0
      clear HKO hb0
      refine wp_region_held_drew (S := (fun w' => Blk w' bp 25 [.int .i64 lv, .slice (some ⟨g, off, none⟩) m c1, .string hi, .bool la, .int .u64 (rt : Int)] ∧ w'.cell? ⟨gb, offb + j, none⟩ = some (.int .u8 (e : Int)) ∧ w'.cell? ⟨g, off + r * 2, none⟩ = some (.string z.1))) (by kernel_rfl) ?_ (fun hHeld => ?_)
      · exact ⟨Hp.out.below HD.out ltp, (HD.out.cell (p := ⟨gb, offb + j, none⟩) hgb2).trans CE.out, (HD.out.cell (p := ⟨g, off + r * 2, none⟩) hg).trans CZ.out⟩
      generalize wr.drew = G at *
      refine wpAnyH_take (i := 0) (oi := ⟨some 42, _, _, _, _, _⟩) (v := ?_) rfl (by kernel_rfl) (by kernel_rfl) (by kernel_rfl) (fun _ _ _ h => h) (Or.inl ⟨by rfl, ?_⟩) hHeld ?_
      rotate_left
      · (intro wq hSw; obtain ⟨hp9, he9, hz9⟩ := hSw; have q1 := hp9.cell (i := 1) rfl; go_simp; try with_reducible rfl)
      try simp only [Act.put, List.setIfInBounds_toArray, List.set_cons_zero, List.set_cons_succ]
      refine wpAnyH_take (i := 1) (oi := ⟨some 43, _, _, _, _, _⟩) (v := ?_) rfl (by kernel_rfl) (by kernel_rfl) (by kernel_rfl) (fun _ _ _ h => h) (Or.inl ⟨by rfl, ?_⟩) hHeld ?_
      rotate_left
      · (intro wq hSw; obtain ⟨hp9, he9, hz9⟩ := hSw; have q1 := hp9.cell (i := 1) rfl; go_simp; try with_reducible rfl)
      try simp only [Act.put, List.setIfInBounds_toArray, List.set_cons_zero, List.set_cons_succ]
      refine wpAnyH_take (i := 2) (oi := ⟨some 44, _, _, _, _, _⟩) (v := ?_) rfl (by kernel_rfl) (by kernel_rfl) (by kernel_rfl) (fun _ _ _ h => h) (Or.inl ⟨by rfl, ?_⟩) hHeld ?_
      rotate_left
      · (intro wq hSw; obtain ⟨hp9, he9, hz9⟩ := hSw; have q1 := hp9.cell (i := 1) rfl; go_simp; try with_reducible rfl)
      try simp only [Act.put, List.setIfInBounds_toArray, List.set_cons_zero, List.set_cons_succ]
      refine wpAnyH_take (i := 3) (oi := ⟨some 45, _, _, _, _, _⟩) (v := ?_) rfl (by kernel_rfl) (by kernel_rfl) (by kernel_rfl) (fun _ _ _ h => h) (Or.inl ⟨by rfl, ?_⟩) hHeld ?_
      rotate_left
      · (intro wq hSw; obtain ⟨hp9, he9, hz9⟩ := hSw; have q1 := hp9.cell (i := 1) rfl; go_simp; try with_reducible rfl)
      try simp only [Act.put, List.setIfInBounds_toArray, List.set_cons_zero, List.set_cons_succ]
      refine wpAnyH_take (i := 4) (oi := ⟨some 46, _, _, _, _, _⟩) (v := ?_) rfl (by kernel_rfl) (by kernel_rfl) (by kernel_rfl) (fun _ _ _ h => h) (Or.inl ⟨by rfl, ?_⟩) hHeld ?_
      rotate_left
      · (intro wq hSw; obtain ⟨hp9, he9, hz9⟩ := hSw; have q1 := hp9.cell (i := 1) rfl; go_simp; try with_reducible rfl)
      try simp only [Act.put, List.setIfInBounds_toArray, List.set_cons_zero, List.set_cons_succ]
      refine wpAnyH_take (i := 5) (oi := ⟨some 47, _, _, _, _, _⟩) (v := .pointer (some ⟨gb, offb + j, none⟩)) rfl (by kernel_rfl) (by kernel_rfl) (by kernel_rfl) (fun _ _ _ h => h) (Or.inl ⟨by rfl, ?_⟩) hHeld ?_
      · (intro wq hSw; obtain ⟨hp9, he9, hz9⟩ := hSw; have q1 := hp9.cell (i := 1) rfl; go_simp; try first | (with_reducible rfl) | (simp; omega) | (intros; omega) | simp [*])
      try simp only [Act.put, List.setIfInBounds_toArray, List.set_cons_zero, List.set_cons_succ]
      refine wpAnyH_take (i := 6) (oi := ⟨some 48, _, _, _, _, _⟩) (v := .int .u8 (e : Int)) rfl (by kernel_rfl) (by kernel_rfl) (by kernel_rfl) (fun _ _ _ h => h) (Or.inl ⟨by rfl, ?_⟩) hHeld ?_
      · (intro wq hSw; obtain ⟨hp9, he9, hz9⟩ := hSw; have q1 := hp9.cell (i := 1) rfl; go_simp; try first | (with_reducible rfl) | (simp; omega) | (intros; omega) | simp [*])
      try simp only [Act.put, List.setIfInBounds_toArray, List.set_cons_zero, List.set_cons_succ]
      refine wpAnyH_take (i := 7) (oi := ⟨some 49, _, _, _, _, _⟩) (v := .int .i64 (e : Int)) rfl (by kernel_rfl) (by kernel_rfl) (by kernel_rfl) (fun _ _ _ h => h) (Or.inl ⟨by rfl, ?_⟩) hHeld ?_
      · (intro wq hSw; obtain ⟨hp9, he9, hz9⟩ := hSw; have q1 := hp9.cell (i := 1) rfl; go_simp; try first | (with_reducible rfl) | (simp; omega) | (intros; omega) | simp [*])
      try simp only [Act.put, List.setIfInBounds_toArray, List.set_cons_zero, List.set_cons_succ]
      refine wpAnyH_take (i := 8) (oi := ⟨some 50, _, _, _, _, _⟩) (v := ?_) rfl (by kernel_rfl) (by kernel_rfl) (by kernel_rfl) (fun _ _ _ h => h) (Or.inl ⟨by rfl, ?_⟩) hHeld ?_
      rotate_left
      · (intro wq hSw; obtain ⟨hp9, he9, hz9⟩ := hSw; have q1 := hp9.cell (i := 1) rfl; go_simp; try with_reducible rfl)
      try simp only [Act.put, List.setIfInBounds_toArray, List.set_cons_zero, List.set_cons_succ]
      refine wpAnyH_take (i := 9) (oi := ⟨some 51, _, _, _, _, _⟩) (v := ?_) rfl (by kernel_rfl) (by kernel_rfl) (by kernel_rfl) (fun _ _ _ h => h) (Or.inl ⟨by rfl, ?_⟩) hHeld ?_
      rotate_left
      · (intro wq hSw; obtain ⟨hp9, he9, hz9⟩ := hSw; have q1 := hp9.cell (i := 1) rfl; go_simp; try with_reducible rfl)
      try simp only [Act.put, List.setIfInBounds_toArray, List.set_cons_zero, List.set_cons_succ]
      refine wpAnyH_ready (rs := [10]) (by kernel_rfl) (by simp) ?_
      refine AllReadyH.cons (o := ⟨some 52, _, _, _, _, _⟩) rfl (fun KK hK => ?_) AllReadyH.nil
      go_simp
      refine hK.out _ _ ?_ (fun hHeld2 => ?_)
      · exact ⟨Hp.out.below HD.out ltp, (HD.out.cell (p := ⟨gb, offb + j, none⟩) hgb2).trans CE.out, (HD.out.cell (p := ⟨g, off + r * 2, none⟩) hg).trans CZ.out⟩
      clear hK KK hHeld
      have hHeld := hHeld2
      clear hHeld2
      try simp only [Act.put, List.setIfInBounds_toArray, List.set_cons_zero, List.set_cons_succ]
      refine wpAnyH_take (i := 11) (oi := ⟨some 53, _, _, _, _, _⟩) (v := .int .i64 (r : Int)) rfl (by kernel_rfl) (by kernel_rfl) (by kernel_rfl) (fun _ _ _ h => h) (Or.inl ⟨by rfl, ?_⟩) hHeld ?_
      · (intro wq hSw; obtain ⟨hp9, he9, hz9⟩ := hSw; have q1 := hp9.cell (i := 1) rfl; go_simp; try first | (with_reducible rfl) | (simp; omega) | (intros; omega) | simp [*])
      try simp only [Act.put, List.setIfInBounds_toArray, List.set_cons_zero, List.set_cons_succ]
      refine wpAnyH_take (i := 12) (oi := ⟨some 54, _, _, _, _, _⟩) (v := .pointer (some ⟨g, off + r * 2, none⟩)) rfl (by kernel_rfl) (by kernel_rfl) (by kernel_rfl) (fun _ _ _ h => h) (Or.inl ⟨by rfl, ?_⟩) hHeld ?_
      · (intro wq hSw; obtain ⟨hp9, he9, hz9⟩ := hSw; have q1 := hp9.cell (i := 1) rfl; go_simp; try first | (with_reducible rfl) | (simp; omega) | (intros; omega) | simp [*])
      try simp only [Act.put, List.setIfInBounds_toArray, List.set_cons_zero, List.set_cons_succ]
      refine wpAnyH_take (i := 13) (oi := ⟨some 55, _, _, _, _, _⟩) (v := ?_) rfl (by kernel_rfl) (by kernel_rfl) (by kernel_rfl) (fun _ _ _ h => h) (Or.inl ⟨by rfl, ?_⟩) hHeld ?_
      rotate_left
      · (intro wq hSw; obtain ⟨hp9, he9, hz9⟩ := hSw; have q1 := hp9.cell (i := 1) rfl; go_simp; try with_reducible rfl)
      try simp only [Act.put, List.setIfInBounds_toArray, List.set_cons_zero, List.set_cons_succ]
      refine wpAnyH_take (i := 14) (oi := ⟨some 56, _, _, _, _, _⟩) (v := .string z.1) rfl (by kernel_rfl) (by kernel_rfl) (by kernel_rfl) (fun _ _ _ h => h) (Or.inl ⟨by rfl, ?_⟩) hHeld ?_
      · (intro wq hSw; obtain ⟨hp9, he9, hz9⟩ := hSw; have q1 := hp9.cell (i := 1) rfl; go_simp; try first | (with_reducible rfl) | (simp; omega) | (intros; omega) | simp [*])
      try simp only [Act.put, List.setIfInBounds_toArray, List.set_cons_zero, List.set_cons_succ]
      refine wpAnyH_ready (rs := [15]) (by kernel_rfl) (by simp) ?_
      refine AllReadyH.cons (o := ⟨some 57, _, _, _, _, _⟩) rfl (fun KK hK => ?_) AllReadyH.nil
      go_simp
      have HN := Lib.hid (show (G.alloc (.cells #[.string z.1] 9)).heap[G.heap.size]? = some (.cells #[.string z.1] 9 (0, 0)) from Blk.new G [.string z.1] 9)
      replace HD := Lib.hid (HD.out.alloc (Nat.le_trans (Nat.le_of_eq hB0) hb1) (.cells #[.string z.1] 9))
      replace HKO2 := Lib.hid (HKO2.out.below ((Below.refl _ _).alloc (Nat.le_refl _) (.cells #[.string z.1] 9)) (Nat.le_refl _))
      have hb2 : B0 ≤ (G.alloc (.cells #[.string z.1] 9)).heap.size := by rw [nblk_alloc]; omega
      generalize G.alloc (.cells #[.string z.1] 9) = V9 at *
      refine hK.out _ _ ?_ (fun hHeld2 => ?_)
      · exact ⟨Hp.out.below HD.out ltp, (HD.out.cell (p := ⟨gb, offb + j, none⟩) hgb2).trans CE.out, (HD.out.cell (p := ⟨g, off + r * 2, none⟩) hg).trans CZ.out⟩
      clear hK KK hHeld
      have hHeld := hHeld2
      clear hHeld2
      try simp only [Act.put, List.setIfInBounds_toArray, List.set_cons_zero, List.set_cons_succ]
      refine wpAnyH_ready (rs := [16]) (by kernel_rfl) (by simp) ?_
      refine AllReadyH.cons (o := ⟨some 58, _, _, _, _, _⟩) rfl (fun KK hK => ?_) AllReadyH.nil
      refine step_append_lies _ (by rfl) (.tmp 42) (.tmp 57) 44 (by rfl) B0 9 i0 _ 1 16 Try.underlying44 HI0.out HI1.out HI2.out HI3.out rfl (by decide) _ k (ls.map .string) (by rfl) HKO2.out ⟨G.heap.size, 0, none⟩ 1 1 [.string z.1] (by rfl) (by rfl) (World.news_of_block HN.out) (by intro u hu; simp at hu; subst hu; rfl) (by omega) (by unfold maxLen; omega) (by omega) hb2 _ rfl ?_
      intro g4 cap4 w4 hown4 hgrow4 hat4 hlt4
      have hBg := (Below.refl B0 V9).grown hgrow4 hb2 (fun k hk => (World.ownsRow.lt HKO2.out k hk).1)
      rw [← hB0] at hBg
      replace HD := Lib.hid (HD.out.trans hBg)
      clear hBg
      have HKO3 := Lib.hid (show Ks w4 B0 _ (k + 1) (ls ++ [z.1]) by unfold Ks; rw [List.map_append]; exact hown4)
      clear hown4 hgrow4 hat4 hlt4 HKO2 HN hb1 hb2
      refine hK.out _ _ ?_ (fun hHeld2 => ?_)
      · exact ⟨Hp.out.below HD.out ltp, (HD.out.cell (p := ⟨gb, offb + j, none⟩) hgb2).trans CE.out, (HD.out.cell (p := ⟨g, off + r * 2, none⟩) hg).trans CZ.out⟩
      clear hK KK hHeld
      have hHeld := hHeld2
      clear hHeld2
      try simp only [Act.put, List.setIfInBounds_toArray, List.set_cons_zero, List.set_cons_succ]
      refine wpAnyH_take (i := 17) (oi := ⟨some 8, _, _, _, _, _⟩) (v := ?_) rfl (by kernel_rfl) (by kernel_rfl) (by kernel_rfl) (fun _ _ _ h => h) (Or.inl ⟨by rfl, ?_⟩) hHeld ?_
      rotate_left
      · (intro wq hSw; obtain ⟨hp9, he9, hz9⟩ := hSw; have q1 := hp9.cell (i := 1) rfl; go_simp; try with_reducible rfl)
      try simp only [Act.put, List.setIfInBounds_toArray, List.set_cons_zero, List.set_cons_succ]
      refine wpAnyH_done (by kernel_rfl) ?_ _
      clear hHeld
      go_wp2
      go_roundw
      case rel => exact ⟨j + 1, k + 1, ls ++ [z.1], by omega, by go_num, by omega, HKO3.out, fun y hy => by rcases List.mem_append.1 hy with hy | hy; exact HLS.out y hy; simp at hy; subst hy; exact HZL.out, by rw [hB0] at HD; exact HD.out⟩
      case measure => simp [intOf]; omega
    rcases Nat.lt_or_ge j nb with hjb | hjb
    case' inl =>
      have h0' : decide ((0 : Int) < (m : Int)) = false := by simp; omega
      go_upto_region 9 with fail
      clear h0' hjb
    case' inr =>
      go_upto_region 9 with fail
      clear hjb
    all_goals
      have hk50 : k ≤ 40 := by omega
      clear hgo pc1 hb0
      obtain ⟨AK2, ck2, rfl, hkl, hRk⟩ := HKO.out.rk
      have HRK := Lib.hid hRk
      have hB9 := HD.out
      clear HKO HD hRk hj
      have hs9 := hB9.size
      replace HB := Lib.hid (HB.out.trans (hB9.mono hw))
      replace Hp := Lib.hid (Hp.out.below hB9 ltp)
      replace ltp := Nat.lt_of_lt_of_le ltp hs9
      replace HR := Lib.hid (HR.out.below hB9 (Nat.le_refl _))
      replace hw := Nat.le_trans hw hs9
      clear hB9 hs9
      have pc0 := Hp.out.cell (i := 0) rfl
      have pc1 := Hp.out.cell (i := 1) rfl
      have pc2 := Hp.out.cell (i := 2) rfl
      have pc3 := Hp.out.cell (i := 3) rfl
      have pc4 := Hp.out.cell (i := 4) rfl
      go_wp2_with (at_builtin; go_must (refine wpList_app rfl (.const (.slice none 0 0)) (.tmp 60) rfl wr.heap.size _ 0 [] rfl (World.ownsRow_nil _ _ _ _) _ m c1 ys rfl hm HR.out (by omega) (Nat.le_refl _) ?_))
      intro vw w4 hO9 hB9
      obtain ⟨Aw, cw, rfl, hlw, hRw, _⟩ := Rs.own hO9
      have HRWas := Lib.hid hRw
      clear hO9 hRw hlw
      clear pc0 pc1 pc2 pc3 pc4
      have hs9 := hB9.size
      replace HB := Lib.hid (HB.out.trans (hB9.mono hw))
      replace Hp := Lib.hid (Hp.out.below hB9 ltp)
      replace ltp := Nat.lt_of_lt_of_le ltp hs9
      replace HR := Lib.hid (HR.out.below hB9 (Nat.le_refl _))
      replace HRK := Lib.hid (HRK.out.below hB9 (Nat.le_refl _))
      replace hw := Nat.le_trans hw hs9
      clear hB9 hs9
      obtain ⟨zs, hzs⟩ : ∃ zs, rem ls ys = zs := ⟨_, rfl⟩
      obtain ⟨t, ht⟩ : ∃ t, zs.length = t := ⟨_, rfl⟩
      have ht40 : t ≤ 40 := by rw [← ht, ← hzs]; have := rem_length ls ys; omega
      have HZA := Lib.hid (show Asc zs by rw [← hzs]; exact asc_filter _ HASC.out)
      have HZS := Lib.hid hzs
      clear hzs
      have pc0 := Hp.out.cell (i := 0) rfl
      have pc1 := Hp.out.cell (i := 1) rfl
      have pc2 := Hp.out.cell (i := 2) rfl
      have pc3 := Hp.out.cell (i := 3) rfl
      have pc4 := Hp.out.cell (i := 4) rfl
      go_wp2_with fail
      refine (remove_any lv _ c1 hi la rt ys AK2 k ck2 ls _ m hm (by omega) HR.out hkl (by omega) HRK.out HLS.out HXS.out zs HZS.out t ht).mono ?_; rintro e w5 ⟨A2, c2, rfl, hO9, hB9⟩
      have HRQ := Lib.hid (rs_own hO9)
      clear hO9
      clear pc0 pc1 pc2 pc3 pc4
      have hs9 := hB9.size
      replace HB := Lib.hid (HB.out.trans (hB9.mono hw))
      replace Hp := Lib.hid (Hp.out.below hB9 ltp)
      replace ltp := Nat.lt_of_lt_of_le ltp hs9
      replace HR := Lib.hid (HR.out.below hB9 (Nat.le_refl _))
      replace HRK := Lib.hid (HRK.out.below hB9 (Nat.le_refl _))
      replace HRWas := Lib.hid (HRWas.out.below hB9 (Nat.le_refl _))
      replace hw := Nat.le_trans hw hs9
      clear hB9 hs9
      have pc0 := Hp.out.cell (i := 0) rfl
      have pc1 := Hp.out.cell (i := 1) rfl
      have pc2 := Hp.out.cell (i := 2) rfl
      have pc3 := Hp.out.cell (i := 3) rfl
      have pc4 := Hp.out.cell (i := 4) rfl
      go_wp2_with fail
      clear pc0 pc1 pc2 pc3 pc4
      have Hq := Lib.hid (Blk.new w5 [.int .i64 lv, .slice A2 t c2, .string hi, .bool la, .int .u64 (rt : Int)] 25)
      replace Hp := Lib.hid (Hp.out.alloc (.cells #[.int .i64 lv, .slice A2 t c2, .string hi, .bool la, .int .u64 (rt : Int)] 25))
      replace HR := Lib.hid (HR.out.below ((Below.refl _ _).alloc (Nat.le_refl _) (.cells #[.int .i64 lv, .slice A2 t c2, .string hi, .bool la, .int .u64 (rt : Int)] 25)) (Nat.le_refl _))
      replace HRK := Lib.hid (HRK.out.below ((Below.refl _ _).alloc (Nat.le_refl _) (.cells #[.int .i64 lv, .slice A2 t c2, .string hi, .bool la, .int .u64 (rt : Int)] 25)) (Nat.le_refl _))
      replace HRWas := Lib.hid (HRWas.out.below ((Below.refl _ _).alloc (Nat.le_refl _) (.cells #[.int .i64 lv, .slice A2 t c2, .string hi, .bool la, .int .u64 (rt : Int)] 25)) (Nat.le_refl _))
      replace HRQ := Lib.hid (HRQ.out.below ((Below.refl _ _).alloc (Nat.le_refl _) (.cells #[.int .i64 lv, .slice A2 t c2, .string hi, .bool la, .int .u64 (rt : Int)] 25)) (Nat.le_refl _))
      replace HB := Lib.hid (HB.out.alloc hw (.cells #[.int .i64 lv, .slice A2 t c2, .string hi, .bool la, .int .u64 (rt : Int)] 25))
      have hz9 : (w5.alloc (.cells #[.int .i64 lv, .slice A2 t c2, .string hi, .bool la, .int .u64 (rt : Int)] 25)).heap.size = w5.heap.size + 1 := nblk_alloc _ _
      generalize w5.alloc (.cells #[.int .i64 lv, .slice A2 t c2, .string hi, .bool la, .int .u64 (rt : Int)] 25) = V6 at *
      generalize w5.heap.size = bq at *
      have ltq : bq < V6.heap.size := by omega
      replace ltp : bp < V6.heap.size := by omega
      replace hw : w.heap.size ≤ V6.heap.size := by omega
      clear hz9
      go_upto_region 11 with fail
      refine wp_region_held_drew (S := (fun w' => Blk w' bp 25 [.int .i64 lv, .slice A1 m c1, .string hi, .bool la, .int .u64 (rt : Int)] ∧ Blk w' bq 25 [.int .i64 lv, .slice A2 t c2, .string hi, .bool la, .int .u64 (rt : Int)])) (by kernel_rfl) ?_ (fun hHeld => ?_)
      · exact ⟨Hp.out, Hq.out⟩
      have hB9 := (Below.refl V6.heap.size V6).drew
      generalize V6.drew = G7 at *
      have hs9 := hB9.size
      replace HB := Lib.hid (HB.out.trans (hB9.mono hw))
      replace Hp := Lib.hid (Hp.out.below hB9 ltp)
      replace ltp := Nat.lt_of_lt_of_le ltp hs9
      replace Hq := Lib.hid (Hq.out.below hB9 ltq)
      replace ltq := Nat.lt_of_lt_of_le ltq hs9
      replace HR := Lib.hid (HR.out.below hB9 (Nat.le_refl _))
      replace HRK := Lib.hid (HRK.out.below hB9 (Nat.le_refl _))
      replace HRWas := Lib.hid (HRWas.out.below hB9 (Nat.le_refl _))
      replace HRQ := Lib.hid (HRQ.out.below hB9 (Nat.le_refl _))
      replace hw := Nat.le_trans hw hs9
      clear hB9 hs9
      refine wpAnyH_ready (rs := [0]) (by kernel_rfl) (by simp) ?_
      refine AllReadyH.cons (o := ⟨some 65, _, _, _, _, _⟩) rfl (fun KK hK => ?_) AllReadyH.nil
      go_simp
      go_at_call 9
      refine (awake_any _).mono ?_; rintro e w8 ⟨rfl, hB9⟩
      have hs9 := hB9.size
      replace HB := Lib.hid (HB.out.trans (hB9.mono hw))
      replace Hp := Lib.hid (Hp.out.below hB9 ltp)
      replace ltp := Nat.lt_of_lt_of_le ltp hs9
      replace Hq := Lib.hid (Hq.out.below hB9 ltq)
      replace ltq := Nat.lt_of_lt_of_le ltq hs9
      replace HR := Lib.hid (HR.out.below hB9 (Nat.le_refl _))
      replace HRK := Lib.hid (HRK.out.below hB9 (Nat.le_refl _))
      replace HRWas := Lib.hid (HRWas.out.below hB9 (Nat.le_refl _))
      replace HRQ := Lib.hid (HRQ.out.below hB9 (Nat.le_refl _))
      replace hw := Nat.le_trans hw hs9
      clear hB9 hs9
      refine hK.out _ _ ?_ (fun hHeld2 => ?_)
      · exact ⟨Hp.out, Hq.out⟩
      clear hK KK hHeld
      have hHeld := hHeld2
      clear hHeld2
      try simp only [Act.put, List.setIfInBounds_toArray, List.set_cons_zero, List.set_cons_succ]
      refine wpAnyH_take (i := 1) (oi := ⟨some 66, _, _, _, _, _⟩) (v := ?_) rfl (by kernel_rfl) (by kernel_rfl) (by kernel_rfl) (fun _ _ _ h => h) (Or.inl ⟨by rfl, ?_⟩) hHeld ?_
      rotate_left
      · (intro wq hSw; go_simp; try with_reducible rfl)
      try simp only [Act.put, List.setIfInBounds_toArray, List.set_cons_zero, List.set_cons_succ]
      refine wpAnyH_take (i := 2) (oi := ⟨some 67, _, _, _, _, _⟩) (v := ?_) rfl (by kernel_rfl) (by kernel_rfl) (by kernel_rfl) (fun _ _ _ h => h) (Or.inl ⟨by rfl, ?_⟩) hHeld ?_
      rotate_left
      · (intro wq hSw; go_simp; try with_reducible rfl)
      try simp only [Act.put, List.setIfInBounds_toArray, List.set_cons_zero, List.set_cons_succ]
      refine wpAnyH_take (i := 3) (oi := ⟨some 68, _, _, _, _, _⟩) (v := ?_) rfl (by kernel_rfl) (by kernel_rfl) (by kernel_rfl) (fun _ _ _ h => h) (Or.inl ⟨by rfl, ?_⟩) hHeld ?_
      rotate_left
      · (intro wq hSw; have qq0 := hSw.2.cell (i := 0) rfl; have qq1 := hSw.2.cell (i := 1) rfl; have qq2 := hSw.2.cell (i := 2) rfl; have qq3 := hSw.2.cell (i := 3) rfl; have qq4 := hSw.2.cell (i := 4) rfl; go_simp; try with_reducible rfl)
      try simp only [Act.put, List.setIfInBounds_toArray, List.set_cons_zero, List.set_cons_succ]
      refine wpAnyH_take (i := 4) (oi := ⟨some 69, _, _, _, _, _⟩) (v := ?_) rfl (by kernel_rfl) (by kernel_rfl) (by kernel_rfl) (fun _ _ _ h => h) (Or.inl ⟨by rfl, ?_⟩) hHeld ?_
      rotate_left
      · (intro wq hSw; have qp0 := hSw.1.cell (i := 0) rfl; have qp1 := hSw.1.cell (i := 1) rfl; have qp2 := hSw.1.cell (i := 2) rfl; have qp3 := hSw.1.cell (i := 3) rfl; have qp4 := hSw.1.cell (i := 4) rfl; go_simp; try with_reducible rfl)
      try simp only [Act.put, List.setIfInBounds_toArray, List.set_cons_zero, List.set_cons_succ]
      refine wpAnyH_take (i := 5) (oi := ⟨some 70, _, _, _, _, _⟩) (v := ?_) rfl (by kernel_rfl) (by kernel_rfl) (by kernel_rfl) (fun _ _ _ h => h) (Or.inl ⟨by rfl, ?_⟩) hHeld ?_
      rotate_left
      · (intro wq hSw; go_simp; try with_reducible rfl)
      try simp only [Act.put, List.setIfInBounds_toArray, List.set_cons_zero, List.set_cons_succ]
      refine wpAnyH_ready (rs := [6]) (by kernel_rfl) (by simp) ?_
      refine AllReadyH.cons (o := ⟨some 71, _, _, _, _, _⟩) rfl (fun KK hK => ?_) AllReadyH.nil
      go_simp
      go_at_call 26
      refine (refRemove_any lv _ c1 hi la rt ys AK2 k ck2 ls _ m hm (by omega) HR.out hkl (by omega) HRK.out zs HZS.out t ht).mono ?_; rintro e w9 ⟨A9, c9, rfl, hO9, hB9⟩
      have HRX := Lib.hid (rs_own hO9)
      clear hO9
      have hs9 := hB9.size
      replace HB := Lib.hid (HB.out.trans (hB9.mono hw))
      replace Hp := Lib.hid (Hp.out.below hB9 ltp)
      replace ltp := Nat.lt_of_lt_of_le ltp hs9
      replace Hq := Lib.hid (Hq.out.below hB9 ltq)
      replace ltq := Nat.lt_of_lt_of_le ltq hs9
      replace HR := Lib.hid (HR.out.below hB9 (Nat.le_refl _))
      replace HRK := Lib.hid (HRK.out.below hB9 (Nat.le_refl _))
      replace HRWas := Lib.hid (HRWas.out.below hB9 (Nat.le_refl _))
      replace HRQ := Lib.hid (HRQ.out.below hB9 (Nat.le_refl _))
      replace hw := Nat.le_trans hw hs9
      clear hB9 hs9
      refine hK.out _ _ ?_ (fun hHeld2 => ?_)
      · exact ⟨Hp.out, Hq.out⟩
      clear hK KK hHeld
      have hHeld := hHeld2
      clear hHeld2
      try simp only [Act.put, List.setIfInBounds_toArray, List.set_cons_zero, List.set_cons_succ]
      refine wpAnyH_ready (rs := [7]) (by kernel_rfl) (by simp) ?_
      refine AllReadyH.cons (o := ⟨some 72, _, _, _, _, _⟩) rfl (fun KK hK => ?_) AllReadyH.nil
      go_simp
      go_at_call 23
      refine (refSame_yes lv A2 A9 c2 c9 hi la rt zs _ t ht (by omega) HRQ.out HRX.out).mono ?_; rintro e w10 ⟨rfl, hB9⟩
      have hs9 := hB9.size
      replace HB := Lib.hid (HB.out.trans (hB9.mono hw))
      replace Hp := Lib.hid (Hp.out.below hB9 ltp)
      replace ltp := Nat.lt_of_lt_of_le ltp hs9
      replace Hq := Lib.hid (Hq.out.below hB9 ltq)
      replace ltq := Nat.lt_of_lt_of_le ltq hs9
      replace HR := Lib.hid (HR.out.below hB9 (Nat.le_refl _))
      replace HRK := Lib.hid (HRK.out.below hB9 (Nat.le_refl _))
      replace HRWas := Lib.hid (HRWas.out.below hB9 (Nat.le_refl _))
      replace HRQ := Lib.hid (HRQ.out.below hB9 (Nat.le_refl _))
      replace HRX := Lib.hid (HRX.out.below hB9 (Nat.le_refl _))
      replace hw := Nat.le_trans hw hs9
      clear hB9 hs9
      refine hK.out _ _ ?_ (fun hHeld2 => ?_)
      · exact ⟨Hp.out, Hq.out⟩
      clear hK KK hHeld
      have hHeld := hHeld2
      clear hHeld2
      try simp only [Act.put, List.setIfInBounds_toArray, List.set_cons_zero, List.set_cons_succ]
      refine wpAnyH_take (i := 8) (oi := ⟨some 73, _, _, _, _, _⟩) (v := ?_) rfl (by kernel_rfl) (by kernel_rfl) (by kernel_rfl) (fun _ _ _ h => h) (Or.inl ⟨by rfl, ?_⟩) hHeld ?_
      rotate_left
      · (intro wq hSw; go_simp; try with_reducible rfl)
      try simp only [Act.put, List.setIfInBounds_toArray, List.set_cons_zero, List.set_cons_succ]
      refine wpAnyH_take (i := 9) (oi := ⟨some 74, _, _, _, _, _⟩) (v := ?_) rfl (by kernel_rfl) (by kernel_rfl) (by kernel_rfl) (fun _ _ _ h => h) (Or.inl ⟨by rfl, ?_⟩) hHeld ?_
      rotate_left
      · (intro wq hSw; go_simp; try with_reducible rfl)
      try simp only [Act.put, List.setIfInBounds_toArray, List.set_cons_zero, List.set_cons_succ]
      refine wpAnyH_take (i := 10) (oi := ⟨some 75, _, _, _, _, _⟩) (v := ?_) rfl (by kernel_rfl) (by kernel_rfl) (by kernel_rfl) (fun _ _ _ h => h) (Or.inl ⟨by rfl, ?_⟩) hHeld ?_
      rotate_left
      · (intro wq hSw; go_simp; try with_reducible rfl)
      try simp only [Act.put, List.setIfInBounds_toArray, List.set_cons_zero, List.set_cons_succ]
      refine wpAnyH_take (i := 11) (oi := ⟨some 76, _, _, _, _, _⟩) (v := ?_) rfl (by kernel_rfl) (by kernel_rfl) (by kernel_rfl) (fun _ _ _ h => h) (Or.inl ⟨by rfl, ?_⟩) hHeld ?_
      rotate_left
      · (intro wq hSw; go_simp; try with_reducible rfl)
      try simp only [Act.put, List.setIfInBounds_toArray, List.set_cons_zero, List.set_cons_succ]
      refine wpAnyH_take (i := 12) (oi := ⟨some 77, _, _, _, _, _⟩) (v := ?_) rfl (by kernel_rfl) (by kernel_rfl) (by kernel_rfl) (fun _ _ _ h => h) (Or.inl ⟨by rfl, ?_⟩) hHeld ?_
      rotate_left
      · (intro wq hSw; have qp0 := hSw.1.cell (i := 0) rfl; have qp1 := hSw.1.cell (i := 1) rfl; have qp2 := hSw.1.cell (i := 2) rfl; have qp3 := hSw.1.cell (i := 3) rfl; have qp4 := hSw.1.cell (i := 4) rfl; go_simp; try with_reducible rfl)
      try simp only [Act.put, List.setIfInBounds_toArray, List.set_cons_zero, List.set_cons_succ]
      refine wpAnyH_take (i := 13) (oi := ⟨some 78, _, _, _, _, _⟩) (v := ?_) rfl (by kernel_rfl) (by kernel_rfl) (by kernel_rfl) (fun _ _ _ h => h) (Or.inl ⟨by rfl, ?_⟩) hHeld ?_
      rotate_left
      · (intro wq hSw; go_simp; try with_reducible rfl)
      try simp only [Act.put, List.setIfInBounds_toArray, List.set_cons_zero, List.set_cons_succ]
      refine wpAnyH_ready (rs := [14]) (by kernel_rfl) (by simp) ?_
      refine AllReadyH.cons (o := ⟨some 79, _, _, _, _, _⟩) rfl (fun KK hK => ?_) AllReadyH.nil
      go_simp
      go_at_call 24
      refine (kitSame_yes _ Aw c1 cw ys _ m hm (by omega) HR.out HRWas.out).mono ?_; rintro e w11 ⟨rfl, hB9⟩
      have hs9 := hB9.size
      replace HB := Lib.hid (HB.out.trans (hB9.mono hw))
      replace Hp := Lib.hid (Hp.out.below hB9 ltp)
      replace ltp := Nat.lt_of_lt_of_le ltp hs9
      replace Hq := Lib.hid (Hq.out.below hB9 ltq)
      replace ltq := Nat.lt_of_lt_of_le ltq hs9
      replace HR := Lib.hid (HR.out.below hB9 (Nat.le_refl _))
      replace HRK := Lib.hid (HRK.out.below hB9 (Nat.le_refl _))
      replace HRWas := Lib.hid (HRWas.out.below hB9 (Nat.le_refl _))
      replace HRQ := Lib.hid (HRQ.out.below hB9 (Nat.le_refl _))
      replace HRX := Lib.hid (HRX.out.below hB9 (Nat.le_refl _))
      replace hw := Nat.le_trans hw hs9
      clear hB9 hs9
      refine hK.out _ _ ?_ (fun hHeld2 => ?_)
      · exact ⟨Hp.out, Hq.out⟩
      clear hK KK hHeld
      have hHeld := hHeld2
      clear hHeld2
      try simp only [Act.put, List.setIfInBounds_toArray, List.set_cons_zero, List.set_cons_succ]
      refine wpAnyH_take (i := 15) (oi := ⟨some 80, _, _, _, _, _⟩) (v := ?_) rfl (by kernel_rfl) (by kernel_rfl) (by kernel_rfl) (fun _ _ _ h => h) (Or.inl ⟨by rfl, ?_⟩) hHeld ?_
      rotate_left
      · (intro wq hSw; go_simp; try with_reducible rfl)
      try simp only [Act.put, List.setIfInBounds_toArray, List.set_cons_zero, List.set_cons_succ]
      refine wpAnyH_take (i := 16) (oi := ⟨some 81, _, _, _, _, _⟩) (v := ?_) rfl (by kernel_rfl) (by kernel_rfl) (by kernel_rfl) (fun _ _ _ h => h) (Or.inl ⟨by rfl, ?_⟩) hHeld ?_
      rotate_left
      · (intro wq hSw; go_simp; try with_reducible rfl)
      try simp only [Act.put, List.setIfInBounds_toArray, List.set_cons_zero, List.set_cons_succ]
      refine wpAnyH_done (by kernel_rfl) ?_ _
      clear hHeld
      clear HRX
      have pc0 := Hp.out.cell (i := 0) rfl
      have pc1 := Hp.out.cell (i := 1) rfl
      have pc2 := Hp.out.cell (i := 2) rfl
      have pc3 := Hp.out.cell (i := 3) rfl
      have pc4 := Hp.out.cell (i := 4) rfl
      have qc0 := Hq.out.cell (i := 0) rfl
      have qc1 := Hq.out.cell (i := 1) rfl
      have qc2 := Hq.out.cell (i := 2) rfl
      have qc3 := Hq.out.cell (i := 3) rfl
      have qc4 := Hq.out.cell (i := 4) rfl
      go_wp2_with fail
      clear pc0 pc1 pc2 pc3 pc4 qc0 qc1 qc2 qc3 qc4
      have HBI0 := Lib.hid (Below.refl w11.heap.size w11)
      have HW1 := HB
      go_loopw [12] (fun i wr => ∃ i2 : Nat, i2 ≤ m ∧ i = .int .i64 i2 ∧ Below w11.heap.size w11 wr) (fun i _ => m - (intOf i).toNat)
      case atStart => exact ⟨0, Nat.zero_le _, rfl, HBI0.out⟩
      case round =>
        clear HBI0 HW1
        obtain ⟨i2, hi2, rfl, hB9⟩ := hrel
        rename World => wi
        have HBI := Lib.hid hB9
        have hs9 := hB9.size
        replace HB := Lib.hid (HB.out.trans (hB9.mono hw))
        replace Hp := Lib.hid (Hp.out.below hB9 ltp)
        replace ltp := Nat.lt_of_lt_of_le ltp hs9
        replace Hq := Lib.hid (Hq.out.below hB9 ltq)
        replace ltq := Nat.lt_of_lt_of_le ltq hs9
        replace HR := Lib.hid (HR.out.below hB9 (Nat.le_refl _))
        replace HRK := Lib.hid (HRK.out.below hB9 (Nat.le_refl _))
        replace HRWas := Lib.hid (HRWas.out.below hB9 (Nat.le_refl _))
        replace HRQ := Lib.hid (HRQ.out.below hB9 (Nat.le_refl _))
        replace hw := Nat.le_trans hw hs9
        clear hB9 hs9
        by_cases hlt : i2 < m
        · obtain ⟨x, hx⟩ : ∃ x, ys[i2]? = some x := ⟨_, List.getElem?_eq_getElem (by omega)⟩
          have hgh := gone_has (ks := ls) hx
          rw [HZS.out] at hgh
          have HGH := Lib.hid hgh
          obtain ⟨gw, offw, hAw, hgw, hcw⟩ := HRWas.out.at (by omega)
          subst hAw
          obtain ⟨cw0, _⟩ := hcw i2 x hx
          have CW0 := Lib.hid cw0
          obtain ⟨cv, hcv⟩ : ∃ cv, cnt x.1 zs = cv := ⟨_, rfl⟩
          have HCV := Lib.hid hcv
          have hi2' : (i2 : Int) < (m : Int) := by omega
          clear hgh hcw cw0 hx hcv
          have hBs := HBI.out.size
          go_wp2_with fail
          go_loopw [13, 14] (fun b i wf => ∃ q : Nat, q ≤ k ∧ i = .int .i64 q ∧ b = .bool (gone (ls.take q) x) ∧ Drawn2 wi wf) (fun _ i _ => k - (intOf i).toNat)
          case atStart => exact ⟨0, Nat.zero_le _, rfl, rfl, 0, rfl⟩
          case round =>
            obtain ⟨q, hq, rfl, rfl, hd⟩ := hrel
            rename World => wf
            have hdB := hd.below wi.heap.size
            have cw0 := (hdB.cell (p := ⟨gw, offw + i2 * 2, none⟩) hgw).trans CW0.out
            have HD := Lib.hid hd
            by_cases hqk : q < k
            · obtain ⟨y, hky⟩ : ∃ y, ls[q]? = some y := ⟨_, List.getElem?_eq_getElem (by omega)⟩
              obtain ⟨gk, offk, hAk, hgk, hcellk⟩ := HRK.out.at' (by omega)
              subst hAk
              have d0 := (hdB.cell (p := ⟨gk, offk + q, none⟩) hgk).trans (hcellk q y hky)
              have hst := gone_fold (x := x) hky
              generalize gone (ls.take q) x = bb at hst ⊢
              generalize hlit : (y.toList == x.1.toList) = b2 at hst
              have HST := Lib.hid hst
              clear hst hcellk hky hd hdB
              cases bb
              · cases b2
                all_goals
                  go_wp2_with fail
                  go_quiet (fail)
                  go_wp2
                  go_roundw
                  case rel => exact ⟨q + 1, by omega, by go_num, by rw [HST.out]; rfl, HD.out.more _⟩
                  case measure => simp [intOf]; omega
              · go_wp2_with fail
                go_quiet (fail)
                go_wp2
                go_roundw
                case rel => exact ⟨q + 1, by omega, by go_num, by rw [HST.out]; rfl, HD.out.more _⟩
                case measure => simp [intOf]; omega
            · obtain rfl : q = k := by omega
              rw [List.take_of_length_le (by omega)]
              have hB9 := hdB
              have CW := Lib.hid cw0
              have hgw2 : gw < wf.heap.size := Nat.lt_of_lt_of_le hgw hdB.size
              have HBF := Lib.hid (HBI.out.trans (hdB.mono hBs))
              clear hdB hd HD cw0 HBI CW0 hgw
              have hs9 := hB9.size
              replace HB := Lib.hid (HB.out.trans (hB9.mono hw))
              replace Hp := Lib.hid (Hp.out.below hB9 ltp)
              replace ltp := Nat.lt_of_lt_of_le ltp hs9
              replace Hq := Lib.hid (Hq.out.below hB9 ltq)
              replace ltq := Nat.lt_of_lt_of_le ltq hs9
              replace HR := Lib.hid (HR.out.below hB9 (Nat.le_refl _))
              replace HRK := Lib.hid (HRK.out.below hB9 (Nat.le_refl _))
              replace HRWas := Lib.hid (HRWas.out.below hB9 (Nat.le_refl _))
              replace HRQ := Lib.hid (HRQ.out.below hB9 (Nat.le_refl _))
              replace hw := Nat.le_trans hw hs9
              clear hB9 hs9
              have hbF := HBF.out.size
              cases hgx : gone ls x
              · have hhv : has x.1 zs = true := by rw [HGH.out, hgx]; rfl
                have HHV := Lib.hid hhv
                clear hhv hgx
                have cw0 := CW.out
                have qc0 := Hq.out.cell (i := 0) rfl
                have qc1 := Hq.out.cell (i := 1) rfl
                have qc2 := Hq.out.cell (i := 2) rfl
                have qc3 := Hq.out.cell (i := 3) rfl
                have qc4 := Hq.out.cell (i := 4) rfl
                go_upto_region 21 with fail
                refine qregion (fun w' => Below wf.heap.size wf w' ∧ w'.cell? ⟨bq, 0, none⟩ = some (.int .i64 lv) ∧ w'.cell? ⟨bq, 1, none⟩ = some (.slice A2 t c2) ∧ w'.cell? ⟨bq, 2, none⟩ = some (.string hi) ∧ w'.cell? ⟨bq, 3, none⟩ = some (.bool la) ∧ w'.cell? ⟨bq, 4, none⟩ = some (.int .u64 (rt : Int)) ∧ w'.cell? ⟨gw, offw + i2 * 2, none⟩ = some (.string x.1)) (by kernel_rfl) (by kernel_rfl) ⟨(Below.refl _ _).drew, qc0, qc1, qc2, qc3, qc4, cw0⟩ ?_
                refine qstep (o := ⟨some 108, _, _, _, _, _⟩) (v := ?_) (by rfl) (fun wq hSw => ?_) ?_
                rotate_left
                · (try dsimp only at hSw); go_simp; try with_reducible rfl
                try simp only [Act.put, List.setIfInBounds_toArray, List.set_cons_zero, List.set_cons_succ]
                refine qstep (o := ⟨some 109, _, _, _, _, _⟩) (v := ?_) (by rfl) (fun wq hSw => ?_) ?_
                rotate_left
                · (try dsimp only at hSw); go_simp; try with_reducible rfl
                try simp only [Act.put, List.setIfInBounds_toArray, List.set_cons_zero, List.set_cons_succ]
                refine qstep (o := ⟨some 110, _, _, _, _, _⟩) (v := ?_) (by rfl) (fun wq hSw => ?_) ?_
                rotate_left
                · (try dsimp only at hSw); go_simp; try with_reducible rfl
                try simp only [Act.put, List.setIfInBounds_toArray, List.set_cons_zero, List.set_cons_succ]
                refine qstep (o := ⟨some 111, _, _, _, _, _⟩) (v := .pointer (some ⟨gw, offw + i2 * 2, none⟩)) (by rfl) (fun wq hSw => ?_) ?_
                · (try dsimp only at hSw); go_simp; try first | (with_reducible rfl) | (simp; omega) | (intros; omega) | simp [*]
                try simp only [Act.put, List.setIfInBounds_toArray, List.set_cons_zero, List.set_cons_succ]
                refine qstep (o := ⟨some 112, _, _, _, _, _⟩) (v := ?_) (by rfl) (fun wq hSw => ?_) ?_
                rotate_left
                · (try dsimp only at hSw); go_simp; try with_reducible rfl
                try simp only [Act.put, List.setIfInBounds_toArray, List.set_cons_zero, List.set_cons_succ]
                refine qstep (o := ⟨some 113, _, _, _, _, _⟩) (v := .string x.1) (by rfl) (fun wq hSw => ?_) ?_
                · (try dsimp only at hSw); go_simp; try first | (with_reducible rfl) | (simp; omega) | (intros; omega) | simp [*]
                try simp only [Act.put, List.setIfInBounds_toArray, List.set_cons_zero, List.set_cons_succ]
                refine qcall (o := ⟨some 114, _, _, _, _, _⟩) (v := .tuple #[.int .i64 (cv : Int), .bool true]) (by rfl) (fun wq hSw => ?_) (fun wq hSw => Calls.mono (find_to lv A2 c2 hi la rt zs x.1 _ t ht (by omega) (HRQ.out.below hSw.1 (Nat.le_refl _)) HZA.out cv true HCV.out HHV.out) ?_) ?_
                · (try dsimp only at hSw); go_simp; try with_reducible rfl
                · rintro e w9 ⟨rfl, hk⟩; exact ⟨rfl, ⟨hSw.1.trans (hk.mono hSw.1.size), kc2 hk hSw.1 ltq hSw.2.1, kc2 hk hSw.1 ltq hSw.2.2.1, kc2 hk hSw.1 ltq hSw.2.2.2.1, kc2 hk hSw.1 ltq hSw.2.2.2.2.1, kc2 hk hSw.1 ltq hSw.2.2.2.2.2.1, kc2 hk hSw.1 hgw2 hSw.2.2.2.2.2.2⟩⟩
                try simp only [Act.put, List.setIfInBounds_toArray, List.set_cons_zero, List.set_cons_succ]
                refine qstep (o := ⟨some 107, _, _, _, _, _⟩) (v := ?_) (by rfl) (fun wq hSw => ?_) ?_
                rotate_left
                · (try dsimp only at hSw); go_simp; try with_reducible rfl
                try simp only [Act.put, List.setIfInBounds_toArray, List.set_cons_zero, List.set_cons_succ]
                refine qstep (o := ⟨some 115, _, _, _, _, _⟩) (v := ?_) (by rfl) (fun wq hSw => ?_) ?_
                rotate_left
                · (try dsimp only at hSw); go_simp; try with_reducible rfl
                try simp only [Act.put, List.setIfInBounds_toArray, List.set_cons_zero, List.set_cons_succ]
                refine qstep (o := ⟨some 116, _, _, _, _, _⟩) (v := ?_) (by rfl) (fun wq hSw => ?_) ?_
                rotate_left
                · (try dsimp only at hSw); go_simp; try with_reducible rfl
                try simp only [Act.put, List.setIfInBounds_toArray, List.set_cons_zero, List.set_cons_succ]
                refine qstep (o := ⟨some 15, _, _, _, _, _⟩) (v := ?_) (by rfl) (fun wq hSw => ?_) ?_
                rotate_left
                · (try dsimp only at hSw); go_simp; try with_reducible rfl
                try simp only [Act.put, List.setIfInBounds_toArray, List.set_cons_zero, List.set_cons_succ]
                refine qstep (o := ⟨some 16, _, _, _, _, _⟩) (v := ?_) (by rfl) (fun wq hSw => ?_) ?_
                rotate_left
                · (try dsimp only at hSw); go_simp; try with_reducible rfl
                try simp only [Act.put, List.setIfInBounds_toArray, List.set_cons_zero, List.set_cons_succ]
                refine wpQuiet_nil ?_
                intro wz hHeld
                obtain ⟨hB9, -⟩ := hHeld
                replace HBF := Lib.hid (HBF.out.trans (hB9.mono hbF))
                clear cw0 CW qc0 qc1 qc2 qc3 qc4
                go_wp2
                go_roundw
                case rel => exact ⟨i2 + 1, by omega, by go_num, HBF.out⟩
                case measure => simp [intOf]; omega
              · have hhv : has x.1 zs = false := by rw [HGH.out, hgx]; rfl
                have HHV := Lib.hid hhv
                clear hhv hgx
                have cw0 := CW.out
                have qc0 := Hq.out.cell (i := 0) rfl
                have qc1 := Hq.out.cell (i := 1) rfl
                have qc2 := Hq.out.cell (i := 2) rfl
                have qc3 := Hq.out.cell (i := 3) rfl
                have qc4 := Hq.out.cell (i := 4) rfl
                go_upto_region 21 with fail
                refine qregion (fun w' => Below wf.heap.size wf w' ∧ w'.cell? ⟨bq, 0, none⟩ = some (.int .i64 lv) ∧ w'.cell? ⟨bq, 1, none⟩ = some (.slice A2 t c2) ∧ w'.cell? ⟨bq, 2, none⟩ = some (.string hi) ∧ w'.cell? ⟨bq, 3, none⟩ = some (.bool la) ∧ w'.cell? ⟨bq, 4, none⟩ = some (.int .u64 (rt : Int)) ∧ w'.cell? ⟨gw, offw + i2 * 2, none⟩ = some (.string x.1)) (by kernel_rfl) (by kernel_rfl) ⟨(Below.refl _ _).drew, qc0, qc1, qc2, qc3, qc4, cw0⟩ ?_
                refine qstep (o := ⟨some 108, _, _, _, _, _⟩) (v := ?_) (by rfl) (fun wq hSw => ?_) ?_
                rotate_left
                · (try dsimp only at hSw); go_simp; try with_reducible rfl
                try simp only [Act.put, List.setIfInBounds_toArray, List.set_cons_zero, List.set_cons_succ]
                refine qstep (o := ⟨some 109, _, _, _, _, _⟩) (v := ?_) (by rfl) (fun wq hSw => ?_) ?_
                rotate_left
                · (try dsimp only at hSw); go_simp; try with_reducible rfl
                try simp only [Act.put, List.setIfInBounds_toArray, List.set_cons_zero, List.set_cons_succ]
                refine qstep (o := ⟨some 110, _, _, _, _, _⟩) (v := ?_) (by rfl) (fun wq hSw => ?_) ?_
                rotate_left
                · (try dsimp only at hSw); go_simp; try with_reducible rfl
                try simp only [Act.put, List.setIfInBounds_toArray, List.set_cons_zero, List.set_cons_succ]
                refine qstep (o := ⟨some 111, _, _, _, _, _⟩) (v := .pointer (some ⟨gw, offw + i2 * 2, none⟩)) (by rfl) (fun wq hSw => ?_) ?_
                · (try dsimp only at hSw); go_simp; try first | (with_reducible rfl) | (simp; omega) | (intros; omega) | simp [*]
                try simp only [Act.put, List.setIfInBounds_toArray, List.set_cons_zero, List.set_cons_succ]
                refine qstep (o := ⟨some 112, _, _, _, _, _⟩) (v := ?_) (by rfl) (fun wq hSw => ?_) ?_
                rotate_left
                · (try dsimp only at hSw); go_simp; try with_reducible rfl
                try simp only [Act.put, List.setIfInBounds_toArray, List.set_cons_zero, List.set_cons_succ]
                refine qstep (o := ⟨some 113, _, _, _, _, _⟩) (v := .string x.1) (by rfl) (fun wq hSw => ?_) ?_
                · (try dsimp only at hSw); go_simp; try first | (with_reducible rfl) | (simp; omega) | (intros; omega) | simp [*]
                try simp only [Act.put, List.setIfInBounds_toArray, List.set_cons_zero, List.set_cons_succ]
                refine qcall (o := ⟨some 114, _, _, _, _, _⟩) (v := .tuple #[.int .i64 (cv : Int), .bool false]) (by rfl) (fun wq hSw => ?_) (fun wq hSw => Calls.mono (find_to lv A2 c2 hi la rt zs x.1 _ t ht (by omega) (HRQ.out.below hSw.1 (Nat.le_refl _)) HZA.out cv false HCV.out HHV.out) ?_) ?_
                · (try dsimp only at hSw); go_simp; try with_reducible rfl
                · rintro e w9 ⟨rfl, hk⟩; exact ⟨rfl, ⟨hSw.1.trans (hk.mono hSw.1.size), kc2 hk hSw.1 ltq hSw.2.1, kc2 hk hSw.1 ltq hSw.2.2.1, kc2 hk hSw.1 ltq hSw.2.2.2.1, kc2 hk hSw.1 ltq hSw.2.2.2.2.1, kc2 hk hSw.1 ltq hSw.2.2.2.2.2.1, kc2 hk hSw.1 hgw2 hSw.2.2.2.2.2.2⟩⟩
                try simp only [Act.put, List.setIfInBounds_toArray, List.set_cons_zero, List.set_cons_succ]
                refine qstep (o := ⟨some 107, _, _, _, _, _⟩) (v := ?_) (by rfl) (fun wq hSw => ?_) ?_
                rotate_left
                · (try dsimp only at hSw); go_simp; try with_reducible rfl
                try simp only [Act.put, List.setIfInBounds_toArray, List.set_cons_zero, List.set_cons_succ]
                refine qstep (o := ⟨some 115, _, _, _, _, _⟩) (v := ?_) (by rfl) (fun wq hSw => ?_) ?_
                rotate_left
                · (try dsimp only at hSw); go_simp; try with_reducible rfl
                try simp only [Act.put, List.setIfInBounds_toArray, List.set_cons_zero, List.set_cons_succ]
                refine qstep (o := ⟨some 116, _, _, _, _, _⟩) (v := ?_) (by rfl) (fun wq hSw => ?_) ?_
                rotate_left
                · (try dsimp only at hSw); go_simp; try with_reducible rfl
                try simp only [Act.put, List.setIfInBounds_toArray, List.set_cons_zero, List.set_cons_succ]
                refine qstep (o := ⟨some 15, _, _, _, _, _⟩) (v := ?_) (by rfl) (fun wq hSw => ?_) ?_
                rotate_left
                · (try dsimp only at hSw); go_simp; try with_reducible rfl
                try simp only [Act.put, List.setIfInBounds_toArray, List.set_cons_zero, List.set_cons_succ]
                refine qstep (o := ⟨some 16, _, _, _, _, _⟩) (v := ?_) (by rfl) (fun wq hSw => ?_) ?_
                rotate_left
                · (try dsimp only at hSw); go_simp; try with_reducible rfl
                try simp only [Act.put, List.setIfInBounds_toArray, List.set_cons_zero, List.set_cons_succ]
                refine wpQuiet_nil ?_
                intro wz hHeld
                obtain ⟨hB9, -⟩ := hHeld
                replace HBF := Lib.hid (HBF.out.trans (hB9.mono hbF))
                clear cw0 CW qc0 qc1 qc2 qc3 qc4
                go_wp2
                go_roundw
                case rel => exact ⟨i2 + 1, by omega, by go_num, HBF.out⟩
                case measure => simp [intOf]; omega
        · go_wp2
          go_ret
          exact ⟨rfl, HB.out⟩
end Go.Proofs.Ytegbdpelnmaijaa
