/-
  What the laws' lows answers for a level of a tree. Condition: the kit's small configurations.
-/
import Derived.Test.YtboieccjikcdiaaDesLevel
import Derived.Test.YtboieccjikcdiaaAppAny
namespace Go.Proofs.Ytboieccjikcdiaa
open Go.RowKit Go.Deep Plain
set_option linter.unusedVariables false

theorem infoStr : (Try.prog.info? 9).map (fun i => (i.zero, i.size, i.bytes)) = some (some (.string ByteArray.empty), 1, 16) := by kernel_rfl
theorem pfield2 (lv : Int) (A : Option Addr) (n c : Nat) (hi : ByteArray) (la : Bool) (rt : Int) (w : World) : (Instr.field 43 (.agg #[.int .i64 lv, .slice A n c, .string hi, .bool la, .int .u64 rt]) 2).run Try.prog w = .ok (.string hi) w := by kernel_rfl
/-- The low keys of a level, as lows lists them. -/
def lws (pg : Nat → Pg) (j : Nat) : List ByteArray := (List.range j).map fun i => if i = 0 then ⟨#[]⟩ else (pg (i - 1)).hi
def strv (ks : List ByteArray) : List Value := ks.map fun k => Value.string k
theorem lws_len (pg : Nat → Pg) (j : Nat) : (lws pg j).length = j := by unfold lws; simp
theorem lws_step (pg : Nat → Pg) (j : Nat) : lws pg (j + 1 + 1) = lws pg (j + 1) ++ [(pg j).hi] := by
  unfold lws; rw [List.range_succ, List.map_append]
  show _ ++ [if j + 1 = 0 then _ else (pg (j + 1 - 1)).hi] = _
  rw [if_neg (by omega), Nat.add_sub_cancel]
theorem lws_at {F H : Nat} {l : List Cel} {st mm : Nat → Nat} {lo : Nat → Nat → ByteArray} {pg : Nat → Nat → Pg} (T : Tr F l H st mm lo pg) {L m i : Nat} (hL : L < H) (hi : i < mm L) (him : i < m) : (lws (pg L) m)[i]? = some (lo L i) := by
  unfold lws
  rw [List.getElem?_map, List.getElem?_range him]
  show some (if i = 0 then _ else (pg L (i - 1)).hi) = _
  cases i with
  | zero => rw [if_pos rfl, (T.lev L hL).low0]
  | succ i => rw [if_neg (by omega), Nat.add_sub_cancel, ((T.lev L hL).next i hi).2.2]
theorem own_lit (w : World) (k : ByteArray) : (w.alloc (.cells #[.string k] 9)).ownsRow w.heap.size 9 1 (.slice (some ⟨w.heap.size, 0, none⟩) 1 1) 1 [.string k] :=
  ⟨rfl, .inr ⟨w.heap.size, 1, #[.string k], rfl, Nat.le_refl _, Blk.new w [.string k] 9, Nat.le_refl _, by unfold maxLen; omega, rfl, rfl⟩⟩
theorem strs_read {w : World} {base n : Nat} {v : Value} {ks : List ByteArray} (h : w.ownsRow base 9 1 v n (strv ks)) (hn : 0 < n) : ∃ g c, v = .slice (some ⟨g, 0, none⟩) n c ∧ g < w.heap.size ∧ base ≤ g ∧ ∀ (i : Nat) (k : ByteArray), ks[i]? = some k → w.cell? ⟨g, i, none⟩ = some (.string k) := by
  rcases h.2 with ⟨rfl, rfl⟩ | ⟨g, cap, cur, rfl, hb, hg, hc, hm, rest⟩
  · omega
  · refine ⟨g, cap, rfl, (Array.getElem?_eq_some_iff.1 hg).1, hb, fun i k hi => ?_⟩
    have := World.ownsRow.cells h (g := g) rfl i (.string k) (by unfold strv; rw [List.getElem?_map, hi]; rfl)
    rw [Addr.add_lit, Nat.zero_add] at this
    exact this
set_option maxRecDepth 100000 in
set_option maxHeartbeats 8000000 in
theorem lows_any (F : Nat) (h4 : 4 ≤ F) (h6 : F ≤ 6) (g n : Nat) (l : List Cel) (hl : l.length = n) (H : Nat) (st mm : Nat → Nat) (lo : Nat → Nat → ByteArray) (pg : Nat → Nat → Pg) (T : Tr F l H st mm lo pg) (lvl m : Nat) (hm1000 : m ≤ 1000) (AL : Option Addr) (cL : Nat) (w : World) (hv : Blk w g 49 (flat3 l)) (hmm : ∀ i, i < m → lvl < H ∧ i < mm lvl) (hal : 0 < m → ∃ gL oL, AL = some ⟨gL, oL, none⟩ ∧ gL < w.heap.size ∧ ∀ i, i < m → w.cell? ⟨gL, oL + i, none⟩ = some (.int .u64 ((st lvl + i : Nat) : Int))) :
    Calls Try.prog 20 #[.agg #[.int .i64 1, .int .i64 2, .int .i64 100, .int .i64 100, .int .i64 200, .int .i64 (F : Int), .int .u64 1000, .slice (some ⟨g, 0, none⟩) n n], .slice AL m cL] w fun e w' => ∃ (gO cO : Nat), e = .returned (.slice (some ⟨gO, 0, none⟩) (m + 1) cO) ∧ gO < w'.heap.size ∧ w.heap.size ≤ gO ∧ (∀ i, i < m → w'.cell? ⟨gO, i, none⟩ = some (.string (lo lvl i))) ∧ Kept (fun _ => False) w w' := by
  obtain ⟨i0, hi0, hz0, hz1, hz2⟩ := info_parts infoStr
  have HI0 := Lib.hid hi0
  have HI1 := Lib.hid hz0
  have HI2 := Lib.hid hz1
  have HI3 := Lib.hid hz2
  have HV := Lib.hid hv
  have HAL := Lib.hid hal
  have HMM := Lib.hid hmm
  clear hi0 hz0 hz1 hz2 hv hal hmm
  go_enter Try.func20, Try.ntmps20
  go_wp2_with fail
  have hgw := HV.out.lt
  have hka := (Kept.refl (fun _ => False) w).alloc (.cells #[.int .i64 1, .int .i64 2, .int .i64 100, .int .i64 100, .int .i64 200, .int .i64 (F : Int), .int .u64 1000, .slice (some ⟨g, 0, none⟩) n n] 35)
  have HB := Lib.hid ((Blk.new w [.int .i64 1, .int .i64 2, .int .i64 100, .int .i64 100, .int .i64 200, .int .i64 (F : Int), .int .u64 1000, .slice (some ⟨g, 0, none⟩) n n] 35).alloc (.cells #[.string ⟨#[]⟩] 9))
  have hkb := hka.alloc (.cells #[.string ⟨#[]⟩] 9)
  have HV1 := Lib.hid (hkb.blk HV.out (fun h => h))
  have HK := Lib.hid hkb
  have hsz0 : (w.alloc (.cells #[.int .i64 1, .int .i64 2, .int .i64 100, .int .i64 100, .int .i64 200, .int .i64 (F : Int), .int .u64 1000, .slice (some ⟨g, 0, none⟩) n n] 35)).heap.size = w.heap.size + 1 := nblk_alloc _ _
  have hO0 := own_lit (w.alloc (.cells #[.int .i64 1, .int .i64 2, .int .i64 100, .int .i64 100, .int .i64 200, .int .i64 (F : Int), .int .u64 1000, .slice (some ⟨g, 0, none⟩) n n] 35)) ⟨#[]⟩
  rw [hsz0] at hO0
  have HO0 := Lib.hid hO0
  have HK := Lib.hid hkb
  clear hka hkb hsz0 hO0 HV
  generalize (w.alloc (.cells #[.int .i64 1, .int .i64 2, .int .i64 100, .int .i64 100, .int .i64 200, .int .i64 (F : Int), .int .u64 1000, .slice (some ⟨g, 0, none⟩) n n] 35)).alloc (.cells #[.string ⟨#[]⟩] 9) = W at *
  generalize hbs : w.heap.size + 1 = B at *
  have HRL := Lib.hid (show w.heap.size < B ∧ g < B by omega)
  have hBW : B ≤ W.heap.size := by have := HO0.out.lt B rfl; omega
  go_loopw [5, 6] (fun ov iv wr => ∃ i : Nat, i ≤ m ∧ iv = .int .i64 (i : Int) ∧ slLen ov = i + 1 ∧ wr.ownsRow B 9 1 ov (i + 1) (strv (lws (pg lvl) (i + 1))) ∧ Below B W wr) (fun _ iv _ => m - (intOf iv).toNat)
  case atStart => exact ⟨0, Nat.zero_le _, rfl, rfl, HO0.out, Below.refl _ _⟩
  case round =>
    obtain ⟨i, him, rfl, hsl, hO, hBl⟩ := hrel
    have HO := Lib.hid hO
    have HBl := Lib.hid hBl
    obtain ⟨gO, cO, rfl, -, -, -⟩ := strs_read hO (by omega)
    have hzr : B ≤ wr.heap.size := Nat.le_trans hBW hBl.size
    have HBr := Lib.hid (HB.out.below hBl (by have := HRL.out; omega))
    have HVr := Lib.hid (HV1.out.below hBl (by have := HRL.out; omega))
    clear hO hBl hsl
    by_cases hlt : i < m
    · obtain ⟨gL, oL, rfl, hgL, hcL⟩ := HAL.out (by omega)
      obtain ⟨hlvl, hmi⟩ := HMM.out i hlt
      obtain ⟨nid, hnid⟩ : ∃ nid, st lvl + i = nid := ⟨_, rfl⟩
      have hcl := hcL i hlt
      rw [hnid] at hcl
      have HCL := Lib.hid ((HBl.out.cell (p := ⟨gL, oL + i, none⟩) (show gL < B by omega)).trans ((HK.out.cell (p := ⟨gL, oL + i, none⟩) hgL (fun h => h)).trans hcl))
      have HNI := Lib.hid hnid
      have hgLr : gL < wr.heap.size := by omega
      have hltI : (i : Int) < (m : Int) := by omega
      clear hcL hcl hnid
      go_upto_region 5 with fail
      replace HBr := Lib.hid (HBr.out.of (w' := wr.drew) rfl)
      replace HVr := Lib.hid (HVr.out.of (w' := wr.drew) rfl)
      replace HO := Lib.hid (own_kept HO.out (Kept.refl (fun _ => False) wr).drew (fun _ _ h => h))
      replace HBl := Lib.hid (HBl.out.trans ((Below.refl wr.heap.size wr).drew.mono hzr))
      have HCLc := Lib.hid (show wr.drew.cell? ⟨gL, oL + i, none⟩ = some (.int .u64 (nid : Int)) from HCL.out)
      have HZR := Lib.hid (show B ≤ wr.drew.heap.size from hzr)
      have HGLR := Lib.hid (show gL < wr.drew.heap.size from hgLr)
      refine wp_region_held_drew (S := (fun w' => Blk w' w.heap.size 35 [.int .i64 1, .int .i64 2, .int .i64 100, .int .i64 100, .int .i64 200, .int .i64 (F : Int), .int .u64 1000, .slice (some ⟨g, 0, none⟩) n n] ∧ w'.cell? ⟨gL, oL + i, none⟩ = some (.int .u64 (nid : Int)))) (by kernel_rfl) ?_ (fun hHeld => ?_)
      · exact ⟨HBr.out, HCLc.out⟩
      generalize wr.drew = G at *
      refine wpAnyH_take (i := 0) (oi := ⟨some 14, _, _, _, _, _⟩) (v := ?_) rfl (by kernel_rfl) (by kernel_rfl) (by kernel_rfl) (fun _ _ _ h => h) (Or.inl ⟨by rfl, ?_⟩) hHeld ?_
      rotate_left
      · (intro wq hSw; go_simp; try with_reducible rfl)
      try simp only [Act.put, List.setIfInBounds_toArray, List.set_cons_zero, List.set_cons_succ]
      refine wpAnyH_take (i := 1) (oi := ⟨some 15, _, _, _, _, _⟩) (v := ?_) rfl (by kernel_rfl) (by kernel_rfl) (by kernel_rfl) (fun _ _ _ h => h) (Or.inl ⟨by rfl, ?_⟩) hHeld ?_
      rotate_left
      · (intro wq hSw; have hb9 := hSw.1; have hc9 := hSw.2; have x0 := hb9.cell (i := 0) rfl; have x1 := hb9.cell (i := 1) rfl; have x2 := hb9.cell (i := 2) rfl; have x3 := hb9.cell (i := 3) rfl; have x4 := hb9.cell (i := 4) rfl; have x5 := hb9.cell (i := 5) rfl; have x6 := hb9.cell (i := 6) rfl; have x7 := hb9.cell (i := 7) rfl; clear hb9; go_simp; try with_reducible rfl)
      try simp only [Act.put, List.setIfInBounds_toArray, List.set_cons_zero, List.set_cons_succ]
      refine wpAnyH_take (i := 2) (oi := ⟨some 16, _, _, _, _, _⟩) (v := ?_) rfl (by kernel_rfl) (by kernel_rfl) (by kernel_rfl) (fun _ _ _ h => h) (Or.inl ⟨by rfl, ?_⟩) hHeld ?_
      rotate_left
      · (intro wq hSw; go_simp; try with_reducible rfl)
      try simp only [Act.put, List.setIfInBounds_toArray, List.set_cons_zero, List.set_cons_succ]
      refine wpAnyH_take (i := 3) (oi := ⟨some 17, _, _, _, _, _⟩) (v := ?_) rfl (by kernel_rfl) (by kernel_rfl) (by kernel_rfl) (fun _ _ _ h => h) (Or.inl ⟨by rfl, ?_⟩) hHeld ?_
      rotate_left
      · (intro wq hSw; go_simp; try with_reducible rfl)
      try simp only [Act.put, List.setIfInBounds_toArray, List.set_cons_zero, List.set_cons_succ]
      refine wpAnyH_take (i := 4) (oi := ⟨some 18, _, _, _, _, _⟩) (v := ?_) rfl (by kernel_rfl) (by kernel_rfl) (by kernel_rfl) (fun _ _ _ h => h) (Or.inl ⟨by rfl, ?_⟩) hHeld ?_
      rotate_left
      · (intro wq hSw; go_simp; try with_reducible rfl)
      try simp only [Act.put, List.setIfInBounds_toArray, List.set_cons_zero, List.set_cons_succ]
      refine wpAnyH_take (i := 5) (oi := ⟨some 19, _, _, _, _, _⟩) (v := ?_) rfl (by kernel_rfl) (by kernel_rfl) (by kernel_rfl) (fun _ _ _ h => h) (Or.inl ⟨by rfl, ?_⟩) hHeld ?_
      rotate_left
      · (intro wq hSw; have hb9 := hSw.1; have hc9 := hSw.2; have x0 := hb9.cell (i := 0) rfl; have x1 := hb9.cell (i := 1) rfl; have x2 := hb9.cell (i := 2) rfl; have x3 := hb9.cell (i := 3) rfl; have x4 := hb9.cell (i := 4) rfl; have x5 := hb9.cell (i := 5) rfl; have x6 := hb9.cell (i := 6) rfl; have x7 := hb9.cell (i := 7) rfl; clear hb9; go_simp; try with_reducible rfl)
      try simp only [Act.put, List.setIfInBounds_toArray, List.set_cons_zero, List.set_cons_succ]
      refine wpAnyH_ready (rs := [6]) (by kernel_rfl) (by simp) ?_
      refine AllReadyH.cons (o := ⟨some 20, _, _, _, _, _⟩) rfl (fun KK hK => ?_) AllReadyH.nil
      go_simp
      go_at_call 21
      refine (tpage_any F h4 h6 g n l hl H st mm lo pg T lvl i nid hlvl hmi HNI.out.symm lvl rfl _ HVr.out).mono ?_; rintro e G ⟨A3, c3, rfl, -, -, hK3⟩
      have hpf2 := pfield2 (lvl : Int) A3 (pg lvl i).xs.length c3 (pg lvl i).hi (pg lvl i).la ((pg lvl i).rt : Int)
      have hB3 := hK3.below (Nat.le_refl _) (fun _ h => h.elim)
      replace HO := Lib.hid (own_kept HO.out hK3 (fun _ _ h => h))
      replace HBl := Lib.hid (HBl.out.trans (hB3.mono HZR.out))
      replace HZR := Lib.hid (Nat.le_trans HZR.out hK3.size)
      replace HBr := Lib.hid (hK3.blk HBr.out (fun h => h))
      replace HVr := Lib.hid (hK3.blk HVr.out (fun h => h))
      replace HCLc := Lib.hid ((hK3.cell (p := ⟨gL, oL + i, none⟩) HGLR.out (fun h => h)).trans HCLc.out)
      replace HGLR := Lib.hid (Nat.lt_of_lt_of_le HGLR.out hK3.size)
      clear hB3 hK3
      refine hK.out _ _ ?_ (fun hHeld2 => ?_)
      · exact ⟨HBr.out, HCLc.out⟩
      clear hK KK hHeld
      have hHeld := hHeld2
      clear hHeld2
      try simp only [Act.put, List.setIfInBounds_toArray, List.set_cons_zero, List.set_cons_succ]
      refine wpAnyH_take (i := 7) (oi := ⟨some 21, _, _, _, _, _⟩) (v := .string (pg lvl i).hi) rfl (by kernel_rfl) (by kernel_rfl) (by kernel_rfl) (fun _ _ _ h => h) (Or.inl ⟨by rfl, ?_⟩) hHeld ?_
      · (intro wq hSw; go_simp; try first | (with_reducible rfl) | (simp; omega) | (intros; omega) | simp [*])
      try simp only [Act.put, List.setIfInBounds_toArray, List.set_cons_zero, List.set_cons_succ]
      refine wpAnyH_ready (rs := [8]) (by kernel_rfl) (by simp) ?_
      refine AllReadyH.cons (o := ⟨some 22, _, _, _, _, _⟩) rfl (fun KK hK => ?_) AllReadyH.nil
      go_simp
      have HN2 := Lib.hid (own_lit G (pg lvl i).hi)
      have hBa := (Below.refl G.heap.size G).alloc (Nat.le_refl _) (.cells #[.string (pg lvl i).hi] 9)
      replace HO := Lib.hid (HO.out.alloc (.cells #[.string (pg lvl i).hi] 9))
      replace HBl := Lib.hid (HBl.out.trans (hBa.mono HZR.out))
      replace HBr := Lib.hid (HBr.out.alloc (.cells #[.string (pg lvl i).hi] 9))
      replace HVr := Lib.hid (HVr.out.alloc (.cells #[.string (pg lvl i).hi] 9))
      replace HCLc := Lib.hid ((hBa.cell (p := ⟨gL, oL + i, none⟩) HGLR.out).trans HCLc.out)
      replace HGLR := Lib.hid (Nat.lt_of_lt_of_le HGLR.out hBa.size)
      replace HZR := Lib.hid (Nat.le_trans HZR.out hBa.size)
      clear hBa
      generalize G.alloc (.cells #[.string (pg lvl i).hi] 9) = G2 at *
      generalize G.heap.size = bl at *
      refine hK.out _ _ ?_ (fun hHeld2 => ?_)
      · exact ⟨HBr.out, HCLc.out⟩
      clear hK KK hHeld
      have hHeld := hHeld2
      clear hHeld2
      try simp only [Act.put, List.setIfInBounds_toArray, List.set_cons_zero, List.set_cons_succ]
      refine wpAnyH_ready (rs := [9]) (by kernel_rfl) (by simp) ?_
      refine AllReadyH.cons (o := ⟨some 23, _, _, _, _, _⟩) rfl (fun KK hK => ?_) AllReadyH.nil
      refine step_append_any _ (by rfl) (.tmp 14) (.tmp 22) 22 (by rfl) B 9 i0 _ 1 16 Try.underlying22 HI0.out HI1.out HI2.out HI3.out rfl (by decide) (.slice (some ⟨gO, 0, none⟩) (i + 1) cO) (i + 1) (strv (lws (pg lvl) (i + 1))) (by rfl) HO.out bl (.slice (some ⟨bl, 0, none⟩) 1 1) 1 [.string (pg lvl i).hi] (by rfl) HN2.out (fun u hu => by simp at hu; subst hu; rfl) (by unfold maxLen; omega) (by omega) HZR.out ?_
      intro v4 w4 hown4 hgr4
      have hBg : Below B G2 w4 := (Below.refl B G2).grown hgr4 HZR.out fun k hk => (HO.out.lt k hk).1
      replace HBl := Lib.hid (HBl.out.trans hBg)
      replace HBr := Lib.hid (HBr.out.below hBg (by have := HRL.out; omega))
      replace HCLc := Lib.hid ((hBg.cell (p := ⟨gL, oL + i, none⟩) (show gL < B by omega)).trans HCLc.out)
      have hO5 : w4.ownsRow B 9 1 v4 (i + 1 + 1) (strv (lws (pg lvl) (i + 1 + 1))) := by
        have e : strv (lws (pg lvl) (i + 1 + 1)) = strv (lws (pg lvl) (i + 1)) ++ [.string (pg lvl i).hi] := by rw [lws_step]; unfold strv; rw [List.map_append]; rfl
        rw [e]; exact hown4
      replace HO := Lib.hid hO5
      obtain ⟨gP, cP, rfl, -, -, -⟩ := strs_read hO5 (by omega)
      clear hO5 hown4 hgr4 hBg HN2
      refine hK.out _ _ ?_ (fun hHeld2 => ?_)
      · exact ⟨HBr.out, HCLc.out⟩
      clear hK KK hHeld
      have hHeld := hHeld2
      clear hHeld2
      try simp only [Act.put, List.setIfInBounds_toArray, List.set_cons_zero, List.set_cons_succ]
      refine wpAnyH_take (i := 10) (oi := ⟨some 5, _, _, _, _, _⟩) (v := ?_) rfl (by kernel_rfl) (by kernel_rfl) (by kernel_rfl) (fun _ _ _ h => h) (Or.inl ⟨by rfl, ?_⟩) hHeld ?_
      rotate_left
      · (intro wq hSw; go_simp; try with_reducible rfl)
      try simp only [Act.put, List.setIfInBounds_toArray, List.set_cons_zero, List.set_cons_succ]
      refine wpAnyH_done (by kernel_rfl) ?_ _
      clear hHeld
      go_wp2
      go_roundw
      case rel => exact ⟨i + 1, by omega, by go_num, rfl, HO.out, HBl.out⟩
      case measure => simp [intOf]; omega
    · obtain hie : i = m := by omega
      have HIE := Lib.hid hie
      have hltI : ¬ (i : Int) < (m : Int) := by omega
      clear hie
      go_wp2
      go_ret
      obtain ⟨gZ, cZ, heZ, hgZ, hbZ, hcZ⟩ := strs_read HO.out (by omega)
      cases heZ
      refine ⟨gO, ⟨cO, by rw [HIE.out]; rfl⟩, hgZ, by have := HRL.out; omega, fun q hq => hcZ q _ ?_, HK.out.trans (Below.kept HBl.out (S := fun i => B ≤ i) (fun _ _ h => h)) (fun i hi h => by have := HRL.out; omega)⟩
      obtain ⟨h1, h2⟩ := HMM.out q hq
      exact lws_at T h1 h2 (by have := HIE.out; omega)

end Go.Proofs.Ytboieccjikcdiaa
