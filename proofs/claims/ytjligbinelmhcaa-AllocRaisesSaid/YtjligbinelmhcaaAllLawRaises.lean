/-
  The walk of the statement of layer 5 'a counter is raised to the greatest number'. Condition: the lists within the model's reach.
-/
import Derived.Test.YtjligbinelmhcaaAllRaises
namespace Go.Proofs.Ytjligbinelmhcaa
open Go.RowKit Go.Deep
set_option linter.unusedVariables false

set_option maxRecDepth 100000 in
set_option maxHeartbeats 16000000 in
theorem lawRaises (first : Nat) (A B : Option Addr) (ct cp : Nat) (ts ps : List Nat) (w : World) (hf : first < 18446744073709551616) (hm : ts.length ≤ maxLen) (hts : ∀ x ∈ ts, x < 18446744073709551616) (h0 : 0 < ts.length)
    (hT : 0 < ts.length → ∃ g off, A = some ⟨g, off, none⟩ ∧ g < w.heap.size ∧ ∀ (j p : Nat), ts[j]? = some p → w.cell? ⟨g, off + j, none⟩ = some (.int .u64 (p : Int)))
    (hn : ps.length ≤ 100) (hps : ∀ x ∈ ps, x < 256)
    (hA : 0 < ps.length → ∃ g off, B = some ⟨g, off, none⟩ ∧ g < w.heap.size ∧ ∀ (j p : Nat), ps[j]? = some p → w.cell? ⟨g, off + j, none⟩ = some (.int .u8 (p : Int))) :
    Calls Try.prog 4 #[.int .u64 (first : Int), .slice A ts.length ct, .slice B ps.length cp] w fun e w' => e = .returned (.bool true) ∧ Below w.heap.size w w' := by
  unfold maxLen at hm
  obtain ⟨g1, off1, rfl, hg1, hto⟩ := hT h0
  obtain ⟨n, hmin⟩ : ∃ n : Nat, n = min ts.length 6 := ⟨_, rfl⟩
  have hn1 : 1 ≤ n ∧ n ≤ 6 ∧ n ≤ ts.length := by omega
  obtain ⟨hn1, hn6, hnt⟩ := hn1
  obtain ⟨lim, hlim⟩ : ∃ lim : Nat → Nat, ∀ j, ts.getD j 0 = lim j := ⟨fun j => ts.getD j 0, fun _ => rfl⟩
  have hlt64 : ∀ j, j < n → lim j < 18446744073709551616 := fun j hj => by
    rw [← hlim, List.getD_eq_getElem?_getD, List.getElem?_eq_getElem (by omega)]; exact hts _ (List.getElem_mem _)
  have hto' : ∀ j, j < n → w.cell? ⟨g1, off1 + j, none⟩ = some (.int .u64 ((lim j : Nat) : Int)) := fun j hj => by
    rw [← hlim, List.getD_eq_getElem?_getD, List.getElem?_eq_getElem (by omega)]; exact hto j _ (List.getElem?_eq_getElem (by omega))
  have HLIM := Lib.hid hlim
  have HL64 := Lib.hid hlt64
  have HTO := Lib.hid hto'
  have HA := Lib.hid hA
  have HP := Lib.hid hps
  clear hA hps hT hts hto hlim hlt64 hto'
  have hmk1 := make_bool n (by omega)
  obtain ⟨i0, hi, hz0, hz1, hz2⟩ := info_parts Try.info45
  have HI := Lib.hid hi
  have HZ0 := Lib.hid hz0
  have HZ1 := Lib.hid hz1
  have HZ2 := Lib.hid hz2
  clear hi hz0 hz1 hz2
  go_enter Try.func4, Try.ntmps4
  go_upto_region 1 with fail
  go_cut [7] (fun a wx => a = .int .i64 (n : Int) ∧ wx = w)
  case first =>
    have hmi : (6 < ts.length ∧ n = 6) ∨ (¬ 6 < ts.length ∧ n = ts.length) := by omega
    clear hmin
    rcases hmi with ⟨h6, rfl⟩ | ⟨h6, rfl⟩
    · go_wp2
      go_meet
      exact ⟨rfl, rfl⟩
    · go_wp2
      go_meet
      exact ⟨rfl, rfl⟩
  case rest =>
    obtain ⟨rfl, rfl⟩ := hcut
    rename World => w
    clear hmin
    have hnz : ((n : Int) == 0) = false := by rw [beq_eq_false_iff_ne]; omega
    go_wp2_with fail
    refine (new_1 _).mono ?_; rintro e w3 ⟨rfl, hM3, hK3⟩
    have HM3 := Lib.hid hM3
    have HK3 := Lib.hid hK3
    clear hM3 hK3
    go_wp2_with fail
    refine (awake_any _).mono ?_; rintro e w4 ⟨rfl, hK4⟩
    have HM4 := Lib.hid (HM3.out.kept hK4 id id)
    have HK4 := Lib.hid (HK3.out.trans hK4 (fun _ _ h => h))
    clear hK4 HM3 HK3
    go_wp2_with fail
    refine (poke_any _ _ _ _ 0 (first : Int) 0 ⟨#[]⟩ _ HM4.out).mono ?_; rintro e w5 ⟨rfl, hM5, hK5⟩
    have HM5 := Lib.hid (show Mem w5 (w.heap.size + 1) w.heap.size [((first : Int), ⟨#[]⟩, 0)] 0 from hM5)
    have HK5 := Lib.hid (poked ⟨Nat.le_succ _, Nat.le_refl _⟩ HK4.out hK5)
    clear hM5 hK5 HM4 HK4
    go_wp2_with fail
    go_loopw [10, 11, 12] (fun v x i wr => ∃ (j : Nat) (Q : List Nat), j ≤ n ∧ i = .int .i64 j ∧ x = .int .u64 ((most first ts j : Nat) : Int) ∧ Mk 45 60 lim w5 wr (w.heap.size + 1) w.heap.size j ((first : Int), ⟨#[]⟩, 0) Q v) (fun _ _ i _ => n - (intOf i).toNat)
    case atStart => exact ⟨0, [], by omega, rfl, by rw [most_zero], rfl, World.ownsRow_nil _ _ _ _, (fun _ h => by cases h), List.nodup_nil, (fun _ _ h => by simp at h), (fun _ h => by cases h), HM5.out, Kept.refl _ _⟩
    case round =>
      obtain ⟨j, Q, hj, rfl, rfl, hS⟩ := hrel
      have HS := Lib.hid hS
      clear hS
      by_cases hlt : j < n
      · have cto : wr.cell? ⟨g1, off1 + j, none⟩ = some (.int .u64 ((lim j : Nat) : Int)) := ((HK5.out.trans HS.out.kept (fun _ _ h => h)).cell (p := ⟨g1, off1 + j, none⟩) hg1 id).trans (HTO.out j hlt)
        go_wp2_with fail
        refine (newRaise_any 0 (lim j) _).mono ?_; rintro e w6 ⟨rfl, rfl⟩
        have hz := HS.out.kept.size
        have hM6 := HS.out.mem.alloc (.cells ⟨macv 0 0 ⟨#[]⟩ 0 false (lim j) false false⟩ 60)
        have hQ6 := Blk.new wr (macv 0 0 ⟨#[]⟩ 0 false (lim j) false false) 60
        have hK6 := HS.out.kept.alloc (.cells ⟨macv 0 0 ⟨#[]⟩ 0 false (lim j) false false⟩ 60)
        have hO6 := HS.out.own.alloc (.cells ⟨macv 0 0 ⟨#[]⟩ 0 false (lim j) false false⟩ 60)
        have hAp : ∀ r, Value.ownBlock u10 = some r → r ∉ Q ∧ r < wr.heap.size := fun r h => ⟨HS.out.apart r h, (HS.out.own.lt r h).2⟩
        have hMa : ∀ (t p : Nat), Q[t]? = some p → Blk (wr.alloc (.cells ⟨macv 0 0 ⟨#[]⟩ 0 false (lim j) false false⟩ 60)) p 60 (macb (lim t) (0, 0)) := fun t p h => (HS.out.mach t p h).alloc _
        have hBi := HS.out.big
        have hl := HS.out.len
        have hnd := HS.out.nd
        have hz5 : wr.heap.size < (wr.alloc (.cells ⟨macv 0 0 ⟨#[]⟩ 0 false (lim j) false false⟩ 60)).heap.size := hQ6.lt
        clear HS cto
        generalize hqq : wr.heap.size = q at *
        have Hqq := Lib.hid hqq
        clear hqq
        generalize wr.alloc (.cells ⟨macv 0 0 ⟨#[]⟩ 0 false (lim j) false false⟩ 60) = W5 at *
        have HM6 := Lib.hid hM6
        have HQ6 := Lib.hid hQ6
        have HK6 := Lib.hid hK6
        have HO6 := Lib.hid hO6
        have HAp := Lib.hid hAp
        have HMa := Lib.hid hMa
        have HBi := Lib.hid hBi
        have HND := Lib.hid hnd
        clear hM6 hQ6 hK6 hO6 hAp hMa hnd hBi
        go_wp2_with (at_builtin; go_must (refine wpList_append_lies _ rfl (.tmp 62) (.tmp 68) 44 rfl w5.heap.size 45 i0 _ 1 8 Try.underlying44 HI.out HZ0.out HZ1.out HZ2.out rfl (by decide) _ j (ptrs Q) rfl (HO6.out.alloc _) ⟨W5.heap.size, 0, none⟩ 1 1 [.pointer (some ⟨q, 0, none⟩)] rfl rfl (World.news_of_block (cs := #[.pointer (some ⟨q, 0, none⟩)]) (t := 45) (fr := (0, 0)) (heap_alloc_new W5 _)) (by simp [Value.oneCell']) (by omega) ?ap1 ?ap2 ?ap3 _ rfl ?_))
        try case ap1 => unfold maxLen; omega
        try case ap2 => omega
        try case ap3 => rw [nblk_alloc]; have := HK6.out.size; omega
        intro g4 cap4 w7 hown7 hgrow7 hor7 _
        have hMK := Mk.push (HM5.out.obj.lt) (HM5.out.row.lt) hl HND.out HAp.out HO6.out HMa.out HBi.out HQ6.out hz HM6.out HK6.out hown7 hgrow7 hor7
        have HMK := Lib.hid hMK
        clear hMK hown7 hgrow7 hor7 HND HAp HO6 HMa HQ6 HM6 HK6 HBi
        have cto : w7.cell? ⟨g1, off1 + j, none⟩ = some (.int .u64 ((lim j : Nat) : Int)) := ((HK5.out.trans HMK.out.kept (fun _ _ h => h)).cell (p := ⟨g1, off1 + j, none⟩) hg1 id).trans (HTO.out j hlt)
        have hs := most_succ first ts j (by omega)
        rw [HLIM.out] at hs
        obtain ⟨X, hX⟩ : ∃ X, most first ts j = X := ⟨_, rfl⟩
        rw [hX] at hs ⊢
        have HSX := Lib.hid hs
        clear hs hX
        by_cases hmx : X < lim j
        · go_wp2
          go_roundw
          case rel => exact ⟨j + 1, _, by omega, by go_num, by rw [HSX.out, Nat.max_eq_right (by omega)], HMK.out⟩
          case measure => simp [intOf]; omega
        · go_wp2
          go_roundw
          case rel => exact ⟨j + 1, _, by omega, by go_num, by rw [HSX.out, Nat.max_eq_left (by omega)], HMK.out⟩
          case measure => simp [intOf]; omega
      · obtain rfl : j = n := by omega
        obtain ⟨ga, cap, rfl, hga, hgl, hcs⟩ := own_slice HS.out.own (by omega)
        have hC := Mk.ctx HK5.out ⟨by omega, HM5.out.obj.lt⟩ ⟨by omega, HM5.out.row.lt⟩ HS.out hga hgl hcs
        have hE := Mk.run (P := ps.length) (by omega) (by omega) HS.out
        obtain ⟨want, hwant⟩ : ∃ x, most first ts j = x := ⟨_, rfl⟩
        have hw1 : first ≤ want := hwant ▸ most_first first ts j (by omega)
        have hw2 : ∀ i, i < j → lim i ≤ want := fun i hi => by rw [← hwant, ← HLIM.out]; exact most_le first ts i j (by omega) hi
        have hw3 : want = first ∨ ∃ i, i < j ∧ want = lim i := by
          have := most_is first ts j (by omega)
          rw [hwant] at this
          rcases this with h | ⟨i, h1, h2⟩
          · exact .inl h
          · exact .inr ⟨i, h1, by rw [h2, HLIM.out]⟩
        have hw64 : want < 18446744073709551616 := by
          rcases hw3 with h | ⟨i, h1, h2⟩
          · omega
          · rw [h2]; exact HL64.out i h1
        rw [hwant]
        have HW3 := Lib.hid hw3
        have HT := Lib.hid (Rs.start j hw1 hw2)
        clear hwant hw3 hw2 hw1
        go_wp2_with fail
        have hgr : Hid (∃ x, x = wr.heap.size) := Lib.hid ⟨_, rfl⟩
        generalize wr.alloc (.cells (Array.replicate j (.bool false)) 4) = W0 at *
        generalize wr.heap.size = gd at *
        have HC := Lib.hid hC
        have HE := Lib.hid hE
        clear hC hE hcs hga hgl HS HK5 HM5 hmk1 HI HZ0 HZ1 HZ2 hgr HLIM i0 hnz hlt
        go_loopw [14] (fun i wf => ∃ (k : Nat) (L : List Mac) (v a : Nat), k ≤ ps.length + 30 * j ∧ i = .int .i64 k ∧ Run W0 wf (w.heap.size + 1) w.heap.size gd j ps.length k Q (fun _ => 60) lim L v a (dones L) ∧ Rs first want lim j L v)
          (fun i _ => ps.length + 30 * j - (intOf i).toNat)
        case atStart => exact ⟨0, _, _, 0, by omega, rfl, HE.out, HT.out⟩
        case round =>
          obtain ⟨k, L, v, a, hk, rfl, hE, hT⟩ := hrel
          clear HE HT
          have HE := Lib.hid hE
          have HT := Lib.hid hT
          clear hE hT
          by_cases hlt : k < ps.length + 30 * j
          · obtain ⟨q, hq⟩ : ∃ q : Nat, q = k % j := ⟨_, rfl⟩
            have hqn : q < j := by rw [hq]; exact Nat.mod_lt _ (by omega)
            have hq1 : (k : Int) % (j : Int) = (q : Int) := by rw [hq]; rfl
            have hq2 : (k : Int).tmod (j : Int) = (q : Int) := by rw [hq]; rfl
            have Hq := Lib.hid hq
            clear hq
            go_upto_if 93 with fail
            go_cut [15] (fun t wx => ∃ tt : Nat, t = .int .i64 tt ∧ tt < j ∧ (k < ps.length ∨ tt = k % j) ∧ wx = wr)
            case first =>
              by_cases hkp : k < ps.length
              · obtain ⟨g0, off, rfl, hg0, hcell⟩ := HA.out (by omega)
                obtain ⟨p, hp⟩ : ∃ p, p = ps[k] := ⟨_, rfl⟩
                have hp256 : p < 256 := by rw [hp]; exact HP.out _ (List.getElem_mem _)
                have hpc : wr.cell? ⟨g0, off + k, none⟩ = some (.int .u8 (p : Int)) := by
                  rw [(HC.out.base HE.out.kept).cell (p := ⟨g0, off + k, none⟩) hg0 id]; exact hcell k p (by rw [List.getElem?_eq_getElem hkp, hp])
                obtain ⟨s, hs⟩ : ∃ s : Nat, s = p % j := ⟨_, rfl⟩
                have hsn : s < j := by rw [hs]; exact Nat.mod_lt _ (by omega)
                have hs1 : (p : Int) % (j : Int) = (s : Int) := by rw [hs]; rfl
                have hs2 : (p : Int).tmod (j : Int) = (s : Int) := by rw [hs]; rfl
                clear hs hp hcell
                go_wp2
                go_meet
                exact ⟨s, rfl, hsn, .inl hkp, rfl⟩
              · have hkd : decide (k < ps.length) = false := by simpa using hkp
                go_wp2
                go_meet
                exact ⟨q, rfl, hqn, .inr Hq.out, rfl⟩
            case rest =>
              obtain ⟨t, rfl, htj, hor, rfl⟩ := hcut
              have HOR := Lib.hid hor
              clear Hq hq1 hq2 hqn hor
              go_wp2_with fail
              refine (accesses_any _ _ _ _ _ HE.out.mem).mono ?_; rintro e w6 ⟨rfl, rfl⟩
              go_wp2_with fail
              refine (peek_any _ _ _ _ _ (v : Int) 0 ⟨#[]⟩ _ HE.out.mem rfl).mono ?_; rintro e w6 ⟨rfl, hK6⟩
              have hE6 := HE.out.still hK6
              clear HE hK6
              have HE := Lib.hid hE6
              clear hE6
              have hfd := field0 (v : Int) 0 ⟨#[]⟩
              obtain ⟨qq, hqq⟩ := HC.out.machine htj
              obtain ⟨y, hy⟩ := HE.out.state htj
              obtain ⟨s, N⟩ := y
              have hst : s ≤ 3 := HE.out.st _ (List.mem_of_getElem? hy)
              have hlk : s = 1 → N < lim t := HT.out.look t _ hy
              have hvw : v ≤ want := HT.out.hi
              have hl64 := HL64.out t htj
              have hak := HE.out.acc
              have hB := HE.out.mac t _ qq hy hqq
              have cpt : w6.cell? ⟨ga, t, none⟩ = some (.pointer (some ⟨qq, 0, none⟩)) := HC.out.ptr HE.out.kept hqq
              have hqb := (HC.out.own hqq).2.1
              have hqg := (HC.out.own hqq).2.2.1
              have HY := Lib.hid hy
              have HQQ := Lib.hid hqq
              clear hy hqq
              go_wp2_with fail
              rcases (by omega : s = 0 ∨ s = 1 ∨ s = 2 ∨ s = 3) with rfl | rfl | rfl | rfl
              · clear hlk
                by_cases hl : lim t ≤ v
                · skip
                  refine (raise_pick (y := (0, N)) (y' := (3, v)) (v' := v) (c' := a + 1) (r := true) (by omega) hB HE.out.mem hqb hqg (by omega) (by simp [moved, hl]) rfl rfl rfl).mono ?_; rintro e w7 ⟨rfl, hM7, hB7, hK7⟩
                  have HT7 := Lib.hid (HT.out.step (y' := (3, v)) (v' := v) HY.out (by omega) (by simp [moved, hl]) rfl)
                  have HE7 := Lib.hid (HE.out.step (goal := lim t) (y' := (3, v)) (v' := v) HC.out HY.out HQQ.out HOR.out (by simp [moved, hl]) rfl hK7 hM7 (by omega) hB7)
                  clear hM7 hB7 hK7 hB HT HE cpt
                  go_wp2_with fail
                  refine (peek_any _ _ _ _ _ ((v : Nat) : Int) 0 ⟨#[]⟩ _ HE7.out.mem rfl).mono ?_; rintro e w8 ⟨rfl, hK8⟩
                  have HE8 := Lib.hid (HE7.out.still hK8)
                  have hfd8 := field0 ((v : Nat) : Int) 0 ⟨#[]⟩
                  have xs : w8.cell? ⟨gd, t, none⟩ = some (.bool false) := HE8.out.bd.cell (dones_at HY.out)
                  have zs := HE8.out.bd.frozen t
                  have cpt : w8.cell? ⟨ga, t, none⟩ = some (.pointer (some ⟨qq, 0, none⟩)) := HC.out.ptr HE8.out.kept HQQ.out
                  have cto : w8.cell? ⟨g1, off1 + t, none⟩ = some (.int .u64 ((lim t : Nat) : Int)) := ((HC.out.base HE8.out.kept).cell (p := ⟨g1, off1 + t, none⟩) hg1 id).trans (HTO.out t (by omega))
                  clear hK8 HE7
                  go_wp2_with fail
                  refine (accesses_any _ _ _ _ _ HE8.out.mem).mono ?_; rintro e w9 ⟨rfl, rfl⟩
                  go_wp2_with fail
                  refine (raised_any qq _ 0 v ⟨#[]⟩ 0 _ false _ _ _ (HE8.out.mac t _ qq (set_self HY.out) HQQ.out)).mono ?_; rintro e w11 ⟨rfl, rfl⟩
                  go_wp2_with fail
                  have HNX := Lib.hid (show Run W0 (w8.setCell ⟨gd, t, none⟩ (.bool true)) (w.heap.size + 1) w.heap.size gd j ps.length (k + 1) Q (fun _ => 60) lim (L.set t (3, v)) (v) (a + 1) (dones (L.set t (3, v))) by rw [dones_set]; exact HE8.out.store HC.out t (.bool true))
                  clear HE8
                  go_roundw
                  case rel => exact ⟨k + 1, _, _, _, by omega, by go_num, HNX.out, HT7.out⟩
                  case measure => simp [intOf]; omega
                · have hl' : v < lim t := by omega
                  refine (raise_pick (y := (0, N)) (y' := (1, v)) (v' := v) (c' := a + 1) (r := false) (by omega) hB HE.out.mem hqb hqg (by omega) (by simp [moved, hl]) rfl rfl rfl).mono ?_; rintro e w7 ⟨rfl, hM7, hB7, hK7⟩
                  have HT7 := Lib.hid (HT.out.step (y' := (1, v)) (v' := v) HY.out (by omega) (by simp [moved, hl]) rfl)
                  have HE7 := Lib.hid (HE.out.step (goal := lim t) (y' := (1, v)) (v' := v) HC.out HY.out HQQ.out HOR.out (by simp [moved, hl]) rfl hK7 hM7 (by omega) hB7)
                  clear hM7 hB7 hK7 hB HT HE cpt
                  go_wp2_with fail
                  refine (peek_any _ _ _ _ _ ((v : Nat) : Int) 0 ⟨#[]⟩ _ HE7.out.mem rfl).mono ?_; rintro e w8 ⟨rfl, hK8⟩
                  have HE8 := Lib.hid (HE7.out.still hK8)
                  have hfd8 := field0 ((v : Nat) : Int) 0 ⟨#[]⟩
                  have xs : w8.cell? ⟨gd, t, none⟩ = some (.bool false) := HE8.out.bd.cell (dones_at HY.out)
                  have zs := HE8.out.bd.frozen t
                  have cpt : w8.cell? ⟨ga, t, none⟩ = some (.pointer (some ⟨qq, 0, none⟩)) := HC.out.ptr HE8.out.kept HQQ.out
                  have cto : w8.cell? ⟨g1, off1 + t, none⟩ = some (.int .u64 ((lim t : Nat) : Int)) := ((HC.out.base HE8.out.kept).cell (p := ⟨g1, off1 + t, none⟩) hg1 id).trans (HTO.out t (by omega))
                  clear hK8 HE7
                  go_wp2_with fail
                  refine (accesses_any _ _ _ _ _ HE8.out.mem).mono ?_; rintro e w9 ⟨rfl, rfl⟩
                  go_wp2_with fail
                  have HNX := Lib.hid (show Run W0 (w8.setCell ⟨gd, t, none⟩ (.bool false)) (w.heap.size + 1) w.heap.size gd j ps.length (k + 1) Q (fun _ => 60) lim (L.set t (1, v)) (v) (a + 1) (dones (L.set t (1, v))) by rw [dones_set]; exact HE8.out.store HC.out t (.bool false))
                  clear HE8
                  go_roundw
                  case rel => exact ⟨k + 1, _, _, _, by omega, by go_num, HNX.out, HT7.out⟩
                  case measure => simp [intOf]; omega
              · have hNl : N < lim t := hlk rfl
                clear hlk
                by_cases hl : N = v
                · subst hl
                  have hne : (((lim t : Nat) : Int) == (N : Int)) = false := by rw [beq_eq_false_iff_ne]; omega
                  have hne2 : (((lim t : Nat) : Int) != (N : Int)) = true := by rw [bne, hne]; rfl
                  have hne3 : (!(((lim t : Nat) : Int) != (N : Int))) = false := by rw [hne2]; rfl
                  refine (raise_pick (y := (1, N)) (y' := (2, N)) (v' := lim t) (c' := a + 1) (r := true) (by omega) hB HE.out.mem hqb hqg (by omega) (by simp [moved]) (by simp [counts]) rfl rfl).mono ?_; rintro e w7 ⟨rfl, hM7, hB7, hK7⟩
                  have HT7 := Lib.hid (HT.out.step (y' := (2, N)) (v' := lim t) HY.out (by omega) (by simp [moved]) (by simp [counts]))
                  have HE7 := Lib.hid (HE.out.step (goal := lim t) (y' := (2, N)) (v' := lim t) HC.out HY.out HQQ.out HOR.out (by simp [moved]) (by simp [counts]) hK7 hM7 (by omega) hB7)
                  clear hM7 hB7 hK7 hB HT HE cpt
                  go_wp2_with fail
                  refine (peek_any _ _ _ _ _ ((lim t : Nat) : Int) 0 ⟨#[]⟩ _ HE7.out.mem rfl).mono ?_; rintro e w8 ⟨rfl, hK8⟩
                  have HE8 := Lib.hid (HE7.out.still hK8)
                  have hfd8 := field0 ((lim t : Nat) : Int) 0 ⟨#[]⟩
                  have xs : w8.cell? ⟨gd, t, none⟩ = some (.bool false) := HE8.out.bd.cell (dones_at HY.out)
                  have zs := HE8.out.bd.frozen t
                  have cpt : w8.cell? ⟨ga, t, none⟩ = some (.pointer (some ⟨qq, 0, none⟩)) := HC.out.ptr HE8.out.kept HQQ.out
                  have cto : w8.cell? ⟨g1, off1 + t, none⟩ = some (.int .u64 ((lim t : Nat) : Int)) := ((HC.out.base HE8.out.kept).cell (p := ⟨g1, off1 + t, none⟩) hg1 id).trans (HTO.out t (by omega))
                  clear hK8 HE7
                  go_wp2_with fail
                  refine (accesses_any _ _ _ _ _ HE8.out.mem).mono ?_; rintro e w9 ⟨rfl, rfl⟩
                  go_wp2_with fail
                  refine (raised_any qq _ 0 N ⟨#[]⟩ 0 _ true _ _ _ (HE8.out.mac t _ qq (set_self HY.out) HQQ.out)).mono ?_; rintro e w11 ⟨rfl, rfl⟩
                  go_wp2_with fail
                  have HNX := Lib.hid (show Run W0 (w8.setCell ⟨gd, t, none⟩ (.bool true)) (w.heap.size + 1) w.heap.size gd j ps.length (k + 1) Q (fun _ => 60) lim (L.set t (2, N)) (lim t) (a + 1) (dones (L.set t (2, N))) by rw [dones_set]; exact HE8.out.store HC.out t (.bool true))
                  clear HE8
                  go_roundw
                  case rel => exact ⟨k + 1, _, _, _, by omega, by go_num, HNX.out, HT7.out⟩
                  case measure => simp [intOf]; omega
                · skip
                  refine (raise_pick (y := (1, N)) (y' := (0, N)) (v' := v) (c' := a + 1) (r := false) (by omega) hB HE.out.mem hqb hqg (by omega) (by simp [moved, hl]) (by simp [counts, hl]) rfl rfl).mono ?_; rintro e w7 ⟨rfl, hM7, hB7, hK7⟩
                  have HT7 := Lib.hid (HT.out.step (y' := (0, N)) (v' := v) HY.out (by omega) (by simp [moved, hl]) (by simp [counts, hl]))
                  have HE7 := Lib.hid (HE.out.step (goal := lim t) (y' := (0, N)) (v' := v) HC.out HY.out HQQ.out HOR.out (by simp [moved, hl]) (by simp [counts, hl]) hK7 hM7 (by omega) hB7)
                  clear hM7 hB7 hK7 hB HT HE cpt
                  go_wp2_with fail
                  refine (peek_any _ _ _ _ _ ((v : Nat) : Int) 0 ⟨#[]⟩ _ HE7.out.mem rfl).mono ?_; rintro e w8 ⟨rfl, hK8⟩
                  have HE8 := Lib.hid (HE7.out.still hK8)
                  have hfd8 := field0 ((v : Nat) : Int) 0 ⟨#[]⟩
                  have xs : w8.cell? ⟨gd, t, none⟩ = some (.bool false) := HE8.out.bd.cell (dones_at HY.out)
                  have zs := HE8.out.bd.frozen t
                  have cpt : w8.cell? ⟨ga, t, none⟩ = some (.pointer (some ⟨qq, 0, none⟩)) := HC.out.ptr HE8.out.kept HQQ.out
                  have cto : w8.cell? ⟨g1, off1 + t, none⟩ = some (.int .u64 ((lim t : Nat) : Int)) := ((HC.out.base HE8.out.kept).cell (p := ⟨g1, off1 + t, none⟩) hg1 id).trans (HTO.out t (by omega))
                  clear hK8 HE7
                  go_wp2_with fail
                  refine (accesses_any _ _ _ _ _ HE8.out.mem).mono ?_; rintro e w9 ⟨rfl, rfl⟩
                  go_wp2_with fail
                  have HNX := Lib.hid (show Run W0 (w8.setCell ⟨gd, t, none⟩ (.bool false)) (w.heap.size + 1) w.heap.size gd j ps.length (k + 1) Q (fun _ => 60) lim (L.set t (0, N)) (v) (a + 1) (dones (L.set t (0, N))) by rw [dones_set]; exact HE8.out.store HC.out t (.bool false))
                  clear HE8
                  go_roundw
                  case rel => exact ⟨k + 1, _, _, _, by omega, by go_num, HNX.out, HT7.out⟩
                  case measure => simp [intOf]; omega
              · clear hlk
                refine (raise_pick (y := (2, N)) (y' := (2, N)) (v' := v) (c' := a) (r := true) (by omega) hB HE.out.mem hqb hqg (by omega) rfl rfl rfl rfl).mono ?_; rintro e w7 ⟨rfl, hM7, hB7, hK7⟩
                have HT7 := Lib.hid (HT.out.step (y' := (2, N)) (v' := v) HY.out (by omega) rfl rfl)
                have HE7 := Lib.hid (HE.out.step (goal := lim t) (y' := (2, N)) (v' := v) HC.out HY.out HQQ.out HOR.out rfl rfl hK7 hM7 (by omega) hB7)
                clear hM7 hB7 hK7 hB HT HE cpt
                go_wp2_with fail
                refine (peek_any _ _ _ _ _ ((v : Nat) : Int) 0 ⟨#[]⟩ _ HE7.out.mem rfl).mono ?_; rintro e w8 ⟨rfl, hK8⟩
                have HE8 := Lib.hid (HE7.out.still hK8)
                have hfd8 := field0 ((v : Nat) : Int) 0 ⟨#[]⟩
                have xs : w8.cell? ⟨gd, t, none⟩ = some (.bool true) := HE8.out.bd.cell (dones_at HY.out)
                have zs := HE8.out.bd.frozen t
                have cpt : w8.cell? ⟨ga, t, none⟩ = some (.pointer (some ⟨qq, 0, none⟩)) := HC.out.ptr HE8.out.kept HQQ.out
                have cto : w8.cell? ⟨g1, off1 + t, none⟩ = some (.int .u64 ((lim t : Nat) : Int)) := ((HC.out.base HE8.out.kept).cell (p := ⟨g1, off1 + t, none⟩) hg1 id).trans (HTO.out t (by omega))
                clear hK8 HE7
                go_wp2_with fail
                refine (accesses_any _ _ _ _ _ HE8.out.mem).mono ?_; rintro e w9 ⟨rfl, rfl⟩
                go_wp2_with fail
                refine (accesses_any _ _ _ _ _ HE8.out.mem).mono ?_; rintro e w10 ⟨rfl, rfl⟩
                go_wp2_with fail
                have HNX := Lib.hid (show Run W0 (w8.setCell ⟨gd, t, none⟩ (.bool true)) (w.heap.size + 1) w.heap.size gd j ps.length (k + 1) Q (fun _ => 60) lim (L.set t (2, N)) (v) (a) (dones (L.set t (2, N))) by rw [dones_set]; exact HE8.out.store HC.out t (.bool true))
                clear HE8
                go_roundw
                case rel => exact ⟨k + 1, _, _, _, by omega, by go_num, HNX.out, HT7.out⟩
                case measure => simp [intOf]; omega
              · clear hlk
                refine (raise_pick (y := (3, N)) (y' := (3, N)) (v' := v) (c' := a) (r := true) (by omega) hB HE.out.mem hqb hqg (by omega) rfl rfl rfl rfl).mono ?_; rintro e w7 ⟨rfl, hM7, hB7, hK7⟩
                have HT7 := Lib.hid (HT.out.step (y' := (3, N)) (v' := v) HY.out (by omega) rfl rfl)
                have HE7 := Lib.hid (HE.out.step (goal := lim t) (y' := (3, N)) (v' := v) HC.out HY.out HQQ.out HOR.out rfl rfl hK7 hM7 (by omega) hB7)
                clear hM7 hB7 hK7 hB HT HE cpt
                go_wp2_with fail
                refine (peek_any _ _ _ _ _ ((v : Nat) : Int) 0 ⟨#[]⟩ _ HE7.out.mem rfl).mono ?_; rintro e w8 ⟨rfl, hK8⟩
                have HE8 := Lib.hid (HE7.out.still hK8)
                have hfd8 := field0 ((v : Nat) : Int) 0 ⟨#[]⟩
                have xs : w8.cell? ⟨gd, t, none⟩ = some (.bool true) := HE8.out.bd.cell (dones_at HY.out)
                have zs := HE8.out.bd.frozen t
                have cpt : w8.cell? ⟨ga, t, none⟩ = some (.pointer (some ⟨qq, 0, none⟩)) := HC.out.ptr HE8.out.kept HQQ.out
                have cto : w8.cell? ⟨g1, off1 + t, none⟩ = some (.int .u64 ((lim t : Nat) : Int)) := ((HC.out.base HE8.out.kept).cell (p := ⟨g1, off1 + t, none⟩) hg1 id).trans (HTO.out t (by omega))
                clear hK8 HE7
                go_wp2_with fail
                refine (accesses_any _ _ _ _ _ HE8.out.mem).mono ?_; rintro e w9 ⟨rfl, rfl⟩
                go_wp2_with fail
                refine (accesses_any _ _ _ _ _ HE8.out.mem).mono ?_; rintro e w10 ⟨rfl, rfl⟩
                go_wp2_with fail
                have HNX := Lib.hid (show Run W0 (w8.setCell ⟨gd, t, none⟩ (.bool true)) (w.heap.size + 1) w.heap.size gd j ps.length (k + 1) Q (fun _ => 60) lim (L.set t (3, N)) (v) (a) (dones (L.set t (3, N))) by rw [dones_set]; exact HE8.out.store HC.out t (.bool true))
                clear HE8
                go_roundw
                case rel => exact ⟨k + 1, _, _, _, by omega, by go_num, HNX.out, HT7.out⟩
                case measure => simp [intOf]; omega
          · obtain rfl : k = ps.length + 30 * j := by omega
            have HD : Hid (∀ (t : Nat) (y : Mac), L[t]? = some y → y.1 = 2 ∨ y.1 = 3) := Lib.hid (fun t y hy => HE.out.done (m := 30) (by omega) (Nat.le_refl _) hy)
            have hj6 := HE.out.n6
            go_wp2_with fail
            go_loopw [20] (fun i wl => ∃ m : Nat, m ≤ j ∧ i = .int .i64 m ∧ wl = wr) (fun i _ => j - (intOf i).toNat)
            case atStart => exact ⟨0, by omega, rfl, rfl⟩
            case round =>
              obtain ⟨m, hm, rfl, rfl⟩ := hrel
              by_cases hmj : m < j
              · obtain ⟨y, hy⟩ := HE.out.state hmj
                have hst := HD.out m _ hy
                have csm : _ = some (Value.bool (decide (2 ≤ y.1))) := HE.out.bd.cell (dones_at hy)
                rw [show decide (2 ≤ y.1) = true by simp; omega] at csm
                clear hst hy
                go_wp2
                go_roundw
                case rel => exact ⟨m + 1, by omega, by first | go_num | trivial | simp, by first | trivial | rfl⟩
                case measure => simp [intOf]; omega
              · obtain rfl : m = j := by omega
                have hvw : v = want := by
                  have h1 := HT.out.hi
                  have h2 := HT.out.lo
                  rcases HW3.out with h | ⟨i, h3, h4⟩
                  · omega
                  · obtain ⟨y, hy⟩ := HE.out.state h3
                    have := HT.out.fin i y hy (by have := HD.out i y hy; omega)
                    omega
                subst hvw
                have hfd := field0 (v : Int) 0 ⟨#[]⟩
                go_wp2_with fail
                refine (peek_any _ _ _ _ _ (v : Int) 0 ⟨#[]⟩ _ HE.out.mem rfl).mono ?_; rintro e w21 ⟨rfl, hK21⟩
                have H21 := Lib.hid (HE.out.still hK21)
                clear hK21 HE
                go_wp2
                go_ret
                exact ⟨rfl, (HC.out.base H21.out.kept).below (Nat.le_refl _) (fun _ h => h.elim)⟩

theorem lawRaises_all (w : World) (first : Nat) (hf : first < 18446744073709551616) (A : Option Addr) (ct : Nat) (ts : List Nat) (hm : ts.length ≤ maxLen) (hts : ∀ x ∈ ts, x < 18446744073709551616)
    (hT : 0 < ts.length → ∃ g off, A = some ⟨g, off, none⟩ ∧ g < w.heap.size ∧ ∀ (j p : Nat), ts[j]? = some p → w.cell? ⟨g, off + j, none⟩ = some (.int .u64 (p : Int)))
    (B : Option Addr) (cp : Nat) (ps : List Nat) (hm2 : ps.length ≤ maxLen) (hps : ∀ x ∈ ps, x < 256)
    (hA : 0 < ps.length → ∃ g off, B = some ⟨g, off, none⟩ ∧ g < w.heap.size ∧ ∀ (j p : Nat), ps[j]? = some p → w.cell? ⟨g, off + j, none⟩ = some (.int .u8 (p : Int))) :
    Calls Try.prog 4 #[.int .u64 (first : Int), .slice A ts.length ct, .slice B ps.length cp] w fun e w' => e = .returned (.bool true) ∧ Below w.heap.size w w' := by
  by_cases h : ts.length = 0 ∨ 100 < ps.length
  · exact lawRaises_out first A B _ ct _ cp w hm hm2 h
  · exact lawRaises first A B ct cp ts ps w hf hm hts (by omega) hT (by omega) hps hA
end Go.Proofs.Ytjligbinelmhcaa
