/-
  The walk of the statement of layer 5 'a counter that is raised and taken from at the same time'. Condition: the lists within the model's reach.
-/
import Derived.Test.YtjligbinelmhcaaAllBoth
namespace Go.Proofs.Ytjligbinelmhcaa
open Go.RowKit Go.Deep
set_option linter.unusedVariables false

theorem Try.info29 : (Try.prog.info? 29).map (fun i => (i.zero, i.size, i.bytes)) = some (some (.int .u64 0), 1, 8) := by kernel_rfl
theorem keep1 {wr wq w9 : World} {gd i : Nat} {u : Value} (hk : Kept (fun _ => False) wq w9) (h1 : gd < wr.heap.size) (h : Kept (fun _ => False) wr wq ∧ wq.cell? ⟨gd, i, none⟩ = some u) : Kept (fun _ => False) wr w9 ∧ w9.cell? ⟨gd, i, none⟩ = some u :=
  ⟨h.1.trans hk (fun _ _ h => h), (hk.cell (p := ⟨gd, i, none⟩) (Nat.lt_of_lt_of_le h1 h.1.size) id).trans h.2⟩
theorem keep2 {wr wq w9 : World} {gd i gt j : Nat} {u x : Value} (hk : Kept (fun _ => False) wq w9) (h1 : gd < wr.heap.size) (h2 : gt < wr.heap.size) (h : Kept (fun _ => False) wr wq ∧ wq.cell? ⟨gd, i, none⟩ = some u ∧ wq.cell? ⟨gt, j, none⟩ = some x) :
    Kept (fun _ => False) wr w9 ∧ w9.cell? ⟨gd, i, none⟩ = some u ∧ w9.cell? ⟨gt, j, none⟩ = some x :=
  ⟨h.1.trans hk (fun _ _ h => h), (hk.cell (p := ⟨gd, i, none⟩) (Nat.lt_of_lt_of_le h1 h.1.size) id).trans h.2.1, (hk.cell (p := ⟨gt, j, none⟩) (Nat.lt_of_lt_of_le h2 h.1.size) id).trans h.2.2⟩

set_option maxRecDepth 100000 in
set_option maxHeartbeats 16000000 in
theorem lawBoth (A B : Option Addr) (ct cp : Nat) (takers : Int) (ts ps : List Nat) (w : World) (hm : ts.length ≤ maxLen) (hts : ∀ x ∈ ts, x < 256)
    (hT : 0 < ts.length → ∃ g off, A = some ⟨g, off, none⟩ ∧ g < w.heap.size ∧ ∀ (j p : Nat), ts[j]? = some p → w.cell? ⟨g, off + j, none⟩ = some (.int .u8 (p : Int)))
    (hn : ps.length ≤ 100) (hps : ∀ x ∈ ps, x < 256)
    (hA : 0 < ps.length → ∃ g off, B = some ⟨g, off, none⟩ ∧ g < w.heap.size ∧ ∀ (j p : Nat), ps[j]? = some p → w.cell? ⟨g, off + j, none⟩ = some (.int .u8 (p : Int))) :
    Calls Try.prog 5 #[.slice A ts.length ct, .int .i64 takers, .slice B ps.length cp] w fun e w' => e = .returned (.bool true) ∧ Below w.heap.size w w' := by
  unfold maxLen at hm
  obtain ⟨r, hr, hr2⟩ := mod_ex takers 3 (by omega)
  have HR := Lib.hid hr
  obtain ⟨n, hnn⟩ : ∃ n : Nat, (1 : Int) + r = n := ⟨1 + r, by omega⟩
  have hr3 : r < 3 := by omega
  have hn1 : 1 ≤ n ∧ n ≤ 3 := by omega
  obtain ⟨hn1, hn3⟩ := hn1
  obtain ⟨m, hmin⟩ : ∃ m : Nat, m = min ts.length 3 := ⟨_, rfl⟩
  have hmi : (3 < ts.length ∧ m = 3) ∨ (¬ 3 < ts.length ∧ m = ts.length) := by omega
  have hm1 : m ≤ 3 ∧ m ≤ ts.length := by omega
  obtain ⟨hm3, hmt⟩ := hm1
  obtain ⟨tv, htv⟩ : ∃ tv : Nat → Nat, ∀ j, ts.getD j 0 = tv j := ⟨fun j => ts.getD j 0, fun _ => rfl⟩
  have htl : ∀ j, tv j ≤ 255 := fun j => by
    rw [← htv, List.getD_eq_getElem?_getD]
    by_cases hj : j < ts.length
    · rw [List.getElem?_eq_getElem hj]; have := hts _ (List.getElem_mem hj); simp only [Option.getD_some]; omega
    · rw [List.getElem?_eq_none (by omega)]; simp
  have hto : 0 < m → ∃ g off, A = some ⟨g, off, none⟩ ∧ g < w.heap.size ∧ ∀ j, j < m → w.cell? ⟨g, off + j, none⟩ = some (.int .u8 ((tv j : Nat) : Int)) := fun h => by
    obtain ⟨g, off, h1, h2, h3⟩ := hT (by omega)
    exact ⟨g, off, h1, h2, fun j hj => by rw [← htv, List.getD_eq_getElem?_getD, List.getElem?_eq_getElem (by omega)]; exact h3 j _ (List.getElem?_eq_getElem (by omega))⟩
  obtain ⟨lim, hlim⟩ : ∃ lim : Nat → Nat, lim = fun t => if t < n then 1000 else tv (t - n) := ⟨_, rfl⟩
  have hlt1 : ∀ t, t < n → lim t = 1000 := fun t h => by rw [hlim]; simp [h]
  have hlt2 : ∀ t, lim (n + t) = tv t := fun t => by rw [hlim]; simp only [show ¬ (n + t < n) by omega, if_false, Nat.add_sub_cancel_left]
  have hlt3 : ∀ t, n ≤ t → lim t ≤ 255 := fun t h => by rw [hlim]; simp only [show ¬ t < n by omega, if_false]; exact htl _
  have HLT1 := Lib.hid hlt1
  have HLT2 := Lib.hid hlt2
  have HLT3 := Lib.hid hlt3
  have HTL := Lib.hid htl
  have HTO := Lib.hid hto
  have HN := Lib.hid hnn
  have HA := Lib.hid hA
  have HP := Lib.hid hps
  have HMI := Lib.hid hmi
  clear hr hnn hr2 hA hps hT hts hto htl htv hlim hlt1 hlt2 hlt3 hmin hmi
  have hmk1 := make_bool (n + m) (by omega)
  rw [Int.natCast_add] at hmk1
  obtain ⟨i1, hi, hz0, hz1, hz2⟩ := info_parts Try.info34
  have HI1 := Lib.hid hi
  have HZ10 := Lib.hid hz0
  have HZ11 := Lib.hid hz1
  have HZ12 := Lib.hid hz2
  clear hi hz0 hz1 hz2
  obtain ⟨i2, hi, hz0, hz1, hz2⟩ := info_parts Try.info45
  have HI2 := Lib.hid hi
  have HZ20 := Lib.hid hz0
  have HZ21 := Lib.hid hz1
  have HZ22 := Lib.hid hz2
  clear hi hz0 hz1 hz2
  obtain ⟨i3, hi, hz0, hz1, hz2⟩ := info_parts Try.info29
  have HI3 := Lib.hid hi
  have HZ30 := Lib.hid hz0
  have HZ31 := Lib.hid hz1
  have HZ32 := Lib.hid hz2
  clear hi hz0 hz1 hz2
  go_enter Try.func5, Try.ntmps5
  go_wp2_with fail
  refine (new_1 _).mono ?_; rintro e w3 ⟨rfl, hM3, hK3⟩
  have HM3 := Lib.hid hM3
  have HK3 := Lib.hid hK3
  clear hM3 hK3
  go_wp2_with fail
  refine (awake_any _).mono ?_; rintro e w4 ⟨rfl, hK4⟩
  have HM1 := Lib.hid (HM3.out.kept hK4 id id)
  have HK4 := Lib.hid (HK3.out.trans hK4 (fun _ _ h => h))
  clear hK4 HM3 HK3
  go_upto_region 4 with fail
  go_cut [9, 10] (fun x y wx => x = .int .i64 (n : Int) ∧ y = .int .i64 (m : Int) ∧ wx = w4)
  case first =>
    rcases HMI.out with ⟨h6, h7⟩ | ⟨h6, h7⟩
    all_goals
      go_wp2_with fail
      refine (mod_of _ _ r _ (by omega) (by omega) HR.out).mono ?_; rintro e w2 ⟨rfl, rfl⟩
      go_wp2
      rw [HN.out]
      go_meet
      exact ⟨rfl, by first | (rw [h7]; done) | (rw [h7]; rfl), rfl⟩
  case rest =>
    obtain ⟨rfl, rfl, rfl⟩ := hcut
    rename World => w4
    clear HN HR HMI hr3
    go_wp2_with fail
    go_loopw [11, 13] (fun v i wr => ∃ (j : Nat) (Q : List Nat), j ≤ n ∧ i = .int .i64 j ∧ Mk 34 56 (fun _ => 1000) w4 wr (w.heap.size + 1) w.heap.size j cel0 Q v) (fun _ i _ => n - (intOf i).toNat)
    case atStart => exact ⟨0, [], by omega, rfl, rfl, World.ownsRow_nil _ _ _ _, (fun _ h => by cases h), List.nodup_nil, (fun _ _ h => by simp at h), (fun _ h => by cases h), HM1.out, Kept.refl _ _⟩
    case round =>
      obtain ⟨j, Q, hj, rfl, hS⟩ := hrel
      have HS := Lib.hid hS
      clear hS
      by_cases hlt : j < n
      · go_wp2_with fail
        refine (newTake_any 0 1000 _).mono ?_; rintro e w9 ⟨rfl, rfl⟩
        have hz := HS.out.kept.size
        have hM6 := HS.out.mem.alloc (.cells ⟨macv 0 0 ⟨#[]⟩ 0 false 1000 false false⟩ 56)
        have hQ6 := Blk.new wr (macv 0 0 ⟨#[]⟩ 0 false 1000 false false) 56
        have hK6 := HS.out.kept.alloc (.cells ⟨macv 0 0 ⟨#[]⟩ 0 false 1000 false false⟩ 56)
        have hO6 := HS.out.own.alloc (.cells ⟨macv 0 0 ⟨#[]⟩ 0 false 1000 false false⟩ 56)
        have hAp : ∀ r, Value.ownBlock u11 = some r → r ∉ Q ∧ r < wr.heap.size := fun r h => ⟨HS.out.apart r h, (HS.out.own.lt r h).2⟩
        have hMa : ∀ (t p : Nat), Q[t]? = some p → Blk (wr.alloc (.cells ⟨macv 0 0 ⟨#[]⟩ 0 false 1000 false false⟩ 56)) p 56 (macb ((fun _ => 1000) t) (0, 0)) := fun t p h => (HS.out.mach t p h).alloc _
        have hBi := HS.out.big
        have hl := HS.out.len
        have hnd := HS.out.nd
        have hz5 : wr.heap.size < (wr.alloc (.cells ⟨macv 0 0 ⟨#[]⟩ 0 false 1000 false false⟩ 56)).heap.size := hQ6.lt
        clear HS
        generalize hqq : wr.heap.size = q at *
        have Hqq := Lib.hid hqq
        clear hqq
        generalize wr.alloc (.cells ⟨macv 0 0 ⟨#[]⟩ 0 false 1000 false false⟩ 56) = W5 at *
        have HM6 := Lib.hid hM6
        have HQ6 := Lib.hid hQ6
        have HK6 := Lib.hid hK6
        have HO6 := Lib.hid hO6
        have HAp := Lib.hid hAp
        have HMa := Lib.hid hMa
        have HBi := Lib.hid hBi
        have HND := Lib.hid hnd
        clear hM6 hQ6 hK6 hO6 hAp hMa hnd hBi
        go_wp2_with (at_builtin; go_must (refine wpList_append_lies _ rfl (.tmp 60) (.tmp 62) 33 rfl w4.heap.size 34 i1 _ 1 8 Try.underlying33 HI1.out HZ10.out HZ11.out HZ12.out rfl (by decide) _ j (ptrs Q) rfl (HO6.out.alloc _) ⟨W5.heap.size, 0, none⟩ 1 1 [.pointer (some ⟨q, 0, none⟩)] rfl rfl (World.news_of_block (cs := #[.pointer (some ⟨q, 0, none⟩)]) (t := 34) (fr := (0, 0)) (heap_alloc_new W5 _)) (by simp [Value.oneCell']) (by omega) ?ap1 ?ap2 ?ap3 _ rfl ?_))
        try case ap1 => unfold maxLen; omega
        try case ap2 => omega
        try case ap3 => rw [nblk_alloc]; have := HK6.out.size; omega
        intro g4 cap4 w7 hown7 hgrow7 hor7 _
        have hMK := Mk.push (lim := (fun _ => 1000)) (HM1.out.obj.lt) (HM1.out.row.lt) hl HND.out HAp.out HO6.out HMa.out HBi.out HQ6.out hz HM6.out HK6.out hown7 hgrow7 hor7
        have HMK := Lib.hid hMK
        clear hMK hown7 hgrow7 hor7 HND HAp HO6 HMa HQ6 HM6 HK6 HBi
        go_wp2
        go_roundw
        case rel => exact ⟨j + 1, _, by omega, by go_num, HMK.out⟩
        case measure => simp [intOf]; omega
      · obtain rfl : n = j := by omega
        obtain ⟨ga, cap, rfl, hga, hgl, hcs⟩ := own_slice HS.out.own (by omega)
        have HS1 := Lib.hid HS.out
        have HM2 := Lib.hid HS.out.mem
        have HCS := Lib.hid hcs
        rename World => w6
        rename List Nat => Q1
        clear hcs HI1 HZ10 HZ11 HZ12 i1 HS
        go_wp2_with fail
        go_loopw [12, 14] (fun v i wr => ∃ (j : Nat) (Q : List Nat), j ≤ m ∧ i = .int .i64 j ∧ Mk 45 60 tv w6 wr (w.heap.size + 1) w.heap.size j cel0 Q v) (fun _ i _ => m - (intOf i).toNat)
        case atStart => exact ⟨0, [], by omega, rfl, rfl, World.ownsRow_nil _ _ _ _, (fun _ h => by cases h), List.nodup_nil, (fun _ _ h => by simp at h), (fun _ h => by cases h), HM2.out, Kept.refl _ _⟩
        case round =>
          obtain ⟨j, Q, hj, rfl, hS⟩ := hrel
          have HS := Lib.hid hS
          clear hS
          by_cases hlt : j < m
          · obtain ⟨gt, off1, hA1, hgt, hcl⟩ := HTO.out (by omega)
            have cto : wr.cell? ⟨gt, off1 + j, none⟩ = some (.int .u8 ((tv j : Nat) : Int)) := (((HK4.out.trans HS1.out.kept (fun _ _ h => h)).trans HS.out.kept (fun _ _ h => h)).cell (p := ⟨gt, off1 + j, none⟩) hgt id).trans (hcl j hlt)
            have htj := HTL.out j
            subst hA1
            clear hcl
            go_wp2_with fail
            refine (newRaise_any 0 (tv j) _).mono ?_; rintro e w9 ⟨rfl, rfl⟩
            have hz := HS.out.kept.size
            have hM6 := HS.out.mem.alloc (.cells ⟨macv 0 0 ⟨#[]⟩ 0 false (tv j) false false⟩ 60)
            have hQ6 := Blk.new wr (macv 0 0 ⟨#[]⟩ 0 false (tv j) false false) 60
            have hK6 := HS.out.kept.alloc (.cells ⟨macv 0 0 ⟨#[]⟩ 0 false (tv j) false false⟩ 60)
            have hO6 := HS.out.own.alloc (.cells ⟨macv 0 0 ⟨#[]⟩ 0 false (tv j) false false⟩ 60)
            have hAp : ∀ r, Value.ownBlock u12 = some r → r ∉ Q ∧ r < wr.heap.size := fun r h => ⟨HS.out.apart r h, (HS.out.own.lt r h).2⟩
            have hMa : ∀ (t p : Nat), Q[t]? = some p → Blk (wr.alloc (.cells ⟨macv 0 0 ⟨#[]⟩ 0 false (tv j) false false⟩ 60)) p 60 (macb (tv t) (0, 0)) := fun t p h => (HS.out.mach t p h).alloc _
            have hBi := HS.out.big
            have hl := HS.out.len
            have hnd := HS.out.nd
            have hz5 : wr.heap.size < (wr.alloc (.cells ⟨macv 0 0 ⟨#[]⟩ 0 false (tv j) false false⟩ 60)).heap.size := hQ6.lt
            clear HS
            generalize hqq : wr.heap.size = q at *
            have Hqq := Lib.hid hqq
            clear hqq
            generalize wr.alloc (.cells ⟨macv 0 0 ⟨#[]⟩ 0 false (tv j) false false⟩ 60) = W5 at *
            have HM6 := Lib.hid hM6
            have HQ6 := Lib.hid hQ6
            have HK6 := Lib.hid hK6
            have HO6 := Lib.hid hO6
            have HAp := Lib.hid hAp
            have HMa := Lib.hid hMa
            have HBi := Lib.hid hBi
            have HND := Lib.hid hnd
            clear hM6 hQ6 hK6 hO6 hAp hMa hnd hBi
            go_wp2_with (at_builtin; go_must (refine wpList_append_lies _ rfl (.tmp 69) (.tmp 76) 44 rfl w6.heap.size 45 i2 _ 1 8 Try.underlying44 HI2.out HZ20.out HZ21.out HZ22.out rfl (by decide) _ j (ptrs Q) rfl (HO6.out.alloc _) ⟨W5.heap.size, 0, none⟩ 1 1 [.pointer (some ⟨q, 0, none⟩)] rfl rfl (World.news_of_block (cs := #[.pointer (some ⟨q, 0, none⟩)]) (t := 45) (fr := (0, 0)) (heap_alloc_new W5 _)) (by simp [Value.oneCell']) (by omega) ?ap1 ?ap2 ?ap3 _ rfl ?_))
            try case ap1 => unfold maxLen; omega
            try case ap2 => omega
            try case ap3 => rw [nblk_alloc]; have := HK6.out.size; omega
            intro g4 cap4 w7 hown7 hgrow7 hor7 _
            have hMK := Mk.push (lim := tv) (HM2.out.obj.lt) (HM2.out.row.lt) hl HND.out HAp.out HO6.out HMa.out HBi.out HQ6.out hz HM6.out HK6.out hown7 hgrow7 hor7
            have HMK := Lib.hid hMK
            clear hMK hown7 hgrow7 hor7 HND HAp HO6 HMa HQ6 HM6 HK6 HBi
            go_wp2
            go_roundw
            case rel => exact ⟨j + 1, _, by omega, by go_num, HMK.out⟩
            case measure => simp [intOf]; omega
          · obtain rfl : m = j := by omega
            rename List Nat => Q2
            have hv2 : ∃ gb, 0 < m → ∃ cap2, u12 = .slice (some ⟨gb, 0, none⟩) m cap2 ∧ w6.heap.size ≤ gb ∧ gb < wr.heap.size ∧ gb ∉ Q2 ∧ ∀ j u, (ptrs Q2)[j]? = some u → wr.cell? ⟨gb, j, none⟩ = some u := by
              by_cases h0 : 0 < m
              · obtain ⟨gb, cap2, h1, h2, h3, h4⟩ := own_slice HS.out.own h0
                exact ⟨gb, fun _ => ⟨cap2, h1, h2, h3, HS.out.apart gb (by rw [h1]; rfl), h4⟩⟩
              · exact ⟨0, fun h => absurd h h0⟩
            obtain ⟨gb, hv2⟩ := hv2
            have hC := both_ctx HK4.out ⟨by omega, HM1.out.obj.lt⟩ ⟨by omega, HM1.out.row.lt⟩ HS1.out ⟨hga, hgl⟩ HCS.out HS.out (fun h => by obtain ⟨_, _, h2⟩ := hv2 h; exact h2)
            have hE := both_run (P := ps.length) (lim := lim) hn1 (by omega) HS1.out HS.out (fun t h => HLT1.out t h) (fun t => HLT2.out t)
            have hv3 : 0 < m → ∃ cap2, u12 = .slice (some ⟨gb, 0, none⟩) m cap2 := fun h => (hv2 h).imp fun _ h => h.1
            have HV := Lib.hid hv3
            have HB := Lib.hid (Bo.start (n := n) (m := m) (lim := lim) (by omega) HLT1.out HLT3.out)
            clear hv2 hv3 HCS HS1 hga hgl
            go_wp2_with fail
            have hgr : Hid (∃ x, x = wr.heap.size) := Lib.hid ⟨_, rfl⟩
            generalize wr.alloc (.cells (Array.replicate (n + m) (.bool false)) 4) = W0 at *
            generalize wr.heap.size = gd at *
            have HC := Lib.hid hC
            have HE := Lib.hid hE
            clear hC hE HS HM1 HM2 HK4 hmk1 HI2 HZ20 HZ21 HZ22 i2 hgr hlt HLT1 HLT3
            go_loopw [16, 17] (fun sv i wf => ∃ (k : Nat) (L : List Mac) (v a : Nat) (xs : List Nat), k ≤ ps.length + 40 * (n + m) ∧ i = .int .i64 k ∧ Run W0 wf (w.heap.size + 1) w.heap.size gd (n + m) ps.length k (Q1 ++ Q2) (fun t => if t < n then 56 else 60) lim L v a (dones L) ∧ Bo n lim L v ∧ Se W0 wf v k sv xs)
              (fun _ i _ => ps.length + 40 * (n + m) - (intOf i).toNat)
            case atStart => exact ⟨0, _, _, 0, [], by omega, rfl, HE.out, HB.out, World.ownsRow_nil _ _ _ _, (fun _ h => by cases h), Nat.le_refl _⟩
            case round =>
              obtain ⟨k, L, v, a, xs, hk, rfl, hE, hB, hS⟩ := hrel
              clear HE HB
              have HE := Lib.hid hE
              have HB := Lib.hid hB
              have HS := Lib.hid hS
              obtain ⟨A0, cap0, rfl⟩ := hS.slice
              clear hE hB hS
              by_cases hlt : k < ps.length + 40 * (n + m)
              · obtain ⟨q, hq⟩ : ∃ q : Nat, q = k % (n + m) := ⟨_, rfl⟩
                have hqn : q < n + m := by rw [hq]; exact Nat.mod_lt _ (by omega)
                have hq1 : (k : Int) % ((n : Int) + (m : Int)) = (q : Int) := by rw [hq, ← Int.natCast_add]; rfl
                have hq2 : (k : Int).tmod ((n : Int) + (m : Int)) = (q : Int) := by rw [hq, ← Int.natCast_add]; rfl
                have Hq := Lib.hid hq
                clear hq
                go_upto_if 101 with fail
                go_cut [18] (fun t wx => ∃ tt : Nat, t = .int .i64 tt ∧ tt < n + m ∧ (k < ps.length ∨ tt = k % (n + m)) ∧ wx = wr)
                case first =>
                  by_cases hkp : k < ps.length
                  · obtain ⟨g0, off, rfl, hg0, hcell⟩ := HA.out (by omega)
                    obtain ⟨p, hp⟩ : ∃ p, p = ps[k] := ⟨_, rfl⟩
                    have hp256 : p < 256 := by rw [hp]; exact HP.out _ (List.getElem_mem _)
                    have hpc : wr.cell? ⟨g0, off + k, none⟩ = some (.int .u8 (p : Int)) := by
                      rw [(HC.out.base HE.out.kept).cell (p := ⟨g0, off + k, none⟩) hg0 id]; exact hcell k p (by rw [List.getElem?_eq_getElem hkp, hp])
                    obtain ⟨s, hs⟩ : ∃ s : Nat, s = p % (n + m) := ⟨_, rfl⟩
                    have hsn : s < n + m := by rw [hs]; exact Nat.mod_lt _ (by omega)
                    have hs1 : (p : Int) % ((n : Int) + (m : Int)) = (s : Int) := by rw [hs, ← Int.natCast_add]; rfl
                    have hs2 : (p : Int).tmod ((n : Int) + (m : Int)) = (s : Int) := by rw [hs, ← Int.natCast_add]; rfl
                    clear hs hp hcell
                    go_wp2
                    go_meet
                    exact ⟨s, rfl, hsn, .inl hkp, rfl⟩
                  · have hkd : decide (k < ps.length) = false := by simpa using hkp
                    go_wp2
                    go_meet
                    exact ⟨q, rfl, hqn, .inr Hq.out, rfl⟩
                case rest =>
                  obtain ⟨t, rfl, htj, hor, rfl⟩ := hcut
                  have HOR := Lib.hid hor
                  clear Hq hq1 hq2 hqn hor
                  go_wp2_with fail
                  refine (peek_any _ _ _ _ _ (v : Int) 0 ⟨#[]⟩ _ HE.out.mem rfl).mono ?_; rintro e w7 ⟨rfl, hK7⟩
                  have hE7 := HE.out.still hK7
                  have hS7 := HS.out.kept hK7 (fun _ h => h.elim) (Nat.le_refl _) (Nat.le_refl _)
                  clear HE hK7 HS
                  have HE := Lib.hid hE7
                  have HS := Lib.hid hS7
                  clear hE7 hS7
                  have hfd := field0 (v : Int) 0 ⟨#[]⟩
                  have HLE := Lib.hid HS.out.le
                  have hxk := HS.out.len
                  obtain ⟨qq, hqq⟩ := HC.out.machine htj
                  obtain ⟨y, hy⟩ := HE.out.state htj
                  have hst : y.1 ≤ 3 := HE.out.st _ (List.mem_of_getElem? hy)
                  have hN : y.2 ≤ v := HB.out.seen t _ hy
                  have hv7 := HB.out.small
                  have hak := HE.out.acc
                  have hmac := HE.out.mac t _ qq hy hqq
                  have hptr := HC.out.ptr HE.out.kept hqq
                  have hown := HC.out.own hqq
                  obtain ⟨y', hy'⟩ : ∃ y', moved (lim t) (goal n lim t y) y v = y' := ⟨_, rfl⟩
                  obtain ⟨v', hv'⟩ : ∃ v', counts (goal n lim t y) y v = v' := ⟨_, rfl⟩
                  obtain ⟨r', hr'⟩ : ∃ r, decide (2 ≤ y'.1) = r := ⟨_, rfl⟩
                  obtain ⟨c', hc'⟩ : ∃ c, (if 2 ≤ y.1 then a else a + 1) = c := ⟨_, rfl⟩
                  have hcl : c' ≤ a + 1 := by rw [← hc']; exact ite_le _ _
                  obtain ⟨hB', hvv, hnew⟩ := HB.out.step hy hst hy' hv'
                  have HB' := Lib.hid hB'
                  have HNW := Lib.hid hnew
                  have HY := Lib.hid hy
                  have HQQ := Lib.hid hqq
                  have HY' := Lib.hid hy'
                  have HV' := Lib.hid hv'
                  have HR' := Lib.hid hr'
                  have HC' := Lib.hid hc'
                  have HMA := Lib.hid hmac
                  have HPT := Lib.hid hptr
                  have hv7' := hB'.small
                  clear hB' hnew hy hqq hy' hv' hr' hc' hmac hptr HB
                  have hqb := hown.2.1
                  have hqg := hown.2.2.1
                  have hqw := hown.1
                  have hbw := HC.out.lb.1
                  have hgw := HC.out.lg.1
                  have HQW : Hid (∀ i, Own3 qq (w.heap.size + 1) w.heap.size i → i < W0.heap.size) := Lib.hid (fun i h => by unfold Own3 at h; omega)
                  clear hown hqw hbw hgw
                  go_upto_if 116 with fail
                  go_cut [20] (fun f wx => f = .bool r' ∧ Run W0 wx (w.heap.size + 1) w.heap.size gd (n + m) ps.length (k + 1) (Q1 ++ Q2) (fun t => if t < n then 56 else 60) lim (L.set t y') v' c' (dones L) ∧ Se W0 wx v' (k + 1) (.slice A0 xs.length cap0) xs)
                  case first =>
                    by_cases htn : t < n
                    · have cpt : w7.cell? ⟨ga, t, none⟩ = some (.pointer (some ⟨qq, 0, none⟩)) := by have := HPT.out; simp only [htn, if_true] at this; exact this
                      have hBk : Blk w7 qq 56 (macb (lim t) y) := by have := HMA.out; simp only [htn, if_true] at this; exact this
                      have hg : goal n lim t y = y.2 + 1 := by unfold goal; rw [if_pos htn]
                      have H1 := HY'.out
                      have H2 := HV'.out
                      rw [hg] at H1 H2
                      have HH1 := Lib.hid H1
                      have HH2 := Lib.hid H2
                      have HBk := Lib.hid hBk
                      clear H1 H2 hg hBk
                      go_wp2_with fail
                      refine (take_pick hst HBk.out HE.out.mem hqb hqg (by omega) (by omega) HH1.out HH2.out HR'.out HC'.out).mono ?_; rintro e w8 ⟨rfl, hM8, hB8, hK8⟩
                      have HE8 := Lib.hid (HE.out.step (goal := goal n lim t y) (y' := y') (v' := v') HC.out HY.out HQQ.out HOR.out HY'.out HV'.out hK8 hM8 hcl (by simp only [htn, if_true]; exact hB8))
                      have HS8 := Lib.hid (HS.out.kept hK8 HQW.out hvv (Nat.le_succ k))
                      clear hM8 hB8 hK8
                      go_wp2
                      go_meet
                      exact ⟨rfl, HE8.out, HS8.out⟩
                    · obtain ⟨d, rfl⟩ : ∃ d, t = n + d := ⟨t - n, by omega⟩
                      have hdm : d < m := by omega
                      obtain ⟨cap2, hu12⟩ := HV.out (by omega)
                      subst hu12
                      have cpt : w7.cell? ⟨gb, d, none⟩ = some (.pointer (some ⟨qq, 0, none⟩)) := by have := HPT.out; simp only [htn, if_false, Nat.add_sub_cancel_left] at this; exact this
                      have hBk : Blk w7 qq 60 (macb (lim (n + d)) y) := by have := HMA.out; simp only [htn, if_false] at this; exact this
                      have hg : goal n lim (n + d) y = lim (n + d) := by unfold goal; rw [if_neg htn]
                      have H1 := HY'.out
                      have H2 := HV'.out
                      rw [hg] at H1 H2
                      have HH1 := Lib.hid H1
                      have HH2 := Lib.hid H2
                      have HBk := Lib.hid hBk
                      have hsub : ((n + d : Nat) : Int) - (n : Int) = (d : Int) := by omega
                      clear H1 H2 hg hBk
                      go_wp2_with fail
                      refine (raise_pick hst HBk.out HE.out.mem hqb hqg (by omega) HH1.out HH2.out HR'.out HC'.out).mono ?_; rintro e w8 ⟨rfl, hM8, hB8, hK8⟩
                      have HE8 := Lib.hid (HE.out.step (goal := goal n lim (n + d) y) (y' := y') (v' := v') HC.out HY.out HQQ.out HOR.out HY'.out HV'.out hK8 hM8 hcl (by simp only [htn, if_false]; exact hB8))
                      have HS8 := Lib.hid (HS.out.kept hK8 HQW.out hvv (Nat.le_succ k))
                      clear hM8 hB8 hK8
                      go_wp2
                      go_meet
                      exact ⟨rfl, HE8.out, HS8.out⟩
                  case rest =>
                    obtain ⟨rfl, hE8, hS8⟩ := hcut
                    have HE8 := Lib.hid hE8
                    have HS8 := Lib.hid hS8
                    have hfd8 := field0 (v' : Int) 0 ⟨#[]⟩
                    clear hE8 hS8 HE HS HMA HPT HQW HOR HY' HV' HC'
                    go_wp2_with fail
                    refine (peek_any _ _ _ _ _ (v' : Int) 0 ⟨#[]⟩ _ HE8.out.mem rfl).mono ?_; rintro e w9 ⟨rfl, hK9⟩
                    have HE9 := Lib.hid (HE8.out.still hK9)
                    have HS9 := Lib.hid (HS8.out.kept hK9 (fun _ h => h.elim) (Nat.le_refl _) (Nat.le_refl _))
                    have cgd : w9.cell? ⟨gd, t, none⟩ = some (.bool (decide (2 ≤ y.1))) := HE9.out.bd.cell (dones_at HY.out)
                    have zgd := HE9.out.bd.frozen t
                    clear hK9 HE8 HS8
                    cases r'
                    · obtain ⟨dd, hdd⟩ : ∃ d, decide (2 ≤ y.1) = d := ⟨_, rfl⟩
                      rw [hdd] at cgd
                      clear hdd
                      have HNX := Lib.hid (show Run W0 (w9.setCell ⟨gd, t, none⟩ (.bool false)) (w.heap.size + 1) w.heap.size gd (n + m) ps.length (k + 1) (Q1 ++ Q2) (fun t => if t < n then 56 else 60) lim (L.set t y') v' c' (dones (L.set t y')) by rw [dones_set, HR'.out]; exact HE9.out.store HC.out t (.bool false))
                      have HSX := Lib.hid (HS9.out.kept ((Kept.refl (fun i => i < W0.heap.size) w9).setCell (a := ⟨gd, t, none⟩) (fun _ => HC.out.ls.1) (.bool false)) (fun _ h => h) (Nat.le_refl _) (Nat.le_refl _))
                      clear HE9 HS9
                      go_wp2
                      go_roundw
                      case rel => exact ⟨k + 1, _, _, _, xs, by omega, by go_num, HNX.out, HB'.out, HSX.out⟩
                      case measure => simp [intOf]; omega
                    · by_cases hd : 2 ≤ y.1
                      · rw [decide_eq_true hd] at cgd
                        have HNX := Lib.hid (show Run W0 (w9.setCell ⟨gd, t, none⟩ (.bool true)) (w.heap.size + 1) w.heap.size gd (n + m) ps.length (k + 1) (Q1 ++ Q2) (fun t => if t < n then 56 else 60) lim (L.set t y') v' c' (dones (L.set t y')) by rw [dones_set, HR'.out]; exact HE9.out.store HC.out t (.bool true))
                        have HSX := Lib.hid (HS9.out.kept ((Kept.refl (fun i => i < W0.heap.size) w9).setCell (a := ⟨gd, t, none⟩) (fun _ => HC.out.ls.1) (.bool true)) (fun _ h => h) (Nat.le_refl _) (Nat.le_refl _))
                        clear HE9 HS9
                        go_wp2
                        go_roundw
                        case rel => exact ⟨k + 1, _, _, _, xs, by omega, by go_num, HNX.out, HB'.out, HSX.out⟩
                        case measure => simp [intOf]; omega
                      · rw [decide_eq_false hd] at cgd
                        by_cases htn : t < n
                        · have hqx := HC.out.ptr HE9.out.kept HQQ.out
                          simp only [htn, if_true] at hqx
                          go_wp2_with fail
                          obtain ⟨rfl, rfl⟩ := HNW.out htn (by omega) (by simpa using HR'.out)
                          have cpt : w9.cell? ⟨ga, t, none⟩ = some (.pointer (some ⟨qq, 0, none⟩)) := by have := HC.out.ptr HE9.out.kept HQQ.out; simp only [htn, if_true] at this; exact this
                          have hBk : Blk w9 qq 56 (macb (lim t) (2, v)) := by have := HE9.out.mac t _ qq (set_self HY.out) HQQ.out; simp only [htn, if_true] at this; exact this
                          have HBk := Lib.hid hBk
                          clear hBk HNW
                          refine (number_yes qq _ 0 v ⟨#[]⟩ 0 _ _ _ _ HBk.out (by omega)).mono ?_; rintro e w10 ⟨rfl, rfl⟩
                          go_wp2_with fail
                          go_loopw [23] (fun i wl => ∃ p : Nat, p ≤ xs.length ∧ i = .int .i64 p ∧ wl = w9) (fun i _ => xs.length - (intOf i).toNat)
                          case atStart => exact ⟨0, by omega, rfl, rfl⟩
                          case round =>
                            obtain ⟨p, hp, rfl, rfl⟩ := hrel
                            by_cases hpx : p < xs.length
                            · obtain ⟨gs, cg, hsv, hgs1, hgs2, hgc⟩ := own_slice HS9.out.own (by omega)
                              obtain rfl : A0 = some ⟨gs, 0, none⟩ := by injection hsv
                              obtain ⟨z, hz⟩ : ∃ z, xs[p] = z := ⟨_, rfl⟩
                              have cx := hgc p _ (words_at (List.getElem?_eq_getElem hpx))
                              have hzv : z ≤ v := by rw [← hz]; exact HLE.out _ (List.getElem_mem hpx)
                              rw [hz] at cx
                              have hne : ((z : Int) == (v : Int) + 1) = false := by rw [beq_eq_false_iff_ne]; omega
                              clear hsv hgc hz
                              go_wp2
                              go_roundw
                              case rel => exact ⟨p + 1, by omega, by go_num, by first | trivial | rfl⟩
                              case measure => simp [intOf]; omega
                            · obtain rfl : p = xs.length := by omega
                              go_wp2_with fail
                              have hfd9 := field0 ((v : Int) + 1) 0 ⟨#[]⟩
                              refine (peek_any _ _ _ _ _ ((v : Int) + 1) 0 ⟨#[]⟩ _ HE9.out.mem rfl).mono ?_; rintro e w11 ⟨rfl, hK11⟩
                              have HE11 := Lib.hid (HE9.out.still hK11)
                              have HS11 := Lib.hid (HS9.out.kept hK11 (fun _ h => h.elim) (Nat.le_refl _) (Nat.le_refl _))
                              have hw11 := HE11.out.kept.size
                              clear hK11 HE9 HS9 cgd zgd cpt HBk
                              go_wp2_with (at_builtin; go_must (refine wpList_append_lies _ rfl (.tmp 184) (.tmp 186) 43 rfl W0.heap.size 29 i3 _ 1 8 Try.underlying43 HI3.out HZ30.out HZ31.out HZ32.out rfl (by decide) _ xs.length (words xs) rfl (HS11.out.own.alloc _) ⟨w11.heap.size, 0, none⟩ 1 1 [.int .u64 ((v : Int) + 1)] rfl rfl (World.news_of_block (cs := #[.int .u64 ((v : Int) + 1)]) (t := 29) (fr := (0, 0)) (heap_alloc_new w11 _)) (by simp [Value.oneCell']) (by omega) ?ap1 ?ap2 ?ap3 _ rfl ?_))
                              try case ap1 => unfold maxLen; omega
                              try case ap2 => omega
                              try case ap3 => rw [nblk_alloc]; omega
                              intro g4 cap4 w12 hown12 hgrow12 hor12 _
                              have hKW : Kept (fun i => Value.ownBlock (.slice A0 xs.length cap0) = some i) w11 w12 := ((Kept.refl _ w11).alloc _).grown hgrow12 (fun k hk _ => hk)
                              have HE12 := Lib.hid (HE11.out.far HC.out hKW (fun i h => (HS11.out.own.lt i h).1))
                              have HS12 : Hid (Se W0 w12 (v + 1) (k + 1) (.slice (some ⟨g4, 0, none⟩) (xs.length + 1) cap4) (xs ++ [v + 1])) :=
                                Lib.hid ⟨by rw [words_snoc, List.length_append]; exact hown12, fun x hx => by
                                  rcases List.mem_append.1 hx with h | h
                                  · have := HLE.out x h; omega
                                  · have := List.mem_singleton.1 h; omega, by rw [List.length_append]; simp only [List.length_cons, List.length_nil]; omega⟩
                              have cgd : w12.cell? ⟨gd, t, none⟩ = some (.bool (decide (2 ≤ y.1))) := HE12.out.bd.cell (dones_at HY.out)
                              have zgd := HE12.out.bd.frozen t
                              clear hKW hown12 hgrow12 hor12 HE11 HS11
                              have HNX := Lib.hid (show Run W0 (w12.setCell ⟨gd, t, none⟩ (.bool true)) (w.heap.size + 1) w.heap.size gd (n + m) ps.length (k + 1) (Q1 ++ Q2) (fun t => if t < n then 56 else 60) lim (L.set t (2, v)) (v + 1) c' (dones (L.set t (2, v))) by rw [dones_set, HR'.out]; exact HE12.out.store HC.out t (.bool true))
                              have HSX := Lib.hid (HS12.out.kept ((Kept.refl (fun i => i < W0.heap.size) w12).setCell (a := ⟨gd, t, none⟩) (fun _ => HC.out.ls.1) (.bool true)) (fun _ h => h) (Nat.le_refl _) (Nat.le_refl _))
                              clear HE12 HS12
                              go_wp2
                              go_roundw
                              case rel => exact ⟨k + 1, _, _, _, (xs ++ [v + 1]), by omega, by go_num, HNX.out, HB'.out, HSX.out⟩
                              case measure => simp [intOf]; omega
                        · clear HNW
                          have HNX := Lib.hid (show Run W0 (w9.setCell ⟨gd, t, none⟩ (.bool true)) (w.heap.size + 1) w.heap.size gd (n + m) ps.length (k + 1) (Q1 ++ Q2) (fun t => if t < n then 56 else 60) lim (L.set t y') v' c' (dones (L.set t y')) by rw [dones_set, HR'.out]; exact HE9.out.store HC.out t (.bool true))
                          have HSX := Lib.hid (HS9.out.kept ((Kept.refl (fun i => i < W0.heap.size) w9).setCell (a := ⟨gd, t, none⟩) (fun _ => HC.out.ls.1) (.bool true)) (fun _ h => h) (Nat.le_refl _) (Nat.le_refl _))
                          clear HE9 HS9
                          go_wp2
                          go_roundw
                          case rel => exact ⟨k + 1, _, _, _, xs, by omega, by go_num, HNX.out, HB'.out, HSX.out⟩
                          case measure => simp [intOf]; omega
              · have hkk : ps.length + 40 * (n + m) ≤ k := by omega
                have HD : Hid (∀ (t : Nat) (y : Mac), L[t]? = some y → y.1 = 2 ∨ y.1 = 3) := Lib.hid (fun t y hy => HE.out.done (m := 40) (by omega) hkk hy)
                clear hkk
                have hv7 := HB.out.small
                clear HS HA HP
                go_wp2_with fail
                rename World => W1
                go_loopw [24] (fun i wl => ∃ p : Nat, p ≤ n + m ∧ i = .int .i64 p ∧ Kept (fun _ => False) W1 wl) (fun i _ => n + m - (intOf i).toNat)
                case atStart => exact ⟨0, by omega, rfl, Kept.refl _ _⟩
                case round =>
                  obtain ⟨i, hi, rfl, hKl⟩ := hrel
                  have HE2 := Lib.hid (HE.out.still hKl)
                  have HKL := Lib.hid hKl
                  clear hKl
                  by_cases hin : i < n + m
                  · obtain ⟨y, hy⟩ := HE2.out.state hin
                    have hst := HD.out i _ hy
                    have csm : wr.cell? ⟨gd, i, none⟩ = some (.bool (decide (2 ≤ y.1))) := HE2.out.bd.cell (dones_at hy)
                    rw [decide_eq_true (show 2 ≤ y.1 by omega)] at csm
                    have hdl := HE2.out.bd.lt
                    by_cases hi2 : i < n
                    · clear hst hy
                      have hg1 : decide (n ≤ i) = false := by simpa using hi2
                      go_wp2_with fail
                      refine qregion (fun w' => Kept (fun _ => False) wr w' ∧ w'.cell? ⟨gd, i, none⟩ = some (.bool true)) (by kernel_rfl) (by kernel_rfl) ⟨(Kept.refl _ _).drew, csm⟩ ?_
                      refine qstep (o := ⟨some 199, _, _, _, _, _⟩) (v := ?_) (by rfl) (fun wq hSw => ?_) ?_
                      rotate_left
                      · (try dsimp only at hSw); go_simp; try with_reducible rfl
                      try simp only [Act.put, List.setIfInBounds_toArray, List.set_cons_zero, List.set_cons_succ]
                      refine qstep (o := ⟨some 200, _, _, _, _, _⟩) (v := ?_) (by rfl) (fun wq hSw => ?_) ?_
                      rotate_left
                      · (try dsimp only at hSw); go_simp; try with_reducible rfl
                      try simp only [Act.put, List.setIfInBounds_toArray, List.set_cons_zero, List.set_cons_succ]
                      refine qstep (o := ⟨some 201, _, _, _, _, _⟩) (v := ?_) (by rfl) (fun wq hSw => ?_) ?_
                      rotate_left
                      · (try dsimp only at hSw); go_simp; try with_reducible rfl
                      try simp only [Act.put, List.setIfInBounds_toArray, List.set_cons_zero, List.set_cons_succ]
                      refine qstep (o := ⟨some 202, _, _, _, _, _⟩) (v := ?_) (by rfl) (fun wq hSw => ?_) ?_
                      rotate_left
                      · (try dsimp only at hSw); go_simp; try with_reducible rfl
                      try simp only [Act.put, List.setIfInBounds_toArray, List.set_cons_zero, List.set_cons_succ]
                      refine qstep (o := ⟨some 203, _, _, _, _, _⟩) (v := ?_) (by rfl) (fun wq hSw => ?_) ?_
                      rotate_left
                      · (try dsimp only at hSw); go_simp; try with_reducible rfl
                      try simp only [Act.put, List.setIfInBounds_toArray, List.set_cons_zero, List.set_cons_succ]
                      refine qstep (o := ⟨some 204, _, _, _, _, _⟩) (v := ?_) (by rfl) (fun wq hSw => ?_) ?_
                      rotate_left
                      · (try dsimp only at hSw); go_simp; try with_reducible rfl
                      try simp only [Act.put, List.setIfInBounds_toArray, List.set_cons_zero, List.set_cons_succ]
                      refine qstep (o := ⟨some 205, _, _, _, _, _⟩) (v := ?_) (by rfl) (fun wq hSw => ?_) ?_
                      rotate_left
                      · (try dsimp only at hSw); go_simp; try with_reducible rfl
                      try simp only [Act.put, List.setIfInBounds_toArray, List.set_cons_zero, List.set_cons_succ]
                      refine qstep (o := ⟨some 206, _, _, _, _, _⟩) (v := ?_) (by rfl) (fun wq hSw => ?_) ?_
                      rotate_left
                      · (try dsimp only at hSw); go_simp; try with_reducible rfl
                      try simp only [Act.put, List.setIfInBounds_toArray, List.set_cons_zero, List.set_cons_succ]
                      refine qstep (o := ⟨some 207, _, _, _, _, _⟩) (v := .bool false) (by rfl) (fun wq hSw => ?_) ?_
                      · (try dsimp only at hSw); go_simp; try first | (with_reducible rfl) | (simp; omega) | simp [*]
                      try simp only [Act.put, List.setIfInBounds_toArray, List.set_cons_zero, List.set_cons_succ]
                      refine qstep (o := ⟨some 208, _, _, _, _, _⟩) (v := .bool false) (by rfl) (fun wq hSw => ?_) ?_
                      · (try dsimp only at hSw); go_simp; try first | (with_reducible rfl) | (simp; omega) | simp [*]
                      try simp only [Act.put, List.setIfInBounds_toArray, List.set_cons_zero, List.set_cons_succ]
                      go_big_quiet_skip
                      try simp only [Act.put, List.setIfInBounds_toArray, List.set_cons_zero, List.set_cons_succ]
                      go_big_quiet_skip
                      try simp only [Act.put, List.setIfInBounds_toArray, List.set_cons_zero, List.set_cons_succ]
                      go_big_quiet_skip
                      try simp only [Act.put, List.setIfInBounds_toArray, List.set_cons_zero, List.set_cons_succ]
                      go_big_quiet_skip
                      try simp only [Act.put, List.setIfInBounds_toArray, List.set_cons_zero, List.set_cons_succ]
                      go_big_quiet_skip
                      try simp only [Act.put, List.setIfInBounds_toArray, List.set_cons_zero, List.set_cons_succ]
                      go_big_quiet_skip
                      try simp only [Act.put, List.setIfInBounds_toArray, List.set_cons_zero, List.set_cons_succ]
                      go_big_quiet_skip
                      try simp only [Act.put, List.setIfInBounds_toArray, List.set_cons_zero, List.set_cons_succ]
                      go_big_quiet_skip
                      try simp only [Act.put, List.setIfInBounds_toArray, List.set_cons_zero, List.set_cons_succ]
                      go_big_quiet_skip
                      try simp only [Act.put, List.setIfInBounds_toArray, List.set_cons_zero, List.set_cons_succ]
                      go_big_quiet_skip
                      try simp only [Act.put, List.setIfInBounds_toArray, List.set_cons_zero, List.set_cons_succ]
                      go_big_quiet_skip
                      try simp only [Act.put, List.setIfInBounds_toArray, List.set_cons_zero, List.set_cons_succ]
                      refine qstep (o := ⟨some 220, _, _, _, _, _⟩) (v := ?_) (by rfl) (fun wq hSw => ?_) ?_
                      rotate_left
                      · (try dsimp only at hSw); go_simp; try with_reducible rfl
                      try simp only [Act.put, List.setIfInBounds_toArray, List.set_cons_zero, List.set_cons_succ]
                      refine qstep (o := ⟨some 221, _, _, _, _, _⟩) (v := ?_) (by rfl) (fun wq hSw => ?_) ?_
                      rotate_left
                      · (try dsimp only at hSw); go_simp; try with_reducible rfl
                      try simp only [Act.put, List.setIfInBounds_toArray, List.set_cons_zero, List.set_cons_succ]
                      refine wpQuiet_nil ?_
                      intro wz hHeld
                      have HKN := Lib.hid (HKL.out.trans hHeld.1 (fun _ _ h => h))
                      clear hHeld HE2 HKL csm hdl
                      go_wp2
                      go_roundw
                      case rel => exact ⟨i + 1, by omega, by go_num, HKN.out⟩
                      case measure => simp [intOf]; omega
                    · obtain ⟨d, hd⟩ : ∃ d, i = n + d := ⟨i - n, by omega⟩
                      have hdm : d < m := by omega
                      have hdt : d < ts.length := by omega
                      obtain ⟨gt, off1, rfl, hgt, hcl⟩ := HTO.out (by omega)
                      have hKb := HC.out.base HE2.out.kept
                      have cto : wr.cell? ⟨gt, off1 + d, none⟩ = some (.int .u8 ((tv d : Nat) : Int)) := (hKb.cell (p := ⟨gt, off1 + d, none⟩) hgt id).trans (hcl d hdm)
                      have htl : gt < wr.heap.size := Nat.lt_of_lt_of_le hgt hKb.size
                      have hvt : tv d ≤ v := by rw [← HLT2.out, ← hd]; exact HB.out.fin _ y hy (by omega) (by omega)
                      have htd := HTL.out d
                      have hfd := field0 (v : Int) 0 ⟨#[]⟩
                      have hsub : (i : Int) - (n : Int) = (d : Int) := by omega
                      have hg1 : decide (n ≤ i) = true := by simp; omega
                      have hw1 : IntKind.i64.wrap (d : Int) = (d : Int) := by simp [IntKind.wrap, IntKind.bits, IntKind.signed]; omega
                      have hw2 : IntKind.u64.wrap ((tv d : Nat) : Int) = ((tv d : Nat) : Int) := by simp [IntKind.wrap, IntKind.bits, IntKind.signed]; omega
                      have hg3 : decide (v < tv d) = false := by simpa using hvt
                      clear hst hy hcl hKb hd
                      go_wp2_with fail
                      refine qregion (fun w' => Kept (fun _ => False) wr w' ∧ w'.cell? ⟨gd, i, none⟩ = some (.bool true) ∧ w'.cell? ⟨gt, off1 + d, none⟩ = some (.int .u8 ((tv d : Nat) : Int))) (by kernel_rfl) (by kernel_rfl) ⟨(Kept.refl _ _).drew, csm, cto⟩ ?_
                      refine qstep (o := ⟨some 199, _, _, _, _, _⟩) (v := ?_) (by rfl) (fun wq hSw => ?_) ?_
                      rotate_left
                      · (try dsimp only at hSw); go_simp; try with_reducible rfl
                      try simp only [Act.put, List.setIfInBounds_toArray, List.set_cons_zero, List.set_cons_succ]
                      refine qstep (o := ⟨some 200, _, _, _, _, _⟩) (v := ?_) (by rfl) (fun wq hSw => ?_) ?_
                      rotate_left
                      · (try dsimp only at hSw); go_simp; try with_reducible rfl
                      try simp only [Act.put, List.setIfInBounds_toArray, List.set_cons_zero, List.set_cons_succ]
                      refine qstep (o := ⟨some 201, _, _, _, _, _⟩) (v := ?_) (by rfl) (fun wq hSw => ?_) ?_
                      rotate_left
                      · (try dsimp only at hSw); go_simp; try with_reducible rfl
                      try simp only [Act.put, List.setIfInBounds_toArray, List.set_cons_zero, List.set_cons_succ]
                      refine qstep (o := ⟨some 202, _, _, _, _, _⟩) (v := ?_) (by rfl) (fun wq hSw => ?_) ?_
                      rotate_left
                      · (try dsimp only at hSw); go_simp; try with_reducible rfl
                      try simp only [Act.put, List.setIfInBounds_toArray, List.set_cons_zero, List.set_cons_succ]
                      refine qstep (o := ⟨some 203, _, _, _, _, _⟩) (v := ?_) (by rfl) (fun wq hSw => ?_) ?_
                      rotate_left
                      · (try dsimp only at hSw); go_simp; try with_reducible rfl
                      try simp only [Act.put, List.setIfInBounds_toArray, List.set_cons_zero, List.set_cons_succ]
                      refine qstep (o := ⟨some 204, _, _, _, _, _⟩) (v := ?_) (by rfl) (fun wq hSw => ?_) ?_
                      rotate_left
                      · (try dsimp only at hSw); go_simp; try with_reducible rfl
                      try simp only [Act.put, List.setIfInBounds_toArray, List.set_cons_zero, List.set_cons_succ]
                      refine qstep (o := ⟨some 205, _, _, _, _, _⟩) (v := ?_) (by rfl) (fun wq hSw => ?_) ?_
                      rotate_left
                      · (try dsimp only at hSw); go_simp; try with_reducible rfl
                      try simp only [Act.put, List.setIfInBounds_toArray, List.set_cons_zero, List.set_cons_succ]
                      refine qstep (o := ⟨some 206, _, _, _, _, _⟩) (v := ?_) (by rfl) (fun wq hSw => ?_) ?_
                      rotate_left
                      · (try dsimp only at hSw); go_simp; try with_reducible rfl
                      try simp only [Act.put, List.setIfInBounds_toArray, List.set_cons_zero, List.set_cons_succ]
                      refine qstep (o := ⟨some 207, _, _, _, _, _⟩) (v := .bool true) (by rfl) (fun wq hSw => ?_) ?_
                      · (try dsimp only at hSw); go_simp; try first | (with_reducible rfl) | (simp; omega) | simp [*]
                      try simp only [Act.put, List.setIfInBounds_toArray, List.set_cons_zero, List.set_cons_succ]
                      refine qstep (o := ⟨some 208, _, _, _, _, _⟩) (v := .bool true) (by rfl) (fun wq hSw => ?_) ?_
                      · (try dsimp only at hSw); go_simp; try first | (with_reducible rfl) | (simp; omega) | simp [*]
                      try simp only [Act.put, List.setIfInBounds_toArray, List.set_cons_zero, List.set_cons_succ]
                      refine qstep (o := ⟨some 209, _, _, _, _, _⟩) (v := ?_) (by rfl) (fun wq hSw => ?_) ?_
                      rotate_left
                      · (try dsimp only at hSw); go_simp; try with_reducible rfl
                      try simp only [Act.put, List.setIfInBounds_toArray, List.set_cons_zero, List.set_cons_succ]
                      refine qcall (o := ⟨some 210, _, _, _, _, _⟩) (v := .agg #[.int .u64 (v : Int), .string ⟨#[]⟩, .int .u64 0]) (by rfl) (fun wq hSw => ?_) (fun wq hSw => Calls.mono (peek_any _ _ _ _ 0 (v : Int) 0 ⟨#[]⟩ _ (HE2.out.mem.kept hSw.1 id id) rfl) ?_) ?_
                      · (try dsimp only at hSw); go_simp; try with_reducible rfl
                      · rintro e w9 ⟨rfl, hk⟩; exact ⟨rfl, keep2 hk hdl htl hSw⟩
                      try simp only [Act.put, List.setIfInBounds_toArray, List.set_cons_zero, List.set_cons_succ]
                      refine qstep (o := ⟨some 211, _, _, _, _, _⟩) (v := ?_) (by rfl) (fun wq hSw => ?_) ?_
                      rotate_left
                      · (try dsimp only at hSw); go_simp; try with_reducible rfl
                      try simp only [Act.put, List.setIfInBounds_toArray, List.set_cons_zero, List.set_cons_succ]
                      refine qstep (o := ⟨some 212, _, _, _, _, _⟩) (v := ?_) (by rfl) (fun wq hSw => ?_) ?_
                      rotate_left
                      · (try dsimp only at hSw); go_simp; try with_reducible rfl
                      try simp only [Act.put, List.setIfInBounds_toArray, List.set_cons_zero, List.set_cons_succ]
                      refine qstep (o := ⟨some 213, _, _, _, _, _⟩) (v := ?_) (by rfl) (fun wq hSw => ?_) ?_
                      rotate_left
                      · (try dsimp only at hSw); go_simp; try with_reducible rfl
                      try simp only [Act.put, List.setIfInBounds_toArray, List.set_cons_zero, List.set_cons_succ]
                      refine qstep (o := ⟨some 214, _, _, _, _, _⟩) (v := ?_) (by rfl) (fun wq hSw => ?_) ?_
                      rotate_left
                      · (try dsimp only at hSw); go_simp; try with_reducible rfl
                      try simp only [Act.put, List.setIfInBounds_toArray, List.set_cons_zero, List.set_cons_succ]
                      refine qstep (o := ⟨some 215, _, _, _, _, _⟩) (v := .int .i64 (d : Int)) (by rfl) (fun wq hSw => ?_) ?_
                      · (try dsimp only at hSw); go_simp; try first | (with_reducible rfl) | (simp; omega) | simp [*]
                      try simp only [Act.put, List.setIfInBounds_toArray, List.set_cons_zero, List.set_cons_succ]
                      refine qstep (o := ⟨some 216, _, _, _, _, _⟩) (v := ?_) (by rfl) (fun wq hSw => ?_) ?_
                      rotate_left
                      · (try dsimp only at hSw); go_simp; try with_reducible rfl
                      try simp only [Act.put, List.setIfInBounds_toArray, List.set_cons_zero, List.set_cons_succ]
                      refine qstep (o := ⟨some 217, _, _, _, _, _⟩) (v := ?_) (by rfl) (fun wq hSw => ?_) ?_
                      rotate_left
                      · (try dsimp only at hSw); go_simp; try with_reducible rfl
                      try simp only [Act.put, List.setIfInBounds_toArray, List.set_cons_zero, List.set_cons_succ]
                      refine qstep (o := ⟨some 218, _, _, _, _, _⟩) (v := .int .u64 ((tv d : Nat) : Int)) (by rfl) (fun wq hSw => ?_) ?_
                      · (try dsimp only at hSw); go_simp; try first | (with_reducible rfl) | (simp; omega) | simp [*]
                      try simp only [Act.put, List.setIfInBounds_toArray, List.set_cons_zero, List.set_cons_succ]
                      refine qstep (o := ⟨some 219, _, _, _, _, _⟩) (v := .bool false) (by rfl) (fun wq hSw => ?_) ?_
                      · (try dsimp only at hSw); go_simp; try first | (with_reducible rfl) | (simp; omega) | simp [*]
                      try simp only [Act.put, List.setIfInBounds_toArray, List.set_cons_zero, List.set_cons_succ]
                      refine qstep (o := ⟨some 220, _, _, _, _, _⟩) (v := ?_) (by rfl) (fun wq hSw => ?_) ?_
                      rotate_left
                      · (try dsimp only at hSw); go_simp; try with_reducible rfl
                      try simp only [Act.put, List.setIfInBounds_toArray, List.set_cons_zero, List.set_cons_succ]
                      refine qstep (o := ⟨some 221, _, _, _, _, _⟩) (v := ?_) (by rfl) (fun wq hSw => ?_) ?_
                      rotate_left
                      · (try dsimp only at hSw); go_simp; try with_reducible rfl
                      try simp only [Act.put, List.setIfInBounds_toArray, List.set_cons_zero, List.set_cons_succ]
                      refine wpQuiet_nil ?_
                      intro wz hHeld
                      have HKN := Lib.hid (HKL.out.trans hHeld.1 (fun _ _ h => h))
                      clear hHeld HE2 HKL csm hdl cto
                      go_wp2
                      go_roundw
                      case rel => exact ⟨i + 1, by omega, by go_num, HKN.out⟩
                      case measure => simp [intOf]; omega
                  · go_wp2
                    go_ret
                    exact ⟨rfl, ((HC.out.base HE.out.kept).trans HKL.out (fun _ _ h => h)).below (Nat.le_refl _) (fun _ h => h.elim)⟩

theorem lawBoth_all (w : World) (A : Option Addr) (ct : Nat) (ts : List Nat) (hm : ts.length ≤ maxLen) (hts : ∀ x ∈ ts, x < 256)
    (hT : 0 < ts.length → ∃ g off, A = some ⟨g, off, none⟩ ∧ g < w.heap.size ∧ ∀ (j p : Nat), ts[j]? = some p → w.cell? ⟨g, off + j, none⟩ = some (.int .u8 (p : Int)))
    (takers : Int) (B : Option Addr) (cp : Nat) (ps : List Nat) (hm2 : ps.length ≤ maxLen) (hps : ∀ x ∈ ps, x < 256)
    (hA : 0 < ps.length → ∃ g off, B = some ⟨g, off, none⟩ ∧ g < w.heap.size ∧ ∀ (j p : Nat), ps[j]? = some p → w.cell? ⟨g, off + j, none⟩ = some (.int .u8 (p : Int))) :
    Calls Try.prog 5 #[.slice A ts.length ct, .int .i64 takers, .slice B ps.length cp] w fun e w' => e = .returned (.bool true) ∧ Below w.heap.size w w' := by
  by_cases h : ps.length ≤ 100
  · exact lawBoth A B ct cp takers ts ps w hm hts hT h hps hA
  · exact lawBoth_long A B ts.length ct ps.length cp takers w (by omega) hm2
end Go.Proofs.Ytjligbinelmhcaa
