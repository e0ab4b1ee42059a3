/-
  The walk of the statement of layer 6 'timestamps are published in order in every schedule'. Condition: the list of picks within the model's reach.
-/
import Derived.Test.YtmnfdecakjobjaaCloRun
import Derived.Test.YtmnfdecakjobjaaKeptRegion
import Derived.Deep.AppendLies
import Derived.Deep.DeepCutAuto
import Derived.Deep.CutBlock
namespace Go.Proofs.Ytmnfdecakjobjaa
open Go.RowKit Go.Deep
set_option linter.unusedVariables false

theorem keepC {W wq w9 : World} {p p' : Addr} {u x : Value} (hk : Kept (fun _ => False) wq w9) (h1 : p.block < W.heap.size) (h2 : p'.block < W.heap.size) (h : Kept (fun _ => False) W wq ∧ wq.cell? p = some u ∧ wq.cell? p' = some x) :
    Kept (fun _ => False) W w9 ∧ w9.cell? p = some u ∧ w9.cell? p' = some x :=
  ⟨h.1.trans hk (fun _ _ h => h), (hk.cell (Nat.lt_of_lt_of_le h1 h.1.size) id).trans h.2.1, (hk.cell (Nat.lt_of_lt_of_le h2 h.1.size) id).trans h.2.2⟩
theorem keepD {W wq w9 : World} {p' : Addr} {x : Value} (hk : Kept (fun _ => False) wq w9) (h2 : p'.block < W.heap.size) (h : Kept (fun _ => False) W wq ∧ wq.cell? p' = some x) :
    Kept (fun _ => False) W w9 ∧ w9.cell? p' = some x :=
  ⟨h.1.trans hk (fun _ _ h => h), (hk.cell (Nat.lt_of_lt_of_le h2 h.1.size) id).trans h.2⟩
theorem set_id {L : List Mac} {t : Nat} {y : Mac} (h : L[t]? = some y) : L.set t y = L := by
  apply List.ext_getElem?
  intro j
  by_cases hj : j = t
  · subst hj; rw [set_self h, h]
  · rw [List.getElem?_set_ne (fun e => hj e.symm)]
theorem Run.idle {W0 wr : World} {b g gs gp n P k lim : Nat} {Q : List Nat} {L : List Mac} {A V c t : Nat} {R : Nat → Nat} {y : Mac} (E : Run W0 wr b g gs gp n P k lim Q L A V c R) (hy : L[t]? = some y) (hs : y.1 = 3 ∨ y.1 = 5) (h : k < P ∨ t = k % n) : Run W0 wr b g gs gp n P (k + 1) lim Q L A V c R := by
  have e1 : nexty lim y A V = y := by
    unfold nexty pmoved
    rcases hs with e | e <;> simp [e]
  have := E.next (y' := y) (A' := A) (V' := V) (c' := c) (R' := R) (wz := wr) hy h e1 (by unfold counts; rw [if_neg (by omega)]) (by unfold pcounts; rw [if_neg (by omega)]) (Nat.le_succ _) (by rw [set_id hy]; exact E.wld)
  rwa [set_id hy] at this

set_option maxRecDepth 100000 in
set_option maxHeartbeats 2000000 in
theorem lawPub_long (threads : Int) (limit : Nat) (A : Option Addr) (m c : Nat) (w : World) (hl : limit < 256) (hn : 200 < m) (hm : m ≤ maxLen) :
    Calls Try.prog 3 #[.int .i64 threads, .int .u8 (limit : Int), .slice A m c] w fun e w' => e = .returned (.bool true) ∧ Below w.heap.size w w' := by
  unfold maxLen at hm
  obtain ⟨r, hr, hr2⟩ := mod_ex threads 6 (by omega)
  have HR := Lib.hid hr
  obtain ⟨n, hnn⟩ : ∃ n : Nat, (1 : Int) + r = n := ⟨1 + r, by omega⟩
  have hr3 : r < 6 := by omega
  have hn1 : 1 ≤ n ∧ n ≤ 6 := by omega
  obtain ⟨hn1, hn6⟩ := hn1
  obtain ⟨lm, hlm⟩ : ∃ f : Nat, f = limit % 9 := ⟨_, rfl⟩
  have hm1 : (limit : Int) % 9 = (lm : Int) := by rw [hlm]; rfl
  have hm2 : (limit : Int).tmod 9 = (lm : Int) := by rw [hlm]; rfl
  have hlm9 : lm ≤ 8 := by omega
  obtain ⟨lim, hlim⟩ : ∃ f : Nat, (1 : Int) + lm = f := ⟨1 + lm, by omega⟩
  have hl1 : 1 ≤ lim := by omega
  have hl9 : lim ≤ 9 := by omega
  have HN := Lib.hid hnn
  have HLM := Lib.hid hlim
  clear hr hnn hr2 hlm hlim
  go_enter Try.func3, Try.ntmps3
  go_wp2_with fail
  refine (mod_of _ _ r _ (by omega) (by omega) HR.out).mono ?_; rintro e w2 ⟨rfl, rfl⟩
  go_wp2_with fail
  rw [HN.out]
  refine (kitConfig_any (n : Int) _).mono ?_; rintro e w3 ⟨rfl, hK3⟩
  have HK3 := Lib.hid hK3
  clear hK3
  go_wp2_with fail
  rw [HLM.out]
  have HCC := Lib.hid (Blk.new w3 [.int .i64 (n : Int), .int .i64 2, .int .i64 100, .int .i64 100, .int .i64 200, .int .i64 4, .int .u64 (lim : Int)] 26)
  have HK4 := Lib.hid (HK3.out.alloc (.cells #[.int .i64 (n : Int), .int .i64 2, .int .i64 100, .int .i64 100, .int .i64 200, .int .i64 4, .int .u64 (lim : Int)] 26))
  generalize w3.alloc (.cells #[.int .i64 (n : Int), .int .i64 2, .int .i64 100, .int .i64 100, .int .i64 200, .int .i64 4, .int .u64 (lim : Int)] 26) = W4 at *
  have hcw : Hid (w.heap.size ≤ w3.heap.size) := Lib.hid HK3.out.size
  clear HK3
  generalize w3.heap.size = cc at *
  refine (kitMem (n : Int) lim (by omega) (by omega) (by omega) (by omega) _).mono ?_
  intro e w5 hok
  obtain ⟨b, g, l, fa, fb, fd, rfl, hM5, hC5, hl5, hb5, hg5, hK5⟩ := hok
  have HM5 := Lib.hid hM5
  have HC5 := Lib.hid hC5
  have HB5 := Lib.hid (show w.heap.size ≤ b ∧ w.heap.size ≤ g ∧ cc ≠ b ∧ cc ≠ g by have := HK4.out.size; have := HCC.out.lt; omega)
  have HCC5 := Lib.hid (hK5.blk HCC.out id)
  have HK5 := Lib.hid (HK4.out.trans hK5 (fun _ _ h => h))
  clear hM5 hC5 hl5 hb5 hg5 hK5 HCC HK4
  go_wp2_with fail
  have HL6 := Lib.hid (Blk.new w5 [.int .i64 (n : Int), .int .i64 2, .int .i64 100, .int .i64 100, .int .i64 200, .int .i64 4, .int .u64 (lim : Int), .int .i64 fa, .int .i64 fb, .int .i64 fd] 29)
  have HM6 := Lib.hid (HM5.out.alloc (.cells #[.int .i64 (n : Int), .int .i64 2, .int .i64 100, .int .i64 100, .int .i64 200, .int .i64 4, .int .u64 (lim : Int), .int .i64 fa, .int .i64 fb, .int .i64 fd] 29))
  have HCC6 := Lib.hid (HCC5.out.alloc (.cells #[.int .i64 (n : Int), .int .i64 2, .int .i64 100, .int .i64 100, .int .i64 200, .int .i64 4, .int .u64 (lim : Int), .int .i64 fa, .int .i64 fb, .int .i64 fd] 29))
  have HK6 := Lib.hid (HK5.out.alloc (.cells #[.int .i64 (n : Int), .int .i64 2, .int .i64 100, .int .i64 100, .int .i64 200, .int .i64 4, .int .u64 (lim : Int), .int .i64 fa, .int .i64 fb, .int .i64 fd] 29))
  have HS6 := Lib.hid (show w5.heap.size ≠ b ∧ w5.heap.size ≠ g by have := HM5.out.obj.lt; have := HM5.out.row.lt; omega)
  clear HM5 HCC5 HK5
  generalize w5.alloc (.cells #[.int .i64 (n : Int), .int .i64 2, .int .i64 100, .int .i64 100, .int .i64 200, .int .i64 4, .int .u64 (lim : Int), .int .i64 fa, .int .i64 fb, .int .i64 fd] 29) = W6 at *
  generalize w5.heap.size = s at *
  refine (awake_any _).mono ?_; rintro e w7 ⟨rfl, hK7⟩
  have HL7 := Lib.hid (hK7.blk HL6.out id)
  have HM7 := Lib.hid (HM6.out.kept hK7 id id)
  have HCC7 := Lib.hid (hK7.blk HCC6.out id)
  have HK7 := Lib.hid (HK6.out.trans hK7 (fun _ _ h => h))
  clear hK7 HL6 HM6 HCC6 HK6
  go_wp2_with fail
  refine (awake_any _).mono ?_; rintro e w8 ⟨rfl, hK8⟩
  have HK8 := Lib.hid (HK7.out.trans hK8 (fun _ _ h => h))
  clear hK8
  go_wp2
  go_ret
  exact ⟨rfl, HK8.out.below (Nat.le_refl _) (fun _ h => h.elim)⟩

set_option maxRecDepth 100000 in
set_option maxHeartbeats 16000000 in
theorem lawPub (threads : Int) (limit : Nat) (A0 : Option Addr) (c0 : Nat) (ps : List Nat) (w : World) (hl : limit < 256) (hn : ps.length ≤ 200) (hps : ∀ x ∈ ps, x < 256)
    (hA : 0 < ps.length → ∃ g off, A0 = some ⟨g, off, none⟩ ∧ g < w.heap.size ∧ ∀ (j p : Nat), ps[j]? = some p → w.cell? ⟨g, off + j, none⟩ = some (.int .u8 (p : Int))) :
    Calls Try.prog 3 #[.int .i64 threads, .int .u8 (limit : Int), .slice A0 ps.length c0] w fun e w' => e = .returned (.bool true) ∧ Below w.heap.size w w' := by
  have HA := Lib.hid hA
  have HP := Lib.hid hps
  clear hA hps
  obtain ⟨r, hr, hr2⟩ := mod_ex threads 6 (by omega)
  have HR := Lib.hid hr
  obtain ⟨n, hnn⟩ : ∃ n : Nat, (1 : Int) + r = n := ⟨1 + r, by omega⟩
  have hr3 : r < 6 := by omega
  have hn1 : 1 ≤ n ∧ n ≤ 6 := by omega
  obtain ⟨hn1, hn6⟩ := hn1
  obtain ⟨lm, hlm⟩ : ∃ f : Nat, f = limit % 9 := ⟨_, rfl⟩
  have hm1 : (limit : Int) % 9 = (lm : Int) := by rw [hlm]; rfl
  have hm2 : (limit : Int).tmod 9 = (lm : Int) := by rw [hlm]; rfl
  have hlm9 : lm ≤ 8 := by omega
  obtain ⟨lim, hlim⟩ : ∃ f : Nat, (1 : Int) + lm = f := ⟨1 + lm, by omega⟩
  have hl1 : 1 ≤ lim := by omega
  have hl9 : lim ≤ 9 := by omega
  have HN := Lib.hid hnn
  have HLM := Lib.hid hlim
  clear hr hnn hr2 hlm hlim
  have hmk1 := make_pubs n (by omega)
  have hmk2 := make_ints n (by omega)
  obtain ⟨i0, hi, hz0, hz1, hz2⟩ := info_parts Try.info35
  have HI := Lib.hid hi
  have HZ0 := Lib.hid hz0
  have HZ1 := Lib.hid hz1
  have HZ2 := Lib.hid hz2
  clear hi hz0 hz1 hz2
  go_enter Try.func3, Try.ntmps3
  go_wp2_with fail
  refine (mod_of _ _ r _ (by omega) (by omega) HR.out).mono ?_; rintro e w2 ⟨rfl, rfl⟩
  go_wp2_with fail
  rw [HN.out]
  refine (kitConfig_any (n : Int) _).mono ?_; rintro e w3 ⟨rfl, hK3⟩
  have HK3 := Lib.hid hK3
  clear hK3
  go_wp2_with fail
  rw [HLM.out]
  have HCC := Lib.hid (Blk.new w3 [.int .i64 (n : Int), .int .i64 2, .int .i64 100, .int .i64 100, .int .i64 200, .int .i64 4, .int .u64 (lim : Int)] 26)
  have HK4 := Lib.hid (HK3.out.alloc (.cells #[.int .i64 (n : Int), .int .i64 2, .int .i64 100, .int .i64 100, .int .i64 200, .int .i64 4, .int .u64 (lim : Int)] 26))
  generalize w3.alloc (.cells #[.int .i64 (n : Int), .int .i64 2, .int .i64 100, .int .i64 100, .int .i64 200, .int .i64 4, .int .u64 (lim : Int)] 26) = W4 at *
  have hcw : Hid (w.heap.size ≤ w3.heap.size) := Lib.hid HK3.out.size
  clear HK3
  generalize w3.heap.size = cc at *
  refine (kitMem (n : Int) lim (by omega) (by omega) (by omega) (by omega) _).mono ?_
  intro e w5 hok
  obtain ⟨b, g, l, fa, fb, fd, rfl, hM5, hC5, hl5, hb5, hg5, hK5⟩ := hok
  have HM5 := Lib.hid hM5
  have HC5 := Lib.hid hC5
  have HB5 := Lib.hid (show w.heap.size ≤ b ∧ w.heap.size ≤ g ∧ cc ≠ b ∧ cc ≠ g by have := HK4.out.size; have := HCC.out.lt; omega)
  have HCC5 := Lib.hid (hK5.blk HCC.out id)
  have HK5 := Lib.hid (HK4.out.trans hK5 (fun _ _ h => h))
  clear hM5 hC5 hl5 hb5 hg5 hK5 HCC HK4
  go_wp2_with fail
  have HL6 := Lib.hid (Blk.new w5 [.int .i64 (n : Int), .int .i64 2, .int .i64 100, .int .i64 100, .int .i64 200, .int .i64 4, .int .u64 (lim : Int), .int .i64 fa, .int .i64 fb, .int .i64 fd] 29)
  have HM6 := Lib.hid (HM5.out.alloc (.cells #[.int .i64 (n : Int), .int .i64 2, .int .i64 100, .int .i64 100, .int .i64 200, .int .i64 4, .int .u64 (lim : Int), .int .i64 fa, .int .i64 fb, .int .i64 fd] 29))
  have HCC6 := Lib.hid (HCC5.out.alloc (.cells #[.int .i64 (n : Int), .int .i64 2, .int .i64 100, .int .i64 100, .int .i64 200, .int .i64 4, .int .u64 (lim : Int), .int .i64 fa, .int .i64 fb, .int .i64 fd] 29))
  have HK6 := Lib.hid (HK5.out.alloc (.cells #[.int .i64 (n : Int), .int .i64 2, .int .i64 100, .int .i64 100, .int .i64 200, .int .i64 4, .int .u64 (lim : Int), .int .i64 fa, .int .i64 fb, .int .i64 fd] 29))
  have HS6 := Lib.hid (show w5.heap.size ≠ b ∧ w5.heap.size ≠ g by have := HM5.out.obj.lt; have := HM5.out.row.lt; omega)
  clear HM5 HCC5 HK5
  generalize w5.alloc (.cells #[.int .i64 (n : Int), .int .i64 2, .int .i64 100, .int .i64 100, .int .i64 200, .int .i64 4, .int .u64 (lim : Int), .int .i64 fa, .int .i64 fb, .int .i64 fd] 29) = W6 at *
  generalize w5.heap.size = s at *
  refine (awake_any _).mono ?_; rintro e w7 ⟨rfl, hK7⟩
  have HL7 := Lib.hid (hK7.blk HL6.out id)
  have HM7 := Lib.hid (HM6.out.kept hK7 id id)
  have HCC7 := Lib.hid (hK7.blk HCC6.out id)
  have HK7 := Lib.hid (HK6.out.trans hK7 (fun _ _ h => h))
  clear hK7 HL6 HM6 HCC6 HK6
  go_wp2_with fail
  go_loopw [11, 12] (fun v i wr => ∃ (j : Nat) (Q : List Nat), j ≤ n ∧ i = .int .i64 j ∧ Mk lim w7 wr b g j l Q v) (fun _ i _ => n - (intOf i).toNat)
  case atStart => exact ⟨0, [], by omega, rfl, Mk.start HM7.out⟩
  case round =>
    obtain ⟨j, Q, hj, rfl, hS⟩ := hrel
    have HS := Lib.hid hS
    clear hS
    by_cases hlt : j < n
    · have hL := HS.out.kept.blk HL7.out id
      have x0 := hL.cell (i := 0) rfl
      have x1 := hL.cell (i := 1) rfl
      have x2 := hL.cell (i := 2) rfl
      have x3 := hL.cell (i := 3) rfl
      have x4 := hL.cell (i := 4) rfl
      have x5 := hL.cell (i := 5) rfl
      have x6 := hL.cell (i := 6) rfl
      have x7 := hL.cell (i := 7) rfl
      have x8 := hL.cell (i := 8) rfl
      have x9 := hL.cell (i := 9) rfl
      clear hL
      go_wp2_with fail
      refine (newAllocate_any (n : Int) 2 100 100 200 4 fa fb fd lim _).mono ?_
      rintro e W8 ⟨p, q, rfl, hP8, hQ8, hq8, rfl, hz8, hK8⟩
      clear x0 x1 x2 x3 x4 x5 x6 x7 x8 x9
      have HO8 := Lib.hid (ownsRow_kept HS.out.own hK8 (fun _ _ _ => id))
      have HP8 := Lib.hid hP8
      have HQ8 := Lib.hid hQ8
      have HK8 := Lib.hid hK8
      have Hq8 := Lib.hid hq8
      have HZ8 := Lib.hid hz8
      have hzz : Hid (w7.heap.size ≤ W8.heap.size) := Lib.hid (by have := HS.out.kept.size; have := HK8.out.size; omega)
      clear hP8 hQ8 hK8 hq8 hz8
      go_wp2_with (at_builtin; go_must (refine wpList_append_lies _ rfl (.tmp 63) (.tmp 66) 34 rfl w7.heap.size 35 i0 _ 1 8 Try.underlying34 HI.out HZ0.out HZ1.out HZ2.out rfl (by decide) _ j (aptrs Q) rfl (HO8.out.alloc _) ⟨W8.heap.size, 0, none⟩ 1 1 [.pointer (some ⟨q + 1, 0, none⟩)] rfl rfl (World.news_of_block (cs := #[.pointer (some ⟨q + 1, 0, none⟩)]) (t := 35) (fr := (0, 0)) (heap_alloc_new W8 _)) (by simp [Value.oneCell']) (by omega) ?ap1 ?ap2 ?ap3 _ rfl ?_))
      try case ap1 => unfold maxLen; omega
      try case ap2 => omega
      try case ap3 => rw [nblk_alloc]; have := hzz.out; omega
      intro g4 cap4 w9 hown9 hgrow9 hor9 _
      have HMK := Lib.hid (Mk.push HM7.out.obj.lt HM7.out.row.lt HS.out HK8.out Hq8.out HZ8.out HP8.out HQ8.out hown9 hgrow9 hor9)
      clear hown9 hgrow9 hor9 HS HO8 HP8 HQ8 HK8 Hq8 HZ8 hzz
      go_wp2
      go_roundw
      case rel => exact ⟨j + 1, _, by omega, by go_num, HMK.out⟩
      case measure => simp [intOf]; omega
    · obtain rfl : j = n := by omega
      obtain ⟨ga, cap, rfl, hga, hgl, hcs⟩ := own_slice HS.out.own (by omega)
      have hC := Mk.ctx HK7.out ⟨HB5.out.1, HM7.out.obj.lt⟩ ⟨HB5.out.2.1, HM7.out.row.lt⟩ HL7.out HS6.out HCC7.out HB5.out.2.2 HS.out hga hgl hcs
      have hE := Mk.run (P := ps.length) hn1 hn6 hl1 hl9 HC5.out HS.out (fun _ => 0)
      unfold rows at hC hE
      go_wp2_with fail
      have hgr : Hid (∃ x, x = wr.heap.size) := Lib.hid ⟨_, rfl⟩
      generalize (wr.alloc (.cells (Array.replicate j (.pointer none)) 46)).alloc (.cells (Array.replicate j (.int .i64 0)) 3) = W0 at *
      generalize wr.heap.size = gp at *
      have HC := Lib.hid hC
      have HE := Lib.hid hE
      have hgan : ga ≠ gp + 1 := by omega
      clear hC hE hcs hga hgl HS HK7 HM7 HL7 HCC7 HC5 HB5 HS6 hmk1 hmk2 HI HZ0 HZ1 HZ2 hgr hm1 hm2 hlm9 HLM hl HR HN hr3 hlt i0 hcw
      go_loopw [15] (fun i wf => ∃ (k : Nat) (L : List Mac) (A V a : Nat) (R : Nat → Nat), k ≤ ps.length + 60 * j ∧ i = .int .i64 k ∧ Run W0 wf b g (gp + 1) gp j ps.length k lim Q L A V a R)
        (fun i _ => ps.length + 60 * j - (intOf i).toNat)
      case atStart => exact ⟨0, _, _, _, 0, _, by omega, rfl, HE.out⟩
      case round =>
        obtain ⟨k, L, A, V, a, R, hk, rfl, hE⟩ := hrel
        clear HE
        have HE := Lib.hid hE
        clear hE
        by_cases hlt : k < ps.length + 60 * j
        · obtain ⟨q, hq⟩ : ∃ q : Nat, q = k % j := ⟨_, rfl⟩
          have hqn : q < j := by rw [hq]; exact Nat.mod_lt _ (by omega)
          have hq1 : (k : Int) % (j : Int) = (q : Int) := by rw [hq]; rfl
          have hq2 : (k : Int).tmod (j : Int) = (q : Int) := by rw [hq]; rfl
          have Hq := Lib.hid hq
          clear hq
          go_upto_if 87 with fail
          go_cut [16] (fun t wx => ∃ tt : Nat, t = .int .i64 tt ∧ tt < j ∧ (k < ps.length ∨ tt = k % j) ∧ wx = wr)
          case first =>
            by_cases hkp : k < ps.length
            · obtain ⟨g0, off, rfl, hg0, hcell⟩ := HA.out (by omega)
              obtain ⟨p, hp⟩ : ∃ p, p = ps[k] := ⟨_, rfl⟩
              have hp256 : p < 256 := by rw [hp]; exact HP.out _ (List.getElem_mem _)
              have hpc : wr.cell? ⟨g0, off + k, none⟩ = some (.int .u8 (p : Int)) := by
                rw [(HC.out.base HE.out.wld.kept).cell (p := ⟨g0, off + k, none⟩) hg0 id]; exact hcell k p (by rw [List.getElem?_eq_getElem hkp, hp])
              obtain ⟨s', hs⟩ : ∃ s' : Nat, s' = p % j := ⟨_, rfl⟩
              have hsn : s' < j := by rw [hs]; exact Nat.mod_lt _ (by omega)
              have hs1 : (p : Int) % (j : Int) = (s' : Int) := by rw [hs]; rfl
              have hs2 : (p : Int).tmod (j : Int) = (s' : Int) := by rw [hs]; rfl
              clear hs hp hcell
              go_wp2
              go_meet
              exact ⟨s', rfl, hsn, .inl hkp, rfl⟩
            · have hkd : decide (k < ps.length) = false := by simpa using hkp
              go_wp2
              go_meet
              exact ⟨q, rfl, hqn, .inr Hq.out, rfl⟩
          case rest =>
            obtain ⟨t, rfl, htj, hor, rfl⟩ := hcut
            have HOR := Lib.hid hor
            clear Hq hq1 hq2 hqn hor
            go_wp2_with fail
            obtain ⟨l0, hM0, hC0⟩ := HE.out.wld.mem
            refine (accesses_any b g l0 a _ hM0).mono ?_; rintro e w6 ⟨rfl, rfl⟩
            go_wp2_with fail
            refine (peek_any b g l0 a 2 (V : Int) 0 ⟨#[]⟩ _ hM0 hC0.v).mono ?_; rintro e w6 ⟨rfl, hK6⟩
            have hfd := field0 (V : Int) 0 ⟨#[]⟩
            have HE6 := Lib.hid (HE.out.still hK6)
            clear hK6 hM0 hC0 HE
            obtain ⟨qq, hqq⟩ := HC.out.machine htj
            obtain ⟨y, hy⟩ := HE6.out.state htj
            obtain ⟨st, N⟩ := y
            have hst : st ≤ 5 := HE6.out.ck.st t _ hy
            have hN : N ≤ 9 := HE6.out.ck.sm t _ hy
            have hAl : A ≤ lim := HE6.out.ck.le
            have hVA0 : V ≤ A := HE6.out.ck.va
            have hak : a ≤ k := HE6.out.acc
            obtain ⟨sv, hsv⟩ : ∃ sv : Int, stOf (st, N) = sv := ⟨_, rfl⟩
            have cst : w6.cell? ⟨gp + 1, t, none⟩ = some (.int .i64 sv) := hsv ▸ HE6.out.wld.bs.cell (sts_at hy)
            have cpt := HC.out.ptr HE6.out.wld.kept hqq
            have HSV := Lib.hid hsv
            have HY := Lib.hid hy
            have HQQ := Lib.hid hqq
            clear hy hqq hsv
            go_upto_block 4 with fail
            go_cut [19, 20, 21, 22] (fun _ _ _ _ wx => ∃ (L' : List Mac) (A' V' a' : Nat) (R' : Nat → Nat), a' ≤ a + 1 ∧ (V' = V ∨ V' = V + 1 ∧ (sts L')[t]? = some (.int .i64 2)) ∧ Run W0 wx b g (gp + 1) gp j ps.length (k + 1) lim Q L' A' V' a' R')
            case first =>
              have hown := HC.out.own HQQ.out
              have hqb : qq ≠ b := hown.2.1
              have hqg : qq ≠ g := hown.2.2.1
              obtain ⟨l6, hM6, hC6⟩ := HE6.out.wld.mem
              have hP6 := HC.out.alloc HE6.out.wld.kept HQQ.out
              clear hown
              rcases (by omega : st = 0 ∨ st = 1 ∨ st = 2 ∨ st = 3 ∨ st = 4 ∨ st = 5) with rfl | rfl | rfl | rfl | rfl | rfl
              · skip
                obtain rfl : sv = 0 := HSV.out.symm.trans rfl
                have hB := HE6.out.wld.tak t _ qq HY.out HQQ.out
                by_cases hla : lim ≤ A
                · go_wp2_with fail
                  refine (alloc_pick (y := (0, N)) (y' := (3, A)) (A' := A) (r := true) (c' := a + 1) (by simp) hP6 hB hM6 hC6 hqb hqg (by omega) (by simp only; omega) (by simp [moved, hla]) rfl rfl rfl).mono ?_; rintro e w7 ⟨rfl, l7, hM7, _, hC7, hB7, hK7⟩
                  have hW7 := HE6.out.wld.alloc (y' := (3, A)) HC.out HY.out HQQ.out (Has.no HY.out rfl) hK7 ⟨l7, hM7, hC7⟩ hB7
                  clear hM7 hC7 hB7 hK7 hM6 hC6 hB hP6
                  have hW8 := hW7.store HC.out t (.int .i64 2)
                  have xs : w7.cell? ⟨gp + 1, t, none⟩ = some (.int .i64 0) := hW7.bs.cell (sts_at HY.out)
                  have zs := hW7.bs.frozen t
                  have cpt : w7.cell? ⟨ga, t, none⟩ = some (.pointer (some ⟨qq + 1, 0, none⟩)) := HC.out.ptr hW7.kept HQQ.out
                  have HP8 := Lib.hid (HC.out.alloc hW8.kept HQQ.out)
                  have HT8 := Lib.hid (hW8.tak t _ qq (set_self HY.out) HQQ.out)
                  have HW8 := Lib.hid hW8
                  clear hW7 hW8
                  have HNX := Lib.hid (HE6.out.next (y' := (3, A)) (A' := A) (V' := V) (c' := a + 1) HY.out HOR.out (by simp [nexty, moved, hla]) rfl rfl (Nat.le_refl _) (by rw [sts_set]; exact HW8.out.weak (fun i h => Has.back (y' := (3, A)) HY.out rfl h)))
                  go_wp2_with fail
                  refine (allocTime_of HP8.out (number_no qq _ 1 A ⟨#[]⟩ 0 _ _ lim _ HT8.out)).mono ?_; rintro e w9 ⟨rfl, rfl⟩
                  go_wp2
                  go_meet
                  exact ⟨_, _, _, _, _, Nat.le_refl _, (.inl rfl), HNX.out⟩
                · go_wp2_with fail
                  refine (alloc_pick (y := (0, N)) (y' := (1, A)) (A' := A) (r := false) (c' := a + 1) (by simp) hP6 hB hM6 hC6 hqb hqg (by omega) (by simp only; omega) (by simp [moved, hla]) rfl rfl rfl).mono ?_; rintro e w7 ⟨rfl, l7, hM7, _, hC7, hB7, hK7⟩
                  have hW7 := HE6.out.wld.alloc (y' := (1, A)) HC.out HY.out HQQ.out (Has.no HY.out rfl) hK7 ⟨l7, hM7, hC7⟩ hB7
                  clear hM7 hC7 hB7 hK7 hM6 hC6 hB hP6
                  have HNX := Lib.hid (HE6.out.next (y' := (1, A)) (A' := A) (V' := V) (c' := a + 1) HY.out HOR.out (by simp [nexty, moved, hla]) rfl rfl (Nat.le_refl _) (by rw [sts_same HY.out (y' := (1, A)) rfl]; exact hW7.weak (fun i h => Has.back (y' := (1, A)) HY.out rfl h)))
                  clear hW7
                  go_wp2
                  go_meet
                  exact ⟨_, _, _, _, _, Nat.le_refl _, (.inl rfl), HNX.out⟩
              · obtain rfl : sv = 0 := HSV.out.symm.trans rfl
                have hB := HE6.out.wld.tak t _ qq HY.out HQQ.out
                by_cases hla : N = A
                · have HLA := Lib.hid hla
                  clear hla
                  go_wp2_with fail
                  refine (alloc_pick (y := (1, N)) (y' := (2, N)) (A' := (N + 1)) (r := true) (c' := a + 1) (by simp) hP6 hB hM6 hC6 hqb hqg (by omega) (by simp only; omega) (by simp [moved, HLA.out]) (by simp [counts, HLA.out]) rfl rfl).mono ?_; rintro e w7 ⟨rfl, l7, hM7, _, hC7, hB7, hK7⟩
                  have hW7 := HE6.out.wld.alloc (y' := (2, N)) HC.out HY.out HQQ.out (Has.no HY.out rfl) hK7 ⟨l7, hM7, hC7⟩ hB7
                  clear hM7 hC7 hB7 hK7 hM6 hC6 hB hP6
                  have hW8 := hW7.store HC.out t (.int .i64 2)
                  have xs : w7.cell? ⟨gp + 1, t, none⟩ = some (.int .i64 0) := hW7.bs.cell (sts_at HY.out)
                  have zs := hW7.bs.frozen t
                  have cpt : w7.cell? ⟨ga, t, none⟩ = some (.pointer (some ⟨qq + 1, 0, none⟩)) := HC.out.ptr hW7.kept HQQ.out
                  have HP8 := Lib.hid (HC.out.alloc hW8.kept HQQ.out)
                  have HT8 := Lib.hid (hW8.tak t _ qq (set_self HY.out) HQQ.out)
                  have HW8 := Lib.hid hW8
                  clear hW7 hW8
                  go_wp2_with fail
                  refine (allocTime_of HP8.out (number_yes qq _ 1 N ⟨#[]⟩ 0 _ _ lim _ HT8.out (by omega))).mono ?_; rintro e w9 ⟨rfl, rfl⟩
                  have hL := HC.out.layout HW8.out.kept
                  generalize w7.setCell ⟨gp + 1, t, none⟩ (.int .i64 2) = W8 at *
                  clear xs zs cpt
                  have x0 := hL.cell (i := 0) rfl
                  have x1 := hL.cell (i := 1) rfl
                  have x2 := hL.cell (i := 2) rfl
                  have x3 := hL.cell (i := 3) rfl
                  have x4 := hL.cell (i := 4) rfl
                  have x5 := hL.cell (i := 5) rfl
                  have x6 := hL.cell (i := 6) rfl
                  have x7 := hL.cell (i := 7) rfl
                  have x8 := hL.cell (i := 8) rfl
                  have x9 := hL.cell (i := 9) rfl
                  clear hL
                  go_wp2_with fail
                  refine (newPublish_any (j : Int) 2 100 100 200 4 fa fb fd lim (N + 1) _).mono ?_
                  rintro e w9 ⟨r9, rfl, hR9, hr9, hz9, hK9⟩
                  clear x0 x1 x2 x3 x4 x5 x6 x7 x8 x9
                  have hW9 := HW8.out.still hK9
                  have hlp := HC.out.lp
                  have hls := HC.out.ls
                  have hr0 : W0.heap.size ≤ r9 := Nat.le_trans HW8.out.kept.size hr9
                  have hne : ∀ i, Has L i → R i ≠ r9 := fun i hi e => by
                    have h := HW8.out.has i hi
                    have := (HW8.out.pub i _ hi (List.getElem?_eq_getElem h)).lt
                    omega
                  have xs : w9.cell? ⟨gp + 1, t, none⟩ = some (.int .i64 2) := hW9.bs.cell (List.getElem?_set_self (by unfold sts; rw [List.length_map]; exact (List.getElem?_eq_some_iff.1 HY.out).1))
                  have zs := hW9.bs.frozen t
                  obtain ⟨pr, hpr1, hpr2, _⟩ := hW9.pr
                  obtain ⟨u, hu⟩ : ∃ u, pr[t]? = some u := ⟨_, List.getElem?_eq_getElem (by omega)⟩
                  have xp := hpr1.cell hu
                  have zp := hpr1.frozen t
                  have hgg : gp ≠ gp + 1 := by omega
                  have hB10 : Blk (w9.setCell ⟨gp + 1, t, none⟩ (.int .i64 1)) r9 71 (pubb (2, N)) := hR9.other (show r9 ≠ gp + 1 by omega) _
                  have hW11 := (hW9.store HC.out t (.int .i64 1)).made HC.out (set_self HY.out) htj (Has.no HY.out rfl) hr0 hne hB10
                  have HNX := Lib.hid (HE6.out.next (y' := (2, N)) (A' := N + 1) (V' := V) (c' := a + 1) HY.out HOR.out (by simp [nexty, moved, HLA.out]) (by simp [counts, HLA.out]) rfl (Nat.le_refl _) (by rw [List.set_set] at hW11; rw [sts_set]; exact hW11.weak (fun i h => h.or)))
                  clear hW11 hB10 hW9 hpr1 hpr2 hu hR9 hK9 hne HW8 HT8 HP8
                  go_wp2
                  go_meet
                  exact ⟨_, _, _, _, _, Nat.le_refl _, (.inl rfl), HNX.out⟩
                · go_wp2_with fail
                  refine (alloc_pick (y := (1, N)) (y' := (0, N)) (A' := A) (r := false) (c' := a + 1) (by simp) hP6 hB hM6 hC6 hqb hqg (by omega) (by simp only; omega) (by simp [moved, hla]) (by simp [counts, hla]) rfl rfl).mono ?_; rintro e w7 ⟨rfl, l7, hM7, _, hC7, hB7, hK7⟩
                  have hW7 := HE6.out.wld.alloc (y' := (0, N)) HC.out HY.out HQQ.out (Has.no HY.out rfl) hK7 ⟨l7, hM7, hC7⟩ hB7
                  clear hM7 hC7 hB7 hK7 hM6 hC6 hB hP6
                  have HNX := Lib.hid (HE6.out.next (y' := (0, N)) (A' := A) (V' := V) (c' := a + 1) HY.out HOR.out (by simp [nexty, moved, hla]) (by simp [counts, hla]) rfl (Nat.le_refl _) (by rw [sts_same HY.out (y' := (0, N)) rfl]; exact hW7.weak (fun i h => Has.back (y' := (0, N)) HY.out rfl h)))
                  clear hW7
                  go_wp2
                  go_meet
                  exact ⟨_, _, _, _, _, Nat.le_refl _, (.inl rfl), HNX.out⟩
              · obtain rfl : sv = 1 := HSV.out.symm.trans rfl
                by_cases hla : N = V
                · have hHas : Has L t := ⟨_, N, HY.out, rfl⟩
                  have hB := HE6.out.wld.pub t _ hHas HY.out
                  have hlow := HE6.out.wld.low t hHas
                  have hlb := HC.out.lb
                  have hlg := HC.out.lg
                  have hRb : R t ≠ b := by omega
                  have hRg : R t ≠ g := by omega
                  obtain ⟨pr, hpr1, hpr2, hpr3⟩ := HE6.out.place hHas
                  have cpp := hpr1.cell hpr3
                  clear hpr1 hpr2 hpr3
                  go_wp2_with fail
                  refine (pub_pick (y := (2, N)) (y' := (4, N)) (V' := V) (r := false) (c' := a + 1) (.inl rfl) hB hM6 hC6 hRb hRg (by omega) (by simp only; omega) (by simp [pmoved, hla]) rfl rfl rfl).mono ?_; rintro e w7 ⟨rfl, l7, hM7, _, hC7, hB7, hK7⟩
                  have hW7 := HE6.out.wld.publ (y' := (4, N)) HC.out HY.out hHas rfl hK7 ⟨l7, hM7, hC7⟩ hB7
                  clear hM7 hC7 hB7 hK7 hM6 hC6 hB hP6 hlow hlb hlg hRb hRg
                  have HNX := Lib.hid (HE6.out.next (y' := (4, N)) (A' := A) (V' := V) (c' := a + 1) HY.out HOR.out (by simp [nexty, pmoved, hla]) rfl rfl (Nat.le_refl _) (by rw [sts_same HY.out (y' := (4, N)) rfl]; exact hW7.weak (fun i h => Has.back (y' := (4, N)) HY.out rfl h)))
                  clear hW7
                  go_wp2
                  go_meet
                  exact ⟨_, _, _, _, _, Nat.le_refl _, (.inl rfl), HNX.out⟩
                · have hHas : Has L t := ⟨_, N, HY.out, rfl⟩
                  have hB := HE6.out.wld.pub t _ hHas HY.out
                  have hlow := HE6.out.wld.low t hHas
                  have hlb := HC.out.lb
                  have hlg := HC.out.lg
                  have hRb : R t ≠ b := by omega
                  have hRg : R t ≠ g := by omega
                  obtain ⟨pr, hpr1, hpr2, hpr3⟩ := HE6.out.place hHas
                  have cpp := hpr1.cell hpr3
                  clear hpr1 hpr2 hpr3
                  go_wp2_with fail
                  refine (pub_pick (y := (2, N)) (y' := (2, N)) (V' := V) (r := false) (c' := a + 1) (.inl rfl) hB hM6 hC6 hRb hRg (by omega) (by simp only; omega) (by simp [pmoved, hla]) rfl rfl rfl).mono ?_; rintro e w7 ⟨rfl, l7, hM7, _, hC7, hB7, hK7⟩
                  have hW7 := HE6.out.wld.publ (y' := (2, N)) HC.out HY.out hHas rfl hK7 ⟨l7, hM7, hC7⟩ hB7
                  clear hM7 hC7 hB7 hK7 hM6 hC6 hB hP6 hlow hlb hlg hRb hRg
                  have HNX := Lib.hid (HE6.out.next (y' := (2, N)) (A' := A) (V' := V) (c' := a + 1) HY.out HOR.out (by simp [nexty, pmoved, hla]) rfl rfl (Nat.le_refl _) (by rw [sts_same HY.out (y' := (2, N)) rfl]; exact hW7.weak (fun i h => Has.back (y' := (2, N)) HY.out rfl h)))
                  clear hW7
                  go_wp2
                  go_meet
                  exact ⟨_, _, _, _, _, Nat.le_refl _, (.inl rfl), HNX.out⟩
              · obtain rfl : sv = 2 := HSV.out.symm.trans rfl
                go_wp2
                go_meet
                exact ⟨_, _, _, _, _, Nat.le_succ _, .inl rfl, HE6.out.idle HY.out (.inl rfl) HOR.out⟩
              · obtain rfl : sv = 1 := HSV.out.symm.trans rfl
                have hNV : Hid (N = V) := Lib.hid (HE6.out.ck.rdy t _ HY.out rfl)
                have hHas : Has L t := ⟨_, N, HY.out, rfl⟩
                have hB := HE6.out.wld.pub t _ hHas HY.out
                have hlow := HE6.out.wld.low t hHas
                have hlb := HC.out.lb
                have hlg := HC.out.lg
                have hRb : R t ≠ b := by omega
                have hRg : R t ≠ g := by omega
                obtain ⟨pr, hpr1, hpr2, hpr3⟩ := HE6.out.place hHas
                have cpp := hpr1.cell hpr3
                clear hpr1 hpr2 hpr3
                go_wp2_with fail
                refine (pub_pick (y := (4, N)) (y' := (5, N)) (V' := (N + 1)) (r := true) (c' := a + 1) (.inr (.inl rfl)) hB hM6 hC6 hRb hRg (by omega) (by simp only; omega) rfl rfl rfl rfl).mono ?_; rintro e w7 ⟨rfl, l7, hM7, _, hC7, hB7, hK7⟩
                have hW7 := HE6.out.wld.publ (y' := (5, N)) HC.out HY.out hHas rfl hK7 ⟨l7, hM7, hC7⟩ hB7
                clear hM7 hC7 hB7 hK7 hM6 hC6 hB hP6 hlow hlb hlg hRb hRg
                have hW8 := hW7.store HC.out t (.int .i64 2)
                have xs : w7.cell? ⟨gp + 1, t, none⟩ = some (.int .i64 1) := hW7.bs.cell (sts_at HY.out)
                have zs := hW7.bs.frozen t
                have cpt : w7.cell? ⟨ga, t, none⟩ = some (.pointer (some ⟨qq + 1, 0, none⟩)) := HC.out.ptr hW7.kept HQQ.out
                have HP8 := Lib.hid (HC.out.alloc hW8.kept HQQ.out)
                have HT8 := Lib.hid (hW8.tak t _ qq (set_self HY.out) HQQ.out)
                have HW8 := Lib.hid hW8
                clear hW7 hW8
                go_wp2_with fail
                refine (allocTime_of HP8.out (number_yes qq _ 1 N ⟨#[]⟩ 0 _ _ lim _ HT8.out (by omega))).mono ?_; rintro e w9 ⟨rfl, rfl⟩
                have HNX := Lib.hid (HE6.out.next (y' := (5, N)) (A' := A) (V' := N + 1) (c' := a + 1) HY.out HOR.out (by simp [nexty, pmoved]) (by simp [counts]) rfl (Nat.le_refl _) (by rw [sts_set]; exact HW8.out.weak (fun i h => Has.back (y' := (5, N)) HY.out rfl h)))
                generalize w7.setCell ⟨gp + 1, t, none⟩ (.int .i64 2) = W8 at *
                clear xs zs cpt HP8 HT8
                go_wp2_with fail
                obtain ⟨l8, hM8, hC8⟩ := HW8.out.mem
                refine (peek_any b g l8 (a + 1) 2 ((N : Int) + 1) 0 ⟨#[]⟩ _ hM8 (hC8.v.trans (by simp))).mono ?_; rintro e w10 ⟨rfl, hK10⟩
                have hfd8 := field0 ((N : Int) + 1) 0 ⟨#[]⟩
                replace HNX := Lib.hid (HNX.out.still hK10)
                clear hK10 hM8 hC8 HW8
                go_wp2
                go_meet
                exact ⟨_, _, _, _, _, Nat.le_refl _, (.inr ⟨by have := hNV.out; omega, sts_at (set_self HY.out)⟩), HNX.out⟩
              · obtain rfl : sv = 2 := HSV.out.symm.trans rfl
                go_wp2
                go_meet
                exact ⟨_, _, _, _, _, Nat.le_succ _, .inl rfl, HE6.out.idle HY.out (.inr rfl) HOR.out⟩
            case rest =>
              obtain ⟨L', A', V', a', R', ha', hV', hE'⟩ := hcut
              have HF := Lib.hid hE'
              have hA' : A' ≤ lim := hE'.ck.le
              have hVA : V' ≤ A' := hE'.ck.va
              have HV := Lib.hid hV'
              clear hE' hV' HY HQQ cst cpt HSV
              go_wp2_with fail
              obtain ⟨l9, hM9, hC9⟩ := HF.out.wld.mem
              refine (peek_any b g l9 a' 2 (V' : Int) 0 ⟨#[]⟩ _ hM9 hC9.v).mono ?_; rintro e WW ⟨rfl, hK9⟩
              have HM9 := Lib.hid (hM9.kept hK9 id id)
              have HC9 := Lib.hid hC9
              replace HF := Lib.hid (HF.out.still hK9)
              have hfd9 := field0 (V' : Int) 0 ⟨#[]⟩
              have hfda := field0 (A' : Int) 0 ⟨#[]⟩
              have hcf := HC.out.config HF.out.wld.kept
              have ccf : WW.cell? ⟨cc, 6, none⟩ = some (.int .u64 (lim : Int)) := hcf.cell (i := 6) rfl
              have hcl := hcf.lt
              have hgs := HF.out.wld.bs.lt
              have hg1 : decide ((a : Int) + 1 < (a' : Int)) = false := by simp; omega
              have hg2 : decide ((A' : Int) < (V' : Int)) = false := by simp; omega
              have hg3 : decide ((lim : Int) < (A' : Int)) = false := by simp; omega
              have hw1 : IntKind.u64.wrap ((a : Int) + 1) = (a : Int) + 1 := IntWalk.u64_in _ (by omega)
              have hw2 : IntKind.u64.wrap ((V : Int) + 1) = (V : Int) + 1 := IntWalk.u64_in _ (by omega)
              clear hK9 hM9 hC9 hcf
              go_wp2_with fail
              rcases HV.out with hv | ⟨hv, hst2⟩
              · have hg4 : ((V' : Int) != (V : Int)) = false := by rw [hv]; simp
                clear hv
                refine qregion (fun w' => Kept (fun _ => False) WW w' ∧ w'.cell? ⟨cc, 6, none⟩ = some (.int .u64 (lim : Int))) (by kernel_rfl) (by kernel_rfl) ⟨(Kept.refl _ _).drew, ccf⟩ ?_
                refine qstep (o := ⟨some 160, _, _, _, _, _⟩) (v := ?_) (by rfl) (fun wq hSw => ?_) ?_
                rotate_left
                · (try dsimp only at hSw); go_simp; try with_reducible rfl
                try simp only [Act.put, List.setIfInBounds_toArray, List.set_cons_zero, List.set_cons_succ]
                refine qcall (o := ⟨some 161, _, _, _, _, _⟩) (v := .int .u64 (a' : Int)) (by rfl) (fun wq hSw => ?_) (fun wq hSw => Calls.mono (accesses_any b g l9 a' _ (HM9.out.kept hSw.1 id id)) ?_) ?_
                · (try dsimp only at hSw); go_simp; try with_reducible rfl
                · rintro e w9 ⟨rfl, rfl⟩; exact ⟨rfl, hSw⟩
                try simp only [Act.put, List.setIfInBounds_toArray, List.set_cons_zero, List.set_cons_succ]
                refine qstep (o := ⟨some 162, _, _, _, _, _⟩) (v := ?_) (by rfl) (fun wq hSw => ?_) ?_
                rotate_left
                · (try dsimp only at hSw); go_simp; try with_reducible rfl
                try simp only [Act.put, List.setIfInBounds_toArray, List.set_cons_zero, List.set_cons_succ]
                refine qstep (o := ⟨some 163, _, _, _, _, _⟩) (v := ?_) (by rfl) (fun wq hSw => ?_) ?_
                rotate_left
                · (try dsimp only at hSw); go_simp; try with_reducible rfl
                try simp only [Act.put, List.setIfInBounds_toArray, List.set_cons_zero, List.set_cons_succ]
                refine qstep (o := ⟨some 164, _, _, _, _, _⟩) (v := .bool false) (by rfl) (fun wq hSw => ?_) ?_
                · (try dsimp only at hSw); go_simp; try first | (with_reducible rfl) | (simp; omega) | (intros; omega) | simp [*]
                try simp only [Act.put, List.setIfInBounds_toArray, List.set_cons_zero, List.set_cons_succ]
                refine qstep (o := ⟨some 165, _, _, _, _, _⟩) (v := .bool false) (by rfl) (fun wq hSw => ?_) ?_
                · (try dsimp only at hSw); go_simp; try first | (with_reducible rfl) | (simp; omega) | (intros; omega) | simp [*]
                try simp only [Act.put, List.setIfInBounds_toArray, List.set_cons_zero, List.set_cons_succ]
                refine qstep (o := ⟨some 166, _, _, _, _, _⟩) (v := ?_) (by rfl) (fun wq hSw => ?_) ?_
                rotate_left
                · (try dsimp only at hSw); go_simp; try with_reducible rfl
                try simp only [Act.put, List.setIfInBounds_toArray, List.set_cons_zero, List.set_cons_succ]
                refine qstep (o := ⟨some 167, _, _, _, _, _⟩) (v := ?_) (by rfl) (fun wq hSw => ?_) ?_
                rotate_left
                · (try dsimp only at hSw); go_simp; try with_reducible rfl
                try simp only [Act.put, List.setIfInBounds_toArray, List.set_cons_zero, List.set_cons_succ]
                refine qstep (o := ⟨some 168, _, _, _, _, _⟩) (v := .bool false) (by rfl) (fun wq hSw => ?_) ?_
                · (try dsimp only at hSw); go_simp; try first | (with_reducible rfl) | (simp; omega) | (intros; omega) | simp [*]
                try simp only [Act.put, List.setIfInBounds_toArray, List.set_cons_zero, List.set_cons_succ]
                refine qstep (o := ⟨some 169, _, _, _, _, _⟩) (v := .bool false) (by rfl) (fun wq hSw => ?_) ?_
                · (try dsimp only at hSw); go_simp; try first | (with_reducible rfl) | (simp; omega) | (intros; omega) | simp [*]
                try simp only [Act.put, List.setIfInBounds_toArray, List.set_cons_zero, List.set_cons_succ]
                go_big_quiet_skip
                try simp only [Act.put, List.setIfInBounds_toArray, List.set_cons_zero, List.set_cons_succ]
                go_big_quiet_skip
                try simp only [Act.put, List.setIfInBounds_toArray, List.set_cons_zero, List.set_cons_succ]
                go_big_quiet_skip
                try simp only [Act.put, List.setIfInBounds_toArray, List.set_cons_zero, List.set_cons_succ]
                go_big_quiet_skip
                try simp only [Act.put, List.setIfInBounds_toArray, List.set_cons_zero, List.set_cons_succ]
                go_big_quiet_skip
                try simp only [Act.put, List.setIfInBounds_toArray, List.set_cons_zero, List.set_cons_succ]
                go_big_quiet_skip
                try simp only [Act.put, List.setIfInBounds_toArray, List.set_cons_zero, List.set_cons_succ]
                go_big_quiet_skip
                try simp only [Act.put, List.setIfInBounds_toArray, List.set_cons_zero, List.set_cons_succ]
                go_big_quiet_skip
                try simp only [Act.put, List.setIfInBounds_toArray, List.set_cons_zero, List.set_cons_succ]
                go_big_quiet_skip
                try simp only [Act.put, List.setIfInBounds_toArray, List.set_cons_zero, List.set_cons_succ]
                go_big_quiet_skip
                try simp only [Act.put, List.setIfInBounds_toArray, List.set_cons_zero, List.set_cons_succ]
                go_big_quiet_skip
                try simp only [Act.put, List.setIfInBounds_toArray, List.set_cons_zero, List.set_cons_succ]
                refine qstep (o := ⟨some 181, _, _, _, _, _⟩) (v := .bool false) (by rfl) (fun wq hSw => ?_) ?_
                · (try dsimp only at hSw); go_simp; try first | (with_reducible rfl) | (simp; omega) | (intros; omega) | simp [*]
                try simp only [Act.put, List.setIfInBounds_toArray, List.set_cons_zero, List.set_cons_succ]
                refine qstep (o := ⟨some 182, _, _, _, _, _⟩) (v := .bool false) (by rfl) (fun wq hSw => ?_) ?_
                · (try dsimp only at hSw); go_simp; try first | (with_reducible rfl) | (simp; omega) | (intros; omega) | simp [*]
                try simp only [Act.put, List.setIfInBounds_toArray, List.set_cons_zero, List.set_cons_succ]
                refine qstep (o := ⟨some 183, _, _, _, _, _⟩) (v := .bool false) (by rfl) (fun wq hSw => ?_) ?_
                · (try dsimp only at hSw); go_simp; try first | (with_reducible rfl) | (simp; omega) | (intros; omega) | simp [*]
                try simp only [Act.put, List.setIfInBounds_toArray, List.set_cons_zero, List.set_cons_succ]
                refine qstep (o := ⟨some 184, _, _, _, _, _⟩) (v := ?_) (by rfl) (fun wq hSw => ?_) ?_
                rotate_left
                · (try dsimp only at hSw); go_simp; try with_reducible rfl
                try simp only [Act.put, List.setIfInBounds_toArray, List.set_cons_zero, List.set_cons_succ]
                refine qstep (o := ⟨some 185, _, _, _, _, _⟩) (v := ?_) (by rfl) (fun wq hSw => ?_) ?_
                rotate_left
                · (try dsimp only at hSw); go_simp; try with_reducible rfl
                try simp only [Act.put, List.setIfInBounds_toArray, List.set_cons_zero, List.set_cons_succ]
                refine qcall (o := ⟨some 186, _, _, _, _, _⟩) (v := .agg #[.int .u64 (A' : Int), .string ⟨#[]⟩, .int .u64 0]) (by rfl) (fun wq hSw => ?_) (fun wq hSw => Calls.mono (peek_any b g l9 a' 1 (A' : Int) 0 ⟨#[]⟩ _ (HM9.out.kept hSw.1 id id) HC9.out.a) ?_) ?_
                · (try dsimp only at hSw); go_simp; try with_reducible rfl
                · rintro e w9 ⟨rfl, hk⟩; exact ⟨rfl, keepD hk hcl hSw⟩
                try simp only [Act.put, List.setIfInBounds_toArray, List.set_cons_zero, List.set_cons_succ]
                refine qstep (o := ⟨some 187, _, _, _, _, _⟩) (v := ?_) (by rfl) (fun wq hSw => ?_) ?_
                rotate_left
                · (try dsimp only at hSw); go_simp; try with_reducible rfl
                try simp only [Act.put, List.setIfInBounds_toArray, List.set_cons_zero, List.set_cons_succ]
                refine qstep (o := ⟨some 188, _, _, _, _, _⟩) (v := .bool false) (by rfl) (fun wq hSw => ?_) ?_
                · (try dsimp only at hSw); go_simp; try first | (with_reducible rfl) | (simp; omega) | (intros; omega) | simp [*]
                try simp only [Act.put, List.setIfInBounds_toArray, List.set_cons_zero, List.set_cons_succ]
                refine qstep (o := ⟨some 189, _, _, _, _, _⟩) (v := .bool false) (by rfl) (fun wq hSw => ?_) ?_
                · (try dsimp only at hSw); go_simp; try first | (with_reducible rfl) | (simp; omega) | (intros; omega) | simp [*]
                try simp only [Act.put, List.setIfInBounds_toArray, List.set_cons_zero, List.set_cons_succ]
                refine qstep (o := ⟨some 190, _, _, _, _, _⟩) (v := .bool false) (by rfl) (fun wq hSw => ?_) ?_
                · (try dsimp only at hSw); go_simp; try first | (with_reducible rfl) | (simp; omega) | (intros; omega) | simp [*]
                try simp only [Act.put, List.setIfInBounds_toArray, List.set_cons_zero, List.set_cons_succ]
                refine qstep (o := ⟨some 191, _, _, _, _, _⟩) (v := ?_) (by rfl) (fun wq hSw => ?_) ?_
                rotate_left
                · (try dsimp only at hSw); go_simp; try with_reducible rfl
                try simp only [Act.put, List.setIfInBounds_toArray, List.set_cons_zero, List.set_cons_succ]
                refine qcall (o := ⟨some 192, _, _, _, _, _⟩) (v := .agg #[.int .u64 (A' : Int), .string ⟨#[]⟩, .int .u64 0]) (by rfl) (fun wq hSw => ?_) (fun wq hSw => Calls.mono (peek_any b g l9 a' 1 (A' : Int) 0 ⟨#[]⟩ _ (HM9.out.kept hSw.1 id id) HC9.out.a) ?_) ?_
                · (try dsimp only at hSw); go_simp; try with_reducible rfl
                · rintro e w9 ⟨rfl, hk⟩; exact ⟨rfl, keepD hk hcl hSw⟩
                try simp only [Act.put, List.setIfInBounds_toArray, List.set_cons_zero, List.set_cons_succ]
                refine qstep (o := ⟨some 193, _, _, _, _, _⟩) (v := ?_) (by rfl) (fun wq hSw => ?_) ?_
                rotate_left
                · (try dsimp only at hSw); go_simp; try with_reducible rfl
                try simp only [Act.put, List.setIfInBounds_toArray, List.set_cons_zero, List.set_cons_succ]
                refine qstep (o := ⟨some 194, _, _, _, _, _⟩) (v := ?_) (by rfl) (fun wq hSw => ?_) ?_
                rotate_left
                · (try dsimp only at hSw); go_simp; try with_reducible rfl
                try simp only [Act.put, List.setIfInBounds_toArray, List.set_cons_zero, List.set_cons_succ]
                refine qstep (o := ⟨some 195, _, _, _, _, _⟩) (v := ?_) (by rfl) (fun wq hSw => ?_) ?_
                rotate_left
                · (try dsimp only at hSw); go_simp; try with_reducible rfl
                try simp only [Act.put, List.setIfInBounds_toArray, List.set_cons_zero, List.set_cons_succ]
                refine qstep (o := ⟨some 196, _, _, _, _, _⟩) (v := .bool false) (by rfl) (fun wq hSw => ?_) ?_
                · (try dsimp only at hSw); go_simp; try first | (with_reducible rfl) | (simp; omega) | (intros; omega) | simp [*]
                try simp only [Act.put, List.setIfInBounds_toArray, List.set_cons_zero, List.set_cons_succ]
                refine qstep (o := ⟨some 197, _, _, _, _, _⟩) (v := .bool false) (by rfl) (fun wq hSw => ?_) ?_
                · (try dsimp only at hSw); go_simp; try first | (with_reducible rfl) | (simp; omega) | (intros; omega) | simp [*]
                try simp only [Act.put, List.setIfInBounds_toArray, List.set_cons_zero, List.set_cons_succ]
                refine wpQuiet_nil ?_
                intro wz hHeld
                clear HE6
                replace HF := Lib.hid (HF.out.still hHeld.1)
                clear hHeld
                go_wp2
                go_roundw
                case rel => exact ⟨k + 1, _, _, _, _, _, by omega, by go_num, HF.out⟩
                case measure => simp [intOf]; omega
              · have hg4 : ((V' : Int) != (V : Int)) = true := by rw [bne_iff_ne]; omega
                have hg5 : ((V' : Int) != (V : Int) + 1) = false := by rw [hv]; simp
                clear hv
                have hss : WW.cell? ⟨gp + 1, t, none⟩ = some (.int .i64 2) := HF.out.wld.bs.cell hst2
                refine qregion (fun w' => Kept (fun _ => False) WW w' ∧ w'.cell? ⟨gp + 1, t, none⟩ = some (.int .i64 2) ∧ w'.cell? ⟨cc, 6, none⟩ = some (.int .u64 (lim : Int))) (by kernel_rfl) (by kernel_rfl) ⟨(Kept.refl _ _).drew, hss, ccf⟩ ?_
                refine qstep (o := ⟨some 160, _, _, _, _, _⟩) (v := ?_) (by rfl) (fun wq hSw => ?_) ?_
                rotate_left
                · (try dsimp only at hSw); go_simp; try with_reducible rfl
                try simp only [Act.put, List.setIfInBounds_toArray, List.set_cons_zero, List.set_cons_succ]
                refine qcall (o := ⟨some 161, _, _, _, _, _⟩) (v := .int .u64 (a' : Int)) (by rfl) (fun wq hSw => ?_) (fun wq hSw => Calls.mono (accesses_any b g l9 a' _ (HM9.out.kept hSw.1 id id)) ?_) ?_
                · (try dsimp only at hSw); go_simp; try with_reducible rfl
                · rintro e w9 ⟨rfl, rfl⟩; exact ⟨rfl, hSw⟩
                try simp only [Act.put, List.setIfInBounds_toArray, List.set_cons_zero, List.set_cons_succ]
                refine qstep (o := ⟨some 162, _, _, _, _, _⟩) (v := ?_) (by rfl) (fun wq hSw => ?_) ?_
                rotate_left
                · (try dsimp only at hSw); go_simp; try with_reducible rfl
                try simp only [Act.put, List.setIfInBounds_toArray, List.set_cons_zero, List.set_cons_succ]
                refine qstep (o := ⟨some 163, _, _, _, _, _⟩) (v := ?_) (by rfl) (fun wq hSw => ?_) ?_
                rotate_left
                · (try dsimp only at hSw); go_simp; try with_reducible rfl
                try simp only [Act.put, List.setIfInBounds_toArray, List.set_cons_zero, List.set_cons_succ]
                refine qstep (o := ⟨some 164, _, _, _, _, _⟩) (v := .bool false) (by rfl) (fun wq hSw => ?_) ?_
                · (try dsimp only at hSw); go_simp; try first | (with_reducible rfl) | (simp; omega) | (intros; omega) | simp [*]
                try simp only [Act.put, List.setIfInBounds_toArray, List.set_cons_zero, List.set_cons_succ]
                refine qstep (o := ⟨some 165, _, _, _, _, _⟩) (v := .bool false) (by rfl) (fun wq hSw => ?_) ?_
                · (try dsimp only at hSw); go_simp; try first | (with_reducible rfl) | (simp; omega) | (intros; omega) | simp [*]
                try simp only [Act.put, List.setIfInBounds_toArray, List.set_cons_zero, List.set_cons_succ]
                refine qstep (o := ⟨some 166, _, _, _, _, _⟩) (v := ?_) (by rfl) (fun wq hSw => ?_) ?_
                rotate_left
                · (try dsimp only at hSw); go_simp; try with_reducible rfl
                try simp only [Act.put, List.setIfInBounds_toArray, List.set_cons_zero, List.set_cons_succ]
                refine qstep (o := ⟨some 167, _, _, _, _, _⟩) (v := ?_) (by rfl) (fun wq hSw => ?_) ?_
                rotate_left
                · (try dsimp only at hSw); go_simp; try with_reducible rfl
                try simp only [Act.put, List.setIfInBounds_toArray, List.set_cons_zero, List.set_cons_succ]
                refine qstep (o := ⟨some 168, _, _, _, _, _⟩) (v := .bool true) (by rfl) (fun wq hSw => ?_) ?_
                · (try dsimp only at hSw); go_simp; try first | (with_reducible rfl) | (simp; omega) | (intros; omega) | simp [*]
                try simp only [Act.put, List.setIfInBounds_toArray, List.set_cons_zero, List.set_cons_succ]
                refine qstep (o := ⟨some 169, _, _, _, _, _⟩) (v := .bool true) (by rfl) (fun wq hSw => ?_) ?_
                · (try dsimp only at hSw); go_simp; try first | (with_reducible rfl) | (simp; omega) | (intros; omega) | simp [*]
                try simp only [Act.put, List.setIfInBounds_toArray, List.set_cons_zero, List.set_cons_succ]
                refine qstep (o := ⟨some 170, _, _, _, _, _⟩) (v := ?_) (by rfl) (fun wq hSw => ?_) ?_
                rotate_left
                · (try dsimp only at hSw); go_simp; try with_reducible rfl
                try simp only [Act.put, List.setIfInBounds_toArray, List.set_cons_zero, List.set_cons_succ]
                refine qstep (o := ⟨some 171, _, _, _, _, _⟩) (v := ?_) (by rfl) (fun wq hSw => ?_) ?_
                rotate_left
                · (try dsimp only at hSw); go_simp; try with_reducible rfl
                try simp only [Act.put, List.setIfInBounds_toArray, List.set_cons_zero, List.set_cons_succ]
                refine qstep (o := ⟨some 172, _, _, _, _, _⟩) (v := ?_) (by rfl) (fun wq hSw => ?_) ?_
                rotate_left
                · (try dsimp only at hSw); go_simp; try with_reducible rfl
                try simp only [Act.put, List.setIfInBounds_toArray, List.set_cons_zero, List.set_cons_succ]
                refine qstep (o := ⟨some 173, _, _, _, _, _⟩) (v := .bool false) (by rfl) (fun wq hSw => ?_) ?_
                · (try dsimp only at hSw); go_simp; try first | (with_reducible rfl) | (simp; omega) | (intros; omega) | simp [*]
                try simp only [Act.put, List.setIfInBounds_toArray, List.set_cons_zero, List.set_cons_succ]
                refine qstep (o := ⟨some 174, _, _, _, _, _⟩) (v := .bool false) (by rfl) (fun wq hSw => ?_) ?_
                · (try dsimp only at hSw); go_simp; try first | (with_reducible rfl) | (simp; omega) | (intros; omega) | simp [*]
                try simp only [Act.put, List.setIfInBounds_toArray, List.set_cons_zero, List.set_cons_succ]
                refine qstep (o := ⟨some 175, _, _, _, _, _⟩) (v := ?_) (by rfl) (fun wq hSw => ?_) ?_
                rotate_left
                · (try dsimp only at hSw); go_simp; try with_reducible rfl
                try simp only [Act.put, List.setIfInBounds_toArray, List.set_cons_zero, List.set_cons_succ]
                refine qstep (o := ⟨some 176, _, _, _, _, _⟩) (v := ?_) (by rfl) (fun wq hSw => ?_) ?_
                rotate_left
                · (try dsimp only at hSw); go_simp; try with_reducible rfl
                try simp only [Act.put, List.setIfInBounds_toArray, List.set_cons_zero, List.set_cons_succ]
                refine qstep (o := ⟨some 177, _, _, _, _, _⟩) (v := ?_) (by rfl) (fun wq hSw => ?_) ?_
                rotate_left
                · (try dsimp only at hSw); go_simp; try with_reducible rfl
                try simp only [Act.put, List.setIfInBounds_toArray, List.set_cons_zero, List.set_cons_succ]
                refine qstep (o := ⟨some 178, _, _, _, _, _⟩) (v := ?_) (by rfl) (fun wq hSw => ?_) ?_
                rotate_left
                · (try dsimp only at hSw); go_simp; try with_reducible rfl
                try simp only [Act.put, List.setIfInBounds_toArray, List.set_cons_zero, List.set_cons_succ]
                refine qstep (o := ⟨some 179, _, _, _, _, _⟩) (v := .bool false) (by rfl) (fun wq hSw => ?_) ?_
                · (try dsimp only at hSw); go_simp; try first | (with_reducible rfl) | (simp; omega) | (intros; omega) | simp [*]
                try simp only [Act.put, List.setIfInBounds_toArray, List.set_cons_zero, List.set_cons_succ]
                refine qstep (o := ⟨some 180, _, _, _, _, _⟩) (v := .bool false) (by rfl) (fun wq hSw => ?_) ?_
                · (try dsimp only at hSw); go_simp; try first | (with_reducible rfl) | (simp; omega) | (intros; omega) | simp [*]
                try simp only [Act.put, List.setIfInBounds_toArray, List.set_cons_zero, List.set_cons_succ]
                refine qstep (o := ⟨some 181, _, _, _, _, _⟩) (v := .bool false) (by rfl) (fun wq hSw => ?_) ?_
                · (try dsimp only at hSw); go_simp; try first | (with_reducible rfl) | (simp; omega) | (intros; omega) | simp [*]
                try simp only [Act.put, List.setIfInBounds_toArray, List.set_cons_zero, List.set_cons_succ]
                refine qstep (o := ⟨some 182, _, _, _, _, _⟩) (v := .bool false) (by rfl) (fun wq hSw => ?_) ?_
                · (try dsimp only at hSw); go_simp; try first | (with_reducible rfl) | (simp; omega) | (intros; omega) | simp [*]
                try simp only [Act.put, List.setIfInBounds_toArray, List.set_cons_zero, List.set_cons_succ]
                refine qstep (o := ⟨some 183, _, _, _, _, _⟩) (v := .bool false) (by rfl) (fun wq hSw => ?_) ?_
                · (try dsimp only at hSw); go_simp; try first | (with_reducible rfl) | (simp; omega) | (intros; omega) | simp [*]
                try simp only [Act.put, List.setIfInBounds_toArray, List.set_cons_zero, List.set_cons_succ]
                refine qstep (o := ⟨some 184, _, _, _, _, _⟩) (v := ?_) (by rfl) (fun wq hSw => ?_) ?_
                rotate_left
                · (try dsimp only at hSw); go_simp; try with_reducible rfl
                try simp only [Act.put, List.setIfInBounds_toArray, List.set_cons_zero, List.set_cons_succ]
                refine qstep (o := ⟨some 185, _, _, _, _, _⟩) (v := ?_) (by rfl) (fun wq hSw => ?_) ?_
                rotate_left
                · (try dsimp only at hSw); go_simp; try with_reducible rfl
                try simp only [Act.put, List.setIfInBounds_toArray, List.set_cons_zero, List.set_cons_succ]
                refine qcall (o := ⟨some 186, _, _, _, _, _⟩) (v := .agg #[.int .u64 (A' : Int), .string ⟨#[]⟩, .int .u64 0]) (by rfl) (fun wq hSw => ?_) (fun wq hSw => Calls.mono (peek_any b g l9 a' 1 (A' : Int) 0 ⟨#[]⟩ _ (HM9.out.kept hSw.1 id id) HC9.out.a) ?_) ?_
                · (try dsimp only at hSw); go_simp; try with_reducible rfl
                · rintro e w9 ⟨rfl, hk⟩; exact ⟨rfl, keepC hk hgs hcl hSw⟩
                try simp only [Act.put, List.setIfInBounds_toArray, List.set_cons_zero, List.set_cons_succ]
                refine qstep (o := ⟨some 187, _, _, _, _, _⟩) (v := ?_) (by rfl) (fun wq hSw => ?_) ?_
                rotate_left
                · (try dsimp only at hSw); go_simp; try with_reducible rfl
                try simp only [Act.put, List.setIfInBounds_toArray, List.set_cons_zero, List.set_cons_succ]
                refine qstep (o := ⟨some 188, _, _, _, _, _⟩) (v := .bool false) (by rfl) (fun wq hSw => ?_) ?_
                · (try dsimp only at hSw); go_simp; try first | (with_reducible rfl) | (simp; omega) | (intros; omega) | simp [*]
                try simp only [Act.put, List.setIfInBounds_toArray, List.set_cons_zero, List.set_cons_succ]
                refine qstep (o := ⟨some 189, _, _, _, _, _⟩) (v := .bool false) (by rfl) (fun wq hSw => ?_) ?_
                · (try dsimp only at hSw); go_simp; try first | (with_reducible rfl) | (simp; omega) | (intros; omega) | simp [*]
                try simp only [Act.put, List.setIfInBounds_toArray, List.set_cons_zero, List.set_cons_succ]
                refine qstep (o := ⟨some 190, _, _, _, _, _⟩) (v := .bool false) (by rfl) (fun wq hSw => ?_) ?_
                · (try dsimp only at hSw); go_simp; try first | (with_reducible rfl) | (simp; omega) | (intros; omega) | simp [*]
                try simp only [Act.put, List.setIfInBounds_toArray, List.set_cons_zero, List.set_cons_succ]
                refine qstep (o := ⟨some 191, _, _, _, _, _⟩) (v := ?_) (by rfl) (fun wq hSw => ?_) ?_
                rotate_left
                · (try dsimp only at hSw); go_simp; try with_reducible rfl
                try simp only [Act.put, List.setIfInBounds_toArray, List.set_cons_zero, List.set_cons_succ]
                refine qcall (o := ⟨some 192, _, _, _, _, _⟩) (v := .agg #[.int .u64 (A' : Int), .string ⟨#[]⟩, .int .u64 0]) (by rfl) (fun wq hSw => ?_) (fun wq hSw => Calls.mono (peek_any b g l9 a' 1 (A' : Int) 0 ⟨#[]⟩ _ (HM9.out.kept hSw.1 id id) HC9.out.a) ?_) ?_
                · (try dsimp only at hSw); go_simp; try with_reducible rfl
                · rintro e w9 ⟨rfl, hk⟩; exact ⟨rfl, keepC hk hgs hcl hSw⟩
                try simp only [Act.put, List.setIfInBounds_toArray, List.set_cons_zero, List.set_cons_succ]
                refine qstep (o := ⟨some 193, _, _, _, _, _⟩) (v := ?_) (by rfl) (fun wq hSw => ?_) ?_
                rotate_left
                · (try dsimp only at hSw); go_simp; try with_reducible rfl
                try simp only [Act.put, List.setIfInBounds_toArray, List.set_cons_zero, List.set_cons_succ]
                refine qstep (o := ⟨some 194, _, _, _, _, _⟩) (v := ?_) (by rfl) (fun wq hSw => ?_) ?_
                rotate_left
                · (try dsimp only at hSw); go_simp; try with_reducible rfl
                try simp only [Act.put, List.setIfInBounds_toArray, List.set_cons_zero, List.set_cons_succ]
                refine qstep (o := ⟨some 195, _, _, _, _, _⟩) (v := ?_) (by rfl) (fun wq hSw => ?_) ?_
                rotate_left
                · (try dsimp only at hSw); go_simp; try with_reducible rfl
                try simp only [Act.put, List.setIfInBounds_toArray, List.set_cons_zero, List.set_cons_succ]
                refine qstep (o := ⟨some 196, _, _, _, _, _⟩) (v := .bool false) (by rfl) (fun wq hSw => ?_) ?_
                · (try dsimp only at hSw); go_simp; try first | (with_reducible rfl) | (simp; omega) | (intros; omega) | simp [*]
                try simp only [Act.put, List.setIfInBounds_toArray, List.set_cons_zero, List.set_cons_succ]
                refine qstep (o := ⟨some 197, _, _, _, _, _⟩) (v := .bool false) (by rfl) (fun wq hSw => ?_) ?_
                · (try dsimp only at hSw); go_simp; try first | (with_reducible rfl) | (simp; omega) | (intros; omega) | simp [*]
                try simp only [Act.put, List.setIfInBounds_toArray, List.set_cons_zero, List.set_cons_succ]
                refine wpQuiet_nil ?_
                intro wz hHeld
                clear HE6
                replace HF := Lib.hid (HF.out.still hHeld.1)
                clear hHeld
                go_wp2
                go_roundw
                case rel => exact ⟨k + 1, _, _, _, _, _, by omega, by go_num, HF.out⟩
                case measure => simp [intOf]; omega
        · have hdone := HE.out.en.done HE.out.ck (m := 60) (by omega) (by omega)
          obtain ⟨hVA, hall, hAN⟩ := hdone
          have HALL := Lib.hid hall
          have HAN := Lib.hid hAN
          have hkb : a ≤ k := HE.out.acc
          subst hVA
          clear hall hAN
          go_wp2_with fail
          go_loopw [24] (fun i wl => ∃ m : Nat, m ≤ j ∧ i = .int .i64 m ∧ wl = wr) (fun i _ => j - (intOf i).toNat)
          case atStart => exact ⟨0, by omega, rfl, rfl⟩
          case round =>
            obtain ⟨m, hm, rfl, rfl⟩ := hrel
            by_cases hmj : m < j
            · obtain ⟨y, hy⟩ := HE.out.state hmj
              obtain ⟨qq, hqq⟩ := HC.out.machine hmj
              obtain ⟨st, N⟩ := y
              have hN : N ≤ 9 := HE.out.ck.sm m _ hy
              have hst : Hid (st = 3 ∨ st = 5) := Lib.hid (HALL.out m _ hy)
              have cpt := HC.out.ptr HE.out.wld.kept hqq
              have HP := Lib.hid (HC.out.alloc HE.out.wld.kept hqq)
              have HB := Lib.hid (HE.out.wld.tak m _ qq hy hqq)
              have HY := Lib.hid hy
              clear hy hqq
              rcases hst.out with rfl | rfl
              · have csm := HE.out.wld.bs.cell (sts_at HY.out)
                rw [show stOf (3, N) = 2 from rfl] at csm
                go_wp2_with fail
                refine (allocTime_of HP.out (number_no qq _ 1 N ⟨#[]⟩ 0 _ _ lim _ HB.out)).mono ?_; rintro e w7 ⟨rfl, rfl⟩
                go_wp2
                go_roundw
                case rel => exact ⟨m + 1, by omega, by go_num, trivial⟩
                case measure => simp [intOf]; omega
              · have csm := HE.out.wld.bs.cell (sts_at HY.out)
                rw [show stOf (5, N) = 2 from rfl] at csm
                have hx1 : (((N : Int) + 1) != 0) = true := by rw [bne_iff_ne]; omega
                go_wp2_with fail
                refine (allocTime_of HP.out (number_yes qq _ 1 N ⟨#[]⟩ 0 _ _ lim _ HB.out (by omega))).mono ?_; rintro e w7 ⟨rfl, rfl⟩
                go_wp2
                go_roundw
                case rel => exact ⟨m + 1, by omega, by go_num, trivial⟩
                case measure => simp [intOf]; omega
            · obtain rfl : m = j := by omega
              obtain ⟨l9, hM9, hC9⟩ := HE.out.wld.mem
              have HM9 := Lib.hid hM9
              have HC9 := Lib.hid hC9
              have hfd9 := field0 (V : Int) 0 ⟨#[]⟩
              have hcf := HC.out.config HE.out.wld.kept
              have ccf := hcf.cell (i := 6) rfl
              have hcl := hcf.lt
              clear hM9 hC9 hcf
              go_wp2_with fail
              rcases HAN.out with ⟨hv, hv2⟩ | ⟨hv, hv2⟩
              · have hw : IntKind.u64.wrap (m : Int) = (V : Int) := by rw [IntWalk.u64_in _ (by omega), hv]
                have hle : decide ((lim : Int) < (V : Int)) = false := by simp; omega
                have hle2 : decide ((V : Int) < (lim : Int)) = decide (V < lim) := by simp
                have hvl : V ≤ lim := by omega
                clear hv hv2
                refine qregion (fun w' => Kept (fun _ => False) wr w' ∧ w'.cell? ⟨cc, 6, none⟩ = some (.int .u64 (lim : Int))) (by kernel_rfl) (by kernel_rfl) ⟨(Kept.refl _ _).drew, ccf⟩ ?_
                refine qstep (o := ⟨some 222, _, _, _, _, _⟩) (v := ?_) (by rfl) (fun wq hSw => ?_) ?_
                rotate_left
                · (try dsimp only at hSw); go_simp; try with_reducible rfl
                try simp only [Act.put, List.setIfInBounds_toArray, List.set_cons_zero, List.set_cons_succ]
                refine qcall (o := ⟨some 223, _, _, _, _, _⟩) (v := .agg #[.int .u64 (V : Int), .string ⟨#[]⟩, .int .u64 0]) (by rfl) (fun wq hSw => ?_) (fun wq hSw => Calls.mono (peek_any b g l9 a 1 (V : Int) 0 ⟨#[]⟩ _ (HM9.out.kept hSw.1 id id) HC9.out.a) ?_) ?_
                · (try dsimp only at hSw); go_simp; try with_reducible rfl
                · rintro e w9 ⟨rfl, hk⟩; exact ⟨rfl, keepD hk hcl hSw⟩
                try simp only [Act.put, List.setIfInBounds_toArray, List.set_cons_zero, List.set_cons_succ]
                refine qstep (o := ⟨some 224, _, _, _, _, _⟩) (v := ?_) (by rfl) (fun wq hSw => ?_) ?_
                rotate_left
                · (try dsimp only at hSw); go_simp; try with_reducible rfl
                try simp only [Act.put, List.setIfInBounds_toArray, List.set_cons_zero, List.set_cons_succ]
                refine qstep (o := ⟨some 225, _, _, _, _, _⟩) (v := ?_) (by rfl) (fun wq hSw => ?_) ?_
                rotate_left
                · (try dsimp only at hSw); go_simp; try with_reducible rfl
                try simp only [Act.put, List.setIfInBounds_toArray, List.set_cons_zero, List.set_cons_succ]
                refine qcall (o := ⟨some 226, _, _, _, _, _⟩) (v := .agg #[.int .u64 (V : Int), .string ⟨#[]⟩, .int .u64 0]) (by rfl) (fun wq hSw => ?_) (fun wq hSw => Calls.mono (peek_any b g l9 a 2 (V : Int) 0 ⟨#[]⟩ _ (HM9.out.kept hSw.1 id id) HC9.out.v) ?_) ?_
                · (try dsimp only at hSw); go_simp; try with_reducible rfl
                · rintro e w9 ⟨rfl, hk⟩; exact ⟨rfl, keepD hk hcl hSw⟩
                try simp only [Act.put, List.setIfInBounds_toArray, List.set_cons_zero, List.set_cons_succ]
                refine qstep (o := ⟨some 227, _, _, _, _, _⟩) (v := ?_) (by rfl) (fun wq hSw => ?_) ?_
                rotate_left
                · (try dsimp only at hSw); go_simp; try with_reducible rfl
                try simp only [Act.put, List.setIfInBounds_toArray, List.set_cons_zero, List.set_cons_succ]
                refine qstep (o := ⟨some 228, _, _, _, _, _⟩) (v := .bool true) (by rfl) (fun wq hSw => ?_) ?_
                · (try dsimp only at hSw); go_simp; try first | (with_reducible rfl) | (simp; omega) | (intros; omega) | simp [*]
                try simp only [Act.put, List.setIfInBounds_toArray, List.set_cons_zero, List.set_cons_succ]
                refine qstep (o := ⟨some 229, _, _, _, _, _⟩) (v := .bool true) (by rfl) (fun wq hSw => ?_) ?_
                · (try dsimp only at hSw); go_simp; try first | (with_reducible rfl) | (simp; omega) | (intros; omega) | simp [*]
                try simp only [Act.put, List.setIfInBounds_toArray, List.set_cons_zero, List.set_cons_succ]
                refine qstep (o := ⟨some 230, _, _, _, _, _⟩) (v := ?_) (by rfl) (fun wq hSw => ?_) ?_
                rotate_left
                · (try dsimp only at hSw); go_simp; try with_reducible rfl
                try simp only [Act.put, List.setIfInBounds_toArray, List.set_cons_zero, List.set_cons_succ]
                refine qcall (o := ⟨some 231, _, _, _, _, _⟩) (v := .agg #[.int .u64 (V : Int), .string ⟨#[]⟩, .int .u64 0]) (by rfl) (fun wq hSw => ?_) (fun wq hSw => Calls.mono (peek_any b g l9 a 2 (V : Int) 0 ⟨#[]⟩ _ (HM9.out.kept hSw.1 id id) HC9.out.v) ?_) ?_
                · (try dsimp only at hSw); go_simp; try with_reducible rfl
                · rintro e w9 ⟨rfl, hk⟩; exact ⟨rfl, keepD hk hcl hSw⟩
                try simp only [Act.put, List.setIfInBounds_toArray, List.set_cons_zero, List.set_cons_succ]
                refine qstep (o := ⟨some 232, _, _, _, _, _⟩) (v := ?_) (by rfl) (fun wq hSw => ?_) ?_
                rotate_left
                · (try dsimp only at hSw); go_simp; try with_reducible rfl
                try simp only [Act.put, List.setIfInBounds_toArray, List.set_cons_zero, List.set_cons_succ]
                refine qstep (o := ⟨some 233, _, _, _, _, _⟩) (v := ?_) (by rfl) (fun wq hSw => ?_) ?_
                rotate_left
                · (try dsimp only at hSw); go_simp; try with_reducible rfl
                try simp only [Act.put, List.setIfInBounds_toArray, List.set_cons_zero, List.set_cons_succ]
                refine qstep (o := ⟨some 234, _, _, _, _, _⟩) (v := ?_) (by rfl) (fun wq hSw => ?_) ?_
                rotate_left
                · (try dsimp only at hSw); go_simp; try with_reducible rfl
                try simp only [Act.put, List.setIfInBounds_toArray, List.set_cons_zero, List.set_cons_succ]
                refine qstep (o := ⟨some 235, _, _, _, _, _⟩) (v := ?_) (by rfl) (fun wq hSw => ?_) ?_
                rotate_left
                · (try dsimp only at hSw); go_simp; try with_reducible rfl
                try simp only [Act.put, List.setIfInBounds_toArray, List.set_cons_zero, List.set_cons_succ]
                refine qstep (o := ⟨some 236, _, _, _, _, _⟩) (v := ?_) (by rfl) (fun wq hSw => ?_) ?_
                rotate_left
                · (try dsimp only at hSw); go_simp; try with_reducible rfl
                try simp only [Act.put, List.setIfInBounds_toArray, List.set_cons_zero, List.set_cons_succ]
                refine qstep (o := ⟨some 237, _, _, _, _, _⟩) (v := .int .u64 (V : Int)) (by rfl) (fun wq hSw => ?_) ?_
                · (try dsimp only at hSw); go_simp; try first | (with_reducible rfl) | (simp; omega) | (intros; omega) | simp [*]
                try simp only [Act.put, List.setIfInBounds_toArray, List.set_cons_zero, List.set_cons_succ]
                refine qstep (o := ⟨some 238, _, _, _, _, _⟩) (v := .bool true) (by rfl) (fun wq hSw => ?_) ?_
                · (try dsimp only at hSw); go_simp; try first | (with_reducible rfl) | (simp; omega) | (intros; omega) | simp [*]
                try simp only [Act.put, List.setIfInBounds_toArray, List.set_cons_zero, List.set_cons_succ]
                refine qstep (o := ⟨some 239, _, _, _, _, _⟩) (v := .bool true) (by rfl) (fun wq hSw => ?_) ?_
                · (try dsimp only at hSw); go_simp; try first | (with_reducible rfl) | (simp; omega) | (intros; omega) | simp [*]
                try simp only [Act.put, List.setIfInBounds_toArray, List.set_cons_zero, List.set_cons_succ]
                refine qstep (o := ⟨some 6, _, _, _, _, _⟩) (v := ?_) (by rfl) (fun wq hSw => ?_) ?_
                rotate_left
                · (try dsimp only at hSw); go_simp; try with_reducible rfl
                try simp only [Act.put, List.setIfInBounds_toArray, List.set_cons_zero, List.set_cons_succ]
                refine wpQuiet_nil ?_
                intro wz hHeld
                have HKZ := Lib.hid ((HC.out.base HE.out.wld.kept).trans hHeld.1 (fun _ _ h => h))
                clear hHeld HE
                go_wp2
                go_ret
                exact ⟨rfl, HKZ.out.below (Nat.le_refl _) (fun _ h => h.elim)⟩
              · have hw : IntKind.u64.wrap (m : Int) = (m : Int) := IntWalk.u64_in _ (by omega)
                have hvl : V ≤ m := by omega
                have hlv : (lim : Int) = (V : Int) := by omega
                rw [hlv] at ccf
                clear hv hv2
                refine qregion (fun w' => Kept (fun _ => False) wr w' ∧ w'.cell? ⟨cc, 6, none⟩ = some (.int .u64 (V : Int))) (by kernel_rfl) (by kernel_rfl) ⟨(Kept.refl _ _).drew, ccf⟩ ?_
                refine qstep (o := ⟨some 222, _, _, _, _, _⟩) (v := ?_) (by rfl) (fun wq hSw => ?_) ?_
                rotate_left
                · (try dsimp only at hSw); go_simp; try with_reducible rfl
                try simp only [Act.put, List.setIfInBounds_toArray, List.set_cons_zero, List.set_cons_succ]
                refine qcall (o := ⟨some 223, _, _, _, _, _⟩) (v := .agg #[.int .u64 (V : Int), .string ⟨#[]⟩, .int .u64 0]) (by rfl) (fun wq hSw => ?_) (fun wq hSw => Calls.mono (peek_any b g l9 a 1 (V : Int) 0 ⟨#[]⟩ _ (HM9.out.kept hSw.1 id id) HC9.out.a) ?_) ?_
                · (try dsimp only at hSw); go_simp; try with_reducible rfl
                · rintro e w9 ⟨rfl, hk⟩; exact ⟨rfl, keepD hk hcl hSw⟩
                try simp only [Act.put, List.setIfInBounds_toArray, List.set_cons_zero, List.set_cons_succ]
                refine qstep (o := ⟨some 224, _, _, _, _, _⟩) (v := ?_) (by rfl) (fun wq hSw => ?_) ?_
                rotate_left
                · (try dsimp only at hSw); go_simp; try with_reducible rfl
                try simp only [Act.put, List.setIfInBounds_toArray, List.set_cons_zero, List.set_cons_succ]
                refine qstep (o := ⟨some 225, _, _, _, _, _⟩) (v := ?_) (by rfl) (fun wq hSw => ?_) ?_
                rotate_left
                · (try dsimp only at hSw); go_simp; try with_reducible rfl
                try simp only [Act.put, List.setIfInBounds_toArray, List.set_cons_zero, List.set_cons_succ]
                refine qcall (o := ⟨some 226, _, _, _, _, _⟩) (v := .agg #[.int .u64 (V : Int), .string ⟨#[]⟩, .int .u64 0]) (by rfl) (fun wq hSw => ?_) (fun wq hSw => Calls.mono (peek_any b g l9 a 2 (V : Int) 0 ⟨#[]⟩ _ (HM9.out.kept hSw.1 id id) HC9.out.v) ?_) ?_
                · (try dsimp only at hSw); go_simp; try with_reducible rfl
                · rintro e w9 ⟨rfl, hk⟩; exact ⟨rfl, keepD hk hcl hSw⟩
                try simp only [Act.put, List.setIfInBounds_toArray, List.set_cons_zero, List.set_cons_succ]
                refine qstep (o := ⟨some 227, _, _, _, _, _⟩) (v := ?_) (by rfl) (fun wq hSw => ?_) ?_
                rotate_left
                · (try dsimp only at hSw); go_simp; try with_reducible rfl
                try simp only [Act.put, List.setIfInBounds_toArray, List.set_cons_zero, List.set_cons_succ]
                refine qstep (o := ⟨some 228, _, _, _, _, _⟩) (v := .bool true) (by rfl) (fun wq hSw => ?_) ?_
                · (try dsimp only at hSw); go_simp; try first | (with_reducible rfl) | (simp; omega) | (intros; omega) | simp [*]
                try simp only [Act.put, List.setIfInBounds_toArray, List.set_cons_zero, List.set_cons_succ]
                refine qstep (o := ⟨some 229, _, _, _, _, _⟩) (v := .bool true) (by rfl) (fun wq hSw => ?_) ?_
                · (try dsimp only at hSw); go_simp; try first | (with_reducible rfl) | (simp; omega) | (intros; omega) | simp [*]
                try simp only [Act.put, List.setIfInBounds_toArray, List.set_cons_zero, List.set_cons_succ]
                refine qstep (o := ⟨some 230, _, _, _, _, _⟩) (v := ?_) (by rfl) (fun wq hSw => ?_) ?_
                rotate_left
                · (try dsimp only at hSw); go_simp; try with_reducible rfl
                try simp only [Act.put, List.setIfInBounds_toArray, List.set_cons_zero, List.set_cons_succ]
                refine qcall (o := ⟨some 231, _, _, _, _, _⟩) (v := .agg #[.int .u64 (V : Int), .string ⟨#[]⟩, .int .u64 0]) (by rfl) (fun wq hSw => ?_) (fun wq hSw => Calls.mono (peek_any b g l9 a 2 (V : Int) 0 ⟨#[]⟩ _ (HM9.out.kept hSw.1 id id) HC9.out.v) ?_) ?_
                · (try dsimp only at hSw); go_simp; try with_reducible rfl
                · rintro e w9 ⟨rfl, hk⟩; exact ⟨rfl, keepD hk hcl hSw⟩
                try simp only [Act.put, List.setIfInBounds_toArray, List.set_cons_zero, List.set_cons_succ]
                refine qstep (o := ⟨some 232, _, _, _, _, _⟩) (v := ?_) (by rfl) (fun wq hSw => ?_) ?_
                rotate_left
                · (try dsimp only at hSw); go_simp; try with_reducible rfl
                try simp only [Act.put, List.setIfInBounds_toArray, List.set_cons_zero, List.set_cons_succ]
                refine qstep (o := ⟨some 233, _, _, _, _, _⟩) (v := ?_) (by rfl) (fun wq hSw => ?_) ?_
                rotate_left
                · (try dsimp only at hSw); go_simp; try with_reducible rfl
                try simp only [Act.put, List.setIfInBounds_toArray, List.set_cons_zero, List.set_cons_succ]
                refine qstep (o := ⟨some 234, _, _, _, _, _⟩) (v := ?_) (by rfl) (fun wq hSw => ?_) ?_
                rotate_left
                · (try dsimp only at hSw); go_simp; try with_reducible rfl
                try simp only [Act.put, List.setIfInBounds_toArray, List.set_cons_zero, List.set_cons_succ]
                refine qstep (o := ⟨some 235, _, _, _, _, _⟩) (v := ?_) (by rfl) (fun wq hSw => ?_) ?_
                rotate_left
                · (try dsimp only at hSw); go_simp; try with_reducible rfl
                try simp only [Act.put, List.setIfInBounds_toArray, List.set_cons_zero, List.set_cons_succ]
                refine qstep (o := ⟨some 236, _, _, _, _, _⟩) (v := ?_) (by rfl) (fun wq hSw => ?_) ?_
                rotate_left
                · (try dsimp only at hSw); go_simp; try with_reducible rfl
                try simp only [Act.put, List.setIfInBounds_toArray, List.set_cons_zero, List.set_cons_succ]
                refine qstep (o := ⟨some 237, _, _, _, _, _⟩) (v := .int .u64 (V : Int)) (by rfl) (fun wq hSw => ?_) ?_
                · (try dsimp only at hSw); go_simp; try first | (with_reducible rfl) | (simp; omega) | (intros; omega) | simp [*]
                try simp only [Act.put, List.setIfInBounds_toArray, List.set_cons_zero, List.set_cons_succ]
                refine qstep (o := ⟨some 238, _, _, _, _, _⟩) (v := .bool true) (by rfl) (fun wq hSw => ?_) ?_
                · (try dsimp only at hSw); go_simp; try first | (with_reducible rfl) | (simp; omega) | (intros; omega) | simp [*]
                try simp only [Act.put, List.setIfInBounds_toArray, List.set_cons_zero, List.set_cons_succ]
                refine qstep (o := ⟨some 239, _, _, _, _, _⟩) (v := .bool true) (by rfl) (fun wq hSw => ?_) ?_
                · (try dsimp only at hSw); go_simp; try first | (with_reducible rfl) | (simp; omega) | (intros; omega) | simp [*]
                try simp only [Act.put, List.setIfInBounds_toArray, List.set_cons_zero, List.set_cons_succ]
                refine qstep (o := ⟨some 6, _, _, _, _, _⟩) (v := ?_) (by rfl) (fun wq hSw => ?_) ?_
                rotate_left
                · (try dsimp only at hSw); go_simp; try with_reducible rfl
                try simp only [Act.put, List.setIfInBounds_toArray, List.set_cons_zero, List.set_cons_succ]
                refine wpQuiet_nil ?_
                intro wz hHeld
                have HKZ := Lib.hid ((HC.out.base HE.out.wld.kept).trans hHeld.1 (fun _ _ h => h))
                clear hHeld HE
                go_wp2
                go_ret
                exact ⟨rfl, HKZ.out.below (Nat.le_refl _) (fun _ h => h.elim)⟩

end Go.Proofs.Ytmnfdecakjobjaa
