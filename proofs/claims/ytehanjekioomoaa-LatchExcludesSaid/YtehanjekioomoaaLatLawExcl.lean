/-
  The statement of layer 4 'of several writers that share a latch at most one has it, and all get it': it returns true for every number and every list of picks; nothing that was there is written. Condition: the list of picks within the model's reach.
-/
import Derived.Test.YtehanjekioomoaaLatExc
import Derived.Deep.AppendLies
import Derived.Deep.DeepCutAuto
import Derived.Deep.CutBlock
namespace Go.Proofs.Ytehanjekioomoaa
open Go.RowKit Go.Deep
set_option linter.unusedVariables false

theorem made_row (z : Value) (n : Nat) : madeCells #[z] n = ⟨List.replicate n z⟩ := by
  apply Array.ext'
  apply List.ext_getElem?
  intro j
  by_cases hj : j < n
  · simp [madeCells, hj, Nat.mod_one]
  · rw [List.getElem?_eq_none (by simp [madeCells]; omega), List.getElem?_eq_none (by simp; omega)]
theorem Try.info3 : (Try.prog.info? 3).map (fun i => (i.zero, i.size, i.bytes)) = some (some (.int .i64 0), 1, 8) := by kernel_rfl
theorem Try.info43 : (Try.prog.info? 43).map (fun i => (i.zero, i.size, i.bytes)) = some (some (.pointer none), 1, 8) := by kernel_rfl
theorem Try.info34 : (Try.prog.info? 34).map (fun i => (i.zero, i.size, i.bytes)) = some (some (.pointer none), 1, 8) := by kernel_rfl
theorem make_int (n : Nat) (hn : n ≤ 1099511627776) (w : World) :
    (Instr.makeSlice 37 (.int .i64 (n : Int)) (.int .i64 (n : Int))).run Try.prog w = .ok (.slice (some ⟨w.heap.size, 0, none⟩) n n) (w.alloc (.cells ⟨List.replicate n (.int .i64 0)⟩ 3)) := by
  rw [run_make_row' (P := Try.prog) 37 3 _ 8 Try.underlying37 Try.info3 rfl .i64 .i64 n (by omega) (by omega) w, made_row]
theorem make_rel (n : Nat) (hn : n ≤ 1099511627776) (w : World) :
    (Instr.makeSlice 36 (.int .i64 (n : Int)) (.int .i64 (n : Int))).run Try.prog w = .ok (.slice (some ⟨w.heap.size, 0, none⟩) n n) (w.alloc (.cells ⟨List.replicate n (.pointer none)⟩ 43)) := by
  rw [run_make_row' (P := Try.prog) 36 43 _ 8 Try.underlying36 Try.info43 rfl .i64 .i64 n (by omega) (by omega) w, made_row]
theorem new_2 (w : World) :
    Calls Try.prog 18 #[.int .i64 2] w fun e w' => e = .returned (.tuple #[.pointer (some ⟨w.heap.size + 1, 0, none⟩), .int .i64 0]) ∧ Mem w' (w.heap.size + 1) w.heap.size [cel0, cel0] 0 ∧ Kept (fun _ => False) w w' :=
  new_ok 2 (by omega) (by omega) w

set_option maxRecDepth 100000 in
set_option maxHeartbeats 1000000 in
theorem lawExcl_long (writers : Int) (A : Option Addr) (n c : Nat) (w : World) (hn : 200 < n) (hm : n ≤ maxLen) :
    Calls Try.prog 5 #[.int .i64 writers, .slice A n c] w fun e w' => e = .returned (.bool true) ∧ Below w.heap.size w w' := by
  unfold maxLen at hm
  obtain ⟨r, hr, hr2⟩ := mod_ex writers 4 (by omega)
  have HR := Lib.hid hr
  clear hr
  go_enter Try.func5, Try.ntmps5
  go_wp2_with fail
  refine (mod_of _ _ r _ (by omega) (by omega) HR.out).mono ?_; rintro e w2 ⟨rfl, rfl⟩
  go_wp2_with fail
  refine (new_2 _).mono ?_; rintro e w3 ⟨rfl, hM3, hK3⟩
  have HK3 := Lib.hid hK3
  clear hM3 hK3
  go_wp2_with fail
  refine (awake_any _).mono ?_; rintro e w4 ⟨rfl, rfl⟩
  go_wp2_with fail
  refine (awake_any _).mono ?_; rintro e w5 ⟨rfl, rfl⟩
  go_wp2
  go_ret
  exact ⟨rfl, HK3.out.below (Nat.le_refl _) (fun _ h => h.elim)⟩

theorem own_slice {w : World} {base e size n : Nat} {v : Value} {xs : List Value} (h : w.ownsRow base e size v n xs) (hn : 0 < n) :
    ∃ g cap, v = .slice (some ⟨g, 0, none⟩) n cap ∧ base ≤ g ∧ g < w.heap.size ∧ ∀ j u, xs[j]? = some u → w.cell? ⟨g, j, none⟩ = some u := by
  rcases h.2 with ⟨_, h0⟩ | ⟨g, cap, cur, rfl, hb, hg, rest⟩
  · omega
  · refine ⟨g, cap, rfl, hb, (Array.getElem?_eq_some_iff.1 hg).1, fun j u hu => ?_⟩
    have := h.cells (g := g) rfl j u hu
    rw [Addr.add_lit, Nat.zero_add] at this
    exact this
theorem ptrs_snoc (Q : List Nat) (q : Nat) : ptrs ((Q ++ [q]).map some) = ptrs (Q.map some) ++ [.pointer (some ⟨q, 0, none⟩)] := by simp [ptrs]
theorem own_block (g n c : Nat) : (Value.slice (some ⟨g, 0, none⟩) n c).ownBlock = some g := rfl

/-- While the machines are made. -/
structure Mk (w wr : World) (b g j : Nat) (Q : List Nat) (v : Value) : Prop where
  len : Q.length = j
  own : wr.ownsRow w.heap.size 34 1 v j (ptrs (Q.map some))
  apart : ∀ r, v.ownBlock = some r → r ∉ Q
  nd : Q.Nodup
  mach : ∀ q ∈ Q, AcqB wr q 1 0 ⟨#[]⟩ 0 false false ∧ w.heap.size ≤ q
  mem : Mem wr b g [cel0, cel0] 0
  kept : Kept (fun _ => False) w wr

/-- One machine more. -/
theorem Mk.push {w W5 w6 : World} {b g j q g4 cap4 : Nat} {Q : List Nat} {v : Value} {o : Obj} (hb : b < w.heap.size) (hg : g < w.heap.size) (hl : Q.length = j) (hnd : Q.Nodup)
    (hA : ∀ r, v.ownBlock = some r → r ∉ Q ∧ r < q) (hO : W5.ownsRow w.heap.size 34 1 v j (ptrs (Q.map some)))
    (hM : ∀ p ∈ Q, AcqB W5 p 1 0 ⟨#[]⟩ 0 false false ∧ w.heap.size ≤ p ∧ p < q) (hQ : AcqB W5 q 1 0 ⟨#[]⟩ 0 false false) (hq : w.heap.size ≤ q) (hMem : Mem W5 b g [cel0, cel0] 0) (hK : Kept (fun _ => False) w W5)
    (hown : w6.ownsRow w.heap.size 34 1 (.slice (some ⟨g4, 0, none⟩) (j + 1) cap4) (j + 1) (ptrs (Q.map some) ++ [.pointer (some ⟨q, 0, none⟩)]))
    (hgr : (W5.alloc o).grownBy w6 v.ownBlock) (hor : v.ownBlock = some g4 ∨ g4 = W5.heap.size + 1) : Mk w w6 b g (j + 1) (Q ++ [q]) (.slice (some ⟨g4, 0, none⟩) (j + 1) cap4) := by
  have hKW : Kept (fun i => v.ownBlock = some i) W5 w6 := ((Kept.refl _ W5).alloc o).grown hgr (fun k hk _ => hk)
  have hbase : ∀ i, v.ownBlock = some i → w.heap.size ≤ i := fun i h => (hO.lt i h).1
  refine ⟨by simp [hl], by rw [ptrs_snoc]; exact hown, fun r hr hm => ?_, ?_, fun p hp => ?_, hMem.kept hKW (fun h => by have := hbase _ h; omega) (fun h => by have := hbase _ h; omega), hK.trans hKW (fun i hi h => by have := hbase i h; omega)⟩
  · rw [own_block] at hr
    obtain rfl := Option.some.inj hr
    rcases hor with h | h
    · obtain ⟨h1, h2⟩ := hA _ h
      rcases List.mem_append.1 hm with hm | hm
      · exact h1 hm
      · have := List.mem_singleton.1 hm; omega
    · have := hQ.lt
      rcases List.mem_append.1 hm with hm | hm
      · have := hM _ hm; omega
      · have := List.mem_singleton.1 hm; omega
  · rw [List.nodup_append]
    refine ⟨hnd, by simp, fun a ha c hc => ?_⟩
    have := (hM a ha).2.2
    have := List.mem_singleton.1 hc
    omega
  · rcases List.mem_append.1 hp with hm | hm
    · exact ⟨hKW.blk (hM p hm).1 (fun h => (hA p h).1 hm), (hM p hm).2.1⟩
    · obtain rfl := List.mem_singleton.1 hm
      exact ⟨hKW.blk hQ (fun h => by have := (hA p h).2; omega), hq⟩

/-- The machines are made, and the two rows behind them. -/
theorem Mk.ctx {w w3 wr : World} {b g n : Nat} {Q : List Nat} {ga cap : Nat} (h2 : 2 ≤ n) (hw : Kept (fun _ => False) w w3) (hbw : w.heap.size ≤ b ∧ b < w3.heap.size) (hgw : w.heap.size ≤ g ∧ g < w3.heap.size)
    (h : Mk w3 wr b g n Q (.slice (some ⟨ga, 0, none⟩) n cap)) (hga : w3.heap.size ≤ ga) (hgl : ga < wr.heap.size) (hc : ∀ j u, (ptrs (Q.map some))[j]? = some u → wr.cell? ⟨ga, j, none⟩ = some u) :
    Ctx w ((wr.alloc (.cells (Array.replicate n (.pointer none)) 43)).alloc (.cells (Array.replicate n (.int .i64 0)) 3)) b g (wr.heap.size + 1) wr.heap.size ga n Q := by
  have hK := ((Kept.refl (fun _ => False) wr).alloc (.cells (Array.replicate n (.pointer none)) 43)).alloc (.cells (Array.replicate n (.int .i64 0)) 3)
  have hz : ((wr.alloc (.cells (Array.replicate n (.pointer none)) 43)).alloc (.cells (Array.replicate n (.int .i64 0)) 3)).heap.size = wr.heap.size + 1 + 1 := by rw [nblk_alloc, nblk_alloc]
  have hs := h.kept.size
  have hs0 := hw.size
  refine ⟨h.len, fun i j q hi hj => ?_, fun q hq => ?_, by omega, by omega, by omega, by omega, by omega, fun j q hq => ?_, (hw.trans h.kept (fun _ _ h => h)).trans hK (fun _ _ h => h)⟩
  · exact (List.getElem?_inj (List.getElem?_eq_some_iff.1 hi).1 h.nd).1 (hi.trans hj.symm)
  · obtain ⟨h3, h4⟩ := h.mach q hq
    have := h3.lt
    have hne : q ≠ ga := fun e => h.apart ga rfl (e ▸ hq)
    omega
  · rw [hK.cell (p := ⟨ga, j, none⟩) hgl id]
    exact hc j _ (by unfold ptrs; rw [List.getElem?_map, List.getElem?_map, hq]; rfl)

/-- The beginning of the picks. -/
theorem Mk.exc {w3 wr : World} {b g n P : Nat} {Q : List Nat} {v : Value} (h2 : 2 ≤ n) (h5 : n ≤ 5) (h : Mk w3 wr b g n Q v) :
    Exc ((wr.alloc (.cells (Array.replicate n (.pointer none)) 43)).alloc (.cells (Array.replicate n (.int .i64 0)) 3)) ((wr.alloc (.cells (Array.replicate n (.pointer none)) 43)).alloc (.cells (Array.replicate n (.int .i64 0)) 3))
      b g (wr.heap.size + 1) wr.heap.size n P 0 Q (List.replicate n (0, false, 0)) (List.replicate n none) 0 0 := by
  have hx : ∀ x ∈ List.replicate n ((0, false, 0) : Wri), x = (0, false, 0) := fun x hx => (List.mem_replicate.1 hx).2
  have c1 : cnt 1 (List.replicate n ((0, false, 0) : Wri)) = 0 := by simp [cnt, List.countP_replicate]
  have c2 : cnt 2 (List.replicate n ((0, false, 0) : Wri)) = 0 := by simp [cnt, List.countP_replicate]
  have hlat : Lat n (List.replicate n ((0, false, 0) : Wri)) 0 :=
    ⟨h2, h5, by simp, fun x h => by rw [hx x h]; omega, by omega, by omega, fun x h => by rw [hx x h]; simp, fun x h => by rw [hx x h]; simp, fun x h => by rw [hx x h]; simp⟩
  refine ⟨hlat, by rw [show 0 - P = 0 by omega, Nat.sub_zero]; exact Good.any hlat 0, by omega, (h.mem.alloc _).alloc _, ?_, ?_, by simp, fun t y q hy hq e => ?_, fun t y hy e => ?_, Kept.refl _ _⟩
  · have := Blk.new (wr.alloc (.cells ⟨List.replicate n (.pointer none)⟩ 43)) (List.replicate n (.int .i64 0)) 3
    rw [nblk_alloc] at this
    unfold states; rw [List.map_replicate]; exact this
  · unfold ptrs; rw [List.map_replicate]; exact (Blk.new wr (List.replicate n (.pointer none)) 43).alloc _
  · obtain rfl := hx y (List.mem_of_getElem? hy)
    exact ⟨⟨#[]⟩, 0, ((h.mach q (List.mem_of_getElem? hq)).1.alloc _).alloc _, fun e => by simp at e⟩
  · obtain rfl := hx y (List.mem_of_getElem? hy)
    simp at e

theorem ptrs_ex (R : List (Option Nat)) (t : Nat) (h : t < R.length) : ∃ u, (ptrs R)[t]? = some u := ⟨_, List.getElem?_eq_getElem (by unfold ptrs; rw [List.length_map]; exact h)⟩
theorem Ctx.far {w W0 : World} {b g gs gr ga n t q : Nat} {Q : List Nat} (C : Ctx w W0 b g gs gr ga n Q) (hq : Q[t]? = some q) : ¬ Six W0 q b g gs gr ga := by
  have := C.own hq; have := C.lb; have := C.lg; have := C.ls; have := C.lr; have := C.la
  unfold Six; omega
theorem six_own {W0 : World} {q b g gs gr : Nat} : ∀ i, Own3 q b g i → Six W0 q b g gs gr i := fun i h => by
  unfold Own3 at h; unfold Six; omega

set_option maxRecDepth 100000 in
set_option maxHeartbeats 4000000 in
theorem lawExcl (writers : Int) (A : Option Addr) (c : Nat) (ps : List Nat) (w : World) (hn : ps.length ≤ 200) (hps : ∀ x ∈ ps, x < 256)
    (hA : 0 < ps.length → ∃ g off, A = some ⟨g, off, none⟩ ∧ g < w.heap.size ∧ ∀ (j p : Nat), ps[j]? = some p → w.cell? ⟨g, off + j, none⟩ = some (.int .u8 (p : Int))) :
    Calls Try.prog 5 #[.int .i64 writers, .slice A ps.length c] w fun e w' => e = .returned (.bool true) ∧ Below w.heap.size w w' := by
  obtain ⟨r, hr, hr2⟩ := mod_ex writers 4 (by omega)
  have HR := Lib.hid hr
  obtain ⟨n, hnn⟩ : ∃ n : Nat, (2 : Int) + r = n := ⟨2 + r, by omega⟩
  have hr3 : r < 4 := by omega
  have hn1 : 2 ≤ n ∧ n ≤ 5 := by omega
  obtain ⟨hn2, hn5⟩ := hn1
  have HN := Lib.hid hnn
  have HA := Lib.hid hA
  have HP := Lib.hid hps
  clear hr hnn hr2 hA hps
  have hmk1 := make_rel n (by omega)
  have hmk2 := make_int n (by omega)
  obtain ⟨i0, hi, hz0, hz1, hz2⟩ := info_parts Try.info34
  have HI := Lib.hid hi
  have HZ0 := Lib.hid hz0
  have HZ1 := Lib.hid hz1
  have HZ2 := Lib.hid hz2
  clear hi hz0 hz1 hz2
  go_enter Try.func5, Try.ntmps5
  go_wp2_with fail
  refine (mod_of _ _ r _ (by omega) (by omega) HR.out).mono ?_; rintro e w2 ⟨rfl, rfl⟩
  go_wp2_with fail
  rw [HN.out]
  refine (new_2 _).mono ?_; rintro e w3 ⟨rfl, hM3, hK3⟩
  have HM3 := Lib.hid hM3
  have HK3 := Lib.hid hK3
  clear hM3 hK3
  go_wp2_with fail
  refine (awake_any _).mono ?_; rintro e w4 ⟨rfl, rfl⟩
  go_wp2_with fail
  go_loopw [8, 9] (fun v i wr => ∃ (j : Nat) (Q : List Nat), j ≤ n ∧ i = .int .i64 j ∧ Mk w3 wr (w.heap.size + 1) w.heap.size j Q v) (fun _ i _ => n - (intOf i).toNat)
  case atStart => exact ⟨0, [], by omega, rfl, rfl, World.ownsRow_nil _ _ _ _, (fun _ _ h => by cases h), List.nodup_nil, (fun _ h => by cases h), HM3.out, Kept.refl _ _⟩
  case round =>
    obtain ⟨j, Q, hj, rfl, hS⟩ := hrel
    have HS := Lib.hid hS
    clear hS
    by_cases hlt : j < n
    · go_wp2_with fail
      refine (newAcquire_any 1 _).mono ?_; rintro e w5 ⟨rfl, rfl⟩
      have hb1 := HS.out.mem.obj.lt
      have hg1 := HS.out.mem.row.lt
      have hz := HS.out.kept.size
      have hM5 := HS.out.mem.alloc (.cells ⟨acqv 1 0 ⟨#[]⟩ 0 false false⟩ 53)
      have hQ5 := Blk.new wr (acqv 1 0 ⟨#[]⟩ 0 false false) 53
      have hK5 := HS.out.kept.alloc (.cells ⟨acqv 1 0 ⟨#[]⟩ 0 false false⟩ 53)
      have hO5 := HS.out.own.alloc (.cells ⟨acqv 1 0 ⟨#[]⟩ 0 false false⟩ 53)
      have hAp : ∀ r, Value.ownBlock u8 = some r → r ∉ Q ∧ r < wr.heap.size := fun r h => ⟨HS.out.apart r h, (HS.out.own.lt r h).2⟩
      have hMa : ∀ q ∈ Q, AcqB (wr.alloc (.cells ⟨acqv 1 0 ⟨#[]⟩ 0 false false⟩ 53)) q 1 0 ⟨#[]⟩ 0 false false ∧ w3.heap.size ≤ q ∧ q < wr.heap.size :=
        fun q h => ⟨(HS.out.mach q h).1.alloc _, (HS.out.mach q h).2, (HS.out.mach q h).1.lt⟩
      have hl := HS.out.len
      have hnd := HS.out.nd
      have hz5 : wr.heap.size < (wr.alloc (.cells ⟨acqv 1 0 ⟨#[]⟩ 0 false false⟩ 53)).heap.size := hQ5.lt
      clear HS
      generalize hqq : wr.heap.size = q at *
      have Hqq := Lib.hid hqq
      clear hqq
      generalize wr.alloc (.cells ⟨acqv 1 0 ⟨#[]⟩ 0 false false⟩ 53) = W5 at *
      have HM5 := Lib.hid hM5
      have HQ5 := Lib.hid hQ5
      have HK5 := Lib.hid hK5
      have HO5 := Lib.hid hO5
      have HAp := Lib.hid hAp
      have HMa := Lib.hid hMa
      have HND := Lib.hid hnd
      clear hM5 hQ5 hK5 hO5 hAp hMa hnd
      go_wp2_with (at_builtin; go_must (refine wpList_append_lies _ rfl (.tmp 51) (.tmp 53) 33 rfl w3.heap.size 34 i0 _ 1 8 Try.underlying33 HI.out HZ0.out HZ1.out HZ2.out rfl (by decide) _ j (ptrs (Q.map some)) rfl (HO5.out.alloc _) ⟨W5.heap.size, 0, none⟩ 1 1 [.pointer (some ⟨q, 0, none⟩)] rfl rfl (World.news_of_block (cs := #[.pointer (some ⟨q, 0, none⟩)]) (t := 34) (fr := (0, 0)) (heap_alloc_new W5 _)) (by simp [Value.oneCell']) (by omega) ?ap1 ?ap2 ?ap3 _ rfl ?_))
      try case ap1 => unfold maxLen; omega
      try case ap2 => omega
      try case ap3 => rw [nblk_alloc]; have := HK5.out.size; omega
      intro g4 cap4 w6 hown6 hgrow6 hor6 _
      have hMK := Mk.push (HM3.out.obj.lt) (HM3.out.row.lt) hl HND.out HAp.out HO5.out HMa.out HQ5.out hz HM5.out HK5.out hown6 hgrow6 hor6
      have HMK := Lib.hid hMK
      clear hMK hown6 hgrow6 hor6 HND HAp HO5 HMa HQ5 HM5 HK5
      go_wp2
      go_roundw
      case rel => exact ⟨j + 1, _, by omega, by go_num, HMK.out⟩
      case measure => simp [intOf]; omega
    · obtain rfl : j = n := by omega
      obtain ⟨ga, cap, rfl, hga, hgl, hcs⟩ := own_slice HS.out.own (by omega)
      have hC := Mk.ctx (by omega) HK3.out ⟨by omega, HM3.out.obj.lt⟩ ⟨by omega, HM3.out.row.lt⟩ HS.out hga hgl hcs
      have hE := Mk.exc (P := ps.length) (by omega) (by omega) HS.out
      go_wp2_with fail
      have hgr : Hid (∃ x, x = wr.heap.size) := Lib.hid ⟨_, rfl⟩
      generalize (wr.alloc (.cells (Array.replicate j (.pointer none)) 43)).alloc (.cells (Array.replicate j (.int .i64 0)) 3) = W0 at *
      generalize wr.heap.size = gr at *
      have HC := Lib.hid hC
      have HE := Lib.hid hE
      clear hC hE hcs hga hgl HS HK3 HM3 hmk1 hmk2 HI HZ0 HZ1 HZ2 hgr
      go_loopw [12] (fun i wf => ∃ (k : Nat) (L : List Wri) (R : List (Option Nat)) (v a : Nat), k ≤ ps.length + 40 * j ∧ i = .int .i64 k ∧ Exc W0 wf (w.heap.size + 1) w.heap.size (gr + 1) gr j ps.length k Q L R v a)
        (fun i _ => ps.length + 40 * j - (intOf i).toNat)
      case atStart => exact ⟨0, _, _, 0, 0, by omega, rfl, HE.out⟩
      case round =>
        obtain ⟨k, L, R, v, a, hk, rfl, hE⟩ := hrel
        clear HE
        have HE := Lib.hid hE
        clear hE
        by_cases hlt : k < ps.length + 40 * j
        · obtain ⟨q, hq⟩ : ∃ q : Nat, q = k % j := ⟨_, rfl⟩
          have hqn : q < j := by rw [hq]; exact Nat.mod_lt _ (by omega)
          have hq1 : (k : Int) % (j : Int) = (q : Int) := by rw [hq]; rfl
          have hq2 : (k : Int).tmod (j : Int) = (q : Int) := by rw [hq]; rfl
          have Hq := Lib.hid hq
          clear hq
          go_upto_if 74 with fail
          go_cut [13] (fun t wx => ∃ tt : Nat, t = .int .i64 tt ∧ tt < j ∧ (k < ps.length ∨ tt = k % j) ∧ wx = wr)
          case first =>
            by_cases hkp : k < ps.length
            · obtain ⟨g0, off, rfl, hg0, hcell⟩ := HA.out (by omega)
              obtain ⟨p, hp⟩ : ∃ p, p = ps[k] := ⟨_, rfl⟩
              have hp256 : p < 256 := by rw [hp]; exact HP.out _ (List.getElem_mem _)
              have hpc : wr.cell? ⟨g0, off + k, none⟩ = some (.int .u8 (p : Int)) := by
                rw [(HC.out.base HE.out.kept).cell (p := ⟨g0, off + k, none⟩) hg0 id]; exact hcell k p (by rw [List.getElem?_eq_getElem hkp, hp])
              obtain ⟨s, hs⟩ : ∃ s : Nat, s = p % j := ⟨_, rfl⟩
              have hsn : s < j := by rw [hs]; exact Nat.mod_lt _ (by omega)
              have hs1 : (p : Int) % (j : Int) = (s : Int) := by rw [hs]; rfl
              have hs2 : (p : Int).tmod (j : Int) = (s : Int) := by rw [hs]; rfl
              clear hs hp hcell
              go_wp2
              go_meet
              exact ⟨s, rfl, hsn, .inl hkp, rfl⟩
            · have hkd : decide (k < ps.length) = false := by simpa using hkp
              go_wp2
              go_meet
              exact ⟨q, rfl, hqn, .inr Hq.out, rfl⟩
          case rest =>
            obtain ⟨t, rfl, htj, hor, rfl⟩ := hcut
            clear Hq hq1 hq2 hqn
            go_wp2_with fail
            refine (accesses_any _ _ _ _ _ HE.out.mem).mono ?_; rintro e w9 ⟨rfl, rfl⟩
            obtain ⟨qq, hqq⟩ := HC.out.machine htj
            obtain ⟨y, hy⟩ : ∃ y, L[t]? = some y := ⟨_, List.getElem?_eq_getElem (by rw [HE.out.lat.len]; exact htj)⟩
            obtain ⟨st, f, N⟩ := y
            have hst : st ≤ 2 := HE.out.lat.st _ (List.mem_of_getElem? hy)
            have cst := HE.out.bs.cell (states_at L t _ hy)
            have cpt := HC.out.ptr HE.out.kept hqq
            have hN : N ≤ 21 := HE.out.lat.small _ (List.mem_of_getElem? hy)
            have hv : v ≤ 21 := HE.out.lat.le
            have hak : a ≤ k := HE.out.acc
            have HY := Lib.hid hy
            have HQQ := Lib.hid hqq
            clear hy hqq
            simp only at cst
            go_upto_block 4 with fail
            go_cut [15] (fun _ wx => ∃ (L' : List Wri) (R' : List (Option Nat)) (v' a' : Nat), a' ≤ a + 1 ∧ Exc W0 wx (w.heap.size + 1) w.heap.size (gr + 1) gr j ps.length (k + 1) Q L' R' v' a')
            case first =>
              have hown := HC.out.own HQQ.out
              have hqb : qq ≠ w.heap.size + 1 := hown.2.1
              have hqg : qq ≠ w.heap.size := hown.2.2.1
              rcases (by omega : st = 0 ∨ st = 1 ∨ st = 2) with rfl | rfl | rfl
              · obtain ⟨K, M, hA, hf⟩ := HE.out.acq t _ qq HY.out HQQ.out rfl
                simp only at hA hf
                cases f
                · go_wp2_with fail
                  refine (acqStep_load qq _ _ _ a 1 v N ⟨#[]⟩ K 0 M _ hA HE.out.mem hqb hqg (by omega) rfl (by omega)).mono ?_; rintro e w5 ⟨rfl, hM5, hA5, hK5⟩
                  have HNX := Lib.hid (HE.out.wait HC.out HY.out HQQ.out rfl (y' := (0, v % 2 == 0, v)) rfl hK5 (HE.out.lat.load HY.out) hor (fun e => by subst e; exact Good.load HE.out.lat HE.out.good HY.out) hM5 ⟨⟨#[]⟩, 0, hA5, fun _ => ⟨rfl, rfl⟩⟩)
                  clear hM5 hA5 hK5
                  go_wp2
                  go_meet
                  exact ⟨_, _, _, _, Nat.le_refl _, HNX.out⟩
                · obtain ⟨rfl, rfl⟩ := hf rfl
                  by_cases hNv : N = v
                  · subst hNv
                    go_wp2_with fail
                    refine (acqStep_swap qq _ _ _ [cel0, (((lockW N : Nat) : Int), ⟨#[]⟩, 0)] a 1 N ⟨#[]⟩ 0 true _ hA HE.out.mem hqb hqg (by omega) (by omega) (by simp [swaps, isIn, cellAt]) rfl).mono ?_; rintro e w5 ⟨rfl, hM5, hA5, hK5⟩
                    have hlN : lockW N < 18446744073709551616 := lockW_lt (by omega)
                    have hlgs := HC.out.ls
                    have hlgr := HC.out.lr
                    have hlb := HC.out.lb
                    have hlg := HC.out.lg
                    have hla := HC.out.la
                    have hfar := HC.out.far HQQ.out
                    have hsz := HE.out.kept.size
                    have hBs5 := hK5.blk HE.out.bs (by unfold Own3; omega)
                    have hBr5 := hK5.blk HE.out.br (by unfold Own3; omega)
                    have xs := hBs5.cell (states_at L t _ HY.out)
                    have zs := hBs5.frozen t
                    have hM6 := hM5.setFar (r := gr + 1) (by omega) (by omega) t (.int .i64 1)
                    have hA6 := hA5.other (a := ⟨gr + 1, t, none⟩) (show qq ≠ gr + 1 by omega) (.int .i64 1)
                    have hBs6 := hBs5.set t (.int .i64 1)
                    have hBr6 := hBr5.other (a := ⟨gr + 1, t, none⟩) (show gr ≠ gr + 1 by omega) (.int .i64 1)
                    have hK6 := (hK5.mono (six_own (W0 := W0) (gs := gr + 1) (gr := gr))).setCell (a := ⟨gr + 1, t, none⟩) (fun _ => .inr (.inr (.inr (.inl rfl)))) (.int .i64 1)
                    have HM6 := Lib.hid hM6
                    have HA6 := Lib.hid hA6
                    have HBs6 := Lib.hid hBs6
                    have HBr6 := Lib.hid hBr6
                    have HK6 := Lib.hid hK6
                    clear hM6 hA6 hBs6 hBr6 hK6 hM5 hA5 hK5 hBs5 hBr5 cst hA hf
                    go_wp2_with fail
                    generalize w5.setCell ⟨gr + 1, t, none⟩ (.int .i64 1) = W6 at *
                    clear xs zs
                    refine (peek_any _ _ _ _ _ ((lockW N : Nat) : Int) 0 ⟨#[]⟩ _ HM6.out rfl).mono ?_; rintro e w7 ⟨rfl, hk7⟩
                    have HM7 := Lib.hid (HM6.out.kept hk7 id id)
                    have HA7 := Lib.hid (hk7.blk HA6.out id)
                    have HBs7 := Lib.hid (hk7.blk HBs6.out id)
                    have HBr7 := Lib.hid (hk7.blk HBr6.out id)
                    have HK7 := Lib.hid (HK6.out.trans hk7 (fun _ _ h => h.elim))
                    have hfd := field0 ((lockW N : Nat) : Int) 0 ⟨#[]⟩
                    have hpt7 : w7.cell? ⟨ga, t, none⟩ = some (.pointer (some ⟨qq, 0, none⟩)) := (HK7.out.cell (p := ⟨ga, t, none⟩) (Nat.lt_of_lt_of_le hla hsz) hfar).trans cpt
                    clear hk7 HM6 HA6 HBs6 HBr6 HK6 cpt
                    go_wp2_with fail
                    refine (word_yes qq 1 _ _ _ _ _ HA7.out (by omega)).mono ?_; rintro e w8 ⟨rfl, rfl⟩
                    go_wp2_with fail
                    refine (locked_of (lockW N) true hlN (by unfold lockW; simp) _).mono ?_; rintro e w9 ⟨rfl, rfl⟩
                    go_wp2_with fail
                    refine (word_yes qq 1 _ _ _ _ _ HA7.out (by omega)).mono ?_; rintro e w10 ⟨rfl, rfl⟩
                    go_wp2_with fail
                    refine (begin_any (lockW N) hlN _).mono ?_; rintro e w11 ⟨rfl, rfl⟩
                    go_wp2_with fail
                    refine (end_any (beginW (lockW N)) (beginW_lt hlN) _).mono ?_; rintro e w12 ⟨rfl, rfl⟩
                    go_wp2_with fail
                    refine (newRelease_any 1 (endW (beginW (lockW N))) _).mono ?_; rintro e w13 ⟨rfl, rfl⟩
                    have hsz7 := HK7.out.size
                    have hM8 := HM7.out.alloc (.cells ⟨relv 1 (endW (beginW (lockW N))) false⟩ 57)
                    have hBs8 := HBs7.out.alloc (.cells ⟨relv 1 (endW (beginW (lockW N))) false⟩ 57)
                    have hBr8 := HBr7.out.alloc (.cells ⟨relv 1 (endW (beginW (lockW N))) false⟩ 57)
                    have hR8 := Blk.new w7 (relv 1 (endW (beginW (lockW N))) false) 57
                    have hK8 := HK7.out.alloc (.cells ⟨relv 1 (endW (beginW (lockW N))) false⟩ 57)
                    obtain ⟨r8, hr8⟩ : ∃ r8, w7.heap.size = r8 := ⟨_, rfl⟩
                    rw [hr8] at hR8 ⊢
                    have hr80 : W0.heap.size ≤ r8 := by omega
                    clear hr8 HM7 HA7 HBs7 HBr7 HK7 hpt7
                    generalize w7.alloc (.cells ⟨relv 1 (endW (beginW (lockW N))) false⟩ 57) = W8 at *
                    obtain ⟨u, hu⟩ := ptrs_ex R t (by rw [HE.out.lr]; exact htj)
                    have xr := hBr8.cell hu
                    have zr := hBr8.frozen t
                    have HNX := Lib.hid (HE.out.take HC.out HY.out HQQ.out hor hr80 (hK8.setCell (a := ⟨gr, t, none⟩) (fun _ => .inr (.inr (.inr (.inr (.inl rfl))))) (.pointer (some ⟨r8, 0, none⟩))) (hM8.setFar (r := gr) (by omega) (by omega) _ _)
                      (hBs8.other (show gr + 1 ≠ gr by omega) _) (hBr8.set t _) (hR8.other (show r8 ≠ gr by omega) _))
                    clear hM8 hBs8 hBr8 hR8 hK8 hu
                    go_wp2
                    go_meet
                    exact ⟨_, _, _, _, Nat.le_refl _, HNX.out⟩
                  · go_wp2_with fail
                    refine (acqStep_swap qq _ _ _ [cel0, ((v : Int), ⟨#[]⟩, 0)] a 1 N ⟨#[]⟩ 0 false _ hA HE.out.mem hqb hqg (by omega) (by omega) (by simp [swaps, isIn, cellAt]; omega) rfl).mono ?_; rintro e w5 ⟨rfl, hM5, hA5, hK5⟩
                    have HNX := Lib.hid (HE.out.wait HC.out HY.out HQQ.out rfl (y' := (0, false, N)) rfl hK5 (HE.out.lat.miss HY.out) hor (fun e => by subst e; exact Good.miss HE.out.lat HE.out.good HY.out hNv) hM5 ⟨⟨#[]⟩, 0, hA5, fun _ => ⟨rfl, rfl⟩⟩)
                    clear hM5 hA5 hK5
                    go_wp2
                    go_meet
                    exact ⟨_, _, _, _, Nat.le_refl _, HNX.out⟩
              · obtain ⟨ρ, hρ, hρ0, hR⟩ := HE.out.rel t _ HY.out rfl
                simp only at hR
                have crt := HE.out.br.cell (ptrs_at R t ρ hρ)
                have hlgs := HC.out.ls
                have hlgr := HC.out.lr
                have hlb := HC.out.lb
                have hlg := HC.out.lg
                have hsz := HE.out.kept.size
                go_wp2_with fail
                refine (relStep_any ρ _ _ _ a 1 (endW (beginW (lockW N))) _ hR HE.out.mem (by omega) (by omega) (by omega) (endW_lt _)).mono ?_; rintro e w5 ⟨rfl, hM5, hR5, hK5⟩
                have hBs5 := hK5.blk HE.out.bs (by unfold Own3; omega)
                have hBr5 := hK5.blk HE.out.br (by unfold Own3; omega)
                have xs := hBs5.cell (states_at L t _ HY.out)
                have zs := hBs5.frozen t
                have hK6 : Kept (Six W0 qq (w.heap.size + 1) w.heap.size (gr + 1) gr) wc w5 := hK5.mono (fun i h => by unfold Own3 at h; unfold Six; omega)
                have HNX := Lib.hid (HE.out.drop HC.out HY.out HQQ.out hor (hK6.setCell (a := ⟨gr + 1, t, none⟩) (fun _ => .inr (.inr (.inr (.inl rfl)))) (.int .i64 2)) (hM5.setFar (r := gr + 1) (by omega) (by omega) _ _)
                  (hBs5.set t _) (hBr5.other (show gr ≠ gr + 1 by omega) _))
                clear hM5 hR5 hK5 hBs5 hBr5 hK6
                go_wp2
                go_meet
                exact ⟨_, _, _, _, Nat.le_refl _, HNX.out⟩
              · go_wp2
                go_meet
                exact ⟨_, _, _, _, Nat.le_succ _, HE.out.idle HY.out hor⟩
            case rest =>
              obtain ⟨L', R', v', a', ha', hE'⟩ := hcut
              have HF := Lib.hid hE'
              have hv' : v' ≤ 21 := hE'.lat.le
              have hone := hE'.lat.one
              have hword := hE'.lat.word
              have hlen := hE'.lat.len
              clear hE' HE HY HQQ cst cpt
              go_wp2_with fail
              refine (accesses_any _ _ _ _ _ HF.out.mem).mono ?_; rintro e w20 ⟨rfl, rfl⟩
              go_wp2_with fail
              go_loopw [16, 17] (fun h i wl => ∃ m : Nat, m ≤ j ∧ i = .int .i64 m ∧ h = .int .i64 ((cnt 1 (L'.take m) : Nat) : Int) ∧ wl = wc) (fun _ i _ => j - (intOf i).toNat)
              case atStart => exact ⟨0, by omega, rfl, rfl, rfl⟩
              case round =>
                obtain ⟨m, hm, rfl, rfl, rfl⟩ := hrel
                by_cases hmj : m < j
                · obtain ⟨y', hy'⟩ : ∃ y, L'[m]? = some y := ⟨_, List.getElem?_eq_getElem (by omega)⟩
                  have hct := cnt_take L' m y' hy'
                  have csm := HF.out.bs.cell (states_at L' m _ hy')
                  have hst' := HF.out.lat.st _ (List.mem_of_getElem? hy')
                  have hle : cnt 1 (L'.take m) ≤ 5 := Nat.le_trans (cnt_le _ _) (by rw [List.length_take]; omega)
                  obtain ⟨h, hh⟩ : ∃ h, cnt 1 (L'.take m) = h := ⟨_, rfl⟩
                  rw [hh] at hct hle
                  rw [hh]
                  have HCT := Lib.hid hct
                  clear hct hh hy'
                  by_cases e1 : y'.1 = 1
                  · rw [e1] at csm
                    have HE1 := Lib.hid e1
                    clear e1
                    go_wp2
                    go_roundw
                    case rel => exact ⟨m + 1, by omega, by go_num, by rw [HCT.out, if_pos HE1.out]; go_num, trivial⟩
                    case measure => simp [intOf]; omega
                  · have e2 : (((y'.1 : Nat) : Int) == 1) = false := by rw [beq_eq_false_iff_ne]; omega
                    have HE1 := Lib.hid e1
                    clear e1
                    go_wp2
                    go_roundw
                    case rel => exact ⟨m + 1, by omega, by go_num, by rw [HCT.out, if_neg HE1.out]; rfl, trivial⟩
                    case measure => simp [intOf]; omega
                · obtain rfl : m = j := by omega
                  rw [cnt_full hlen]
                  obtain ⟨h1, hh1⟩ : ∃ h, cnt 1 L' = h := ⟨_, rfl⟩
                  rw [hh1] at hone hword
                  rw [hh1]
                  obtain ⟨bb, hbb⟩ : ∃ bb, ((h1 : Int) == 1) = bb := ⟨_, rfl⟩
                  have hlk : (v' % 2 == 1) = bb := by rw [← hbb, Bool.eq_iff_iff]; simp; omega
                  have hgt : decide ((1 : Int) < (h1 : Int)) = false := by simp; omega
                  have HLK := Lib.hid hlk
                  clear hlk hh1 hword hlen
                  go_wp2_with fail
                  refine (peek_any _ _ _ _ _ (v' : Int) 0 ⟨#[]⟩ _ HF.out.mem rfl).mono ?_; rintro e w21 ⟨rfl, hK21⟩
                  have HG := Lib.hid (HF.out.still HC.out hK21)
                  have hfd := field0 (v' : Int) 0 ⟨#[]⟩
                  clear hK21 HF
                  go_wp2_with fail
                  refine (locked_of v' bb (by omega) HLK.out _).mono ?_; rintro e w22 ⟨rfl, rfl⟩
                  go_wp2
                  go_roundw
                  case rel => exact ⟨k + 1, L', R', v', a', by omega, by go_num, HG.out⟩
                  case measure => simp [intOf]; omega
        · obtain rfl : k = ps.length + 40 * j := by omega
          obtain ⟨hdone, hv⟩ := HE.out.done (Nat.le_refl _)
          have HD := Lib.hid hdone
          have HV := Lib.hid hv
          clear hdone hv
          go_wp2_with fail
          go_loopw [18] (fun i wl => ∃ m : Nat, m ≤ j ∧ i = .int .i64 m ∧ wl = wr) (fun i _ => j - (intOf i).toNat)
          case atStart => exact ⟨0, by omega, rfl, rfl⟩
          case round =>
            obtain ⟨m, hm, rfl, rfl⟩ := hrel
            by_cases hmj : m < j
            · obtain ⟨y, hy⟩ : ∃ y, L[m]? = some y := ⟨_, List.getElem?_eq_getElem (by rw [HE.out.lat.len]; exact hmj)⟩
              have csm := HE.out.bs.cell (states_at L m _ hy)
              rw [HD.out m y hy] at csm
              clear hy
              go_wp2
              go_roundw
              case rel => exact ⟨m + 1, by omega, by first | go_num | trivial | simp, by first | trivial | rfl⟩
              case measure => simp [intOf]; omega
            · obtain rfl : m = j := by omega
              go_wp2_with fail
              refine (peek_any _ _ _ _ _ (4 * (m : Int)) 0 ⟨#[]⟩ _ HE.out.mem (by rw [HV.out]; simp [cellAt])).mono ?_; rintro e w21 ⟨rfl, hK21⟩
              have HK21 := Lib.hid (((HC.out.base HE.out.kept).trans hK21 (fun _ _ h => h)).below (Nat.le_refl _) (fun _ h => h.elim))
              have hfd := field0 (4 * (m : Int)) 0 ⟨#[]⟩
              clear hK21
              go_wp2
              go_ret
              exact ⟨rfl, HK21.out⟩

theorem lawExcl_all (w : World) (writers : Int) (A : Option Addr) (c : Nat) (ps : List Nat) (hm : ps.length ≤ maxLen) (hps : ∀ x ∈ ps, x < 256)
    (hA : 0 < ps.length → ∃ g off, A = some ⟨g, off, none⟩ ∧ g < w.heap.size ∧ ∀ (j p : Nat), ps[j]? = some p → w.cell? ⟨g, off + j, none⟩ = some (.int .u8 (p : Int))) :
    Calls Try.prog 5 #[.int .i64 writers, .slice A ps.length c] w fun e w' => e = .returned (.bool true) ∧ Below w.heap.size w w' := by
  by_cases h : ps.length ≤ 200
  · exact lawExcl writers A c ps w h hps hA
  · exact lawExcl_long writers A ps.length c w (by omega) hm

end Go.Proofs.Ytehanjekioomoaa
