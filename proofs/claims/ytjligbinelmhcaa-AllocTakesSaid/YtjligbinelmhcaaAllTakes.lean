/-
  The statement of layer 5 'numbers are taken once and without a gap': it returns true for every number, limit, first value and list of picks; nothing that was there is written. Condition: the list of picks within the model's reach.
-/
import Derived.Test.YtjligbinelmhcaaAllAwake
import Derived.Deep.AppendLies
import Derived.Deep.DeepCutAuto
import Derived.Deep.CutBlock
namespace Go.Proofs.Ytjligbinelmhcaa
open Go.RowKit Go.Deep
set_option linter.unusedVariables false

/-- What holds of takers while they are picked. -/
structure Tk (fro most : Nat) (L : List Mac) (v : Nat) : Prop where
  f3 : fro ≤ 3
  m7 : most ≤ 7
  sum : v = fro + cnt 2 L
  le : cnt 2 L = 0 ∨ v ≤ most
  look : ∀ (j : Nat) (x : Mac), L[j]? = some x → x.1 = 1 ∨ x.1 = 2 → x.2 < most
  ref : ∀ (j : Nat) (x : Mac), L[j]? = some x → x.1 = 3 → most ≤ v
  seen : ∀ (j : Nat) (x : Mac), L[j]? = some x → x.2 ≤ 7

theorem Tk.small {fro most v : Nat} {L : List Mac} (h : Tk fro most L v) : v ≤ 7 := by
  have := h.f3; have := h.m7; have := h.sum
  rcases h.le with h | h <;> omega
theorem Tk.step {fro most v v' t : Nat} {L : List Mac} {y y' : Mac} (h : Tk fro most L v) (hy : L[t]? = some y) (hs : y.1 ≤ 3) (hm : moved most (y.2 + 1) y v = y') (hv : counts (y.2 + 1) y v = v') : Tk fro most (L.set t y') v' := by
  have hv7 := h.small
  have c2 := cnt_set 2 y' L t y hy
  obtain ⟨s, N⟩ := y
  have hN := h.seen t _ hy
  simp only at hs c2 hN hm hv
  rcases (by omega : s = 0 ∨ s = 1 ∨ s = 2 ∨ s = 3) with rfl | rfl | rfl | rfl
  · obtain rfl : v = v' := by simpa [counts] using hv
    by_cases hl : most ≤ v
    · obtain rfl : (3, v) = y' := by simpa [moved, hl] using hm
      simp only [show ¬ (0 = 2) by omega, show ¬ (3 = 2) by omega, if_false] at c2
      have e2 : cnt 2 (L.set t (3, v)) = cnt 2 L := by omega
      exact ⟨h.f3, h.m7, by rw [e2]; exact h.sum, by rw [e2]; exact h.le, set_all (by simp) (fun j x _ => h.look j x), set_all (fun _ => hl) (fun j x _ => h.ref j x), set_all hv7 (fun j x _ => h.seen j x)⟩
    · obtain rfl : (1, v) = y' := by simpa [moved, hl] using hm
      simp only [show ¬ (0 = 2) by omega, show ¬ (1 = 2) by omega, if_false] at c2
      have e2 : cnt 2 (L.set t (1, v)) = cnt 2 L := by omega
      exact ⟨h.f3, h.m7, by rw [e2]; exact h.sum, by rw [e2]; exact h.le, set_all (fun _ => by simp only; omega) (fun j x _ => h.look j x), set_all (by simp) (fun j x _ => h.ref j x), set_all hv7 (fun j x _ => h.seen j x)⟩
  · have hlk := h.look t _ hy (.inl rfl)
    simp only at hlk
    by_cases hl : N = v
    · subst hl
      obtain rfl : (2, N) = y' := by simpa [moved] using hm
      obtain rfl : N + 1 = v' := by simpa [counts] using hv
      simp only [show ¬ (1 = 2) by omega, if_false, if_true] at c2
      have e2 : cnt 2 (L.set t (2, N)) = cnt 2 L + 1 := by omega
      have hsum := h.sum
      exact ⟨h.f3, h.m7, by omega, .inr (by omega), set_all (fun _ => hlk) (fun j x _ => h.look j x), set_all (by simp) (fun j x _ hx e => by have := h.ref j x hx e; omega), set_all hN (fun j x _ => h.seen j x)⟩
    · obtain rfl : (0, N) = y' := by simpa [moved, hl] using hm
      obtain rfl : v = v' := by simpa [counts, hl] using hv
      simp only [show ¬ (1 = 2) by omega, show ¬ (0 = 2) by omega, if_false] at c2
      have e2 : cnt 2 (L.set t (0, N)) = cnt 2 L := by omega
      exact ⟨h.f3, h.m7, by rw [e2]; exact h.sum, by rw [e2]; exact h.le, set_all (by simp) (fun j x _ => h.look j x), set_all (by simp) (fun j x _ => h.ref j x), set_all hN (fun j x _ => h.seen j x)⟩
  all_goals
    obtain rfl := hm
    obtain rfl : v = v' := by simpa [counts] using hv
    have hset : ∀ z, z = (L[t]?).getD z → L[t]? = some z → L.set t z = L := fun z _ hz => by
      apply List.ext_getElem?
      intro j
      by_cases hj : j = t
      · subst hj; rw [set_self hz, hz]
      · rw [List.getElem?_set_ne (fun e => hj e.symm)]
    have hm' : ∀ g : Nat, moved most g (2, N) v = (2, N) ∧ moved most g (3, N) v = (3, N) := fun g => ⟨rfl, rfl⟩
    first | rw [(hm' _).1] | rw [(hm' _).2]
    rw [hset _ (by rw [hy]; rfl) hy]
    exact h
theorem Tk.start (fro most n : Nat) (hf : fro ≤ 3) (hm : most ≤ 7) : Tk fro most (List.replicate n (0, 0)) fro := by
  have c2 : cnt 2 (List.replicate n ((0, 0) : Mac)) = 0 := by simp [cnt, List.countP_replicate]
  have hx : ∀ (j : Nat) (x : Mac), (List.replicate n ((0, 0) : Mac))[j]? = some x → x = (0, 0) := fun j x h => (List.mem_replicate.1 (List.mem_of_getElem? h)).2
  exact ⟨hf, hm, by omega, .inl c2, fun j x h e => by rw [hx j x h] at e; simp at e, fun j x h e => by rw [hx j x h] at e; simp at e, fun j x h => by rw [hx j x h]; omega⟩
/-- The takers that have taken a number, as far as they have been counted. -/
theorem cnt_take (s : Nat) (L : List Mac) (i : Nat) (y : Mac) (h : L[i]? = some y) : cnt s (L.take (i + 1)) = cnt s (L.take i) + (if y.1 = s then 1 else 0) := by
  obtain ⟨hi, rfl⟩ := List.getElem?_eq_some_iff.1 h
  unfold cnt
  rw [List.take_succ_eq_append_getElem hi, List.countP_append, List.countP_singleton]
  simp only [beq_iff_eq]
theorem cnt_full {s n : Nat} {L : List Mac} (h : L.length = n) : cnt s (L.take n) = cnt s L := by rw [List.take_of_length_le (by omega)]
theorem cnt_all (s : Nat) : ∀ (L : List Mac), cnt s L ≠ L.length → ∃ (t : Nat) (y : Mac), L[t]? = some y ∧ y.1 ≠ s
  | [], h => by simp [cnt] at h
  | x :: r, h => by
    by_cases e : x.1 = s
    · obtain ⟨t, y, h1, h2⟩ := cnt_all s r (by simpa [cnt, List.countP_cons, e] using h)
      exact ⟨t + 1, y, by simpa using h1, h2⟩
    · exact ⟨0, x, rfl, e⟩

set_option maxRecDepth 100000 in
set_option maxHeartbeats 1000000 in
theorem lawTakes_long (machines : Int) (limit first : Nat) (A : Option Addr) (n c : Nat) (w : World) (hn : 100 < n) (hm : n ≤ maxLen) :
    Calls Try.prog 3 #[.int .i64 machines, .int .u8 (limit : Int), .int .u8 (first : Int), .slice A n c] w fun e w' => e = .returned (.bool true) ∧ Below w.heap.size w w' := by
  unfold maxLen at hm
  obtain ⟨r, hr, hr2⟩ := mod_ex machines 6 (by omega)
  have HR := Lib.hid hr
  clear hr
  go_enter Try.func3, Try.ntmps3
  go_wp2_with fail
  refine (mod_of _ _ r _ (by omega) (by omega) HR.out).mono ?_; rintro e w2 ⟨rfl, rfl⟩
  go_wp2_with fail
  refine (new_1 _).mono ?_; rintro e w3 ⟨rfl, hM3, hK3⟩
  have HK3 := Lib.hid hK3
  clear hM3 hK3
  go_wp2_with fail
  refine (awake_any _).mono ?_; rintro e w4 ⟨rfl, hK4⟩
  have HK4 := Lib.hid (HK3.out.trans hK4 (fun _ _ h => h))
  clear hK4 HK3
  go_wp2_with fail
  refine (awake_any _).mono ?_; rintro e w5 ⟨rfl, hK5⟩
  have HK5 := Lib.hid (HK4.out.trans hK5 (fun _ _ h => h))
  clear hK5 HK4
  go_wp2
  go_ret
  exact ⟨rfl, HK5.out.below (Nat.le_refl _) (fun _ h => h.elim)⟩

theorem tmod_nat (a m : Nat) : (a : Int).tmod (m : Int) = ((a % m : Nat) : Int) := rfl
theorem emod_nat (a m : Nat) : (a : Int) % (m : Int) = ((a % m : Nat) : Int) := rfl
/-- After the memory is made and its counter set. -/
theorem poked {w w3 w4 : World} {b g : Nat} (hb : w.heap.size ≤ b ∧ w.heap.size ≤ g) (hK3 : Kept (fun _ => False) w w3) (hK : Kept (Own b g) w3 w4) : Kept (fun _ => False) w w4 :=
  hK3.trans hK (fun i hi h => by unfold Own at h; omega)

set_option maxRecDepth 100000 in
set_option maxHeartbeats 16000000 in
theorem lawTakes (machines : Int) (limit first : Nat) (A : Option Addr) (c : Nat) (ps : List Nat) (w : World) (hl : limit < 256) (hf : first < 256) (hn : ps.length ≤ 100) (hps : ∀ x ∈ ps, x < 256)
    (hA : 0 < ps.length → ∃ g off, A = some ⟨g, off, none⟩ ∧ g < w.heap.size ∧ ∀ (j p : Nat), ps[j]? = some p → w.cell? ⟨g, off + j, none⟩ = some (.int .u8 (p : Int))) :
    Calls Try.prog 3 #[.int .i64 machines, .int .u8 (limit : Int), .int .u8 (first : Int), .slice A ps.length c] w fun e w' => e = .returned (.bool true) ∧ Below w.heap.size w w' := by
  obtain ⟨r, hr, hr2⟩ := mod_ex machines 6 (by omega)
  have HR := Lib.hid hr
  obtain ⟨n, hnn⟩ : ∃ n : Nat, (1 : Int) + r = n := ⟨1 + r, by omega⟩
  have hr3 : r < 6 := by omega
  have hn1 : 1 ≤ n ∧ n ≤ 6 := by omega
  obtain ⟨hn1, hn6⟩ := hn1
  obtain ⟨fro, hfro⟩ : ∃ f : Nat, f = first % 4 := ⟨_, rfl⟩
  obtain ⟨most, hmost⟩ : ∃ f : Nat, f = limit % 8 := ⟨_, rfl⟩
  have hf1 : (first : Int) % 4 = (fro : Int) := by rw [hfro]; rfl
  have hf2 : (first : Int).tmod 4 = (fro : Int) := by rw [hfro]; rfl
  have hm1 : (limit : Int) % 8 = (most : Int) := by rw [hmost]; rfl
  have hm2 : (limit : Int).tmod 8 = (most : Int) := by rw [hmost]; rfl
  have hf3 : fro ≤ 3 := by omega
  have hm7 : most ≤ 7 := by omega
  have HN := Lib.hid hnn
  have HA := Lib.hid hA
  have HP := Lib.hid hps
  clear hr hnn hr2 hA hps hfro hmost
  have hmk1 := make_bool n (by omega)
  obtain ⟨i0, hi, hz0, hz1, hz2⟩ := info_parts Try.info34
  have HI := Lib.hid hi
  have HZ0 := Lib.hid hz0
  have HZ1 := Lib.hid hz1
  have HZ2 := Lib.hid hz2
  clear hi hz0 hz1 hz2
  go_enter Try.func3, Try.ntmps3
  go_wp2_with fail
  refine (mod_of _ _ r _ (by omega) (by omega) HR.out).mono ?_; rintro e w2 ⟨rfl, rfl⟩
  go_wp2_with fail
  rw [HN.out]
  refine (new_1 _).mono ?_; rintro e w3 ⟨rfl, hM3, hK3⟩
  have HM3 := Lib.hid hM3
  have HK3 := Lib.hid hK3
  clear hM3 hK3
  go_wp2_with fail
  refine (awake_any _).mono ?_; rintro e w4 ⟨rfl, hK4⟩
  have HM4 := Lib.hid (HM3.out.kept hK4 id id)
  have HK4 := Lib.hid (HK3.out.trans hK4 (fun _ _ h => h))
  clear hK4 HM3 HK3
  go_wp2_with fail
  refine (poke_any _ _ _ _ 0 (fro : Int) 0 ⟨#[]⟩ _ HM4.out).mono ?_; rintro e w5 ⟨rfl, hM5, hK5⟩
  have HM5 := Lib.hid (show Mem w5 (w.heap.size + 1) w.heap.size [((fro : Int), ⟨#[]⟩, 0)] 0 from hM5)
  have HK5 := Lib.hid (poked ⟨Nat.le_succ _, Nat.le_refl _⟩ HK4.out hK5)
  clear hM5 hK5 HM4 HK4
  go_wp2_with fail
  go_loopw [14, 15] (fun v i wr => ∃ (j : Nat) (Q : List Nat), j ≤ n ∧ i = .int .i64 j ∧ Mk 34 56 (fun _ => most) w5 wr (w.heap.size + 1) w.heap.size j ((fro : Int), ⟨#[]⟩, 0) Q v) (fun _ i _ => n - (intOf i).toNat)
  case atStart => exact ⟨0, [], by omega, rfl, rfl, World.ownsRow_nil _ _ _ _, (fun _ h => by cases h), List.nodup_nil, (fun _ _ h => by simp at h), (fun _ h => by cases h), HM5.out, Kept.refl _ _⟩
  case round =>
    obtain ⟨j, Q, hj, rfl, hS⟩ := hrel
    have HS := Lib.hid hS
    clear hS
    by_cases hlt : j < n
    · go_wp2_with fail
      refine (newTake_any 0 most _).mono ?_; rintro e w6 ⟨rfl, rfl⟩
      have hz := HS.out.kept.size
      have hM6 := HS.out.mem.alloc (.cells ⟨macv 0 0 ⟨#[]⟩ 0 false most false false⟩ 56)
      have hQ6 := Blk.new wr (macv 0 0 ⟨#[]⟩ 0 false most false false) 56
      have hK6 := HS.out.kept.alloc (.cells ⟨macv 0 0 ⟨#[]⟩ 0 false most false false⟩ 56)
      have hO6 := HS.out.own.alloc (.cells ⟨macv 0 0 ⟨#[]⟩ 0 false most false false⟩ 56)
      have hAp : ∀ r, Value.ownBlock u14 = some r → r ∉ Q ∧ r < wr.heap.size := fun r h => ⟨HS.out.apart r h, (HS.out.own.lt r h).2⟩
      have hMa : ∀ (t p : Nat), Q[t]? = some p → Blk (wr.alloc (.cells ⟨macv 0 0 ⟨#[]⟩ 0 false most false false⟩ 56)) p 56 (macb most (0, 0)) := fun t p h => (HS.out.mach t p h).alloc _
      have hBi := HS.out.big
      have hl := HS.out.len
      have hnd := HS.out.nd
      have hz5 : wr.heap.size < (wr.alloc (.cells ⟨macv 0 0 ⟨#[]⟩ 0 false most false false⟩ 56)).heap.size := hQ6.lt
      clear HS
      generalize hqq : wr.heap.size = q at *
      have Hqq := Lib.hid hqq
      clear hqq
      generalize wr.alloc (.cells ⟨macv 0 0 ⟨#[]⟩ 0 false most false false⟩ 56) = W5 at *
      have HM6 := Lib.hid hM6
      have HQ6 := Lib.hid hQ6
      have HK6 := Lib.hid hK6
      have HO6 := Lib.hid hO6
      have HAp := Lib.hid hAp
      have HMa := Lib.hid hMa
      have HBi := Lib.hid hBi
      have HND := Lib.hid hnd
      clear hM6 hQ6 hK6 hO6 hAp hMa hnd hBi
      go_wp2_with (at_builtin; go_must (refine wpList_append_lies _ rfl (.tmp 71) (.tmp 74) 33 rfl w5.heap.size 34 i0 _ 1 8 Try.underlying33 HI.out HZ0.out HZ1.out HZ2.out rfl (by decide) _ j (ptrs Q) rfl (HO6.out.alloc _) ⟨W5.heap.size, 0, none⟩ 1 1 [.pointer (some ⟨q, 0, none⟩)] rfl rfl (World.news_of_block (cs := #[.pointer (some ⟨q, 0, none⟩)]) (t := 34) (fr := (0, 0)) (heap_alloc_new W5 _)) (by simp [Value.oneCell']) (by omega) ?ap1 ?ap2 ?ap3 _ rfl ?_))
      try case ap1 => unfold maxLen; omega
      try case ap2 => omega
      try case ap3 => rw [nblk_alloc]; have := HK6.out.size; omega
      intro g4 cap4 w7 hown7 hgrow7 hor7 _
      have hMK := Mk.push (lim := fun _ => most) (HM5.out.obj.lt) (HM5.out.row.lt) hl HND.out HAp.out HO6.out HMa.out HBi.out HQ6.out hz HM6.out HK6.out hown7 hgrow7 hor7
      have HMK := Lib.hid hMK
      clear hMK hown7 hgrow7 hor7 HND HAp HO6 HMa HQ6 HM6 HK6 HBi
      go_wp2
      go_roundw
      case rel => exact ⟨j + 1, _, by omega, by go_num, HMK.out⟩
      case measure => simp [intOf]; omega
    · obtain rfl : j = n := by omega
      obtain ⟨ga, cap, rfl, hga, hgl, hcs⟩ := own_slice HS.out.own (by omega)
      have hC := Mk.ctx HK5.out ⟨by omega, HM5.out.obj.lt⟩ ⟨by omega, HM5.out.row.lt⟩ HS.out hga hgl hcs
      have hE := Mk.run (P := ps.length) (by omega) (by omega) HS.out
      go_wp2_with fail
      have hgr : Hid (∃ x, x = wr.heap.size) := Lib.hid ⟨_, rfl⟩
      generalize wr.alloc (.cells (Array.replicate j (.bool false)) 4) = W0 at *
      generalize wr.heap.size = gd at *
      have HC := Lib.hid hC
      have HE := Lib.hid hE
      have HT := Lib.hid (Tk.start fro most j hf3 hm7)
      clear hC hE hcs hga hgl HS HK5 HM5 hmk1 HI HZ0 HZ1 HZ2 hgr hf1 hf2 hm1 hm2 hf hl HR HN hr3 hlt i0
      go_loopw [17] (fun i wf => ∃ (k : Nat) (L : List Mac) (v a : Nat), k ≤ ps.length + 30 * j ∧ i = .int .i64 k ∧ Run W0 wf (w.heap.size + 1) w.heap.size gd j ps.length k Q (fun _ => 56) (fun _ => most) L v a (dones L) ∧ Tk fro most L v)
        (fun i _ => ps.length + 30 * j - (intOf i).toNat)
      case atStart => exact ⟨0, _, _, 0, by omega, rfl, HE.out, HT.out⟩
      case round =>
        obtain ⟨k, L, v, a, hk, rfl, hE, hT⟩ := hrel
        clear HE HT
        have HE := Lib.hid hE
        have HT := Lib.hid hT
        clear hE hT
        by_cases hlt : k < ps.length + 30 * j
        · obtain ⟨q, hq⟩ : ∃ q : Nat, q = k % j := ⟨_, rfl⟩
          have hqn : q < j := by rw [hq]; exact Nat.mod_lt _ (by omega)
          have hq1 : (k : Int) % (j : Int) = (q : Int) := by rw [hq]; rfl
          have hq2 : (k : Int).tmod (j : Int) = (q : Int) := by rw [hq]; rfl
          have Hq := Lib.hid hq
          clear hq
          go_upto_if 93 with fail
          go_cut [18] (fun t wx => ∃ tt : Nat, t = .int .i64 tt ∧ tt < j ∧ (k < ps.length ∨ tt = k % j) ∧ wx = wr)
          case first =>
            by_cases hkp : k < ps.length
            · obtain ⟨g0, off, rfl, hg0, hcell⟩ := HA.out (by omega)
              obtain ⟨p, hp⟩ : ∃ p, p = ps[k] := ⟨_, rfl⟩
              have hp256 : p < 256 := by rw [hp]; exact HP.out _ (List.getElem_mem _)
              have hpc : wr.cell? ⟨g0, off + k, none⟩ = some (.int .u8 (p : Int)) := by
                rw [(HC.out.base HE.out.kept).cell (p := ⟨g0, off + k, none⟩) hg0 id]; exact hcell k p (by rw [List.getElem?_eq_getElem hkp, hp])
              obtain ⟨s, hs⟩ : ∃ s : Nat, s = p % j := ⟨_, rfl⟩
              have hsn : s < j := by rw [hs]; exact Nat.mod_lt _ (by omega)
              have hs1 : (p : Int) % (j : Int) = (s : Int) := by rw [hs]; rfl
              have hs2 : (p : Int).tmod (j : Int) = (s : Int) := by rw [hs]; rfl
              clear hs hp hcell
              go_wp2
              go_meet
              exact ⟨s, rfl, hsn, .inl hkp, rfl⟩
            · have hkd : decide (k < ps.length) = false := by simpa using hkp
              go_wp2
              go_meet
              exact ⟨q, rfl, hqn, .inr Hq.out, rfl⟩
          case rest =>
            obtain ⟨t, rfl, htj, hor, rfl⟩ := hcut
            have HOR := Lib.hid hor
            clear Hq hq1 hq2 hqn hor
            go_wp2_with fail
            refine (accesses_any _ _ _ _ _ HE.out.mem).mono ?_; rintro e w6 ⟨rfl, rfl⟩
            go_wp2_with fail
            refine (peek_any _ _ _ _ _ (v : Int) 0 ⟨#[]⟩ _ HE.out.mem rfl).mono ?_; rintro e w6 ⟨rfl, hK6⟩
            have hE6 := HE.out.still hK6
            clear HE hK6
            have HE := Lib.hid hE6
            clear hE6
            have hfd := field0 (v : Int) 0 ⟨#[]⟩
            obtain ⟨qq, hqq⟩ := HC.out.machine htj
            obtain ⟨y, hy⟩ := HE.out.state htj
            obtain ⟨s, N⟩ := y
            have hst : s ≤ 3 := HE.out.st _ (List.mem_of_getElem? hy)
            have hN : N ≤ 7 := HT.out.seen t _ hy
            have hv7 := HT.out.small
            have hak := HE.out.acc
            have hB := HE.out.mac t _ qq hy hqq
            have cpt : w6.cell? ⟨ga, t, none⟩ = some (.pointer (some ⟨qq, 0, none⟩)) := HC.out.ptr HE.out.kept hqq
            have hqb := (HC.out.own hqq).2.1
            have hqg := (HC.out.own hqq).2.2.1
            have HY := Lib.hid hy
            have HQQ := Lib.hid hqq
            clear hy hqq
            go_wp2_with fail
            rcases (by omega : s = 0 ∨ s = 1 ∨ s = 2 ∨ s = 3) with rfl | rfl | rfl | rfl
            · by_cases hl : most ≤ v
              · have hne : ((v : Int) == (v : Int) + 1) = false := by rw [beq_eq_false_iff_ne]; omega
                have hne2 : (false != ((v : Int) == (v : Int) + 1)) = false := by rw [hne]; rfl
                refine (take_pick (y := (0, N)) (y' := (3, v)) (v' := v) (c' := a + 1) (r := true) (by omega) hB HE.out.mem hqb hqg (by omega) (by omega) (by simp [moved, hl]) rfl rfl rfl).mono ?_; rintro e w7 ⟨rfl, hM7, hB7, hK7⟩
                have HT7 := Lib.hid (HT.out.step (y' := (3, v)) (v' := v) HY.out (by omega) (by simp [moved, hl]) rfl)
                have HE7 := Lib.hid (HE.out.step (goal := N + 1) (y' := (3, v)) (v' := v) HC.out HY.out HQQ.out HOR.out (by simp [moved, hl]) rfl hK7 hM7 (by omega) hB7)
                clear hM7 hB7 hK7 hB HT HE cpt
                go_wp2_with fail
                refine (peek_any _ _ _ _ _ ((v : Nat) : Int) 0 ⟨#[]⟩ _ HE7.out.mem rfl).mono ?_; rintro e w8 ⟨rfl, hK8⟩
                have HE8 := Lib.hid (HE7.out.still hK8)
                have hfd8 := field0 ((v : Nat) : Int) 0 ⟨#[]⟩
                have xs : w8.cell? ⟨gd, t, none⟩ = some (.bool false) := HE8.out.bd.cell (dones_at HY.out)
                have zs := HE8.out.bd.frozen t
                have cpt : w8.cell? ⟨ga, t, none⟩ = some (.pointer (some ⟨qq, 0, none⟩)) := HC.out.ptr HE8.out.kept HQQ.out
                clear hK8 HE7
                go_wp2_with fail
                refine (accesses_any _ _ _ _ _ HE8.out.mem).mono ?_; rintro e w9 ⟨rfl, rfl⟩
                go_wp2_with fail
                refine (number_no qq _ 0 v ⟨#[]⟩ 0 _ _ _ _ (HE8.out.mac t _ qq (set_self HY.out) HQQ.out)).mono ?_; rintro e w11 ⟨rfl, rfl⟩
                go_wp2_with fail
                have HNX := Lib.hid (show Run W0 (w8.setCell ⟨gd, t, none⟩ (.bool true)) (w.heap.size + 1) w.heap.size gd j ps.length (k + 1) Q (fun _ => 56) (fun _ => most) (L.set t (3, v)) (v) (a + 1) (dones (L.set t (3, v))) by rw [dones_set]; exact HE8.out.store HC.out t (.bool true))
                clear HE8
                go_roundw
                case rel => exact ⟨k + 1, _, _, _, by omega, by go_num, HNX.out, HT7.out⟩
                case measure => simp [intOf]; omega
                
              · have hl' : v < most := by omega
                refine (take_pick (y := (0, N)) (y' := (1, v)) (v' := v) (c' := a + 1) (r := false) (by omega) hB HE.out.mem hqb hqg (by omega) (by omega) (by simp [moved, hl]) rfl rfl rfl).mono ?_; rintro e w7 ⟨rfl, hM7, hB7, hK7⟩
                have HT7 := Lib.hid (HT.out.step (y' := (1, v)) (v' := v) HY.out (by omega) (by simp [moved, hl]) rfl)
                have HE7 := Lib.hid (HE.out.step (goal := N + 1) (y' := (1, v)) (v' := v) HC.out HY.out HQQ.out HOR.out (by simp [moved, hl]) rfl hK7 hM7 (by omega) hB7)
                clear hM7 hB7 hK7 hB HT HE cpt
                go_wp2_with fail
                refine (peek_any _ _ _ _ _ ((v : Nat) : Int) 0 ⟨#[]⟩ _ HE7.out.mem rfl).mono ?_; rintro e w8 ⟨rfl, hK8⟩
                have HE8 := Lib.hid (HE7.out.still hK8)
                have hfd8 := field0 ((v : Nat) : Int) 0 ⟨#[]⟩
                have xs : w8.cell? ⟨gd, t, none⟩ = some (.bool false) := HE8.out.bd.cell (dones_at HY.out)
                have zs := HE8.out.bd.frozen t
                have cpt : w8.cell? ⟨ga, t, none⟩ = some (.pointer (some ⟨qq, 0, none⟩)) := HC.out.ptr HE8.out.kept HQQ.out
                clear hK8 HE7
                go_wp2_with fail
                refine (accesses_any _ _ _ _ _ HE8.out.mem).mono ?_; rintro e w9 ⟨rfl, rfl⟩
                go_wp2_with fail
                have HNX := Lib.hid (show Run W0 (w8.setCell ⟨gd, t, none⟩ (.bool false)) (w.heap.size + 1) w.heap.size gd j ps.length (k + 1) Q (fun _ => 56) (fun _ => most) (L.set t (1, v)) (v) (a + 1) (dones (L.set t (1, v))) by rw [dones_set]; exact HE8.out.store HC.out t (.bool false))
                clear HE8
                go_roundw
                case rel => exact ⟨k + 1, _, _, _, by omega, by go_num, HNX.out, HT7.out⟩
                case measure => simp [intOf]; omega
            · by_cases hl : N = v
              · subst hl
                refine (take_pick (y := (1, N)) (y' := (2, N)) (v' := N + 1) (c' := a + 1) (r := true) (by omega) hB HE.out.mem hqb hqg (by omega) (by omega) (by simp [moved]) (by simp [counts]) rfl rfl).mono ?_; rintro e w7 ⟨rfl, hM7, hB7, hK7⟩
                have HT7 := Lib.hid (HT.out.step (y' := (2, N)) (v' := N + 1) HY.out (by omega) (by simp [moved]) (by simp [counts]))
                have HE7 := Lib.hid (HE.out.step (goal := N + 1) (y' := (2, N)) (v' := N + 1) HC.out HY.out HQQ.out HOR.out (by simp [moved]) (by simp [counts]) hK7 hM7 (by omega) hB7)
                clear hM7 hB7 hK7 hB HT HE cpt
                go_wp2_with fail
                refine (peek_any _ _ _ _ _ ((N : Int) + 1) 0 ⟨#[]⟩ _ HE7.out.mem rfl).mono ?_; rintro e w8 ⟨rfl, hK8⟩
                have HE8 := Lib.hid (HE7.out.still hK8)
                have hfd8 := field0 ((N : Int) + 1) 0 ⟨#[]⟩
                have xs : w8.cell? ⟨gd, t, none⟩ = some (.bool false) := HE8.out.bd.cell (dones_at HY.out)
                have zs := HE8.out.bd.frozen t
                have cpt : w8.cell? ⟨ga, t, none⟩ = some (.pointer (some ⟨qq, 0, none⟩)) := HC.out.ptr HE8.out.kept HQQ.out
                clear hK8 HE7
                go_wp2_with fail
                refine (accesses_any _ _ _ _ _ HE8.out.mem).mono ?_; rintro e w9 ⟨rfl, rfl⟩
                go_wp2_with fail
                refine (number_yes qq _ 0 N ⟨#[]⟩ 0 _ _ _ _ (HE8.out.mac t _ qq (set_self HY.out) HQQ.out) (by omega)).mono ?_; rintro e w11 ⟨rfl, rfl⟩
                go_wp2_with fail
                have HNX := Lib.hid (show Run W0 (w8.setCell ⟨gd, t, none⟩ (.bool true)) (w.heap.size + 1) w.heap.size gd j ps.length (k + 1) Q (fun _ => 56) (fun _ => most) (L.set t (2, N)) (N + 1) (a + 1) (dones (L.set t (2, N))) by rw [dones_set]; exact HE8.out.store HC.out t (.bool true))
                clear HE8
                go_roundw
                case rel => exact ⟨k + 1, _, _, _, by omega, by go_num, HNX.out, HT7.out⟩
                case measure => simp [intOf]; omega
              · skip
                refine (take_pick (y := (1, N)) (y' := (0, N)) (v' := v) (c' := a + 1) (r := false) (by omega) hB HE.out.mem hqb hqg (by omega) (by omega) (by simp [moved, hl]) (by simp [counts, hl]) rfl rfl).mono ?_; rintro e w7 ⟨rfl, hM7, hB7, hK7⟩
                have HT7 := Lib.hid (HT.out.step (y' := (0, N)) (v' := v) HY.out (by omega) (by simp [moved, hl]) (by simp [counts, hl]))
                have HE7 := Lib.hid (HE.out.step (goal := N + 1) (y' := (0, N)) (v' := v) HC.out HY.out HQQ.out HOR.out (by simp [moved, hl]) (by simp [counts, hl]) hK7 hM7 (by omega) hB7)
                clear hM7 hB7 hK7 hB HT HE cpt
                go_wp2_with fail
                refine (peek_any _ _ _ _ _ ((v : Nat) : Int) 0 ⟨#[]⟩ _ HE7.out.mem rfl).mono ?_; rintro e w8 ⟨rfl, hK8⟩
                have HE8 := Lib.hid (HE7.out.still hK8)
                have hfd8 := field0 ((v : Nat) : Int) 0 ⟨#[]⟩
                have xs : w8.cell? ⟨gd, t, none⟩ = some (.bool false) := HE8.out.bd.cell (dones_at HY.out)
                have zs := HE8.out.bd.frozen t
                have cpt : w8.cell? ⟨ga, t, none⟩ = some (.pointer (some ⟨qq, 0, none⟩)) := HC.out.ptr HE8.out.kept HQQ.out
                clear hK8 HE7
                go_wp2_with fail
                refine (accesses_any _ _ _ _ _ HE8.out.mem).mono ?_; rintro e w9 ⟨rfl, rfl⟩
                go_wp2_with fail
                have HNX := Lib.hid (show Run W0 (w8.setCell ⟨gd, t, none⟩ (.bool false)) (w.heap.size + 1) w.heap.size gd j ps.length (k + 1) Q (fun _ => 56) (fun _ => most) (L.set t (0, N)) (v) (a + 1) (dones (L.set t (0, N))) by rw [dones_set]; exact HE8.out.store HC.out t (.bool false))
                clear HE8
                go_roundw
                case rel => exact ⟨k + 1, _, _, _, by omega, by go_num, HNX.out, HT7.out⟩
                case measure => simp [intOf]; omega
            · skip
              refine (take_pick (y := (2, N)) (y' := (2, N)) (v' := v) (c' := a) (r := true) (by omega) hB HE.out.mem hqb hqg (by omega) (by omega) rfl rfl rfl rfl).mono ?_; rintro e w7 ⟨rfl, hM7, hB7, hK7⟩
              have HT7 := Lib.hid (HT.out.step (y' := (2, N)) (v' := v) HY.out (by omega) rfl rfl)
              have HE7 := Lib.hid (HE.out.step (goal := N + 1) (y' := (2, N)) (v' := v) HC.out HY.out HQQ.out HOR.out rfl rfl hK7 hM7 (by omega) hB7)
              clear hM7 hB7 hK7 hB HT HE cpt
              go_wp2_with fail
              refine (peek_any _ _ _ _ _ ((v : Nat) : Int) 0 ⟨#[]⟩ _ HE7.out.mem rfl).mono ?_; rintro e w8 ⟨rfl, hK8⟩
              have HE8 := Lib.hid (HE7.out.still hK8)
              have hfd8 := field0 ((v : Nat) : Int) 0 ⟨#[]⟩
              have xs : w8.cell? ⟨gd, t, none⟩ = some (.bool true) := HE8.out.bd.cell (dones_at HY.out)
              have zs := HE8.out.bd.frozen t
              have cpt : w8.cell? ⟨ga, t, none⟩ = some (.pointer (some ⟨qq, 0, none⟩)) := HC.out.ptr HE8.out.kept HQQ.out
              clear hK8 HE7
              go_wp2_with fail
              refine (accesses_any _ _ _ _ _ HE8.out.mem).mono ?_; rintro e w9 ⟨rfl, rfl⟩
              go_wp2_with fail
              refine (accesses_any _ _ _ _ _ HE8.out.mem).mono ?_; rintro e w10 ⟨rfl, rfl⟩
              go_wp2_with fail
              have HNX := Lib.hid (show Run W0 (w8.setCell ⟨gd, t, none⟩ (.bool true)) (w.heap.size + 1) w.heap.size gd j ps.length (k + 1) Q (fun _ => 56) (fun _ => most) (L.set t (2, N)) (v) (a) (dones (L.set t (2, N))) by rw [dones_set]; exact HE8.out.store HC.out t (.bool true))
              clear HE8
              go_roundw
              case rel => exact ⟨k + 1, _, _, _, by omega, by go_num, HNX.out, HT7.out⟩
              case measure => simp [intOf]; omega
            · skip
              refine (take_pick (y := (3, N)) (y' := (3, N)) (v' := v) (c' := a) (r := true) (by omega) hB HE.out.mem hqb hqg (by omega) (by omega) rfl rfl rfl rfl).mono ?_; rintro e w7 ⟨rfl, hM7, hB7, hK7⟩
              have HT7 := Lib.hid (HT.out.step (y' := (3, N)) (v' := v) HY.out (by omega) rfl rfl)
              have HE7 := Lib.hid (HE.out.step (goal := N + 1) (y' := (3, N)) (v' := v) HC.out HY.out HQQ.out HOR.out rfl rfl hK7 hM7 (by omega) hB7)
              clear hM7 hB7 hK7 hB HT HE cpt
              go_wp2_with fail
              refine (peek_any _ _ _ _ _ ((v : Nat) : Int) 0 ⟨#[]⟩ _ HE7.out.mem rfl).mono ?_; rintro e w8 ⟨rfl, hK8⟩
              have HE8 := Lib.hid (HE7.out.still hK8)
              have hfd8 := field0 ((v : Nat) : Int) 0 ⟨#[]⟩
              have xs : w8.cell? ⟨gd, t, none⟩ = some (.bool true) := HE8.out.bd.cell (dones_at HY.out)
              have zs := HE8.out.bd.frozen t
              have cpt : w8.cell? ⟨ga, t, none⟩ = some (.pointer (some ⟨qq, 0, none⟩)) := HC.out.ptr HE8.out.kept HQQ.out
              clear hK8 HE7
              go_wp2_with fail
              refine (accesses_any _ _ _ _ _ HE8.out.mem).mono ?_; rintro e w9 ⟨rfl, rfl⟩
              go_wp2_with fail
              refine (accesses_any _ _ _ _ _ HE8.out.mem).mono ?_; rintro e w10 ⟨rfl, rfl⟩
              go_wp2_with fail
              have HNX := Lib.hid (show Run W0 (w8.setCell ⟨gd, t, none⟩ (.bool true)) (w.heap.size + 1) w.heap.size gd j ps.length (k + 1) Q (fun _ => 56) (fun _ => most) (L.set t (3, N)) (v) (a) (dones (L.set t (3, N))) by rw [dones_set]; exact HE8.out.store HC.out t (.bool true))
              clear HE8
              go_roundw
              case rel => exact ⟨k + 1, _, _, _, by omega, by go_num, HNX.out, HT7.out⟩
              case measure => simp [intOf]; omega
        · have hkk : ps.length + 30 * j ≤ k := by omega
          have HD : Hid (∀ (t : Nat) (y : Mac), L[t]? = some y → y.1 = 2 ∨ y.1 = 3) := Lib.hid (fun t y hy => HE.out.done (m := 30) (by omega) hkk hy)
          clear hkk
          have hlen := HE.out.len
          have hj6 := HE.out.n6
          go_wp2_with fail
          go_loopw [25, 26] (fun h i wl => ∃ m : Nat, m ≤ j ∧ i = .int .i64 m ∧ h = .int .u64 ((cnt 2 (L.take m) : Nat) : Int) ∧ wl = wr) (fun _ i _ => j - (intOf i).toNat)
          case atStart => exact ⟨0, by omega, rfl, rfl, rfl⟩
          case round =>
            obtain ⟨m, hm, rfl, rfl, rfl⟩ := hrel
            by_cases hmj : m < j
            · obtain ⟨y, hy⟩ := HE.out.state hmj
              obtain ⟨qq, hqq⟩ := HC.out.machine hmj
              obtain ⟨s, N⟩ := y
              have hN : N ≤ 7 := HT.out.seen m _ hy
              have hct := cnt_take 2 L m _ hy
              have hle : cnt 2 (L.take m) ≤ 6 := Nat.le_trans (cnt_le _ _) (by rw [List.length_take]; omega)
              have cpt : _ = some (Value.pointer (some ⟨qq, 0, none⟩)) := HC.out.ptr HE.out.kept hqq
              have hB := HE.out.mac m _ qq hy hqq
              have hst : Hid (s = 2 ∨ s = 3) := Lib.hid (HD.out m _ hy)
              obtain ⟨h, hh⟩ : ∃ h, cnt 2 (L.take m) = h := ⟨_, rfl⟩
              rw [hh] at hct hle
              rw [hh]
              try simp only at hct
              have HCT := Lib.hid hct
              have HY := Lib.hid hy
              clear hct hh hy hqq
              try simp only at cpt
              rcases hst.out with rfl | rfl
              · have csm : _ = some (Value.bool true) := HE.out.bd.cell (dones_at HY.out)
                go_wp2_with fail
                refine (number_yes qq _ 0 N ⟨#[]⟩ 0 _ _ _ _ hB (by omega)).mono ?_; rintro e w7 ⟨rfl, rfl⟩
                go_wp2
                go_roundw
                case rel => exact ⟨m + 1, by omega, by go_num, by rw [HCT.out]; simp, trivial⟩
                case measure => simp [intOf]; omega
              · have csm : _ = some (Value.bool true) := HE.out.bd.cell (dones_at HY.out)
                go_wp2_with fail
                refine (number_no qq _ 0 N ⟨#[]⟩ 0 _ _ _ _ hB).mono ?_; rintro e w7 ⟨rfl, rfl⟩
                go_wp2
                go_roundw
                case rel => exact ⟨m + 1, by omega, by go_num, by rw [HCT.out]; simp, trivial⟩
                case measure => simp [intOf]; omega
            · obtain rfl : m = j := by omega
              rw [cnt_full hlen]
              have hall : cnt 2 L = m ∨ most ≤ v := by
                by_cases e : cnt 2 L = m
                · exact .inl e
                · obtain ⟨t, y, h1, h2⟩ := cnt_all 2 L (by omega)
                  exact .inr (HT.out.ref t y h1 (by have := HD.out t y h1; omega))
              obtain ⟨T, hT⟩ : ∃ T, cnt 2 L = T := ⟨_, rfl⟩
              have hsum := HT.out.sum
              have hle := HT.out.le
              have hv7 := HT.out.small
              rw [hT] at hsum hle hall
              rw [hT]
              have hT6 : T ≤ 7 := by omega
              clear hT hlen
              subst hsum
              have hfd := field0 ((fro : Int) + (T : Int)) 0 ⟨#[]⟩
              by_cases h2 : T = m
              · have hTm : ((T : Int) == (m : Int)) = true := by rw [h2]; simp
                clear hall h2
                by_cases h1 : fro + T ≤ most
                · clear hle
                  go_wp2_with fail
                  refine (peek_any _ _ _ _ _ ((fro : Int) + (T : Int)) 0 ⟨#[]⟩ _ HE.out.mem rfl).mono ?_; rintro e w21 ⟨rfl, hK21⟩
                  have H21 := Lib.hid (HE.out.still hK21)
                  clear hK21 HE
                  go_wp2_with fail
                  refine (peek_any _ _ _ _ _ ((fro : Int) + (T : Int)) 0 ⟨#[]⟩ _ H21.out.mem rfl).mono ?_; rintro e w22 ⟨rfl, hK22⟩
                  have H22 := Lib.hid (H21.out.still hK22)
                  clear hK22 H21
                  go_wp2_with fail
                  go_ret
                  exact ⟨rfl, (HC.out.base H22.out.kept).below (Nat.le_refl _) (fun _ h => h.elim)⟩
                · have hT0 : T = 0 := by omega
                  have hTz : ((T : Int) == 0) = true := by rw [hT0]; rfl
                  clear hle hT0
                  go_wp2_with fail
                  refine (peek_any _ _ _ _ _ ((fro : Int) + (T : Int)) 0 ⟨#[]⟩ _ HE.out.mem rfl).mono ?_; rintro e w21 ⟨rfl, hK21⟩
                  have H21 := Lib.hid (HE.out.still hK21)
                  clear hK21 HE
                  go_wp2_with fail
                  refine (peek_any _ _ _ _ _ ((fro : Int) + (T : Int)) 0 ⟨#[]⟩ _ H21.out.mem rfl).mono ?_; rintro e w22 ⟨rfl, hK22⟩
                  have H22 := Lib.hid (H21.out.still hK22)
                  clear hK22 H21
                  go_wp2_with fail
                  go_ret
                  exact ⟨rfl, (HC.out.base H22.out.kept).below (Nat.le_refl _) (fun _ h => h.elim)⟩
              · have h3 : most ≤ fro + T := by omega
                have hTm : ((T : Int) == (m : Int)) = false := by rw [beq_eq_false_iff_ne]; omega
                have h3d : decide ((most : Int) ≤ (fro : Int) + (T : Int)) = true := by simp; omega
                clear hall
                by_cases h1 : fro + T ≤ most
                · clear hle
                  go_wp2_with fail
                  refine (peek_any _ _ _ _ _ ((fro : Int) + (T : Int)) 0 ⟨#[]⟩ _ HE.out.mem rfl).mono ?_; rintro e w21 ⟨rfl, hK21⟩
                  have H21 := Lib.hid (HE.out.still hK21)
                  clear hK21 HE
                  go_wp2_with fail
                  refine (peek_any _ _ _ _ _ ((fro : Int) + (T : Int)) 0 ⟨#[]⟩ _ H21.out.mem rfl).mono ?_; rintro e w22 ⟨rfl, hK22⟩
                  have H22 := Lib.hid (H21.out.still hK22)
                  clear hK22 H21
                  go_wp2_with fail
                  refine (peek_any _ _ _ _ _ ((fro : Int) + (T : Int)) 0 ⟨#[]⟩ _ H22.out.mem rfl).mono ?_; rintro e w23 ⟨rfl, hK23⟩
                  have H23 := Lib.hid (H22.out.still hK23)
                  clear hK23 H22
                  go_wp2_with fail
                  go_ret
                  exact ⟨rfl, (HC.out.base H23.out.kept).below (Nat.le_refl _) (fun _ h => h.elim)⟩
                · have hT0 : T = 0 := by omega
                  have hTz : ((T : Int) == 0) = true := by rw [hT0]; rfl
                  clear hle hT0
                  go_wp2_with fail
                  refine (peek_any _ _ _ _ _ ((fro : Int) + (T : Int)) 0 ⟨#[]⟩ _ HE.out.mem rfl).mono ?_; rintro e w21 ⟨rfl, hK21⟩
                  have H21 := Lib.hid (HE.out.still hK21)
                  clear hK21 HE
                  go_wp2_with fail
                  refine (peek_any _ _ _ _ _ ((fro : Int) + (T : Int)) 0 ⟨#[]⟩ _ H21.out.mem rfl).mono ?_; rintro e w22 ⟨rfl, hK22⟩
                  have H22 := Lib.hid (H21.out.still hK22)
                  clear hK22 H21
                  go_wp2_with fail
                  refine (peek_any _ _ _ _ _ ((fro : Int) + (T : Int)) 0 ⟨#[]⟩ _ H22.out.mem rfl).mono ?_; rintro e w23 ⟨rfl, hK23⟩
                  have H23 := Lib.hid (H22.out.still hK23)
                  clear hK23 H22
                  go_wp2_with fail
                  go_ret
                  exact ⟨rfl, (HC.out.base H23.out.kept).below (Nat.le_refl _) (fun _ h => h.elim)⟩

end Go.Proofs.Ytjligbinelmhcaa
