/-
  Machines that share one counter, in memory: what lies where while they are picked, and that a pick keeps it so; how they are made. Condition: one to six machines.
-/
import Derived.Test.YtjligbinelmhcaaAllMach
import Derived.Test.YtjligbinelmhcaaAllPlain
namespace Go.Proofs.Ytjligbinelmhcaa
open Go.RowKit Go.Deep
set_option linter.unusedVariables false

/-- The cells of a machine in this state. -/
def macb (lim : Nat) (y : Mac) : List Value := macv 0 y.2 ⟨#[]⟩ 0 (y.1 == 1 || y.1 == 3) lim (y.1 == 2) (decide (2 ≤ y.1))
def dones (L : List Mac) : List Value := L.map fun x => .bool (decide (2 ≤ x.1))
def ptrs (Q : List Nat) : List Value := Q.map fun r => .pointer (some ⟨r, 0, none⟩)
theorem dones_at {L : List Mac} {t : Nat} {y : Mac} (h : L[t]? = some y) : (dones L)[t]? = some (.bool (decide (2 ≤ y.1))) := by unfold dones; rw [List.getElem?_map, h]; rfl
theorem dones_set (L : List Mac) (t : Nat) (y : Mac) : dones (L.set t y) = (dones L).set t (.bool (decide (2 ≤ y.1))) := by unfold dones; rw [List.map_set]
theorem dones_same {L : List Mac} {t : Nat} {y y' : Mac} (h : L[t]? = some y) (e : decide (2 ≤ y'.1) = decide (2 ≤ y.1)) : dones (L.set t y') = dones L := by
  rw [dones_set]
  apply List.ext_getElem?
  intro j
  by_cases hj : j = t
  · subst hj
    rw [List.getElem?_set_self (by unfold dones; rw [List.length_map]; exact (List.getElem?_eq_some_iff.1 h).1), dones_at h, e]
  · rw [List.getElem?_set_ne (fun e => hj e.symm)]

/-- The blocks that picks write to. -/
def Wrs (b g gd : Nat) (Q : List Nat) : Nat → Prop := fun i => i = b ∨ i = g ∨ i = gd ∨ i ∈ Q
/-- What the set-up has made: Q are the machines, ad t the place of the pointer to machine t, gd the row of who has finished. -/
structure Ctx (w W0 : World) (b g gd n : Nat) (Q : List Nat) (ad : Nat → Addr) : Prop where
  lq : Q.length = n
  nd : ∀ (i j q : Nat), Q[i]? = some q → Q[j]? = some q → i = j
  q : ∀ q ∈ Q, q < W0.heap.size ∧ q ≠ b ∧ q ≠ g ∧ q ≠ gd ∧ w.heap.size ≤ q
  lb : b < W0.heap.size ∧ w.heap.size ≤ b ∧ b ≠ gd
  lg : g < W0.heap.size ∧ w.heap.size ≤ g ∧ g ≠ gd
  ls : gd < W0.heap.size ∧ w.heap.size ≤ gd
  a : ∀ (j q : Nat), Q[j]? = some q → (ad j).block < W0.heap.size ∧ ¬ Wrs b g gd Q (ad j).block ∧ W0.cell? (ad j) = some (.pointer (some ⟨q, 0, none⟩))
  kept : Kept (fun _ => False) w W0

structure Run (W0 wr : World) (b g gd n P k : Nat) (Q : List Nat) (ty : Nat → TypeId) (lim : Nat → Nat) (L : List Mac) (v c : Nat) (dn : List Value) : Prop where
  n1 : 1 ≤ n
  n6 : n ≤ 6
  len : L.length = n
  st : ∀ x ∈ L, x.1 ≤ 3
  good : Good n L v k (3 * (n * n) - (k - P))
  acc : c ≤ k
  mem : Mem wr b g [((v : Int), ⟨#[]⟩, 0)] c
  bd : Blk wr gd 4 dn
  mac : ∀ (t : Nat) (y : Mac) (q : Nat), L[t]? = some y → Q[t]? = some q → Blk wr q (ty t) (macb (lim t) y)
  kept : Kept (Wrs b g gd Q) W0 wr

section
variable {w W0 wr wz : World} {b g gd n P k : Nat} {Q : List Nat} {ad : Nat → Addr} {ty : Nat → TypeId} {lim : Nat → Nat} {L : List Mac} {v v' c c' t q : Nat} {y y' : Mac} {dn : List Value}

theorem Ctx.base (C : Ctx w W0 b g gd n Q ad) (h : Kept (Wrs b g gd Q) W0 wr) : Kept (fun _ => False) w wr :=
  C.kept.trans h fun i hi hw => by
    have := C.lb; have := C.lg; have := C.ls
    rcases hw with h | h | h | h
    · omega
    · omega
    · omega
    · have := C.q i h; omega
theorem Ctx.ptr (C : Ctx w W0 b g gd n Q ad) (h : Kept (Wrs b g gd Q) W0 wr) (hq : Q[t]? = some q) : wr.cell? (ad t) = some (.pointer (some ⟨q, 0, none⟩)) := by
  obtain ⟨h1, h2, h3⟩ := C.a t q hq
  rw [h.cell h1 h2]; exact h3
theorem Ctx.machine (C : Ctx w W0 b g gd n Q ad) (ht : t < n) : ∃ q, Q[t]? = some q := ⟨_, List.getElem?_eq_getElem (by rw [C.lq]; exact ht)⟩
theorem Ctx.own (C : Ctx w W0 b g gd n Q ad) (hq : Q[t]? = some q) : q < W0.heap.size ∧ q ≠ b ∧ q ≠ g ∧ q ≠ gd ∧ w.heap.size ≤ q := C.q q (List.mem_of_getElem? hq)
theorem Run.state (E : Run W0 wr b g gd n P k Q ty lim L v c dn) (ht : t < n) : ∃ y, L[t]? = some y := ⟨_, List.getElem?_eq_getElem (by rw [E.len]; exact ht)⟩

theorem Run.still (E : Run W0 wr b g gd n P k Q ty lim L v c dn) (hK : Kept (fun _ => False) wr wz) : Run W0 wz b g gd n P k Q ty lim L v c dn :=
  ⟨E.n1, E.n6, E.len, E.st, E.good, E.acc, E.mem.kept hK id id, hK.blk E.bd id, fun t y q h1 h2 => hK.blk (E.mac t y q h1 h2) id, E.kept.trans hK (fun _ _ h => h.elim)⟩
/-- The row of who has finished is brought up to date. -/
theorem Run.store (C : Ctx w W0 b g gd n Q ad) (E : Run W0 wr b g gd n P k Q ty lim L v c dn) (t : Nat) (u : Value) : Run W0 (wr.setCell ⟨gd, t, none⟩ u) b g gd n P k Q ty lim L v c (dn.set t u) :=
  ⟨E.n1, E.n6, E.len, E.st, E.good, E.acc, E.mem.setFar (fun e => C.lb.2.2 e.symm) (fun e => C.lg.2.2 e.symm) _ _, E.bd.set _ _,
    fun j y q h1 h2 => (E.mac j y q h1 h2).other (show q ≠ gd from (C.own h2).2.2.2.1) _, E.kept.setCell (fun _ => .inr (.inr (.inl rfl))) _⟩
/-- A pick of machine t. -/
theorem Run.step {goal : Nat} (C : Ctx w W0 b g gd n Q ad) (E : Run W0 wr b g gd n P k Q ty lim L v c dn) (hy : L[t]? = some y) (hq : Q[t]? = some q) (h : k < P ∨ t = k % n)
    (hm : moved (lim t) goal y v = y') (hv : counts goal y v = v') (hK : Kept (Own3 q b g) wr wz) (hM : Mem wz b g [((v' : Int), ⟨#[]⟩, 0)] c') (hc : c' ≤ c + 1) (hB : Blk wz q (ty t) (macb (lim t) y')) :
    Run W0 wz b g gd n P (k + 1) Q ty lim (L.set t y') v' c' dn := by
  have hs := E.st y (List.mem_of_getElem? hy)
  have ho := C.own hq
  have hd := C.ls; have hlb := C.lb; have hlg := C.lg
  subst hm hv
  refine ⟨E.n1, E.n6, by rw [List.length_set]; exact E.len, fun x hx => ?_, good_step E.good E.len E.n1 E.n6 hy hs h, by have := E.acc; omega, hM, hK.blk E.bd (by unfold Own3; omega), fun j x p hx hp => ?_, E.kept.trans hK fun i _ hw => ?_⟩
  · rcases List.mem_or_eq_of_mem_set hx with hx | rfl
    · exact E.st x hx
    · exact moved_small hs
  · refine set_all (p := fun j x => ∀ p, Q[j]? = some p → Blk wz p (ty j) (macb (lim j) x)) (fun p hp => ?_) (fun j x hj hx p hp => ?_) j x hx p hp
    · obtain rfl : p = q := by rw [hq] at hp; exact (Option.some.inj hp).symm
      exact hB
    · have hpq : p ≠ q := fun e => hj (C.nd j t q (e ▸ hp) hq)
      have := C.own hp
      exact hK.blk (E.mac j x p hx hp) (by unfold Own3; omega)
  · rcases hw with h | h | h
    · exact .inr (.inr (.inr (h ▸ List.mem_of_getElem? hq)))
    · exact .inl h
    · exact .inr (.inl h)
/-- When all picks are done, all machines have finished. -/
theorem Run.done (E : Run W0 wr b g gd n P k Q ty lim L v c dn) {m : Nat} (hm : 30 ≤ m) (hk : P + m * n ≤ k) (hy : L[t]? = some y) : y.1 = 2 ∨ y.1 = 3 := by
  have hx : 3 * (n * n) ≤ m * n := by
    have h1 := mul_le' (n := n) E.n6
    have h2 := Nat.mul_le_mul_right n hm
    omega
  have hg := E.good
  rw [show 3 * (n * n) - (k - P) = 0 by omega] at hg
  have h0 := hg.zero
  have := E.st y (List.mem_of_getElem? hy)
  have := unf_pos L t y hy
  omega
end

theorem take_pick {w : World} {b g q c c' lim v v' : Nat} {y y' : Mac} {r : Bool} (hs : y.1 ≤ 3) (hb : Blk w q 56 (macb lim y)) (h : Mem w b g [((v : Int), ⟨#[]⟩, 0)] c) (hqb : q ≠ b) (hqg : q ≠ g) (hk : c < 9223372036854775808) (hN : y.2 < 18446744073709551615)
    (hm : moved lim (y.2 + 1) y v = y') (hv : counts (y.2 + 1) y v = v') (hr : decide (2 ≤ y'.1) = r) (hc : (if 2 ≤ y.1 then c else c + 1) = c') :
    Calls Try.prog 13 #[.pointer (some ⟨q, 0, none⟩), .pointer (some ⟨b, 0, none⟩)] w fun e w' => e = .returned (.bool r) ∧ Mem w' b g [((v' : Int), ⟨#[]⟩, 0)] c' ∧ Blk w' q 56 (macb lim y') ∧ Kept (Own3 q b g) w w' := by
  obtain ⟨s, N⟩ := y
  simp only at hs hN hm hv
  rcases (by omega : s = 0 ∨ s = 1 ∨ s = 2 ∨ s = 3) with rfl | rfl | rfl | rfl
  · obtain rfl : v = v' := by simpa [counts] using hv
    by_cases hl : lim ≤ v
    · obtain rfl : (3, v) = y' := by simpa [moved, hl] using hm
      subst hr hc
      exact takeStep_load q b g _ c 0 v N ⟨#[]⟩ ⟨#[]⟩ 0 0 true lim w hb h hqb hqg hk rfl (by simpa using hl)
    · obtain rfl : (1, v) = y' := by simpa [moved, hl] using hm
      subst hr hc
      exact takeStep_load q b g _ c 0 v N ⟨#[]⟩ ⟨#[]⟩ 0 0 false lim w hb h hqb hqg hk rfl (by simpa using hl)
  · by_cases hl : N = v
    · subst hl
      obtain rfl : (2, N) = y' := by simpa [moved] using hm
      obtain rfl : N + 1 = v' := by simpa [counts] using hv
      subst hr hc
      exact takeStep_swap q b g _ _ c 0 N ⟨#[]⟩ 0 true lim w hb h hqb hqg hk hN (by simp [swaps, isIn, cellAt]) rfl
    · obtain rfl : (0, N) = y' := by simpa [moved, hl] using hm
      obtain rfl : v = v' := by simpa [counts, hl] using hv
      subst hr hc
      exact takeStep_swap q b g _ _ c 0 N ⟨#[]⟩ 0 false lim w hb h hqb hqg hk hN (by simp [swaps, isIn, cellAt]; omega) rfl
  all_goals
    obtain rfl := hm
    obtain rfl : v = v' := by simpa [counts] using hv
    subst hr hc
    refine (takeStep_done q b 0 N ⟨#[]⟩ 0 _ _ lim w hb).mono ?_
    rintro e w' ⟨rfl, rfl⟩
    exact ⟨rfl, h, hb, Kept.refl _ _⟩

theorem raise_pick {w : World} {b g q c c' lim v v' : Nat} {y y' : Mac} {r : Bool} (hs : y.1 ≤ 3) (hb : Blk w q 60 (macb lim y)) (h : Mem w b g [((v : Int), ⟨#[]⟩, 0)] c) (hqb : q ≠ b) (hqg : q ≠ g) (hk : c < 9223372036854775808)
    (hm : moved lim lim y v = y') (hv : counts lim y v = v') (hr : decide (2 ≤ y'.1) = r) (hc : (if 2 ≤ y.1 then c else c + 1) = c') :
    Calls Try.prog 16 #[.pointer (some ⟨q, 0, none⟩), .pointer (some ⟨b, 0, none⟩)] w fun e w' => e = .returned (.bool r) ∧ Mem w' b g [((v' : Int), ⟨#[]⟩, 0)] c' ∧ Blk w' q 60 (macb lim y') ∧ Kept (Own3 q b g) w w' := by
  obtain ⟨s, N⟩ := y
  simp only at hs hm hv
  rcases (by omega : s = 0 ∨ s = 1 ∨ s = 2 ∨ s = 3) with rfl | rfl | rfl | rfl
  · obtain rfl : v = v' := by simpa [counts] using hv
    by_cases hl : lim ≤ v
    · obtain rfl : (3, v) = y' := by simpa [moved, hl] using hm
      subst hr hc
      exact raiseStep_load q b g _ c 0 v N ⟨#[]⟩ ⟨#[]⟩ 0 0 true lim w hb h hqb hqg hk rfl (by simpa using hl)
    · obtain rfl : (1, v) = y' := by simpa [moved, hl] using hm
      subst hr hc
      exact raiseStep_load q b g _ c 0 v N ⟨#[]⟩ ⟨#[]⟩ 0 0 false lim w hb h hqb hqg hk rfl (by simpa using hl)
  · by_cases hl : N = v
    · subst hl
      obtain rfl : (2, N) = y' := by simpa [moved] using hm
      obtain rfl : lim = v' := by simpa [counts] using hv
      subst hr hc
      exact raiseStep_swap q b g _ _ c 0 N ⟨#[]⟩ 0 true lim w hb h hqb hqg hk (by simp [swaps, isIn, cellAt]) rfl
    · obtain rfl : (0, N) = y' := by simpa [moved, hl] using hm
      obtain rfl : v = v' := by simpa [counts, hl] using hv
      subst hr hc
      exact raiseStep_swap q b g _ _ c 0 N ⟨#[]⟩ 0 false lim w hb h hqb hqg hk (by simp [swaps, isIn, cellAt]; omega) rfl
  all_goals
    obtain rfl := hm
    obtain rfl : v = v' := by simpa [counts] using hv
    subst hr hc
    refine (raiseStep_done q b 0 N ⟨#[]⟩ 0 _ _ lim w hb).mono ?_
    rintro e w' ⟨rfl, rfl⟩
    exact ⟨rfl, h, hb, Kept.refl _ _⟩

theorem own_slice {w : World} {base e size n : Nat} {v : Value} {xs : List Value} (h : w.ownsRow base e size v n xs) (hn : 0 < n) :
    ∃ g cap, v = .slice (some ⟨g, 0, none⟩) n cap ∧ base ≤ g ∧ g < w.heap.size ∧ ∀ j u, xs[j]? = some u → w.cell? ⟨g, j, none⟩ = some u := by
  rcases h.2 with ⟨_, h0⟩ | ⟨g, cap, cur, rfl, hb, hg, rest⟩
  · omega
  · refine ⟨g, cap, rfl, hb, (Array.getElem?_eq_some_iff.1 hg).1, fun j u hu => ?_⟩
    have := h.cells (g := g) rfl j u hu
    rw [Addr.add_lit, Nat.zero_add] at this
    exact this
theorem ptrs_snoc (Q : List Nat) (q : Nat) : ptrs (Q ++ [q]) = ptrs Q ++ [.pointer (some ⟨q, 0, none⟩)] := by simp [ptrs]
theorem own_block (g n c : Nat) : (Value.slice (some ⟨g, 0, none⟩) n c).ownBlock = some g := rfl

/-- While the machines are made: those made since w. -/
structure Mk (pt ty : TypeId) (lim : Nat → Nat) (w wr : World) (b g j : Nat) (cl : Cel) (Q : List Nat) (v : Value) : Prop where
  len : Q.length = j
  own : wr.ownsRow w.heap.size pt 1 v j (ptrs Q)
  apart : ∀ r, v.ownBlock = some r → r ∉ Q
  nd : Q.Nodup
  mach : ∀ (t q : Nat), Q[t]? = some q → Blk wr q ty (macb (lim t) (0, 0))
  big : ∀ q ∈ Q, w.heap.size ≤ q ∧ q < wr.heap.size
  mem : Mem wr b g [cl] 0
  kept : Kept (fun _ => False) w wr

/-- One machine more. -/
theorem Mk.push {pt ty : TypeId} {lim : Nat → Nat} {w W5 w6 : World} {b g j q g4 cap4 : Nat} {cl : Cel} {Q : List Nat} {v : Value} {o : Obj} (hb : b < w.heap.size) (hg : g < w.heap.size) (hl : Q.length = j) (hnd : Q.Nodup)
    (hA : ∀ r, v.ownBlock = some r → r ∉ Q ∧ r < q) (hO : W5.ownsRow w.heap.size pt 1 v j (ptrs Q))
    (hM : ∀ (t p : Nat), Q[t]? = some p → Blk W5 p ty (macb (lim t) (0, 0))) (hB : ∀ p ∈ Q, w.heap.size ≤ p ∧ p < q) (hQ : Blk W5 q ty (macb (lim j) (0, 0))) (hq : w.heap.size ≤ q) (hMem : Mem W5 b g [cl] 0) (hK : Kept (fun _ => False) w W5)
    (hown : w6.ownsRow w.heap.size pt 1 (.slice (some ⟨g4, 0, none⟩) (j + 1) cap4) (j + 1) (ptrs Q ++ [.pointer (some ⟨q, 0, none⟩)]))
    (hgr : (W5.alloc o).grownBy w6 v.ownBlock) (hor : v.ownBlock = some g4 ∨ g4 = W5.heap.size + 1) : Mk pt ty lim w w6 b g (j + 1) cl (Q ++ [q]) (.slice (some ⟨g4, 0, none⟩) (j + 1) cap4) := by
  have hKW : Kept (fun i => v.ownBlock = some i) W5 w6 := ((Kept.refl _ W5).alloc o).grown hgr (fun k hk _ => hk)
  have hbase : ∀ i, v.ownBlock = some i → w.heap.size ≤ i := fun i h => (hO.lt i h).1
  have hq5 := hQ.lt
  have hsz := hKW.size
  refine ⟨by simp [hl], by rw [ptrs_snoc]; exact hown, fun r hr hm => ?_, ?_, fun t p hp => ?_, fun p hp => ?_, hMem.kept hKW (fun h => by have := hbase _ h; omega) (fun h => by have := hbase _ h; omega), hK.trans hKW (fun i hi h => by have := hbase i h; omega)⟩
  · rw [own_block] at hr
    obtain rfl := Option.some.inj hr
    rcases hor with h | h
    · obtain ⟨h1, h2⟩ := hA _ h
      rcases List.mem_append.1 hm with hm | hm
      · exact h1 hm
      · have := List.mem_singleton.1 hm; omega
    · rcases List.mem_append.1 hm with hm | hm
      · have := hB _ hm; omega
      · have := List.mem_singleton.1 hm; omega
  · rw [List.nodup_append]
    refine ⟨hnd, by simp, fun a ha c hc => ?_⟩
    have := (hB a ha).2
    have := List.mem_singleton.1 hc
    omega
  · by_cases ht : t < Q.length
    · rw [List.getElem?_append_left ht] at hp
      exact hKW.blk (hM t p hp) (fun h => (hA p h).1 (List.mem_of_getElem? hp))
    · rw [List.getElem?_append_right (by omega)] at hp
      obtain ⟨h0, rfl⟩ : t - Q.length = 0 ∧ q = p := by
        have := (List.getElem?_eq_some_iff.1 hp).1
        simp at this
        rw [this] at hp
        exact ⟨this, by simpa using hp⟩
      obtain rfl : t = j := by omega
      exact hKW.blk hQ (fun h => by have := (hA q h).2; omega)
  · rcases List.mem_append.1 hp with hm | hm
    · have := hB p hm; omega
    · obtain rfl := List.mem_singleton.1 hm; omega

theorem made_row (z : Value) (n : Nat) : madeCells #[z] n = ⟨List.replicate n z⟩ := by
  apply Array.ext'
  apply List.ext_getElem?
  intro j
  by_cases hj : j < n
  · simp [madeCells, hj, Nat.mod_one]
  · rw [List.getElem?_eq_none (by simp [madeCells]; omega), List.getElem?_eq_none (by simp; omega)]
theorem Try.info4 : (Try.prog.info? 4).map (fun i => (i.zero, i.size, i.bytes)) = some (some (.bool false), 1, 1) := by kernel_rfl
theorem Try.info34 : (Try.prog.info? 34).map (fun i => (i.zero, i.size, i.bytes)) = some (some (.pointer none), 1, 8) := by kernel_rfl
theorem Try.info45 : (Try.prog.info? 45).map (fun i => (i.zero, i.size, i.bytes)) = some (some (.pointer none), 1, 8) := by kernel_rfl
theorem make_bool (n : Nat) (hn : n ≤ 1099511627776) (w : World) :
    (Instr.makeSlice 36 (.int .i64 (n : Int)) (.int .i64 (n : Int))).run Try.prog w = .ok (.slice (some ⟨w.heap.size, 0, none⟩) n n) (w.alloc (.cells ⟨List.replicate n (.bool false)⟩ 4)) := by
  rw [run_make_row' (P := Try.prog) 36 4 _ 1 Try.underlying36 Try.info4 rfl .i64 .i64 n (by omega) (by omega) w, made_row]
theorem new_1 (w : World) :
    Calls Try.prog 7 #[.int .i64 1] w fun e w' => e = .returned (.tuple #[.pointer (some ⟨w.heap.size + 1, 0, none⟩), .int .i64 0]) ∧ Mem w' (w.heap.size + 1) w.heap.size [cel0] 0 ∧ Kept (fun _ => False) w w' :=
  new_ok 1 (by omega) (by omega) w

/-- The machines are made, and the row of who has finished behind them. -/
theorem Mk.ctx {pt ty : TypeId} {lim : Nat → Nat} {w w3 wr : World} {b g n : Nat} {cl : Cel} {Q : List Nat} {ga cap : Nat} (hw : Kept (fun _ => False) w w3) (hbw : w.heap.size ≤ b ∧ b < w3.heap.size) (hgw : w.heap.size ≤ g ∧ g < w3.heap.size)
    (h : Mk pt ty lim w3 wr b g n cl Q (.slice (some ⟨ga, 0, none⟩) n cap)) (hga : w3.heap.size ≤ ga) (hgl : ga < wr.heap.size) (hc : ∀ j u, (ptrs Q)[j]? = some u → wr.cell? ⟨ga, j, none⟩ = some u) :
    Ctx w (wr.alloc (.cells (Array.replicate n (.bool false)) 4)) b g wr.heap.size n Q (fun t => ⟨ga, t, none⟩) := by
  have hK := (Kept.refl (fun _ => False) wr).alloc (.cells (Array.replicate n (.bool false)) 4)
  have hz : (wr.alloc (.cells (Array.replicate n (.bool false)) 4)).heap.size = wr.heap.size + 1 := by rw [nblk_alloc]
  have hs := h.kept.size
  have hs0 := hw.size
  refine ⟨h.len, fun i j q hi hj => ?_, fun q hq => ?_, by omega, by omega, by omega, fun j q hq => ⟨?_, ?_, ?_⟩, (hw.trans h.kept (fun _ _ h => h)).trans hK (fun _ _ h => h)⟩
  · exact (List.getElem?_inj (List.getElem?_eq_some_iff.1 hi).1 h.nd).1 (hi.trans hj.symm)
  · have := h.big q hq
    omega
  · simp only; omega
  · simp only
    rintro (h1 | h1 | h1 | h1)
    · omega
    · omega
    · omega
    · exact h.apart ga rfl h1
  · rw [hK.cell (p := ⟨ga, j, none⟩) hgl id]
    exact hc j _ (by unfold ptrs; rw [List.getElem?_map, hq]; rfl)
/-- The beginning of the picks. -/
theorem Mk.run {pt ty : TypeId} {lim : Nat → Nat} {w3 wr : World} {b g n P v0 : Nat} {Q : List Nat} {v : Value} (h1 : 1 ≤ n) (h6 : n ≤ 6) (h : Mk pt ty lim w3 wr b g n ((v0 : Int), ⟨#[]⟩, 0) Q v) :
    Run (wr.alloc (.cells (Array.replicate n (.bool false)) 4)) (wr.alloc (.cells (Array.replicate n (.bool false)) 4)) b g wr.heap.size n P 0 Q (fun _ => ty) lim (List.replicate n (0, 0)) v0 0 (dones (List.replicate n (0, 0))) := by
  have hx : ∀ x ∈ List.replicate n ((0, 0) : Mac), x = (0, 0) := fun x hx => (List.mem_replicate.1 hx).2
  refine ⟨h1, h6, by simp, fun x h => by rw [hx x h]; omega, by rw [show 0 - P = 0 by omega, Nat.sub_zero]; exact Good.any (by simp) h1 _ 0, by omega, h.mem.alloc _, ?_, fun t y q hy hq => ?_, Kept.refl _ _⟩
  · unfold dones; rw [List.map_replicate]; exact Blk.new wr (List.replicate n (.bool false)) 4
  · obtain rfl := hx y (List.mem_of_getElem? hy)
    exact (h.mach t q hq).alloc _

end Go.Proofs.Ytjligbinelmhcaa
