/-
  Writers that share one latch, in memory: what lies where while they are picked, and that a pick keeps it so. Condition: two to five writers.
-/
import Derived.Test.YtehanjekioomoaaLatMach
import Derived.Test.YtehanjekioomoaaLatPlain
namespace Go.Proofs.Ytehanjekioomoaa
open Go.RowKit Go.Deep
set_option linter.unusedVariables false

def states (L : List Wri) : List Value := L.map fun x => .int .i64 ((x.1 : Nat) : Int)
def ptrs (R : List (Option Nat)) : List Value := R.map fun o => .pointer (o.map fun r => ⟨r, 0, none⟩)
theorem states_at (L : List Wri) (t : Nat) (y : Wri) (h : L[t]? = some y) : (states L)[t]? = some (.int .i64 ((y.1 : Nat) : Int)) := by unfold states; rw [List.getElem?_map, h]; rfl
theorem states_set (L : List Wri) (t : Nat) (y : Wri) : states (L.set t y) = (states L).set t (.int .i64 ((y.1 : Nat) : Int)) := by unfold states; rw [List.map_set]
theorem states_same (L : List Wri) (t : Nat) (y y' : Wri) (h : L[t]? = some y) (e : y'.1 = y.1) : states (L.set t y') = states L := by
  rw [states_set]
  apply List.ext_getElem?
  intro j
  by_cases hj : j = t
  · subst hj
    rw [List.getElem?_set_self (by unfold states; rw [List.length_map]; exact (List.getElem?_eq_some_iff.1 h).1), states_at L j y h, e]
  · rw [List.getElem?_set_ne (fun e => hj e.symm)]
theorem ptrs_at (R : List (Option Nat)) (t r : Nat) (h : R[t]? = some (some r)) : (ptrs R)[t]? = some (.pointer (some ⟨r, 0, none⟩)) := by unfold ptrs; rw [List.getElem?_map, h]; rfl
theorem ptrs_set (R : List (Option Nat)) (t r : Nat) : ptrs (R.set t (some r)) = (ptrs R).set t (.pointer (some ⟨r, 0, none⟩)) := by unfold ptrs; rw [List.map_set]; rfl

/-- What the set-up has made: Q are the machines, ga the list of them, gs the states, gr the releases. -/
structure Ctx (w W0 : World) (b g gs gr ga n : Nat) (Q : List Nat) : Prop where
  lq : Q.length = n
  nd : ∀ (i j q : Nat), Q[i]? = some q → Q[j]? = some q → i = j
  q : ∀ q ∈ Q, q < W0.heap.size ∧ q ≠ b ∧ q ≠ g ∧ q ≠ gs ∧ q ≠ gr ∧ q ≠ ga ∧ w.heap.size ≤ q
  lb : b < W0.heap.size ∧ w.heap.size ≤ b ∧ b ≠ gs ∧ b ≠ gr ∧ b ≠ ga
  lg : g < W0.heap.size ∧ w.heap.size ≤ g ∧ g ≠ gs ∧ g ≠ gr ∧ g ≠ ga
  ls : gs < W0.heap.size ∧ w.heap.size ≤ gs ∧ gs ≠ gr ∧ gs ≠ ga
  lr : gr < W0.heap.size ∧ w.heap.size ≤ gr ∧ gr ≠ ga
  la : ga < W0.heap.size
  a : ∀ (j q : Nat), Q[j]? = some q → W0.cell? ⟨ga, j, none⟩ = some (.pointer (some ⟨q, 0, none⟩))
  kept : Kept (fun _ => False) w W0

/-- The blocks that picks write to. -/
def Wr5 (b g gs gr : Nat) (Q : List Nat) : Nat → Prop := fun i => i = b ∨ i = g ∨ i = gs ∨ i = gr ∨ i ∈ Q

structure Exc (W0 wr : World) (b g gs gr n P k : Nat) (Q : List Nat) (L : List Wri) (R : List (Option Nat)) (v c : Nat) : Prop where
  lat : Lat n L v
  good : Good n L v k (4 * (n * n) - (k - P))
  acc : c ≤ k
  mem : Mem wr b g [cel0, ((v : Int), ⟨#[]⟩, 0)] c
  bs : Blk wr gs 3 (states L)
  br : Blk wr gr 43 (ptrs R)
  lr : R.length = n
  acq : ∀ (t : Nat) (y : Wri) (q : Nat), L[t]? = some y → Q[t]? = some q → y.1 = 0 → ∃ K M, AcqB wr q 1 y.2.2 K M y.2.1 false ∧ (y.2.1 = true → K = ⟨#[]⟩ ∧ M = 0)
  rel : ∀ (t : Nat) (y : Wri), L[t]? = some y → y.1 = 1 → ∃ r, R[t]? = some (some r) ∧ W0.heap.size ≤ r ∧ RelB wr r 1 (endW (beginW (lockW y.2.2))) false
  kept : Kept (Wr5 b g gs gr Q) W0 wr

section
variable {w W0 wr wz : World} {b g gs gr ga n P k : Nat} {Q : List Nat} {L : List Wri} {R R' : List (Option Nat)} {v v' c c' t q : Nat} {y y' : Wri}

theorem Ctx.base (C : Ctx w W0 b g gs gr ga n Q) (h : Kept (Wr5 b g gs gr Q) W0 wr) : Kept (fun _ => False) w wr :=
  C.kept.trans h fun i hi hw => by
    have := C.lb; have := C.lg; have := C.ls; have := C.lr
    rcases hw with h | h | h | h | h
    · omega
    · omega
    · omega
    · omega
    · have := C.q i h; omega
/-- The pointer to machine t lies where it lay. -/
theorem Ctx.ptr (C : Ctx w W0 b g gs gr ga n Q) (h : Kept (Wr5 b g gs gr Q) W0 wr) (hq : Q[t]? = some q) : wr.cell? ⟨ga, t, none⟩ = some (.pointer (some ⟨q, 0, none⟩)) := by
  rw [h.cell (p := ⟨ga, t, none⟩) C.la ?_]
  · exact C.a t q hq
  · have := C.lb; have := C.lg; have := C.ls; have := C.lr
    rintro (h | h | h | h | h)
    · simp only at h; omega
    · simp only at h; omega
    · simp only at h; omega
    · simp only at h; omega
    · have := C.q _ h; simp only at this; omega
theorem Ctx.machine (C : Ctx w W0 b g gs gr ga n Q) (ht : t < n) : ∃ q, Q[t]? = some q := ⟨_, List.getElem?_eq_getElem (by rw [C.lq]; exact ht)⟩
theorem Ctx.own (C : Ctx w W0 b g gs gr ga n Q) (hq : Q[t]? = some q) : q < W0.heap.size ∧ q ≠ b ∧ q ≠ g ∧ q ≠ gs ∧ q ≠ gr ∧ q ≠ ga ∧ w.heap.size ≤ q := C.q q (List.mem_of_getElem? hq)

theorem good_of {L' : List Wri} (lat' : Lat n L' v') (h : k < P ∨ t = k % n) (hg : t = k % n → Good n L' v' (k + 1) (4 * (n * n) - (k - P) - 1)) : Good n L' v' (k + 1) (4 * (n * n) - (k + 1 - P)) := by
  by_cases hk : k < P
  · have := Good.any lat' (k + 1)
    rwa [show 4 * (n * n) - (k + 1 - P) = 4 * (n * n) by omega]
  · have := hg (by omega)
    rwa [show 4 * (n * n) - (k + 1 - P) = 4 * (n * n) - (k - P) - 1 by omega]

/-- What a pick of writer t may write to. -/
def Six (W0 : World) (q b g gs gr : Nat) : Nat → Prop := fun i => i = q ∨ i = b ∨ i = g ∨ i = gs ∨ i = gr ∨ W0.heap.size ≤ i

theorem Exc.next (C : Ctx w W0 b g gs gr ga n Q) (E : Exc W0 wr b g gs gr n P k Q L R v c) (hy : L[t]? = some y) (hq : Q[t]? = some q)
    (hK : Kept (Six W0 q b g gs gr) wr wz) (lat' : Lat n (L.set t y') v') (h : k < P ∨ t = k % n) (hg : t = k % n → Good n (L.set t y') v' (k + 1) (4 * (n * n) - (k - P) - 1)) (hc : c' ≤ k + 1)
    (hM : Mem wz b g [cel0, ((v' : Int), ⟨#[]⟩, 0)] c') (hs : Blk wz gs 3 (states (L.set t y'))) (hr : Blk wz gr 43 (ptrs R')) (hl : R'.length = n)
    (hacq : y'.1 = 0 → ∃ K M, AcqB wz q 1 y'.2.2 K M y'.2.1 false ∧ (y'.2.1 = true → K = ⟨#[]⟩ ∧ M = 0))
    (hrel : ∀ (j : Nat) (x : Wri), (L.set t y')[j]? = some x → x.1 = 1 → ∃ r, R'[j]? = some (some r) ∧ W0.heap.size ≤ r ∧ RelB wz r 1 (endW (beginW (lockW x.2.2))) false) :
    Exc W0 wz b g gs gr n P (k + 1) Q (L.set t y') R' v' c' := by
  refine ⟨lat', good_of lat' h hg, hc, hM, hs, hr, hl, fun j x p hx hp e => ?_, hrel, E.kept.trans hK fun i hi hw => ?_⟩
  · by_cases hj : j = t
    · subst hj
      rw [set_self hy] at hx
      obtain rfl := Option.some.inj hx
      obtain rfl : p = q := by rw [hq] at hp; exact (Option.some.inj hp).symm
      exact hacq e
    · have hx' : L[j]? = some x := by rw [List.getElem?_set_ne (fun e => hj e.symm)] at hx; exact hx
      obtain ⟨K, M, hA, hf⟩ := E.acq j x p hx' hp e
      refine ⟨K, M, hK.blk hA ?_, hf⟩
      have := C.own hp
      have hpq : p ≠ q := fun e => hj (C.nd j t q (e ▸ hp) hq)
      unfold Six; omega
  · have := C.own hq
    unfold Six at hw; unfold Wr5
    rcases hw with h | h | h | h | h | h
    · exact .inr (.inr (.inr (.inr (h ▸ List.mem_of_getElem? hq))))
    · exact .inl h
    · exact .inr (.inl h)
    · exact .inr (.inr (.inl h))
    · exact .inr (.inr (.inr (.inl h)))
    · omega

/-- A look, or a swap that fails: the releases and the states stay. -/
theorem Exc.wait (C : Ctx w W0 b g gs gr ga n Q) (E : Exc W0 wr b g gs gr n P k Q L R v c) (hy : L[t]? = some y) (hq : Q[t]? = some q) (e0 : y.1 = 0) (e1 : y'.1 = 0)
    (hK : Kept (Own3 q b g) wr wz) (lat' : Lat n (L.set t y') v) (h : k < P ∨ t = k % n) (hg : t = k % n → Good n (L.set t y') v (k + 1) (4 * (n * n) - (k - P) - 1))
    (hM : Mem wz b g [cel0, ((v : Int), ⟨#[]⟩, 0)] (c + 1)) (hacq : ∃ K M, AcqB wz q 1 y'.2.2 K M y'.2.1 false ∧ (y'.2.1 = true → K = ⟨#[]⟩ ∧ M = 0)) :
    Exc W0 wz b g gs gr n P (k + 1) Q (L.set t y') R v (c + 1) := by
  have hq' := C.own hq
  have hb := C.lb
  have hg' := C.lg
  have hs' := C.ls
  have hr' := C.lr
  have hsz := E.kept.size
  refine E.next C hy hq (hK.mono fun i hi => ?_) lat' h hg (by have := E.acc; omega) hM ?_ (hK.blk E.br (by unfold Own3; omega)) E.lr (fun _ => hacq) (fun j x hx ex => ?_)
  · unfold Own3 at hi; unfold Six
    rcases hi with h | h | h
    · exact .inl h
    · exact .inr (.inl h)
    · exact .inr (.inr (.inl h))
  · rw [states_same L t y y' hy (by omega)]; exact hK.blk E.bs (by unfold Own3; omega)
  · have hj : j ≠ t := fun e => by
      subst e; rw [set_self hy] at hx; obtain rfl := Option.some.inj hx; omega
    have hx' : L[j]? = some x := by rw [List.getElem?_set_ne (fun e => hj e.symm)] at hx; exact hx
    obtain ⟨r, h1, h2, h3⟩ := E.rel j x hx' ex
    exact ⟨r, h1, h2, hK.blk h3 (by unfold Own3; omega)⟩

theorem Exc.still (C : Ctx w W0 b g gs gr ga n Q) (E : Exc W0 wr b g gs gr n P k Q L R v c) (hK : Kept (fun _ => False) wr wz) : Exc W0 wz b g gs gr n P k Q L R v c :=
  ⟨E.lat, E.good, E.acc, E.mem.kept hK id id, hK.blk E.bs id, hK.blk E.br id, E.lr, fun t y q h1 h2 h3 => by
    obtain ⟨K, M, hA, hf⟩ := E.acq t y q h1 h2 h3
    exact ⟨K, M, hK.blk hA id, hf⟩, fun t y h1 h2 => by
    obtain ⟨r, h3, h4, h5⟩ := E.rel t y h1 h2
    exact ⟨r, h3, h4, hK.blk h5 id⟩, E.kept.trans hK (fun _ _ h => h.elim)⟩
theorem cnt_le (s : Nat) (L : List Wri) : cnt s L ≤ L.length := List.countP_le_length
theorem Exc.idle (E : Exc W0 wr b g gs gr n P k Q L R v c) {f : Bool} {N : Nat} (hy : L[t]? = some (2, f, N)) (h : k < P ∨ t = k % n) : Exc W0 wr b g gs gr n P (k + 1) Q L R v c :=
  ⟨E.lat, good_of E.lat h (fun e => Good.idle E.lat E.good (e ▸ hy)), by have := E.acc; omega, E.mem, E.bs, E.br, E.lr, E.acq, E.rel, E.kept⟩

/-- A pick in which writer t gets the latch. -/
theorem Exc.take (C : Ctx w W0 b g gs gr ga n Q) (E : Exc W0 wr b g gs gr n P k Q L R v c) (hy : L[t]? = some (0, true, v)) (hq : Q[t]? = some q) (h : k < P ∨ t = k % n) {r : Nat} (hr : W0.heap.size ≤ r)
    (hK : Kept (Six W0 q b g gs gr) wr wz) (hM : Mem wz b g [cel0, (((lockW v : Nat) : Int), ⟨#[]⟩, 0)] (c + 1)) (hs : Blk wz gs 3 ((states L).set t (.int .i64 1)))
    (hp : Blk wz gr 43 ((ptrs R).set t (.pointer (some ⟨r, 0, none⟩)))) (hR : RelB wz r 1 (endW (beginW (lockW v))) false) :
    Exc W0 wz b g gs gr n P (k + 1) Q (L.set t (1, false, v)) (R.set t (some r)) (lockW v) (c + 1) := by
  refine E.next C hy hq hK (E.lat.take hy) h (fun e => by subst e; exact Good.take E.lat E.good hy) (by have := E.acc; omega) hM (by rw [states_set]; exact hs) (by rw [ptrs_set]; exact hp) (by rw [List.length_set]; exact E.lr)
    (fun e => by simp at e) (fun j x hx ex => ?_)
  by_cases hj : j = t
  · subst hj
    rw [set_self hy] at hx
    obtain rfl := Option.some.inj hx
    exact ⟨r, by rw [List.getElem?_set_self (by rw [E.lr]; exact E.lat.lt hy)], hr, hR⟩
  · have hx' : L[j]? = some x := by rw [List.getElem?_set_ne (fun e => hj e.symm)] at hx; exact hx
    have := cnt_pos 1 L j x hx' ex
    have := E.lat.none hy
    omega

/-- A pick in which writer t releases the latch. -/
theorem Exc.drop (C : Ctx w W0 b g gs gr ga n Q) (E : Exc W0 wr b g gs gr n P k Q L R v c) {f : Bool} {N : Nat} (hy : L[t]? = some (1, f, N)) (hq : Q[t]? = some q) (h : k < P ∨ t = k % n)
    (hK : Kept (Six W0 q b g gs gr) wr wz) (hM : Mem wz b g [cel0, (((freed N : Nat) : Int), ⟨#[]⟩, 0)] (c + 1)) (hs : Blk wz gs 3 ((states L).set t (.int .i64 2)))
    (hp : Blk wz gr 43 (ptrs R)) :
    Exc W0 wz b g gs gr n P (k + 1) Q (L.set t (2, f, N)) R (freed N) (c + 1) := by
  have hd := E.lat.drop hy
  refine E.next C hy hq hK hd h (fun e => by subst e; exact Good.drop E.lat E.good hy) (by have := E.acc; omega) hM (by rw [states_set]; exact hs) hp E.lr
    (fun e => by simp at e) (fun j x hx ex => ?_)
  have h1 := cnt_pos 1 _ j x hx ex
  have c1 := cnt_set 1 (2, f, N) L t _ hy
  have ho := E.lat.one
  simp only [show ¬ (2 = 1) by omega, if_false, if_true] at c1
  omega

/-- The writers that have the latch, as far as they have been counted. -/
theorem cnt_take (L : List Wri) (i : Nat) (y : Wri) (h : L[i]? = some y) : cnt 1 (L.take (i + 1)) = cnt 1 (L.take i) + (if y.1 = 1 then 1 else 0) := by
  obtain ⟨hi, rfl⟩ := List.getElem?_eq_some_iff.1 h
  unfold cnt
  rw [List.take_succ_eq_append_getElem hi, List.countP_append, List.countP_singleton]
  simp only [beq_iff_eq]
theorem cnt_full {L : List Wri} (h : L.length = n) : cnt 1 (L.take n) = cnt 1 L := by rw [List.take_of_length_le (by omega)]
/-- When all picks are done, all have released the latch. -/
theorem Exc.done (E : Exc W0 wr b g gs gr n P k Q L R v c) (hk : P + 40 * n ≤ k) : (∀ (t : Nat) (y : Wri), L[t]? = some y → y.1 = 2) ∧ v = 4 * n := by
  have hx : 4 * (n * n) ≤ 40 * n := by
    have := mul_le' (n := n) E.lat.n5
    omega
  have hg := E.good
  rw [show 4 * (n * n) - (k - P) = 0 by omega] at hg
  obtain ⟨h0, h1⟩ := hg.zero
  refine ⟨fun t y hy => ?_, ?_⟩
  · have := E.lat.st y (List.mem_of_getElem? hy)
    have a0 := cnt_pos 0 L t y hy
    have a1 := cnt_pos 1 L t y hy
    omega
  · have := E.lat.sum
    have := E.lat.word
    omega
end
end Go.Proofs.Ytehanjekioomoaa
