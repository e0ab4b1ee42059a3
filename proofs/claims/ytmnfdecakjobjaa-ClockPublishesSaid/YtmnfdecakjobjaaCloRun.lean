/-
  Threads that take a timestamp each and publish it, in memory: what lies where while they are picked, and that a pick keeps it so; how they are made. Condition: one to six threads.
-/
import Derived.Test.YtmnfdecakjobjaaCloAwake
import Derived.Test.YtmnfdecakjobjaaCloPlain
namespace Go.Proofs.Ytmnfdecakjobjaa
open Go.RowKit Go.Deep
set_option linter.unusedVariables false

/-- What the row of states reads of a thread: 0 takes, 1 publishes, 2 has finished. -/
def stOf (y : Mac) : Int := if y.1 ≤ 1 then 0 else if y.1 = 2 ∨ y.1 = 4 then 1 else 2
def sts (L : List Mac) : List Value := L.map fun x => .int .i64 (stOf x)
def aptr (q : Nat) : Value := .pointer (some ⟨q + 1, 0, none⟩)
def aptrs (Q : List Nat) : List Value := Q.map aptr
theorem sts_at {L : List Mac} {t : Nat} {y : Mac} (h : L[t]? = some y) : (sts L)[t]? = some (.int .i64 (stOf y)) := by unfold sts; rw [List.getElem?_map, h]; rfl
theorem sts_set (L : List Mac) (t : Nat) (y : Mac) : sts (L.set t y) = (sts L).set t (.int .i64 (stOf y)) := by unfold sts; rw [List.map_set]
theorem sts_same {L : List Mac} {t : Nat} {y y' : Mac} (h : L[t]? = some y) (e : stOf y' = stOf y) : sts (L.set t y') = sts L := by
  rw [sts_set]
  apply List.ext_getElem?
  intro j
  by_cases hj : j = t
  · subst hj
    rw [List.getElem?_set_self (by unfold sts; rw [List.length_map]; exact (List.getElem?_eq_some_iff.1 h).1), sts_at h, e]
  · rw [List.getElem?_set_ne (fun e => hj e.symm)]
/-- Thread t has a timestamp. -/
def Has (L : List Mac) (t : Nat) : Prop := ∃ (y : Mac) (u : Nat), L[t]? = some y ∧ tsOf y = some u
theorem Has.back {L : List Mac} {t j : Nat} {y y' : Mac} (hy : L[t]? = some y) (e : tsOf y' = tsOf y) (h : Has (L.set t y') j) : Has L j := by
  obtain ⟨x, u, hx, hu⟩ := h
  rcases get_set hx with ⟨rfl, rfl⟩ | ⟨_, hx⟩
  · exact ⟨y, u, hy, e ▸ hu⟩
  · exact ⟨x, u, hx, hu⟩
theorem Has.or {L : List Mac} {t j : Nat} {y' : Mac} (h : Has (L.set t y') j) : Has L j ∨ j = t := by
  obtain ⟨x, u, hx, hu⟩ := h
  rcases get_set hx with ⟨rfl, rfl⟩ | ⟨_, hx⟩
  · exact .inr rfl
  · exact .inl ⟨x, u, hx, hu⟩
theorem Has.no {L : List Mac} {t : Nat} {y : Mac} (hy : L[t]? = some y) (e : tsOf y = none) : ¬ Has L t := by
  rintro ⟨x, u, hx, hu⟩
  rw [hy] at hx; obtain rfl := Option.some.inj hx
  rw [e] at hu; cases hu

/-- The blocks that picks write to, of those that the set-up has made. -/
def Wrs (b g gs gp : Nat) (Q : List Nat) : Nat → Prop := fun i => i = b ∨ i = g ∨ i = gs ∨ i = gp ∨ i ∈ Q
/-- What the set-up has made: Q are the takers, ad t the place of the pointer to the machine Allocate of thread t, gs the row of states, gp the row of publishers, s the layout, cc the configuration. -/
structure Ctx (w W0 : World) (b g gs gp n s cc : Nat) (Q : List Nat) (ad : Nat → Addr) (lay cfg : List Value) : Prop where
  lq : Q.length = n
  nd : ∀ (i j q : Nat), Q[i]? = some q → Q[j]? = some q → i = j
  q : ∀ q ∈ Q, q < W0.heap.size ∧ q ≠ b ∧ q ≠ g ∧ q ≠ gs ∧ q ≠ gp ∧ w.heap.size ≤ q
  lb : b < W0.heap.size ∧ w.heap.size ≤ b ∧ b ≠ gs ∧ b ≠ gp
  lg : g < W0.heap.size ∧ w.heap.size ≤ g ∧ g ≠ gs ∧ g ≠ gp
  ls : gs < W0.heap.size ∧ w.heap.size ≤ gs ∧ gs ≠ gp
  lp : gp < W0.heap.size ∧ w.heap.size ≤ gp
  a : ∀ (j q : Nat), Q[j]? = some q → (ad j).block < W0.heap.size ∧ ¬ Wrs b g gs gp Q (ad j).block ∧ W0.cell? (ad j) = some (aptr q)
  al : ∀ (j q : Nat), Q[j]? = some q → ¬ Wrs b g gs gp Q (q + 1) ∧ Blk W0 (q + 1) 66 [.pointer (some ⟨q, 0, none⟩)]
  lay : ¬ Wrs b g gs gp Q s ∧ Blk W0 s 29 lay
  cfg : ¬ Wrs b g gs gp Q cc ∧ Blk W0 cc 26 cfg
  kept : Kept (fun _ => False) w W0

/-- Where everything lies while the threads are picked: D t says that thread t has its publisher, R t is its block, dn the row of states. -/
structure Wld (W0 wr : World) (b g gs gp n lim : Nat) (Q : List Nat) (L : List Mac) (A V c : Nat) (D : Nat → Prop) (R : Nat → Nat) (dn : List Value) : Prop where
  mem : ∃ l, Mem wr b g l c ∧ Cl l A V
  bs : Blk wr gs 3 dn
  pr : ∃ pr, Blk wr gp 46 pr ∧ pr.length = n ∧ ∀ t, D t → pr[t]? = some (.pointer (some ⟨R t, 0, none⟩))
  tak : ∀ (t : Nat) (y : Mac) (q : Nat), L[t]? = some y → Q[t]? = some q → Blk wr q 82 (macb lim (tk y))
  pub : ∀ (t : Nat) (y : Mac), D t → L[t]? = some y → Blk wr (R t) 71 (pubb y)
  low : ∀ t, D t → W0.heap.size ≤ R t
  has : ∀ t, D t → t < L.length
  rd : ∀ i j, D i → D j → R i = R j → i = j
  kept : Kept (Wrs b g gs gp Q) W0 wr

section
variable {w W0 wr wz : World} {b g gs gp n lim s cc : Nat} {Q : List Nat} {ad : Nat → Addr} {lay cfg : List Value} {L : List Mac} {A A' V V' c c' t q : Nat} {D D' : Nat → Prop} {R : Nat → Nat} {dn : List Value} {y y' : Mac}

theorem Ctx.base (C : Ctx w W0 b g gs gp n s cc Q ad lay cfg) (h : Kept (Wrs b g gs gp Q) W0 wr) : Kept (fun _ => False) w wr :=
  C.kept.trans h fun i hi hw => by
    have := C.lb; have := C.lg; have := C.ls; have := C.lp
    rcases hw with h | h | h | h | h
    · omega
    · omega
    · omega
    · omega
    · have := C.q i h; omega
theorem Ctx.ptr (C : Ctx w W0 b g gs gp n s cc Q ad lay cfg) (h : Kept (Wrs b g gs gp Q) W0 wr) (hq : Q[t]? = some q) : wr.cell? (ad t) = some (.pointer (some ⟨q + 1, 0, none⟩)) := by
  obtain ⟨h1, h2, h3⟩ := C.a t q hq
  rw [h.cell h1 h2]; exact h3
theorem Ctx.alloc (C : Ctx w W0 b g gs gp n s cc Q ad lay cfg) (h : Kept (Wrs b g gs gp Q) W0 wr) (hq : Q[t]? = some q) : Blk wr (q + 1) 66 [.pointer (some ⟨q, 0, none⟩)] := h.blk (C.al t q hq).2 (C.al t q hq).1
theorem Ctx.layout (C : Ctx w W0 b g gs gp n s cc Q ad lay cfg) (h : Kept (Wrs b g gs gp Q) W0 wr) : Blk wr s 29 lay := h.blk C.lay.2 C.lay.1
theorem Ctx.config (C : Ctx w W0 b g gs gp n s cc Q ad lay cfg) (h : Kept (Wrs b g gs gp Q) W0 wr) : Blk wr cc 26 cfg := h.blk C.cfg.2 C.cfg.1
theorem Ctx.machine (C : Ctx w W0 b g gs gp n s cc Q ad lay cfg) (ht : t < n) : ∃ q, Q[t]? = some q := ⟨_, List.getElem?_eq_getElem (by rw [C.lq]; exact ht)⟩
theorem Ctx.own (C : Ctx w W0 b g gs gp n s cc Q ad lay cfg) (hq : Q[t]? = some q) : q < W0.heap.size ∧ q ≠ b ∧ q ≠ g ∧ q ≠ gs ∧ q ≠ gp ∧ w.heap.size ≤ q := C.q q (List.mem_of_getElem? hq)

theorem Wld.still (E : Wld W0 wr b g gs gp n lim Q L A V c D R dn) (hK : Kept (fun _ => False) wr wz) : Wld W0 wz b g gs gp n lim Q L A V c D R dn :=
  let ⟨l, hM, hC⟩ := E.mem
  let ⟨pr, h1, h2, h3⟩ := E.pr
  ⟨⟨l, hM.kept hK id id, hC⟩, hK.blk E.bs id, ⟨pr, hK.blk h1 id, h2, h3⟩, fun t y q h1 h2 => hK.blk (E.tak t y q h1 h2) id, fun t y h1 h2 => hK.blk (E.pub t y h1 h2) id, E.low, E.has, E.rd, E.kept.trans hK (fun _ _ h => h.elim)⟩
theorem Wld.weak (E : Wld W0 wr b g gs gp n lim Q L A V c D R dn) (h : ∀ t, D' t → D t) : Wld W0 wr b g gs gp n lim Q L A V c D' R dn :=
  let ⟨pr, h1, h2, h3⟩ := E.pr
  ⟨E.mem, E.bs, ⟨pr, h1, h2, fun t ht => h3 t (h t ht)⟩, E.tak, fun t y ht => E.pub t y (h t ht), fun t ht => E.low t (h t ht), fun t ht => E.has t (h t ht), fun i j hi hj => E.rd i j (h i hi) (h j hj), E.kept⟩
/-- A step of thread t's taker. -/
theorem Wld.alloc (C : Ctx w W0 b g gs gp n s cc Q ad lay cfg) (E : Wld W0 wr b g gs gp n lim Q L A V c D R dn) (hy : L[t]? = some y) (hq : Q[t]? = some q) (hnd : ¬ D t) (hK : Kept (Own3 q b g) wr wz) (hM : ∃ l, Mem wz b g l c' ∧ Cl l A' V) (hB : Blk wz q 82 (macb lim (tk y'))) :
    Wld W0 wz b g gs gp n lim Q (L.set t y') A' V c' D R dn := by
  have ho := C.own hq
  have hlb := C.lb; have hlg := C.lg; have hls := C.ls
  obtain ⟨pr, h1, h2, h3⟩ := E.pr
  refine ⟨hM, hK.blk E.bs (by unfold Own3; omega), ⟨pr, hK.blk h1 (by unfold Own3; omega), h2, h3⟩, fun j x p hx hp => ?_, fun j x hj hx => ?_, E.low, fun j hj => by rw [List.length_set]; exact E.has j hj, E.rd, E.kept.trans hK fun i _ hw => ?_⟩
  · refine set_all (p := fun j x => ∀ p, Q[j]? = some p → Blk wz p 82 (macb lim (tk x))) (fun p hp => ?_) (fun j x hj hx p hp => ?_) j x hx p hp
    · obtain rfl : p = q := by rw [hq] at hp; exact (Option.some.inj hp).symm
      exact hB
    · have hpq : p ≠ q := fun e => hj (C.nd j t q (e ▸ hp) hq)
      have := C.own hp
      exact hK.blk (E.tak j x p hx hp) (by unfold Own3; omega)
  · rcases get_set hx with ⟨rfl, _⟩ | ⟨_, hx⟩
    · exact absurd hj hnd
    · have := E.low j hj
      exact hK.blk (E.pub j x hj hx) (by unfold Own3; omega)
  · rcases hw with h | h | h
    · exact .inr (.inr (.inr (.inr (h ▸ List.mem_of_getElem? hq))))
    · exact .inl h
    · exact .inr (.inl h)
/-- A step of thread t's publisher. -/
theorem Wld.publ (C : Ctx w W0 b g gs gp n s cc Q ad lay cfg) (E : Wld W0 wr b g gs gp n lim Q L A V c D R dn) (hy : L[t]? = some y) (hd : D t) (etk : tk y' = tk y) (hK : Kept (Own3 (R t) b g) wr wz) (hM : ∃ l, Mem wz b g l c' ∧ Cl l A V') (hB : Blk wz (R t) 71 (pubb y')) :
    Wld W0 wz b g gs gp n lim Q (L.set t y') A V' c' D R dn := by
  have hR := E.low t hd
  have hlb := C.lb; have hlg := C.lg; have hls := C.ls; have hlp := C.lp
  obtain ⟨pr, h1, h2, h3⟩ := E.pr
  refine ⟨hM, hK.blk E.bs (by unfold Own3; omega), ⟨pr, hK.blk h1 (by unfold Own3; omega), h2, h3⟩, fun j x p hx hp => ?_, fun j x hj hx => ?_, E.low, fun j hj => by rw [List.length_set]; exact E.has j hj, E.rd, E.kept.trans hK fun i hi hw => ?_⟩
  · have := C.own hp
    have hn : ¬ Own3 (R t) b g p := by unfold Own3; omega
    rcases get_set hx with ⟨rfl, rfl⟩ | ⟨_, hx⟩
    · rw [etk]; exact hK.blk (E.tak j y p hy hp) hn
    · exact hK.blk (E.tak j x p hx hp) hn
  · rcases get_set hx with ⟨rfl, rfl⟩ | ⟨hjt, hx⟩
    · exact hB
    · have h1 := E.low j hj
      have h2 : R j ≠ R t := fun e => hjt (E.rd j t hj hd e)
      exact hK.blk (E.pub j x hj hx) (by unfold Own3; omega)
  · rcases hw with h | h | h
    · omega
    · exact .inl h
    · exact .inr (.inl h)
/-- The row of states is brought up to date. -/
theorem Wld.store (C : Ctx w W0 b g gs gp n s cc Q ad lay cfg) (E : Wld W0 wr b g gs gp n lim Q L A V c D R dn) (t : Nat) (u : Value) : Wld W0 (wr.setCell ⟨gs, t, none⟩ u) b g gs gp n lim Q L A V c D R (dn.set t u) :=
  let ⟨l, hM, hC⟩ := E.mem
  let ⟨pr, h1, h2, h3⟩ := E.pr
  ⟨⟨l, hM.setFar (fun e => C.lb.2.2.1 e.symm) (fun e => C.lg.2.2.1 e.symm) _ _, hC⟩, E.bs.set _ _, ⟨pr, h1.other (show gp ≠ gs from fun e => C.ls.2.2 e.symm) _, h2, h3⟩,
    fun j x p hx hp => (E.tak j x p hx hp).other (show p ≠ gs from (C.own hp).2.2.2.1) _, fun j x hj hx => (E.pub j x hj hx).other (show R j ≠ gs from fun e => by have := E.low j hj; have := C.ls; omega) _, E.low, E.has, E.rd,
    E.kept.setCell (fun _ => .inr (.inr (.inl rfl))) _⟩
/-- A publisher that has just been made is entered into its row. -/
theorem Wld.made {r : Nat} (C : Ctx w W0 b g gs gp n s cc Q ad lay cfg) (E : Wld W0 wr b g gs gp n lim Q L A V c D R dn) (hy : L[t]? = some y) (htn : t < n) (hnd : ¬ D t) (hr : W0.heap.size ≤ r) (hne : ∀ j, D j → R j ≠ r) (hB : Blk wr r 71 (pubb y)) :
    Wld W0 (wr.setCell ⟨gp, t, none⟩ (.pointer (some ⟨r, 0, none⟩))) b g gs gp n lim Q L A V c (fun j => D j ∨ j = t) (fun j => if j = t then r else R j) dn := by
  obtain ⟨l, hM, hC⟩ := E.mem
  obtain ⟨pr, h1, h2, h3⟩ := E.pr
  have hlp := C.lp
  have hDt : ∀ j, D j → j ≠ t := fun j hj e => hnd (e ▸ hj)
  refine ⟨⟨l, hM.setFar (fun e => C.lb.2.2.2 e.symm) (fun e => C.lg.2.2.2 e.symm) _ _, hC⟩, E.bs.other (show gs ≠ gp from C.ls.2.2) _, ⟨_, h1.set _ _, by rw [List.length_set]; exact h2, fun j hj => ?_⟩,
    fun j x p hx hp => (E.tak j x p hx hp).other (show p ≠ gp from (C.own hp).2.2.2.2.1) _, fun j x hj hx => ?_, fun j hj => ?_, fun j hj => ?_, fun i j hi hj e => ?_, E.kept.setCell (fun _ => .inr (.inr (.inr (.inl rfl)))) _⟩
  · rcases hj with hj | rfl
    · rw [if_neg (hDt j hj), List.getElem?_set_ne (fun e => hDt j hj e.symm)]; exact h3 j hj
    · rw [if_pos rfl, List.getElem?_set_self (by omega)]
  · by_cases hjt : j = t
    · subst hjt
      rw [if_pos rfl]
      obtain rfl : y = x := Option.some.inj (hy.symm.trans hx)
      exact hB.other (show r ≠ gp by omega) _
    · rw [if_neg hjt]
      have hj : D j := hj.resolve_right hjt
      exact (E.pub j x hj hx).other (show R j ≠ gp from fun e => by have := E.low j hj; omega) _
  · rcases hj with hj | rfl
    · rw [if_neg (hDt j hj)]; exact E.low j hj
    · rw [if_pos rfl]; exact hr
  · rcases hj with hj | rfl
    · exact E.has j hj
    · exact (List.getElem?_eq_some_iff.1 hy).1
  · rcases hi with hi | rfl <;> rcases hj with hj | rfl
    · rw [if_neg (hDt i hi), if_neg (hDt j hj)] at e; exact E.rd i j hi hj e
    · rw [if_neg (hDt i hi), if_pos rfl] at e; exact absurd e (hne i hi)
    · rw [if_pos rfl, if_neg (hDt j hj)] at e; exact absurd e.symm (hne j hj)
    · rfl
end

structure Run (W0 wr : World) (b g gs gp n P k lim : Nat) (Q : List Nat) (L : List Mac) (A V c : Nat) (R : Nat → Nat) : Prop where
  ck : Ck n lim L A V
  en : Enough n P L A V k
  acc : c ≤ k
  wld : Wld W0 wr b g gs gp n lim Q L A V c (Has L) R (sts L)
section
variable {w W0 wr wz : World} {b g gs gp n P k lim s cc : Nat} {Q : List Nat} {ad : Nat → Addr} {lay cfg : List Value} {L : List Mac} {A A' V V' c c' t q : Nat} {R R' : Nat → Nat} {y y' : Mac}
theorem Run.still (E : Run W0 wr b g gs gp n P k lim Q L A V c R) (hK : Kept (fun _ => False) wr wz) : Run W0 wz b g gs gp n P k lim Q L A V c R := ⟨E.ck, E.en, E.acc, E.wld.still hK⟩
theorem Run.state (E : Run W0 wr b g gs gp n P k lim Q L A V c R) (ht : t < n) : ∃ y, L[t]? = some y := ⟨_, List.getElem?_eq_getElem (by rw [E.ck.len]; exact ht)⟩
/-- A pick of thread t. -/
theorem Run.next (E : Run W0 wr b g gs gp n P k lim Q L A V c R) (hy : L[t]? = some y) (h : k < P ∨ t = k % n) (hm : nexty lim y A V = y') (hA : counts (y.2 + 1) y A = A') (hV : pcounts y V = V') (hc : c' ≤ c + 1)
    (hW : Wld W0 wz b g gs gp n lim Q (L.set t y') A' V' c' (Has (L.set t y')) R' (sts (L.set t y'))) : Run W0 wz b g gs gp n P (k + 1) lim Q (L.set t y') A' V' c' R' :=
  ⟨E.ck.step hy hm hA hV, E.en.step E.ck hy h hm hA hV, by have := E.acc; omega, hW⟩
theorem Run.place (E : Run W0 wr b g gs gp n P k lim Q L A V c R) (ht : Has L t) : ∃ pr, Blk wr gp 46 pr ∧ pr.length = n ∧ pr[t]? = some (.pointer (some ⟨R t, 0, none⟩)) :=
  let ⟨pr, h1, h2, h3⟩ := E.wld.pr
  ⟨pr, h1, h2, h3 t ht⟩
end

theorem ownsRow_kept {S : Nat → Prop} {w w' : World} {base : Nat} {e : TypeId} {size n : Nat} {v : Value} {xs : List Value} (h : w.ownsRow base e size v n xs) (hK : Kept S w w') (hS : ∀ i, base ≤ i → i < w.heap.size → ¬ S i) : w'.ownsRow base e size v n xs := by
  obtain ⟨h1, h2⟩ := h
  refine ⟨h1, ?_⟩
  rcases h2 with ⟨h3, h4⟩ | ⟨g, cap, cur, h3, hb, hg, rest⟩
  · exact .inl ⟨h3, h4⟩
  · exact .inr ⟨g, cap, cur, h3, hb, (hK.block g (Array.getElem?_eq_some_iff.1 hg).1 (hS g hb (Array.getElem?_eq_some_iff.1 hg).1)).trans hg, rest⟩
theorem own_slice {w : World} {base e size n : Nat} {v : Value} {xs : List Value} (h : w.ownsRow base e size v n xs) (hn : 0 < n) :
    ∃ g cap, v = .slice (some ⟨g, 0, none⟩) n cap ∧ base ≤ g ∧ g < w.heap.size ∧ ∀ j u, xs[j]? = some u → w.cell? ⟨g, j, none⟩ = some u := by
  rcases h.2 with ⟨_, h0⟩ | ⟨g, cap, cur, rfl, hb, hg, rest⟩
  · omega
  · refine ⟨g, cap, rfl, hb, (Array.getElem?_eq_some_iff.1 hg).1, fun j u hu => ?_⟩
    have := h.cells (g := g) rfl j u hu
    rw [Addr.add_lit, Nat.zero_add] at this
    exact this
theorem aptrs_snoc (Q : List Nat) (q : Nat) : aptrs (Q ++ [q]) = aptrs Q ++ [aptr q] := by simp [aptrs]
theorem own_block (g n c : Nat) : (Value.slice (some ⟨g, 0, none⟩) n c).ownBlock = some g := rfl

/-- While the machines are made: those made since w. -/
structure Mk (lim : Nat) (w wr : World) (b g j : Nat) (l : List Cel) (Q : List Nat) (v : Value) : Prop where
  len : Q.length = j
  own : wr.ownsRow w.heap.size 35 1 v j (aptrs Q)
  apart : ∀ r, v.ownBlock = some r → ∀ q ∈ Q, r ≠ q ∧ r ≠ q + 1
  nd : Q.Nodup
  mach : ∀ q ∈ Q, Blk wr q 82 (macb lim (0, 0)) ∧ Blk wr (q + 1) 66 [.pointer (some ⟨q, 0, none⟩)]
  big : ∀ q ∈ Q, w.heap.size ≤ q ∧ q + 1 < wr.heap.size
  sep : ∀ q ∈ Q, q + 1 ∉ Q
  mem : Mem wr b g l 0
  kept : Kept (fun _ => False) w wr
theorem Mk.start {lim : Nat} {w : World} {b g : Nat} {l : List Cel} (h : Mem w b g l 0) : Mk lim w w b g 0 l [] (.slice none 0 0) :=
  ⟨rfl, World.ownsRow_nil _ _ _ _, (fun _ h => by cases h), List.nodup_nil, (fun _ h => by cases h), (fun _ h => by cases h), (fun _ h => by cases h), h, Kept.refl _ _⟩
/-- One machine more. -/
theorem Mk.push {lim : Nat} {w wr W5 w6 : World} {b g j q g4 cap4 : Nat} {l : List Cel} {Q : List Nat} {v : Value} {o : Obj} (hb : b < w.heap.size) (hg : g < w.heap.size) (H : Mk lim w wr b g j l Q v) (hK5 : Kept (fun _ => False) wr W5) (hq : wr.heap.size ≤ q) (hz : W5.heap.size = q + 1 + 1)
    (hB1 : Blk W5 (q + 1) 66 [.pointer (some ⟨q, 0, none⟩)]) (hB2 : Blk W5 q 82 (macb lim (0, 0)))
    (hown : w6.ownsRow w.heap.size 35 1 (.slice (some ⟨g4, 0, none⟩) (j + 1) cap4) (j + 1) (aptrs Q ++ [.pointer (some ⟨q + 1, 0, none⟩)]))
    (hgr : (W5.alloc o).grownBy w6 v.ownBlock) (hor : v.ownBlock = some g4 ∨ g4 = W5.heap.size + 1) : Mk lim w w6 b g (j + 1) l (Q ++ [q]) (.slice (some ⟨g4, 0, none⟩) (j + 1) cap4) := by
  have hO := ownsRow_kept H.own hK5 (fun _ _ _ => id)
  have hKW : Kept (fun i => v.ownBlock = some i) W5 w6 := ((Kept.refl _ W5).alloc o).grown hgr (fun k hk _ => hk)
  have hbase : ∀ i, v.ownBlock = some i → w.heap.size ≤ i ∧ i < wr.heap.size := fun i h => H.own.lt i h
  have hsz := hKW.size
  have hsz5 := hK5.size
  have hB : ∀ p ∈ Q, w.heap.size ≤ p ∧ p + 1 < q := fun p hp => by have := H.big p hp; omega
  have hszw := H.kept.size
  refine ⟨by simp [H.len], by rw [aptrs_snoc]; exact hown, fun r hr p hm => ?_, ?_, fun p hp => ?_, fun p hp => ?_, fun p hp hp1 => ?_, (H.mem.kept hK5 id id).kept hKW (fun h => by have := hbase _ h; omega) (fun h => by have := hbase _ h; omega), (H.kept.trans hK5 (fun _ _ h => h)).trans hKW (fun i hi h => by have := hbase i h; omega)⟩
  · rw [own_block] at hr
    obtain rfl := Option.some.inj hr
    rcases hor with h | h
    · have h0 := hbase _ h
      rcases List.mem_append.1 hm with hm | hm
      · exact H.apart _ h p hm
      · have := List.mem_singleton.1 hm; omega
    · rcases List.mem_append.1 hm with hm | hm
      · have := hB _ hm; omega
      · have := List.mem_singleton.1 hm; omega
  · rw [List.nodup_append]
    refine ⟨H.nd, by simp, fun a ha c hc => ?_⟩
    have := (hB a ha).2
    have := List.mem_singleton.1 hc
    omega
  · rcases List.mem_append.1 hp with hm | hm
    · have hap : v.ownBlock ≠ some p ∧ v.ownBlock ≠ some (p + 1) := ⟨fun h => (H.apart _ h p hm).1 rfl, fun h => (H.apart _ h p hm).2 rfl⟩
      exact ⟨hKW.blk (hK5.blk (H.mach p hm).1 id) hap.1, hKW.blk (hK5.blk (H.mach p hm).2 id) hap.2⟩
    · obtain rfl := List.mem_singleton.1 hm
      exact ⟨hKW.blk hB2 (fun h => by have := hbase _ h; omega), hKW.blk hB1 (fun h => by have := hbase _ h; omega)⟩
  · rcases List.mem_append.1 hp with hm | hm
    · have := hB p hm; omega
    · obtain rfl := List.mem_singleton.1 hm; omega
  · rcases List.mem_append.1 hp with hm | hm <;> rcases List.mem_append.1 hp1 with hm1 | hm1
    · exact H.sep p hm hm1
    · have := hB p hm; have := List.mem_singleton.1 hm1; omega
    · have := hB _ hm1; have := List.mem_singleton.1 hm; omega
    · have := List.mem_singleton.1 hm; have := List.mem_singleton.1 hm1; omega

theorem made_row (z : Value) (n : Nat) : madeCells #[z] n = ⟨List.replicate n z⟩ := by
  apply Array.ext'
  apply List.ext_getElem?
  intro j
  by_cases hj : j < n
  · simp [madeCells, hj, Nat.mod_one]
  · rw [List.getElem?_eq_none (by simp [madeCells]; omega), List.getElem?_eq_none (by simp; omega)]
theorem Try.info3 : (Try.prog.info? 3).map (fun i => (i.zero, i.size, i.bytes)) = some (some (.int .i64 0), 1, 8) := by kernel_rfl
theorem Try.info35 : (Try.prog.info? 35).map (fun i => (i.zero, i.size, i.bytes)) = some (some (.pointer none), 1, 8) := by kernel_rfl
theorem Try.info46 : (Try.prog.info? 46).map (fun i => (i.zero, i.size, i.bytes)) = some (some (.pointer none), 1, 8) := by kernel_rfl
theorem make_ints (n : Nat) (hn : n ≤ 1099511627776) (w : World) :
    (Instr.makeSlice 38 (.int .i64 (n : Int)) (.int .i64 (n : Int))).run Try.prog w = .ok (.slice (some ⟨w.heap.size, 0, none⟩) n n) (w.alloc (.cells ⟨List.replicate n (.int .i64 0)⟩ 3)) := by
  rw [run_make_row' (P := Try.prog) 38 3 _ 8 Try.underlying38 Try.info3 rfl .i64 .i64 n (by omega) (by omega) w, made_row]
theorem make_pubs (n : Nat) (hn : n ≤ 1099511627776) (w : World) :
    (Instr.makeSlice 37 (.int .i64 (n : Int)) (.int .i64 (n : Int))).run Try.prog w = .ok (.slice (some ⟨w.heap.size, 0, none⟩) n n) (w.alloc (.cells ⟨List.replicate n (.pointer none)⟩ 46)) := by
  rw [run_make_row' (P := Try.prog) 37 46 _ 8 Try.underlying37 Try.info46 rfl .i64 .i64 n (by omega) (by omega) w, made_row]

/-- The two rows behind the machines. -/
def rows (wr : World) (n : Nat) : World := (wr.alloc (.cells (Array.replicate n (.pointer none)) 46)).alloc (.cells (Array.replicate n (.int .i64 0)) 3)
theorem Mk.ctx {lim : Nat} {w w3 wr : World} {b g n s cc ga cap : Nat} {l : List Cel} {Q : List Nat} {lay cfg : List Value} (hw : Kept (fun _ => False) w w3) (hb : w.heap.size ≤ b ∧ b < w3.heap.size) (hg : w.heap.size ≤ g ∧ g < w3.heap.size)
    (hs : Blk w3 s 29 lay) (hsn : s ≠ b ∧ s ≠ g) (hcc : Blk w3 cc 26 cfg) (hcn : cc ≠ b ∧ cc ≠ g) (H : Mk lim w3 wr b g n l Q (.slice (some ⟨ga, 0, none⟩) n cap)) (hga : w3.heap.size ≤ ga) (hgl : ga < wr.heap.size)
    (hc : ∀ j u, (aptrs Q)[j]? = some u → wr.cell? ⟨ga, j, none⟩ = some u) : Ctx w (rows wr n) b g (wr.heap.size + 1) wr.heap.size n s cc Q (fun t => ⟨ga, t, none⟩) lay cfg := by
  have hK : Kept (fun _ => False) wr (rows wr n) := ((Kept.refl (fun _ => False) wr).alloc _).alloc _
  have hz : (rows wr n).heap.size = wr.heap.size + 1 + 1 := by unfold rows; rw [nblk_alloc, nblk_alloc]
  have h1 := H.kept.size
  have h0 := hw.size
  have hsl := hs.lt
  have hcl := hcc.lt
  have hW : ∀ i, i < w3.heap.size → i ≠ b → i ≠ g → ¬ Wrs b g (wr.heap.size + 1) wr.heap.size Q i := fun i hi hb hg h => by
    rcases h with h | h | h | h | h
    · exact hb h
    · exact hg h
    · omega
    · omega
    · have := H.big i h; omega
  refine ⟨H.len, fun i j q hi hj => ?_, fun q hq => ?_, by omega, by omega, by omega, by omega, fun j q hq => ⟨?_, ?_, ?_⟩, fun j q hq => ⟨?_, ?_⟩, ⟨hW s hsl hsn.1 hsn.2, hK.blk (H.kept.blk hs id) id⟩, ⟨hW cc hcl hcn.1 hcn.2, hK.blk (H.kept.blk hcc id) id⟩, (hw.trans H.kept (fun _ _ h => h)).trans hK (fun _ _ h => h)⟩
  · exact (List.getElem?_inj (List.getElem?_eq_some_iff.1 hi).1 H.nd).1 (hi.trans hj.symm)
  · have := H.big q hq; omega
  · simp only; omega
  · simp only
    rintro (h1 | h1 | h1 | h1 | h1)
    · omega
    · omega
    · omega
    · omega
    · exact (H.apart ga rfl ga h1).1 rfl
  · rw [hK.cell (p := ⟨ga, j, none⟩) hgl id]
    exact hc j _ (by unfold aptrs; rw [List.getElem?_map, hq]; rfl)
  · have hm := List.mem_of_getElem? hq
    have := H.big q hm
    rintro (h1 | h1 | h1 | h1 | h1)
    · omega
    · omega
    · omega
    · omega
    · exact H.sep q hm h1
  · exact hK.blk (H.mach q (List.mem_of_getElem? hq)).2 id
theorem Mk.run {lim : Nat} {w3 wr : World} {b g n P : Nat} {l : List Cel} {Q : List Nat} {v : Value} (h1 : 1 ≤ n) (h6 : n ≤ 6) (l1 : 1 ≤ lim) (l9 : lim ≤ 9) (hl : Cl l 0 0) (H : Mk lim w3 wr b g n l Q v) (R : Nat → Nat) :
    Run (rows wr n) (rows wr n) b g (wr.heap.size + 1) wr.heap.size n P 0 lim Q (List.replicate n (0, 0)) 0 0 0 R := by
  have hK : Kept (fun _ => False) wr (rows wr n) := ((Kept.refl (fun _ => False) wr).alloc _).alloc _
  have hx : ∀ (j : Nat) (x : Mac), (List.replicate n ((0, 0) : Mac))[j]? = some x → x = (0, 0) := fun j x h => (List.mem_replicate.1 (List.mem_of_getElem? h)).2
  have hck := Ck.start n lim h1 h6 l1 l9
  have hno : ∀ t, ¬ Has (List.replicate n ((0, 0) : Mac)) t := by
    rintro t ⟨y, u, hy, hu⟩
    rw [hx t y hy] at hu; cases hu
  refine ⟨hck, Enough.start hck (by omega), by omega, ⟨l, H.mem.kept hK id id, hl⟩, ?_, ⟨List.replicate n (.pointer none), ?_, by simp, fun t ht => absurd ht (hno t)⟩, fun t y q hy hq => ?_, fun t y ht => absurd ht (hno t), fun t ht => absurd ht (hno t), fun t ht => absurd ht (hno t), fun i j hi => absurd hi (hno i), Kept.refl _ _⟩
  · unfold sts; rw [List.map_replicate]
    have := Blk.new (wr.alloc (.cells (Array.replicate n (.pointer none)) 46)) (List.replicate n (.int .i64 0)) 3
    rw [nblk_alloc] at this
    exact this
  · exact (Blk.new wr (List.replicate n (.pointer none)) 46).alloc _
  · obtain rfl := hx t y hy
    exact hK.blk (H.mach q (List.mem_of_getElem? hq)).1 id

end Go.Proofs.Ytmnfdecakjobjaa
