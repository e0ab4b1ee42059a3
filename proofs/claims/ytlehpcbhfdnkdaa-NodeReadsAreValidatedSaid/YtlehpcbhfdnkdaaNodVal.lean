/-
  The law 'a reader gets exactly one of the pages that a node had': the node's cells, its reader, its writer, and what each call of the law does with them. Condition: a fanout of 4 to 6, fewer than 1000 changes.
-/
import Derived.Test.YtlehpcbhfdnkdaaNodStag
import Derived.Test.YtlehpcbhfdnkdaaNodTrip
namespace Go.Proofs.Ytlehpcbhfdnkdaa
open Go.RowKit Go.Deep Plain
set_option linter.unusedVariables false

/-- A page as it came in, and where its slots lie. -/
structure Rp where
  lv : Int
  A : Option Addr
  c : Nat
  hi : ByteArray
  la : Bool
  rt : Nat
  xs : List Sl
def rpc (x : Rp) : List Value := [.int .i64 x.lv, .slice x.A x.xs.length x.c, .string x.hi, .bool x.la, .int .u64 (x.rt : Int)]
/-- The pages that came in. -/
structure Raws (w : World) (A : Option Addr) (rs : List Rp) : Prop where
  row : 0 < rs.length → ∃ g off, A = some ⟨g, off, none⟩ ∧ g < w.heap.size ∧ ∀ (i k : Nat) (x : Rp) (u : Value), rs[i]? = some x → (rpc x)[k]? = some u → w.cell? ⟨g, off + (i * 5 + k), none⟩ = some u
  sl : ∀ x ∈ rs, Rs w x.A x.c x.xs
  rt : ∀ x ∈ rs, x.rt < 18446744073709551616
  xs : ∀ x ∈ rs, ∀ y ∈ x.xs, y.2 < 18446744073709551616
/-- Where the Write lies, if there is one. -/
def wp (t qw : Nat) : Option Addr := if t = 0 then none else some ⟨qw, 0, none⟩
/-- The numbers of a round: t the writer's side, C changes made, nx pages taken of N, r stores to make, a accesses. -/
structure Rn (N t C nx r a m : Nat) : Prop where
  t : (t = 0 ∧ C = nx ∧ r = 0) ∨ (t = 1 ∧ nx = C + 1 ∧ 1 ≤ r ∧ r ≤ 11)
  nx : nx ≤ N
  a : a ≤ m
/-- How many picks the writer needs at most. -/
def potv (N nx r : Nat) : Nat := (N - nx) * 11 + r
/-- The cells of node 1, whose page is P behind C changes; ch: the next change is under way. -/
structure Nd1 (F : Nat) (l : List Cel) (P : Pg) (C : Nat) (ch : Bool) : Prop where
  still : ch = false → Holds (nad F 1) l P ∧ (cellAt l (nla F 1)).1 = ((1 + 4 * C : Nat) : Int)
  busy : ch = true → (cellAt l (nla F 1)).1 = ((3 + 4 * C : Nat) : Int)
/-- A page that the law makes. -/
def Good (F : Nat) (P : Pg) : Prop := Wf P ∧ P.xs.length ≤ F ∧ Fits P
theorem Raws.good {w : World} {A : Option Addr} {rs : List Rp} (h : Raws w A rs) {F : Nat} (hF : F ≤ 1000) {x : Rp} (hx : x ∈ rs) {P : Pg} (hP : cut F 0 x.hi x.la x.rt x.xs = P) : Good F P := by
  subst hP; exact ⟨cut_wf _ _ _ _ _ _, cut_len _ _ _ _ _ _, cut_fits hF (by omega) (h.rt x hx) (h.xs x hx)⟩
/-- What is known of a reader that began when at least fr changes had been made. -/
structure Rv (F : Nat) (P : Pg) (C : Nat) (ch : Bool) (fr : Nat) (y : Rst) : Prop where
  ok : Okr F y
  ph : y.ph < 3
  mid : y.ph = 1 ∨ y.ph = 2 → ∃ v, fr ≤ v ∧ v ≤ C ∧ y.wd = 1 + 4 * v ∧ (v = C → ch = false → y.s = got P y.s.rd ∧ (y.ph = 1 → y.s.rd < P.xs.length + 3) ∧ (y.ph = 2 → y.s.rd = P.xs.length + 3))
  fr : fr ≤ C
theorem Rv.new {F : Nat} {P : Pg} {C : Nat} {ch : Bool} {fr : Nat} (h : fr ≤ C) : Rv F P C ch fr rst0 :=
  ⟨okr0 F, by decide, fun h => (by rcases h with h | h <;> cases h), h⟩
theorem Rv.le {F : Nat} {P : Pg} {C : Nat} {ch : Bool} {fr f2 : Nat} {y : Rst} (h : Rv F P C ch fr y) (hf : f2 ≤ fr) : Rv F P C ch f2 y :=
  ⟨h.ok, h.ph, fun e => (by obtain ⟨v, h1, h2⟩ := h.mid e; exact ⟨v, Nat.le_trans hf h1, h2⟩), Nat.le_trans hf h.fr⟩
/-- A change begins, or goes on. -/
theorem Rv.busy {F : Nat} {P : Pg} {C : Nat} {ch : Bool} {fr : Nat} {y : Rst} (h : Rv F P C ch fr y) : Rv F P C true fr y :=
  ⟨h.ok, h.ph, fun e => (by obtain ⟨v, h1, h2, h3, _⟩ := h.mid e; exact ⟨v, h1, h2, h3, fun _ e => (by cases e)⟩), h.fr⟩
/-- A change ends. -/
theorem Rv.ended {F : Nat} {P Q : Pg} {C : Nat} {ch c2 : Bool} {fr : Nat} {y : Rst} (h : Rv F P C ch fr y) : Rv F Q (C + 1) c2 fr y :=
  ⟨h.ok, h.ph, fun e => (by obtain ⟨v, h1, h2, h3, _⟩ := h.mid e; exact ⟨v, h1, by omega, h3, fun e => by omega⟩), Nat.le_succ_of_le h.fr⟩
/-- A step of the reader: it has the page, or goes on. -/
theorem Rv.step {F : Nat} {l : List Cel} {P : Pg} {C : Nat} {ch : Bool} {fr : Nat} {y : Rst} (h : Rv F P C ch fr y) (hc : Nd1 F l P C ch) (hn : Nats l) (hw : Wf P) (hF : P.xs.length ≤ F) :
    rgo F 1 l y = ⟨3, 1 + 4 * C, got P (P.xs.length + 3)⟩ ∨ Rv F P C ch fr (rgo F 1 l y) := by
  have hok := rgo_ok (nid := 1) h.ok hn
  obtain ⟨ph, wd, s⟩ := y
  have hph : ph < 3 := h.ph
  have hmid := h.mid
  simp only at hmid
  rcases (by omega : ph = 0 ∨ ph = 1 ∨ ph = 2) with rfl | rfl | rfl
  · right
    have e : rgo F 1 l ⟨0, wd, s⟩ = if (cellAt l (nla F 1)).1.toNat / 2 % 2 = 1 then ⟨0, (cellAt l (nla F 1)).1.toNat, s⟩ else ⟨1, (cellAt l (nla F 1)).1.toNat, cs0⟩ := by
      unfold rgo rcell raddr
      simp only
      rw [if_pos (by omega), if_neg (by omega)]
      unfold rnext
      simp only
      rw [if_pos trivial]
    rw [e] at hok ⊢
    cases ch with
    | false =>
      obtain ⟨_, h2⟩ := hc.still rfl
      have h3 : (cellAt l (nla F 1)).1.toNat = 1 + 4 * C := by rw [h2]; rfl
      rw [h3] at hok ⊢
      rw [if_neg (by omega)] at hok ⊢
      exact ⟨hok, by simp, fun _ => ⟨C, h.fr, Nat.le_refl _, rfl, fun _ _ => ⟨(got_zero P).symm, fun _ => by simp [cs0], fun e => by simp at e⟩⟩, h.fr⟩
    | true =>
      have h2 := hc.busy rfl
      have h3 : (cellAt l (nla F 1)).1.toNat = 3 + 4 * C := by rw [h2]; rfl
      rw [h3] at hok ⊢
      rw [if_pos (by omega)] at hok ⊢
      exact ⟨hok, by simp, fun e => by simp at e, h.fr⟩
  · right
    obtain ⟨v, h1, h2, h3, h4⟩ := hmid (.inl rfl)
    obtain ⟨c, hc1⟩ : ∃ c, cellAt l (nad F 1 s.rd) = c := ⟨_, rfl⟩
    obtain ⟨x, hx⟩ : ∃ x, tk F s c.1.toNat c.2.1 c.2.2.toNat = x := ⟨_, rfl⟩
    have e : rgo F 1 l ⟨1, wd, s⟩ = ⟨if x.rd = x.en then 2 else 1, wd, x⟩ := by
      unfold rgo rcell raddr
      simp only
      rw [if_pos (by omega), if_pos trivial]
      unfold rnext
      simp only
      rw [if_neg (by omega), if_pos trivial, hc1, hx]
    rw [e] at hok ⊢
    refine ⟨hok, by simp only; split <;> omega, fun _ => ⟨v, h1, h2, h3, fun hv hch => ?_⟩, h.fr⟩
    obtain ⟨g1, g2, _⟩ := h4 hv hch
    have hlt := g2 rfl
    subst hch
    obtain ⟨hH, _⟩ := hc.still rfl
    have hpc := hH s.rd hlt
    rw [hc1] at hpc
    have hcn := nat_toNat (hn (nad F 1 s.rd))
    rw [hc1] at hcn
    have ht : x = got P (s.rd + 1) := by
      rw [← hx, g1]
      apply tk_got hw hF hlt
      rw [← hpc]; exact hcn.1
    have hxr : x.rd = s.rd + 1 := by rw [ht]; rfl
    have hgl := got_last (P := P) (r := s.rd) hlt
    rw [← ht] at hgl
    have h5 : (x.rd = x.en) ↔ (s.rd + 1 = P.xs.length + 3) := by
      rw [Bool.eq_iff_iff] at hgl; simpa using hgl
    refine ⟨by rw [hxr]; exact ht, fun e => ?_, fun e => ?_⟩
    · simp only at e
      by_cases hz : s.rd + 1 = P.xs.length + 3
      · rw [if_pos (h5.2 hz)] at e; omega
      · show x.rd < _; omega
    · simp only at e
      by_cases hz : s.rd + 1 = P.xs.length + 3
      · show x.rd = _; omega
      · rw [if_neg (fun e2 => hz (h5.1 e2))] at e; omega
  · obtain ⟨v, h1, h2, h3, h4⟩ := hmid (.inr rfl)
    have e : rgo F 1 l ⟨2, wd, s⟩ = if wd / 2 = (cellAt l (nla F 1)).1.toNat / 2 then ⟨3, wd, s⟩ else ⟨0, wd, s⟩ := by
      unfold rgo rcell raddr
      simp only
      rw [if_pos (by omega), if_neg (by omega)]
      unfold rnext
      simp only
      rw [if_neg (by omega), if_neg (by omega)]
    rw [e] at hok ⊢
    have h3' : wd = 1 + 4 * v := h3
    by_cases hz : wd / 2 = (cellAt l (nla F 1)).1.toNat / 2
    · left
      rw [if_pos hz]
      cases ch with
      | true =>
        have h6 := hc.busy rfl
        rw [show (cellAt l (nla F 1)).1.toNat = 3 + 4 * C by rw [h6]; rfl] at hz
        omega
      | false =>
        obtain ⟨_, h6⟩ := hc.still rfl
        rw [show (cellAt l (nla F 1)).1.toNat = 1 + 4 * C by rw [h6]; rfl] at hz
        have hv : v = C := by omega
        obtain ⟨g1, _, g3⟩ := h4 hv rfl
        have g4 : s.rd = P.xs.length + 3 := g3 rfl
        have g5 : s = got P (P.xs.length + 3) := by
          have : s = got P s.rd := g1
          rw [g4] at this; exact this
        rw [g5, h3', hv]
    · right
      rw [if_neg hz] at hok ⊢
      exact ⟨hok, by simp, fun e => by simp at e, h.fr⟩

/-- A Write from the page P to the page Q, behind C changes, with j stores made. -/
structure Busy (F n0 : Nat) (l : List Cel) (P Q : Pg) (C j : Nat) (ss : List Sto) : Prop where
  eq : wsto (nla F 1) (3 + 4 * C) (5 + 4 * C) (chg (pst (nad F 1) P) (pst (nad F 1) Q)) = ss
  ex : ∃ l0, l = app l0 (ss.take j) ∧ Holds (nad F 1) l0 P ∧ (cellAt l0 (nla F 1)).1 = ((1 + 4 * C : Nat) : Int) ∧ l0.length = n0 ∧ Nats l0
theorem Busy.start {F n0 : Nat} {l : List Cel} {P Q : Pg} {C : Nat} {ss : List Sto} (hc : Nd1 F l P C false) (hn : Nats l) (hl : l.length = n0) (he : wsto (nla F 1) (3 + 4 * C) (5 + 4 * C) (chg (pst (nad F 1) P) (pst (nad F 1) Q)) = ss) : Busy F n0 l P Q C 0 ss :=
  ⟨he, l, by rw [List.take_zero]; rfl, (hc.still rfl).1, (hc.still rfl).2, hl, hn⟩
section
variable {F n0 : Nat} {l : List Cel} {P Q : Pg} {C j : Nat} {ss : List Sto}
theorem Busy.size (h : Busy F n0 l P Q C j ss) (hQ : Q.xs.length ≤ F) (h6 : F ≤ 6) : 2 ≤ ss.length ∧ ss.length ≤ 11 := by
  rw [← h.eq, wsto_length]
  have := chg_length (pst (nad F 1) P) (pst (nad F 1) Q)
  rw [pst_length] at this; omega
theorem Busy.len (h : Busy F n0 l P Q C j ss) : l.length = n0 := by
  obtain ⟨l0, rfl, _, _, hl, _⟩ := h.ex
  rw [app_length]; exact hl
theorem Busy.natsto (h : Busy F n0 l P Q C j ss) (hQ : Fits Q) (hC : C < 1000) : ∀ s ∈ ss, NatCell s.2 := by
  rw [← h.eq]; exact wsto_nats (by omega) (by omega) (hQ.chgN _ _)
theorem Busy.nats (h : Busy F n0 l P Q C j ss) (hQ : Fits Q) (hC : C < 1000) : Nats l := by
  obtain ⟨l0, rfl, _, _, _, hn⟩ := h.ex
  exact nats_take hn (h.natsto hQ hC) j
theorem Busy.cells (h : Busy F n0 l P Q C j ss) (ha : Ads F (nla F 1) (nad F 1) n0) (hQ : Q.xs.length ≤ F) (hj : j < ss.length) : Nd1 F l P C (decide (0 < j)) := by
  obtain ⟨l0, rfl, h1, h2, h3, h4⟩ := h.ex
  refine ⟨fun e => ?_, fun e => ?_⟩
  · have : j = 0 := by simpa using e
    subst this
    exact ⟨h1, h2⟩
  · have hj0 : 0 < j := by simpa using e
    have he := h.eq
    rw [← he] at hj ⊢
    rw [wsto_length] at hj
    exact wsto_mid (by rw [h3]; exact ha.lat) (chg_ne ha hQ) (by omega) (by omega)
theorem Busy.next (h : Busy F n0 l P Q C j ss) {s : Sto} (hs : ss[j]? = some s) : Busy F n0 (putAt l s.1 s.2) P Q C (j + 1) ss := by
  obtain ⟨l0, rfl, h1, h2, h3, h4⟩ := h.ex
  exact ⟨h.eq, l0, (app_take hs).symm, h1, h2, h3, h4⟩
theorem Busy.last (h : Busy F n0 l P Q C ss.length ss) (ha : Ads F (nla F 1) (nad F 1) n0) (hP : P.xs.length ≤ F) (hQ : Q.xs.length ≤ F) : Nd1 F l Q (C + 1) false := by
  obtain ⟨l0, rfl, h1, h2, h3, h4⟩ := h.ex
  refine ⟨fun _ => ?_, fun e => (by cases e)⟩
  rw [List.take_length, ← h.eq]
  refine ⟨wsto_holds ha h3 h1 hP hQ, ?_⟩
  rw [wsto_end (by rw [h3]; exact ha.lat)]; omega
end

theorem Ev.of {w wr wz : World} {F : Nat} {fb fd : Int} {b g b9 b10 : Nat} {Y : Nat → Prop} (E : Ev w wr F fb fd b g b9 b10) (hk : Kept Y wr wz) (h9 : ¬ Y b9) (h10 : ¬ Y b10) (hw : ∀ i, i < w.heap.size → ¬ Y i) : Ev w wz F fb fd b g b9 b10 :=
  ⟨hk.blk E.cfg h9, hk.blk E.lay h10, E.kept.trans hk (fun i hi e => hw i hi e), E.bg, E.n9, E.n10⟩
/-- A row of slots, in a block of colour 0. -/
def Rc (col : Nat → Nat) (w : World) (A : Option Addr) (c : Nat) (xs : List Sl) : Prop := Rs w A c xs ∧ (0 < xs.length → ∀ a, A = some a → col a.block = 0)
theorem Rc.kept {col c2 : Nat → Nat} {w wz : World} {A : Option Addr} {c : Nat} {xs : List Sl} {Y : Nat → Prop} (h : Rc col w A c xs) (hk : Kept Y w wz) (hY : ∀ i, i < w.heap.size → Y i → col i ≠ 0) (hc : ∀ i, i < w.heap.size → c2 i = col i) : Rc c2 wz A c xs :=
  ⟨h.1.keptP hk (fun hp a ha e => hY _ (h.1.lt hp a ha) e (h.2 hp a ha)), fun hp a ha => by rw [hc _ (h.1.lt hp a ha)]; exact h.2 hp a ha⟩
/-- The law's memory, the history and the reader. Every block has a colour: 0 what nobody writes, 1 the memory, 2 the reader's, 3 the writer's, 4 the Held, 5 the history's row. -/
structure Vx (w : World) (F : Nat) (fb fd : Int) (b g b9 b10 bh n0 : Nat) (wr : World) (col : Nat → Nat) (hs : List Pv) (gh cap : Nat) (P : Pg) (C : Nat) (ch : Bool) (l : List Cel) (a : Nat) (Zr : Nat → Prop) (qr : Nat) (y : Rst) : Prop where
  ev : Ev w wr F fb fd b g b9 b10
  mem : Mem wr b g l a
  nats : Nats l
  len : l.length = n0
  his : wr.ownsRow 0 25 5 (.slice (some ⟨gh, 0, none⟩) hs.length cap) hs.length (flatP hs)
  rows : ∀ x ∈ hs, Rc col wr x.A x.c x.p.xs
  good : ∀ x ∈ hs, Good F x.p
  cur : ∃ x, hs[C]? = some x ∧ x.p = P
  nd : Nd1 F l P C ch
  rd : Rd Zr wr F fb fd qr 1 y
  lo : ∀ i, i < w.heap.size → col i = 0
  c9 : col b9 = 0
  c10 : col b10 = 0
  cb : col b = 1
  cg : col g = 1
  hb : bh < wr.heap.size
  cd : col bh = 4
  cgh : col gh = 5
  czr : ∀ i, Zr i → col i = 2
section
variable {w : World} {F : Nat} {fb fd : Int} {b g b9 b10 bh n0 : Nat} {wr wz : World} {col c2 : Nat → Nat} {hs : List Pv} {gh cap : Nat} {P : Pg} {C : Nat} {ch : Bool} {l : List Cel} {a : Nat} {Zr : Nat → Prop} {qr : Nat} {y : Rst} {Y : Nat → Prop}
theorem Vx.ghlt (V : Vx w F fb fd b g b9 b10 bh n0 wr col hs gh cap P C ch l a Zr qr y) : gh < wr.heap.size := (V.his.lt gh rfl).2
/-- Nothing is known of the colours of blocks that are not there yet. -/
theorem Vx.recol (V : Vx w F fb fd b g b9 b10 bh n0 wr col hs gh cap P C ch l a Zr qr y) (hc : ∀ i, i < wr.heap.size → c2 i = col i) : Vx w F fb fd b g b9 b10 bh n0 wr c2 hs gh cap P C ch l a Zr qr y :=
  ⟨V.ev, V.mem, V.nats, V.len, V.his, fun x hx => (V.rows x hx).kept (Kept.refl (fun _ => False) wr) (fun _ _ h => h.elim) hc, V.good, V.cur, V.nd, V.rd, fun i hi => by rw [hc i (Nat.lt_of_lt_of_le hi V.ev.kept.size)]; exact V.lo i hi,
   by rw [hc _ V.ev.cfg.lt]; exact V.c9, by rw [hc _ V.ev.lay.lt]; exact V.c10, by rw [hc _ V.mem.obj.lt]; exact V.cb, by rw [hc _ V.mem.row.lt]; exact V.cg, V.hb, by rw [hc _ V.hb]; exact V.cd, by rw [hc _ V.ghlt]; exact V.cgh,
   fun i hi => by rw [hc _ (V.rd.lt i hi)]; exact V.czr i hi⟩
/-- Neither what nobody writes nor the reader nor the history has been written. -/
theorem Vx.kept (V : Vx w F fb fd b g b9 b10 bh n0 wr col hs gh cap P C ch l a Zr qr y) (hk : Kept Y wr wz) (hY : ∀ i, i < wr.heap.size → Y i → col i = 1 ∨ col i = 3 ∨ col i = 4) {l2 : List Cel} {a2 : Nat} (hm : Mem wz b g l2 a2) (hn : Nats l2) (hl : l2.length = n0) {P2 : Pg} {C2 : Nat} {h2 : Bool} (hd : Nd1 F l2 P2 C2 h2) (hc : ∃ x, hs[C2]? = some x ∧ x.p = P2) :
    Vx w F fb fd b g b9 b10 bh n0 wz col hs gh cap P2 C2 h2 l2 a2 Zr qr y :=
  have n : ∀ i, i < wr.heap.size → (col i = 0 ∨ col i = 2 ∨ col i = 5) → ¬ Y i := fun i hi h1 h2 => by have := hY i hi h2; omega
  ⟨V.ev.of hk (n _ V.ev.cfg.lt (.inl V.c9)) (n _ V.ev.lay.lt (.inl V.c10)) (fun i hi => n _ (Nat.lt_of_lt_of_le hi V.ev.kept.size) (.inl (V.lo i hi))), hm, hn, hl,
   own_kept V.his hk (fun i hi => by cases hi; exact n _ V.ghlt (.inr (.inr V.cgh))), fun x hx => (V.rows x hx).kept hk (fun i hi e => by have := hY i hi e; omega) (fun _ _ => rfl), V.good, hc, hd,
   V.rd.kept hk (fun i hi => n _ (V.rd.lt i hi) (.inr (.inl (V.czr i hi)))), V.lo, V.c9, V.c10, V.cb, V.cg, Nat.lt_of_lt_of_le V.hb hk.size, V.cd, V.cgh, V.czr⟩
theorem Vx.none (V : Vx w F fb fd b g b9 b10 bh n0 wr col hs gh cap P C ch l a Zr qr y) (hk : Kept (fun _ => False) wr wz) : Vx w F fb fd b g b9 b10 bh n0 wz col hs gh cap P C ch l a Zr qr y :=
  V.kept hk (fun _ _ h => h.elim) (V.mem.kept hk (fun h => h) (fun h => h)) V.nats V.len V.nd V.cur
/-- A step of the reader, or another reader. -/
theorem Vx.read (V : Vx w F fb fd b g b9 b10 bh n0 wr col hs gh cap P C ch l a Zr qr y) (hk : Kept Y wr wz) (hY : ∀ i, i < wr.heap.size → Y i → col i = 1 ∨ col i = 2) {a2 q2 : Nat} (hm : Mem wz b g l a2) {Z2 : Nat → Prop} {y2 : Rst} (hr : Rd Z2 wz F fb fd q2 1 y2) (hz : ∀ i, Z2 i → Zr i ∨ wr.heap.size ≤ i) :
    Vx w F fb fd b g b9 b10 bh n0 wz (fun i => if i < wr.heap.size then col i else 2) hs gh cap P C ch l a2 Z2 q2 y2 := by
  have V2 := V.recol (c2 := fun i => if i < wr.heap.size then col i else 2) (fun i hi => if_pos hi)
  have n : ∀ i, i < wr.heap.size → (col i = 0 ∨ col i = 5) → ¬ Y i := fun i hi h1 h2 => by have := hY i hi h2; omega
  exact ⟨V.ev.of hk (n _ V.ev.cfg.lt (.inl V.c9)) (n _ V.ev.lay.lt (.inl V.c10)) (fun i hi => n _ (Nat.lt_of_lt_of_le hi V.ev.kept.size) (.inl (V.lo i hi))), hm, V.nats, V.len,
   own_kept V.his hk (fun i hi => by cases hi; exact n _ V.ghlt (.inr V.cgh)), fun x hx => (V.rows x hx).kept hk (fun i hi e => by have := hY i hi e; omega) (fun i hi => if_pos hi), V.good, V.cur, V.nd,
   hr, V2.lo, V2.c9, V2.c10, V2.cb, V2.cg, Nat.lt_of_lt_of_le V.hb hk.size, V2.cd, V2.cgh, fun i hi => by
     rcases hz i hi with h | h
     · exact (if_pos (V.rd.lt i h)).trans (V.czr i h)
     · exact if_neg (by omega)⟩
/-- A page is put behind the history. -/
theorem Vx.app (V : Vx w F fb fd b g b9 b10 bh n0 wr col hs gh cap P C ch l a Zr qr y) (hg : wr.grownBy wz (some gh)) {g2 cap2 : Nat} (hat : (some gh : Option Nat) = some g2 ∨ g2 = wr.heap.size) {x : Pv} (hx : Rc col wr x.A x.c x.p.xs) (hgd : Good F x.p)
    (ho : wz.ownsRow 0 25 5 (.slice (some ⟨g2, 0, .none⟩) (hs.length + 1) cap2) (hs.length + 1) (flatP hs ++ pvc x)) : Vx w F fb fd b g b9 b10 bh n0 wz (fun i => if i < wr.heap.size then col i else 5) (hs ++ [x]) g2 cap2 P C ch l a Zr qr y := by
  have V2 := V.recol (c2 := fun i => if i < wr.heap.size then col i else 5) (fun i hi => if_pos hi)
  have hk : Kept (fun i => i = gh) wr wz := (Kept.refl (fun i => i = gh) wr).grown hg (fun k hk _ => by cases hk; rfl)
  have n : ∀ i, col i ≠ 5 → ¬ (i = gh) := fun i h1 h2 => h1 (by rw [h2]; exact V.cgh)
  refine ⟨V.ev.of hk (n _ (by rw [V.c9]; omega)) (n _ (by rw [V.c10]; omega)) (fun i hi => n _ (by rw [V.lo i hi]; omega)), V.mem.kept hk (n _ (by rw [V.cb]; omega)) (n _ (by rw [V.cg]; omega)), V.nats, V.len,
   ?_, fun z hz => ?_, fun z hz => ?_, ?_, V.nd,
   V.rd.kept hk (fun i hi => n _ (by rw [V.czr i hi]; omega)), V2.lo, V2.c9, V2.c10, V2.cb, V2.cg, Nat.lt_of_lt_of_le V.hb hk.size, V2.cd, ?_, V2.czr⟩
  · rw [List.length_append, flatP_append]
    have e : flatP [x] = pvc x := by simp [flatP]
    rw [e]; exact ho
  · have hr : ∀ r : Pv, Rc col wr r.A r.c r.p.xs → Rc (fun i => if i < wr.heap.size then col i else 5) wz r.A r.c r.p.xs := fun r h => h.kept hk (fun i _ e => by rw [e, V.cgh]; omega) (fun i hi => if_pos hi)
    rcases List.mem_append.1 hz with h | h
    · exact hr _ (V.rows z h)
    · rw [List.mem_singleton.1 h]; exact hr _ hx
  · rcases List.mem_append.1 hz with h | h
    · exact V.good z h
    · rw [List.mem_singleton.1 h]; exact hgd
  · obtain ⟨z, h1, h2⟩ := V.cur
    exact ⟨z, by rw [List.getElem?_append_left (List.getElem?_eq_some_iff.1 h1).1]; exact h1, h2⟩
  · rcases hat with h | h
    · cases h; exact (if_pos V.ghlt).trans V.cgh
    · exact if_neg (by omega)
end

/-- The law's Held. -/
structure Hd (wr : World) (col : Nat → Nat) (bh wdh : Nat) (Ph : Pg) (Ah : Option Addr) (c : Nat) : Prop where
  blk : Blk wr bh 48 [.int .u64 1, .int .u64 (wdh : Int), .int .i64 (Ph.lv : Int), .slice Ah Ph.xs.length c, .string Ph.hi, .bool Ph.la, .int .u64 (Ph.rt : Int)]
  row : Rc col wr Ah c Ph.xs
/-- The law's Write. -/
structure Wz (wr : World) (col : Nat → Nat) (Zw : Nat → Prop) (qw : Nat) (ss : List Sto) (j wd : Nat) (Q : Pg) : Prop where
  st : Stm Zw wr qw 94 ss j 1 wd Q
  c : ∀ i, Zw i → col i = 3
/-- The writer's side: no Write (t = 0: the Held is what is in the node), one under way (1, with r stores to make) or one that has finished (2). -/
structure Ws (t : Nat) (F n0 bh : Nat) (wr : World) (col : Nat → Nat) (hs : List Pv) (l : List Cel) (P : Pg) (C : Nat) (ch : Bool) (qw r : Nat) (Q Ph : Pg) (Ah : Option Addr) (c : Nat) : Prop where
  hd : ∃ wdh, Hd wr col bh wdh Ph Ah c ∧ (t = 0 → wdh = 1 + 4 * C)
  idle : t = 0 → Ph = P ∧ ch = false
  busy : t = 1 → ∃ Zw ss j, Wz wr col Zw qw ss j (5 + 4 * C) Q ∧ Busy F n0 l P Q C j ss ∧ ss.length = j + r ∧ 1 ≤ r ∧ r ≤ 11 ∧ ch = decide (0 < j) ∧ Good F Q ∧ (hs.length = C + 2 → ∃ x, hs[C + 1]? = some x ∧ x.p = Q)
  fin : t = 2 → ch = false ∧ P = Q ∧ ∃ Zw ss, Wz wr col Zw qw ss ss.length (1 + 4 * C) Q
section
variable {t F n0 bh : Nat} {wr wz : World} {col c2 : Nat → Nat} {hs h2 : List Pv} {l : List Cel} {P : Pg} {C : Nat} {ch : Bool} {qw r : Nat} {Q Ph : Pg} {Ah : Option Addr} {c : Nat} {Y : Nat → Prop}
theorem Hd.kept {wdh : Nat} (h : Hd wr col bh wdh Ph Ah c) (hk : Kept Y wr wz) (hY : ∀ i, i < wr.heap.size → Y i → col i ≠ 0 ∧ i ≠ bh) (hc : ∀ i, i < wr.heap.size → c2 i = col i) : Hd wz c2 bh wdh Ph Ah c :=
  ⟨hk.blk h.blk (fun e => (hY _ h.blk.lt e).2 rfl), h.row.kept hk (fun i hi e => (hY i hi e).1) hc⟩
theorem Wz.kept {Zw : Nat → Prop} {ss : List Sto} {j wd : Nat} (h : Wz wr col Zw qw ss j wd Q) (hk : Kept Y wr wz) (hY : ∀ i, i < wr.heap.size → Y i → col i ≠ 3) (hc : ∀ i, i < wr.heap.size → c2 i = col i) : Wz wz c2 Zw qw ss j wd Q :=
  ⟨h.st.kept hk (fun i hi e => hY i (h.st.lt i hi) e (h.c i hi)), fun i hi => by rw [hc i (h.st.lt i hi)]; exact h.c i hi⟩
theorem Ws.kept (h : Ws t F n0 bh wr col hs l P C ch qw r Q Ph Ah c) (hk : Kept Y wr wz) (hY : ∀ i, i < wr.heap.size → Y i → col i ≠ 0 ∧ col i ≠ 3 ∧ i ≠ bh) (hc : ∀ i, i < wr.heap.size → c2 i = col i) : Ws t F n0 bh wz c2 hs l P C ch qw r Q Ph Ah c :=
  ⟨by obtain ⟨d, h1, h2⟩ := h.hd; exact ⟨d, h1.kept hk (fun i hi e => ⟨(hY i hi e).1, (hY i hi e).2.2⟩) hc, h2⟩, h.idle,
   fun e => by obtain ⟨Z, ss, j, h1, h2⟩ := h.busy e; exact ⟨Z, ss, j, h1.kept hk (fun i hi e => (hY i hi e).2.1) hc, h2⟩,
   fun e => by obtain ⟨h0, h9, Z, ss, h1⟩ := h.fin e; exact ⟨h0, h9, Z, ss, h1.kept hk (fun i hi e => (hY i hi e).2.1) hc⟩⟩
end
/-- The reader: it goes on (false), or has the page (true). -/
def Rq (dn : Bool) (F : Nat) (P : Pg) (C : Nat) (ch : Bool) (fr : Nat) (y : Rst) : Prop := (dn = false → Rv F P C ch fr y) ∧ (dn = true → y = ⟨3, 1 + 4 * C, got P (P.xs.length + 3)⟩ ∧ fr ≤ C)
/-- All of it; S: blocks that nobody writes. -/
def VV (S : Nat → Prop) (t : Nat) (dn : Bool) (w : World) (F : Nat) (fb fd : Int) (b g b9 b10 bh n0 : Nat) (wr : World) (gh cap n C fr qr a : Nat) (P : Pg) (qw r : Nat) (Q Ph : Pg) (Ah : Option Addr) (c : Nat) : Prop :=
  ∃ col hs l ch Zr y, hs.length = n ∧ Vx w F fb fd b g b9 b10 bh n0 wr col hs gh cap P C ch l a Zr qr y ∧ Rq dn F P C ch fr y ∧ Ws t F n0 bh wr col hs l P C ch qw r Q Ph Ah c ∧ ∀ i, S i → i < wr.heap.size ∧ col i = 0
section
variable {S S2 : Nat → Prop} {t : Nat} {dn : Bool} {w : World} {F : Nat} {fb fd : Int} {b g b9 b10 bh n0 : Nat} {wr wz : World} {gh cap n C fr qr a : Nat} {P : Pg} {qw r : Nat} {Q Ph : Pg} {Ah : Option Addr} {c : Nat}
theorem VV.ev (V : VV S t dn w F fb fd b g b9 b10 bh n0 wr gh cap n C fr qr a P qw r Q Ph Ah c) : Ev w wr F fb fd b g b9 b10 := by
  obtain ⟨_, _, _, _, _, _, _, V, _⟩ := V; exact V.ev
theorem VV.less (V : VV S t dn w F fb fd b g b9 b10 bh n0 wr gh cap n C fr qr a P qw r Q Ph Ah c) (h : ∀ i, S2 i → S i) : VV S2 t dn w F fb fd b g b9 b10 bh n0 wr gh cap n C fr qr a P qw r Q Ph Ah c := by
  obtain ⟨col, hs, l, ch, Zr, y, h1, h2, h3, h4, h5⟩ := V
  exact ⟨col, hs, l, ch, Zr, y, h1, h2, h3, h4, fun i hi => h5 i (h i hi)⟩
/-- A call that makes memory only: what it makes, nobody writes. -/
theorem VV.none (V : VV S t dn w F fb fd b g b9 b10 bh n0 wr gh cap n C fr qr a P qw r Q Ph Ah c) (hk : Kept (fun _ => False) wr wz) : VV (fun i => S i ∨ (wr.heap.size ≤ i ∧ i < wz.heap.size)) t dn w F fb fd b g b9 b10 bh n0 wz gh cap n C fr qr a P qw r Q Ph Ah c := by
  obtain ⟨col, hs, l, ch, Zr, y, h1, h2, h3, h4, h5⟩ := V
  refine ⟨fun i => if i < wr.heap.size then col i else 0, hs, l, ch, Zr, y, h1, (h2.recol (fun i hi => if_pos hi)).none hk, h3, h4.kept hk (fun _ _ h => h.elim) (fun i hi => if_pos hi), fun i hi => ?_⟩
  rcases hi with h | h
  · obtain ⟨h6, h7⟩ := h5 i h
    exact ⟨Nat.lt_of_lt_of_le h6 hk.size, (if_pos h6).trans h7⟩
  · exact ⟨h.2, if_neg (by omega)⟩
theorem VV.frle (V : VV S t false w F fb fd b g b9 b10 bh n0 wr gh cap n C fr qr a P qw r Q Ph Ah c) {f2 : Nat} (h : f2 ≤ fr) : VV S t false w F fb fd b g b9 b10 bh n0 wr gh cap n C f2 qr a P qw r Q Ph Ah c := by
  obtain ⟨col, hs, l, ch, Zr, y, h1, h2, h3, h4, h5⟩ := V
  exact ⟨col, hs, l, ch, Zr, y, h1, h2, ⟨fun e => (h3.1 e).le h, fun e => (by cases e)⟩, h4, h5⟩
theorem VV.clt (V : VV S t dn w F fb fd b g b9 b10 bh n0 wr gh cap n C fr qr a P qw r Q Ph Ah c) : C < n := by
  obtain ⟨col, hs, l, ch, Zr, y, h1, h2, h3, h4, h5⟩ := V
  obtain ⟨x, hx, _⟩ := h2.cur
  have := (List.getElem?_eq_some_iff.1 hx).1
  omega
theorem VV.frC (V : VV S t dn w F fb fd b g b9 b10 bh n0 wr gh cap n C fr qr a P qw r Q Ph Ah c) : fr ≤ C := by
  obtain ⟨col, hs, l, ch, Zr, y, h1, h2, h3, h4, h5⟩ := V
  cases dn
  · exact (h3.1 rfl).fr
  · exact (h3.2 rfl).2
theorem VV.capb (V : VV S t dn w F fb fd b g b9 b10 bh n0 wr gh cap n C fr qr a P qw r Q Ph Ah c) : n ≤ cap ∧ cap ≤ maxLen := by
  obtain ⟨col, hs, l, ch, Zr, y, h1, h2, h3, h4, h5⟩ := V
  rcases h2.his.2 with ⟨h, _⟩ | ⟨g', cap', cur, h, _, _, hc, hm, _⟩
  · cases h
  · cases h; exact ⟨by omega, hm⟩
theorem VV.good (V : VV S t dn w F fb fd b g b9 b10 bh n0 wr gh cap n C fr qr a P qw r Q Ph Ah c) : Good F P := by
  obtain ⟨col, hs, l, ch, Zr, y, h1, h2, h3, h4, h5⟩ := V
  obtain ⟨x, hx, rfl⟩ := h2.cur
  exact h2.good x (List.mem_of_getElem? hx)
/-- The Held's cells, whatever they are. -/
theorem VV.held (V : VV S t dn w F fb fd b g b9 b10 bh n0 wr gh cap n C fr qr a P qw r Q Ph Ah c) : ∃ u0 u1 u2 u3 u4 u5 u6, Blk wr bh 48 [u0, u1, u2, u3, u4, u5, u6] := by
  obtain ⟨col, hs, l, ch, Zr, y, h1, h2, h3, h4, h5⟩ := V
  obtain ⟨d, hd, _⟩ := h4.hd
  exact ⟨_, _, _, _, _, _, _, hd.blk⟩
/-- While no Write is under way the Held is the node. -/
theorem VV.idle (V : VV S 0 dn w F fb fd b g b9 b10 bh n0 wr gh cap n C fr qr a P qw r Q Ph Ah c) : Ph = P ∧ Rs wr Ah c P.xs ∧ Blk wr bh 48 [.int .u64 1, .int .u64 ((1 + 4 * C : Nat) : Int), .int .i64 (P.lv : Int), .slice Ah P.xs.length c, .string P.hi, .bool P.la, .int .u64 (P.rt : Int)] := by
  obtain ⟨col, hs, l, ch, Zr, y, h1, h2, h3, h4, h5⟩ := V
  obtain ⟨d, hd, hw⟩ := h4.hd
  obtain ⟨rfl, _⟩ := h4.idle rfl
  obtain rfl := hw rfl
  exact ⟨rfl, hd.row.1, hd.blk⟩

/-- A step of the reader. -/
theorem vread (V : VV S t false w F fb fd b g b9 b10 bh n0 wr gh cap n C fr qr a P qw r Q Ph Ah c) (h4 : 4 ≤ F) (h6 : F ≤ 6) (hd : Reach3 10 fb fd) (ha : a < 9223372036854775807) :
    Calls Try.prog 28 #[.pointer (some ⟨qr, 0, .none⟩), .pointer (some ⟨b, 0, .none⟩)] wr fun e w' => ∃ bb, e = .returned (.bool bb) ∧ VV S t bb w F fb fd b g b9 b10 bh n0 w' gh cap n C fr qr (a + 1) P qw r Q Ph Ah c := by
  have hg := V.good
  obtain ⟨col, hs, l, ch, Zr, y, h1, h2, h3, h4', h5⟩ := V
  have hv := h3.1 rfl
  have nz : ∀ x, col x ≠ 2 → ¬ Zr x := fun x hx h => hx (h2.czr x h)
  refine (rstep_go Zr F h4 h6 fb fd hd qr 1 y _ wr h2.rd hv.ok b g l a (a + 1) h2.mem (nz _ (by rw [h2.cb]; omega)) (nz _ (by rw [h2.cg]; omega)) (by omega) h2.nats rfl (if_pos hv.ph) _ rfl).mono ?_
  rintro e w' ⟨rfl, hm, Z2, hr, hk, hz⟩
  have hY : ∀ i, i < wr.heap.size → (Zr i ∨ i = b ∨ i = g) → col i = 1 ∨ col i = 2 := fun i _ e => by
    rcases e with e | e | e
    · exact .inr (h2.czr i e)
    · exact .inl (by rw [e]; exact h2.cb)
    · exact .inl (by rw [e]; exact h2.cg)
  refine ⟨_, rfl, _, hs, l, ch, Z2, _, h1, h2.read hk hY hm hr hz, ⟨fun e => ?_, fun e => ?_⟩, h4'.kept hk (fun i hi e => by
    have h := hY i hi e
    refine ⟨by omega, by omega, fun e => ?_⟩
    rw [e, h2.cd] at h; omega) (fun i hi => if_pos hi), fun i hi => ⟨Nat.lt_of_lt_of_le (h5 i hi).1 hk.size, (if_pos (h5 i hi).1).trans (h5 i hi).2⟩⟩
  · rcases hv.step h2.nd h2.nats hg.1 hg.2.1 with h | h
    · rw [h] at e; cases e
    · exact h
  · rcases hv.step h2.nd h2.nats hg.1 hg.2.1 with h | h
    · exact ⟨h, hv.fr⟩
    · have h7 := h.ph
      have e' : (rgo F 1 l y).ph = 3 := by simpa using e
      omega
/-- The page that the reader has. -/
theorem vpage (V : VV S t true w F fb fd b g b9 b10 bh n0 wr gh cap n C fr qr a P qw r Q Ph Ah c) (h6 : F ≤ 6) :
    Calls Try.prog 30 #[.pointer (some ⟨qr, 0, .none⟩)] wr fun e w' => ∃ (A : Option Addr) (c2 : Nat), e = .returned (.agg #[.int .i64 (P.lv : Int), .slice A P.xs.length c2, .string P.hi, .bool P.la, .int .u64 (P.rt : Int)]) ∧ Rs w' A c2 P.xs ∧ VV S t true w F fb fd b g b9 b10 bh n0 w' gh cap n C fr qr a P qw r Q Ph Ah c := by
  have hg := V.good
  have V0 := V
  obtain ⟨col, hs, l, ch, Zr, y, h1, h2, h3, h4, h5⟩ := V
  obtain ⟨rfl, _⟩ := h3.2 rfl
  refine (tread_page h2.rd (by have := hg.2.1; omega)).mono ?_
  rintro e w' ⟨A, c2, rfl, hR, hk⟩
  exact ⟨A, c2, rfl, hR, (V0.none hk).less (fun i hi => .inl hi)⟩
/-- It is in the history, not ahead of place fr. -/
theorem vamong (V : VV S t true w F fb fd b g b9 b10 bh n0 wr gh cap n C fr qr a P qw r Q Ph Ah c) (h6 : F ≤ 6) (hn : n ≤ 1000) {A : Option Addr} {c2 : Nat} (hR : Rs wr A c2 P.xs) (m k : Nat) (hm : n - fr = m) :
    Calls Try.prog 34 #[.slice (some ⟨gh, fr * 5, .none⟩) m k, .agg #[.int .i64 (P.lv : Int), .slice A P.xs.length c2, .string P.hi, .bool P.la, .int .u64 (P.rt : Int)]] wr fun e w' => e = .returned (.bool true) ∧ VV S t true w F fb fd b g b9 b10 bh n0 w' gh cap n C fr qr a P qw r Q Ph Ah c := by
  have V0 := V
  have hC := V.clt
  have hf := V.frC
  obtain ⟨col, hs, l, ch, Zr, y, h1, h2, h3, h4, h5⟩ := V
  have hget : ∀ (i : Nat), (hs.drop fr)[i]? = hs[fr + i]? := fun i => List.getElem?_drop
  refine (among_yes (hs.drop fr) gh (fr * 5) m k P A c2 wr (by rw [List.length_drop]; omega) (by omega) h2.ghlt (fun i j x u hx hu => ?_) (fun i x hx => (h2.rows x (by rw [hget] at hx; exact List.mem_of_getElem? hx)).1) (fun i x hx => ?_) hR ?_).mono ?_
  · rw [hget] at hx
    have hj : j < 5 := (List.getElem?_eq_some_iff.1 hu).1
    have := h2.his.cells (g := gh) rfl ((fr + i) * 5 + j) u (by rw [flatP_at hs (fr + i) j x hj hx]; exact hu)
    rw [Addr.add_lit] at this
    rw [show fr * 5 + (i * 5 + j) = 0 + ((fr + i) * 5 + j) by omega]; exact this
  · rw [hget] at hx
    have := (h2.good x (List.mem_of_getElem? hx)).2.1
    omega
  · obtain ⟨x, hx, e⟩ := h2.cur
    exact ⟨C - fr, x, by rw [hget, show fr + (C - fr) = C by omega]; exact hx, e⟩
  · rintro e w' ⟨rfl, hk⟩
    exact ⟨rfl, (V0.none hk).less (fun i hi => .inl hi)⟩
/-- Another reader. -/
theorem vnewread (V : VV S t dn w F fb fd b g b9 b10 bh n0 wr gh cap n C fr qr a P qw r Q Ph Ah c) (h4 : 4 ≤ F) (h6 : F ≤ 6) (hd : Reach3 10 fb fd) :
    Calls Try.prog 26 #[.agg #[.int .i64 1, .int .i64 2, .int .i64 100, .int .i64 100, .int .i64 200, .int .i64 (F : Int), .int .u64 1000, .int .i64 10, .int .i64 fb, .int .i64 fd], .int .u64 1] wr fun e w' => ∃ q, e = .returned (.pointer (some ⟨q, 0, .none⟩)) ∧ VV S t false w F fb fd b g b9 b10 bh n0 w' gh cap n C C q a P qw r Q Ph Ah c := by
  obtain ⟨col, hs, l, ch, Zr, y, h1, h2, h3, h4', h5⟩ := V
  refine (newRead_any 1 2 100 100 200 F 1000 10 fb fd (limF h4 h6) hd 1 wr).mono ?_
  rintro e w' ⟨q, rfl, hr, hq, hk⟩
  exact ⟨q, rfl, _, hs, l, ch, _, rst0, h1, h2.read hk (fun _ _ h => h.elim) (h2.mem.kept hk (fun h => h) (fun h => h)) hr (fun i hi => .inr (by omega)), ⟨fun _ => Rv.new (Nat.le_refl _), fun e => (by cases e)⟩,
    h4'.kept hk (fun _ _ h => h.elim) (fun i hi => if_pos hi), fun i hi => ⟨Nat.lt_of_lt_of_le (h5 i hi).1 hk.size, (if_pos (h5 i hi).1).trans (h5 i hi).2⟩⟩
/-- A Write begins; its page is not yet in the history. -/
theorem vnewwrite (V : VV S 0 false w F fb fd b g b9 b10 bh n0 wr gh cap n C fr qr a P qw r Q Ph Ah c) (h4 : 4 ≤ F) (h6 : F ≤ 6) (hd : Reach3 10 fb fd) (hC : C < 1000) (hn : n = C + 1) {A : Option Addr} {c2 : Nat} {Q2 : Pg} (hR : Rs wr A c2 Q2.xs) (hQ : Good F Q2) (wd : Int) (hwd : wd = ((1 + 4 * C : Nat) : Int)) :
    Calls Try.prog 20 #[.agg #[.int .i64 1, .int .i64 2, .int .i64 100, .int .i64 100, .int .i64 200, .int .i64 (F : Int), .int .u64 1000, .int .i64 10, .int .i64 fb, .int .i64 fd], .agg #[.int .u64 1, .int .u64 wd, .int .i64 (P.lv : Int), .slice Ah P.xs.length c, .string P.hi, .bool P.la, .int .u64 (P.rt : Int)], .agg #[.int .i64 (Q2.lv : Int), .slice A Q2.xs.length c2, .string Q2.hi, .bool Q2.la, .int .u64 (Q2.rt : Int)]] wr fun e w' => ∃ q r2, e = .returned (.pointer (some ⟨q, 0, .none⟩)) ∧ 2 ≤ r2 ∧ r2 ≤ 11 ∧ Kept (fun _ => False) wr w' ∧ VV S 1 false w F fb fd b g b9 b10 bh n0 w' gh cap n C fr qr a P q r2 Q2 Ph Ah c := by
  subst hwd
  have hg := V.good
  have hI := V.idle
  obtain ⟨col, hs, l, ch, Zr, y, h1, h2, h3, h4', h5⟩ := V
  obtain ⟨rfl, rfl⟩ := h4'.idle rfl
  have hb1 : beginW (1 + 4 * C) = 3 + 4 * C := by unfold beginW; omega
  have hb2 : endW (3 + 4 * C) = 5 + 4 * C := by unfold endW; omega
  refine (newWrite_any 1 2 100 100 200 F 1000 10 fb fd (limF h4 h6) hd 1 (1 + 4 * C) Ph.lv Ah c Ph.hi Ph.la Ph.rt Ph.xs Q2.lv A c2 Q2.hi Q2.la Q2.rt Q2.xs wr Ph.xs.length Q2.xs.length rfl rfl (by have := hg.2.1; omega) (by have := hQ.2.1; omega) hg.2.2.lv hQ.2.2.lv (by omega) hI.2.1 hR).mono ?_
  rintro e w' ⟨q, Z, rfl, hS, hz, hk⟩
  rw [hb1, hb2] at hS
  obtain ⟨ss, hss⟩ : ∃ ss, wsto (nla F 1) (3 + 4 * C) (5 + 4 * C) (chg (pst (nad F 1) Ph) (pst (nad F 1) Q2)) = ss := ⟨_, rfl⟩
  have hS2 : Stm Z w' q 94 ss 0 1 (5 + 4 * C) Q2 := by rw [← hss]; exact hS
  have hB := Busy.start (Q := Q2) h2.nd h2.nats h2.len hss
  have hsz := hB.size hQ.2.1 h6
  refine ⟨q, ss.length, rfl, hsz.1, hsz.2, hk, fun i => if i < wr.heap.size then col i else 3, hs, l, false, Zr, y, h1, (h2.recol (fun i hi => if_pos hi)).none hk, h3, ⟨?_, fun e => (by cases e), fun _ => ?_, fun e => (by cases e)⟩, fun i hi => ⟨Nat.lt_of_lt_of_le (h5 i hi).1 hk.size, (if_pos (h5 i hi).1).trans (h5 i hi).2⟩⟩
  · obtain ⟨d, hd1, _⟩ := h4'.hd
    exact ⟨d, hd1.kept hk (fun _ _ h => h.elim) (fun i hi => if_pos hi), fun e => (by cases e)⟩
  · exact ⟨Z, ss, 0, ⟨hS2, fun i hi => if_neg (by have := hz i hi; omega)⟩, hB, by omega, by omega, hsz.2, rfl, hQ, fun e => by omega⟩
/-- Its page is put behind the history. -/
theorem VV.app (V : VV S 1 false w F fb fd b g b9 b10 bh n0 wr gh cap n C fr qr a P qw r Q Ph Ah c) (hn : n = C + 1) {A : Option Addr} {c2 : Nat} (hR : Rs wr A c2 Q.xs) (hS : 0 < Q.xs.length → ∀ ad, A = some ad → S ad.block) :
    ∃ xs, wr.ownsRow 0 25 5 (.slice (some ⟨gh, 0, .none⟩) n cap) n xs ∧ ∀ wz g2 cap2, wz.ownsRow 0 25 5 (.slice (some ⟨g2, 0, .none⟩) (n + 1) cap2) (n + 1) (xs ++ [.int .i64 (Q.lv : Int), .slice A Q.xs.length c2, .string Q.hi, .bool Q.la, .int .u64 (Q.rt : Int)]) → wr.grownBy wz (some gh) → ((some gh : Option Nat) = some g2 ∨ g2 = wr.heap.size) →
      VV (fun _ => False) 1 false w F fb fd b g b9 b10 bh n0 wz g2 cap2 (n + 1) C fr qr a P qw r Q Ph Ah c := by
  obtain ⟨col, hs, l, ch, Zr, y, h1, h2, h3, h4', h5⟩ := V
  subst h1
  refine ⟨flatP hs, h2.his, fun wz g2 cap2 ho hg hat => ?_⟩
  obtain ⟨Zw, ss, j, k1, k2, k3, k4, k5, k6, k7, _⟩ := h4'.busy rfl
  have hk : Kept (fun i => i = gh) wr wz := (Kept.refl (fun i => i = gh) wr).grown hg (fun k hk _ => by cases hk; rfl)
  have hX := h2.app hg hat (x := ⟨Q, A, c2⟩) ⟨hR, fun hp ad ha => (h5 _ (hS hp ad ha)).2⟩ k7 ho
  have hW := h4'.kept (c2 := fun i => if i < wr.heap.size then col i else 5) hk (fun i hi e => by
    rw [e, h2.cgh]
    refine ⟨by omega, by omega, fun e2 => ?_⟩
    have h8 := h2.cgh
    rw [e2, h2.cd] at h8; omega) (fun i hi => if_pos hi)
  refine ⟨_, hs ++ [⟨Q, A, c2⟩], l, ch, Zr, y, by simp, hX, h3, ⟨hW.hd, fun e => (by cases e), fun _ => ?_, fun e => (by cases e)⟩, fun i hi => hi.elim⟩
  obtain ⟨Zw, ss, j, k1, k2, k3, k4, k5, k6, k7, _⟩ := hW.busy rfl
  exact ⟨Zw, ss, j, k1, k2, k3, k4, k5, k6, k7, fun _ => ⟨⟨Q, A, c2⟩, by rw [List.getElem?_append_right (by omega), show C + 1 - hs.length = 0 by omega]; rfl, rfl⟩⟩
/-- A step of the Write. -/
theorem vwstep (V : VV S 1 false w F fb fd b g b9 b10 bh n0 wr gh cap n C fr qr a P qw r Q Ph Ah c) (hads : Ads F (nla F 1) (nad F 1) n0) (h6 : F ≤ 6) (hC : C < 999) (hn : n = C + 2) (ha : a < 9223372036854775807) :
    Calls Try.prog 21 #[.pointer (some ⟨qw, 0, .none⟩), .pointer (some ⟨b, 0, .none⟩)] wr fun e w' => ∃ bb, e = .returned (.bool bb) ∧
      (bb = false → ∃ r2, r = r2 + 1 ∧ 1 ≤ r2 ∧ VV S 1 false w F fb fd b g b9 b10 bh n0 w' gh cap n C fr qr (a + 1) P qw r2 Q Ph Ah c) ∧ (bb = true → r = 1 ∧ VV S 2 false w F fb fd b g b9 b10 bh n0 w' gh cap n (C + 1) fr qr (a + 1) Q qw r Q Ph Ah c) := by
  have hgp := V.good
  obtain ⟨col, hs, l, ch, Zr, y, h1, h2, h3, h4', h5⟩ := V
  subst h1
  obtain ⟨Zw, ss, j, k1, k2, k3, k4, k5, k6, k7, k8⟩ := h4'.busy rfl
  obtain ⟨x8, k8, k9⟩ := k8 hn
  have hsz := k2.size k7.2.1 h6
  obtain ⟨ad, cN, cK, cM, hs'⟩ := sto_ex (ss := ss) (j := j) (by omega)
  have nz : ∀ x, col x ≠ 3 → ¬ Zw x := fun x hx h => hx (k1.c x h)
  refine (wstep_any Zw qw ss j 1 (5 + 4 * C) Q wr k1.st b g l a h2.mem (nz _ (by rw [h2.cb]; omega)) (nz _ (by rw [h2.cg]; omega)) (by omega) (by omega) ad cN cM cK hs' (j + 1 == ss.length) rfl).mono ?_
  rintro e w' ⟨rfl, hm, hst, hk⟩
  have hN := k2.next hs'
  have hY : ∀ i, i < wr.heap.size → (Zw i ∨ i = b ∨ i = g) → col i = 1 ∨ col i = 3 ∨ col i = 4 := fun i _ e => by
    rcases e with e | e | e
    · exact .inr (.inl (k1.c i e))
    · exact .inl (by rw [e]; exact h2.cb)
    · exact .inl (by rw [e]; exact h2.cg)
  have hH : ∃ wdh, Hd w' col bh wdh Ph Ah c := by
    obtain ⟨d, hd, _⟩ := h4'.hd
    refine ⟨d, hd.kept hk (fun i hi e => ?_) (fun _ _ => rfl)⟩
    refine ⟨by have := hY i hi e; omega, fun e2 => ?_⟩
    rcases e with e | e | e
    · have := k1.c i e; rw [e2, h2.cd] at this; omega
    · have := h2.cb; rw [← e, e2, h2.cd] at this; omega
    · have := h2.cg; rw [← e, e2, h2.cd] at this; omega
  have hS : ∀ i, S i → i < w'.heap.size ∧ col i = 0 := fun i hi => ⟨Nat.lt_of_lt_of_le (h5 i hi).1 hk.size, (h5 i hi).2⟩
  obtain ⟨d, hd⟩ := hH
  refine ⟨_, rfl, fun e => ?_, fun e => ?_⟩
  · have hlt : j + 1 < ss.length := by
      have : ¬ (j + 1 = ss.length) := by simpa using e
      omega
    refine ⟨r - 1, by omega, by omega, col, hs, _, decide (0 < j + 1), Zr, y, rfl, h2.kept hk hY hm (hN.nats k7.2.2 (by omega)) hN.len (hN.cells hads k7.2.1 hlt) h2.cur, ⟨fun _ => by rw [decide_eq_true (Nat.succ_pos j)]; exact (h3.1 rfl).busy, fun e => (by cases e)⟩,
      ⟨⟨d, hd, fun e => (by cases e)⟩, fun e => (by cases e), fun _ => ⟨Zw, ss, j + 1, ⟨hst, k1.c⟩, hN, by omega, by omega, by omega, rfl, k7, fun _ => ⟨x8, k8, k9⟩⟩, fun e => (by cases e)⟩, hS⟩
  · have hlt : j + 1 = ss.length := by simpa using e
    rw [hlt] at hN hst
    exact ⟨by omega, col, hs, _, false, Zr, y, rfl, h2.kept hk hY hm (hN.nats k7.2.2 (by omega)) hN.len (hN.last hads hgp.2.1 k7.2.1) ⟨x8, k8, k9⟩, ⟨fun _ => (h3.1 rfl).ended, fun e => (by cases e)⟩,
      ⟨⟨d, hd, fun e => (by cases e)⟩, fun e => (by cases e), fun e => (by cases e), fun _ => ⟨rfl, rfl, Zw, ss, ⟨by rw [show 1 + 4 * (C + 1) = 5 + 4 * C by omega]; exact hst, k1.c⟩⟩⟩, hS⟩
/-- What the Write has left. -/
theorem vheld (V : VV S 2 false w F fb fd b g b9 b10 bh n0 wr gh cap n C fr qr a P qw r Q Ph Ah c) (h6 : F ≤ 6) :
    Calls Try.prog 22 #[.pointer (some ⟨qw, 0, .none⟩)] wr fun e w' => ∃ (A : Option Addr) (c2 : Nat), e = .returned (.agg #[.int .u64 1, .int .u64 ((1 + 4 * C : Nat) : Int), .int .i64 (P.lv : Int), .slice A P.xs.length c2, .string P.hi, .bool P.la, .int .u64 (P.rt : Int)]) ∧ Rs w' A c2 P.xs ∧
      ∃ S2, (∀ ad, A = some ad → 0 < P.xs.length → S2 ad.block) ∧ VV S2 2 false w F fb fd b g b9 b10 bh n0 w' gh cap n C fr qr a P qw r Q Ph Ah c := by
  have hg := V.good
  have V0 := V
  obtain ⟨col, hs, l, ch, Zr, y, h1, h2, h3, h4, h5⟩ := V
  obtain ⟨_, rfl, Zw, ss, hw⟩ := h4.fin rfl
  refine (wheld_any Zw qw ss ss.length 1 (1 + 4 * C) P wr hw.st rfl (by have := hg.2.1; omega)).mono ?_
  rintro e w' ⟨A, c2, rfl, hR, hA, hk⟩
  exact ⟨A, c2, rfl, hR, _, fun ad h hp => .inr ⟨hA ad h, hR.lt hp ad h⟩, V0.none hk⟩
/-- Behind the store of it no Write is there any more. -/
theorem VV.stored (V : VV S 2 false w F fb fd b g b9 b10 bh n0 wr gh cap n C fr qr a P qw r Q Ph Ah c) {A : Option Addr} {c2 : Nat} (hR : Rs wr A c2 P.xs) (hS : ∀ ad, A = some ad → 0 < P.xs.length → S ad.block) (q2 r2 : Nat) (Q2 : Pg) (wd : Int) (hwd : wd = ((1 + 4 * C : Nat) : Int)) :
    VV (fun _ => False) 0 false w F fb fd b g b9 b10 bh n0 ((((((((wr.setCell ⟨bh, 0, .none⟩ (.int .u64 1)).setCell ⟨bh, 1, .none⟩ (.int .u64 wd)).setCell ⟨bh, 2, .none⟩ (.int .i64 (P.lv : Int))).setCell ⟨bh, 3, .none⟩ (.slice A P.xs.length c2)).setCell ⟨bh, 4, .none⟩ (.string P.hi)).setCell ⟨bh, 5, .none⟩ (.bool P.la)).setCell ⟨bh, 6, .none⟩ (.int .u64 (P.rt : Int)))) gh cap n C fr qr a P q2 r2 Q2 P A c2 := by
  subst hwd
  obtain ⟨u0, u1, u2, u3, u4, u5, u6, hB⟩ := V.held
  obtain ⟨col, hs, l, ch, Zr, y, h1, h2, h3, h4, h5⟩ := V
  obtain ⟨rfl, _⟩ := h4.fin rfl
  have hk : Kept (fun i => i = bh) wr ((((((((wr.setCell ⟨bh, 0, .none⟩ (.int .u64 1)).setCell ⟨bh, 1, .none⟩ (.int .u64 ((1 + 4 * C : Nat) : Int))).setCell ⟨bh, 2, .none⟩ (.int .i64 (P.lv : Int))).setCell ⟨bh, 3, .none⟩ (.slice A P.xs.length c2)).setCell ⟨bh, 4, .none⟩ (.string P.hi)).setCell ⟨bh, 5, .none⟩ (.bool P.la)).setCell ⟨bh, 6, .none⟩ (.int .u64 (P.rt : Int)))) := (((((((Kept.refl (fun i => i = bh) wr).setCell (a := ⟨bh, 0, .none⟩) (fun _ => rfl) (.int .u64 1)).setCell (a := ⟨bh, 1, .none⟩) (fun _ => rfl) (.int .u64 ((1 + 4 * C : Nat) : Int))).setCell (a := ⟨bh, 2, .none⟩) (fun _ => rfl) (.int .i64 (P.lv : Int))).setCell (a := ⟨bh, 3, .none⟩) (fun _ => rfl) (.slice A P.xs.length c2)).setCell (a := ⟨bh, 4, .none⟩) (fun _ => rfl) (.string P.hi)).setCell (a := ⟨bh, 5, .none⟩) (fun _ => rfl) (.bool P.la)).setCell (a := ⟨bh, 6, .none⟩) (fun _ => rfl) (.int .u64 (P.rt : Int))
  have hb := (((((((hB.set 0 (.int .u64 1)).set 1 (.int .u64 ((1 + 4 * C : Nat) : Int))).set 2 (.int .i64 (P.lv : Int))).set 3 (.slice A P.xs.length c2)).set 4 (.string P.hi)).set 5 (.bool P.la)).set 6 (.int .u64 (P.rt : Int)))
  have hm := h2.mem.kept hk (fun e => by have := h2.cb; rw [e, h2.cd] at this; omega) (fun e => by have := h2.cg; rw [e, h2.cd] at this; omega)
  refine ⟨col, hs, l, false, Zr, y, h1, h2.kept hk (fun i _ e => by rw [e, h2.cd]; omega) hm h2.nats h2.len h2.nd h2.cur, h3, ⟨⟨1 + 4 * C, ⟨hb, ?_⟩, fun _ => rfl⟩, fun _ => ⟨rfl, rfl⟩, fun e => (by cases e), fun e => (by cases e)⟩, fun i hi => hi.elim⟩
  exact Rc.kept (col := col) ⟨hR, fun hp ad ha => (h5 _ (hS ad ha hp)).2⟩ hk (fun i _ e => by rw [e, h2.cd]; omega) (fun _ _ => rfl)
/-- The colours at the start. -/
def col0 (b g qr bh gh i : Nat) : Nat := if i = b ∨ i = g then 1 else if i = qr then 2 else if i = bh then 4 else if i = gh then 5 else 0
/-- At the start. -/
theorem vstart {l : List Cel} (E : Ev w wr F fb fd b g b9 b10) (hm : Mem wr b g l a) (hn : Nats l) (hl : l.length = n0) (hc : Nd1 F l pg0 0 false) (hB : Blk wr bh 48 [.int .u64 1, .int .u64 1, .int .i64 0, .slice .none 0 0, .string ⟨#[]⟩, .bool true, .int .u64 0])
    (hH : Blk wr gh 25 [.int .i64 0, .slice .none 0 0, .string ⟨#[]⟩, .bool true, .int .u64 0]) (hr : Rd (fun i => i = qr) wr F fb fd qr 1 rst0) (ho : w.heap.size ≤ bh ∧ w.heap.size ≤ gh ∧ w.heap.size ≤ qr) (hbg : b ≠ bh ∧ g ≠ bh ∧ b ≠ gh ∧ g ≠ gh ∧ b ≠ qr ∧ g ≠ qr) (hne : bh ≠ gh ∧ bh ≠ qr ∧ gh ≠ qr) (h9 : b9 ≠ bh ∧ b9 ≠ gh ∧ b9 ≠ qr) (h10 : b10 ≠ bh ∧ b10 ≠ gh ∧ b10 ≠ qr) (qw r : Nat) (Q : Pg) :
    VV (fun _ => False) 0 false w F fb fd b g b9 b10 bh n0 wr gh 1 1 0 0 qr a pg0 qw r Q pg0 .none 0 := by
  have e9 := E.n9
  have e10 := E.n10
  have ebg := E.bg
  have ekt := E.kept.size
  unfold Own at e9 e10
  have c0 : ∀ i, ¬ (i = b ∨ i = g) → i ≠ qr → i ≠ bh → i ≠ gh → col0 b g qr bh gh i = 0 := fun i h1 h2 h3 h4 => by unfold col0; rw [if_neg h1, if_neg h2, if_neg h3, if_neg h4]
  have hO : wr.ownsRow 0 25 5 (.slice (some ⟨gh, 0, .none⟩) 1 1) 1 (flatP [⟨pg0, .none, 0⟩]) := ⟨rfl, .inr ⟨gh, 1, _, rfl, Nat.zero_le _, hH, Nat.le_refl _, by unfold maxLen; omega, rfl, rfl⟩⟩
  refine ⟨col0 b g qr bh gh, [⟨pg0, .none, 0⟩], l, false, _, rst0, rfl,
    ⟨E, hm, hn, hl, hO, fun x hx => ?_, fun x hx => ?_, ⟨⟨pg0, .none, 0⟩, rfl, rfl⟩, hc, hr, fun i hi => c0 i (fun h => h.elim (fun h => by rw [h] at hi; exact absurd ebg.1 (Nat.not_le.2 hi)) (fun h => by rw [h] at hi; exact absurd ebg.2 (Nat.not_le.2 hi))) (fun h => by rw [h] at hi; exact absurd ho.2.2 (Nat.not_le.2 hi)) (fun h => by rw [h] at hi; exact absurd ho.1 (Nat.not_le.2 hi)) (fun h => by rw [h] at hi; exact absurd ho.2.1 (Nat.not_le.2 hi)), c0 _ e9 h9.2.2 h9.1 h9.2.1, c0 _ e10 h10.2.2 h10.1 h10.2.1, ?_, ?_, hB.lt, ?_, ?_, fun i hi => ?_⟩,
    ⟨fun _ => Rv.new (Nat.le_refl _), fun e => (by cases e)⟩, ⟨⟨1, ⟨hB, Rs.nil wr, fun h => absurd h (by simp [pg0])⟩, fun _ => rfl⟩, fun _ => ⟨rfl, rfl⟩, fun e => (by cases e), fun e => (by cases e)⟩, fun i hi => hi.elim⟩
  · rw [List.mem_singleton.1 hx]; exact ⟨Rs.nil wr, fun h => absurd h (by simp [pg0])⟩
  · rw [List.mem_singleton.1 hx]; exact ⟨fun _ => rfl, Nat.zero_le _, fits0⟩
  · unfold col0; rw [if_pos (.inl rfl)]
  · unfold col0; rw [if_pos (.inr rfl)]
  · unfold col0; rw [if_neg (fun h => h.elim (fun h => hbg.1 h.symm) (fun h => hbg.2.1 h.symm)), if_neg hne.2.1, if_pos rfl]
  · unfold col0; rw [if_neg (fun h => h.elim (fun h => hbg.2.2.1 h.symm) (fun h => hbg.2.2.2.1 h.symm)), if_neg hne.2.2, if_neg (fun h => hne.1 h.symm), if_pos rfl]
  · unfold col0; rw [hi, if_neg (fun h => h.elim (fun h => hbg.2.2.2.2.1 h.symm) (fun h => hbg.2.2.2.2.2 h.symm)), if_pos rfl]
end
end Go.Proofs.Ytlehpcbhfdnkdaa
