/-
  The machines Read and Own of package node a step at a time. Condition: a layout within its limits; fewer than 2^63 accesses.
-/
import Derived.Test.YthpaolhpkmgelaaLkNode
import Derived.Test.YthpaolhpkmgelaaLkMem
import Derived.Test.YthpaolhpkmgelaaLkPag
namespace Go.Proofs.Ythpaolhpkmgelaa
section
open Go.RowKit Go.Deep Plain
set_option linter.unusedVariables false

theorem latch_to (T S N C R : Int) (F : Nat) (K fa fb fd : Int) (hl : Lim T S N C R (F : Int)) (hd : Reach3 fa fb fd) (n v : Int) (hv : nodeAt N (F : Int) fa n 0 = v) (w : World) :
    Calls Try.prog 88 #[.agg #[.int .i64 T, .int .i64 S, .int .i64 N, .int .i64 C, .int .i64 R, .int .i64 (F : Int), .int .u64 K, .int .i64 fa, .int .i64 fb, .int .i64 fd], .int .u64 n] w fun e w' => e = .returned (.int .i64 v) ∧ Kept (fun _ => False) w w' := by
  have := latch_any T S N C R (F : Int) K fa fb fd n hl hd w; rwa [hv] at this
theorem keepOwn {Z : Nat → Prop} {b g : Nat} (hb : ¬ Z b) (hg : ¬ Z g) : ∀ i, Z i → ¬ Own b g i := fun i hi e => by
  rcases e with rfl | rfl
  · exact hb hi
  · exact hg hi

/-- The state of a Read: its phase, its word, what it has read. -/
structure Rst where
  ph : Nat
  wd : Nat
  s : Cs
def rst0 : Rst := ⟨0, 0, cs0⟩
def rtl (y : Rst) : List Value := [.int .u64 (y.wd : Int), .int .i64 (y.ph : Int)]
/-- The next state, where this has been loaded. -/
def rnext (F : Nat) (y : Rst) (nN : Nat) (kK : ByteArray) (mM : Nat) : Rst :=
  if y.ph = 0 then (if nN / 2 % 2 = 1 then ⟨0, nN, y.s⟩ else ⟨1, nN, cs0⟩)
  else if y.ph = 1 then ⟨if (tk F y.s nN kK mM).rd = (tk F y.s nN kK mM).en then 2 else 1, y.wd, tk F y.s nN kK mM⟩
  else if y.wd / 2 = nN / 2 then ⟨3, y.wd, y.s⟩ else ⟨0, y.wd, y.s⟩
/-- The address of the cell that is loaded next. -/
def raddr (la0 : Int) (ad : Nat → Int) (y : Rst) : Int := if y.ph = 1 then ad y.s.rd else la0
/-- What is known of a Read on its way. -/
structure Okr (F : Nat) (y : Rst) : Prop where
  ph : y.ph ≤ 3
  wd : y.wd < 18446744073709551616
  s : Oks F y.s
  mid : y.ph = 1 → y.s.rd = 0 ∨ y.s.rd < y.s.en
theorem okr0 (F : Nat) : Okr F rst0 := ⟨by simp [rst0], by simp [rst0], oks0 F, fun h => by simp [rst0] at h⟩
theorem rnext_ok {F : Nat} {y : Rst} (h : Okr F y) (hp : y.ph < 3) {nN mM : Nat} {kK : ByteArray} (hN : nN < 18446744073709551616) : Okr F (rnext F y nN kK mM) := by
  unfold rnext
  split
  · split
    · exact ⟨by simp, hN, h.s, fun e => by simp at e⟩
    · exact ⟨by simp, hN, oks0 F, fun _ => .inl rfl⟩
  · split
    · rename_i h0 h1
      have ht := tk_oks h.s (h.mid h1) nN kK mM
      refine ⟨by simp only; split <;> omega, h.wd, ht, fun e => ?_⟩
      simp only at e ⊢
      split at e
      · omega
      · rename_i hne
        have := ht.en (by rw [tk_rd]; omega)
        omega
    · split
      · exact ⟨by simp, h.wd, h.s, fun e => by simp at e⟩
      · exact ⟨by simp, h.wd, h.s, fun e => by simp at e⟩

end

section
open Go.RowKit Go.Deep Plain
set_option linter.unusedVariables false

set_option linter.unusedVariables false

theorem bkept {w w' : World} (h : Below w.heap.size w w') : Kept (fun _ => False) w w' := ⟨h.os, h.tape, h.output, h.size, fun i hi _ => h.block i hi⟩

theorem nat_toNat {c : Cel} (h : NatCell c) : c = ((c.1.toNat : Int), c.2.1, (c.2.2.toNat : Int)) ∧ c.1.toNat < 18446744073709551616 ∧ c.2.2.toNat < 9223372036854775808 := by
  obtain ⟨N, M, K, rfl, h1, h2⟩ := h
  refine ⟨rfl, ?_, ?_⟩ <;> simp <;> omega

theorem Rs.keptF {Y : Nat → Prop} {w w' : World} {A : Option Addr} {c : Nat} {xs : List Sl} (h : Rs w A c xs) (hk : Kept Y w w') (hA : ∀ a, A = some a → ¬ Y a.block) : Rs w' A c xs :=
  ⟨h.le, h.max, h.none', fun hp => by
    obtain ⟨g, off, e, hg, hc⟩ := h.some' hp
    exact ⟨g, off, e, Nat.lt_of_lt_of_le hg hk.size, fun j u hu => (hk.cell (p := ⟨g, off + j, none⟩) hg (show ¬ Y g from hA _ e)).trans (hc j u hu)⟩⟩
end

section
open Go.RowKit Go.Deep Plain
set_option linter.unusedVariables false

end

section
open Go.RowKit Go.Deep Plain
set_option linter.unusedVariables false

/-- The address of a node's latch, and of its other cells, in the kit's small configurations. -/
def nla (F nid : Nat) : Int := nodeAt 100 (F : Int) 10 (nid : Int) 0
def nad (F nid : Nat) : Nat → Int := adr 100 (F : Int) 10 (nid : Int)
theorem limF {F : Nat} (h4 : 4 ≤ F) (h6 : F ≤ 6) : Lim 1 2 100 100 200 (F : Int) := by constructor <;> omega
theorem nla_eq {F nid : Nat} (h1 : 1 ≤ nid) (h2 : nid ≤ 100) : nla F nid = 10 + (((nid : Int) - 1) * (F : Int) + ((nid : Int) - 1) * 4) := by
  unfold nla nodeAt; rw [if_pos (by omega)]; omega
theorem nad_eq {F nid : Nat} (h1 : 1 ≤ nid) (h2 : nid ≤ 100) {r : Nat} (hr : r < F + 3) : nad F nid r = nla F nid + 1 + (r : Int) := by
  rw [nla_eq h1 h2]
  unfold nad adr
  have hn : ∀ p : Int, nodeAt 100 (F : Int) 10 (nid : Int) p = 10 + (((nid : Int) - 1) * (F : Int) + ((nid : Int) - 1) * 4) + p := fun p => by unfold nodeAt; rw [if_pos (by omega)]
  rcases (by omega : r = 0 ∨ r = 1 ∨ r = 2 ∨ 3 ≤ r) with rfl | rfl | rfl | h
  · rw [if_pos rfl, hn]; omega
  · rw [if_neg (by omega), if_pos rfl, hn]; omega
  · rw [if_neg (by omega), if_neg (by omega), if_pos rfl, hn]; omega
  · rw [if_neg (by omega), if_neg (by omega), if_neg (by omega)]
    unfold slotAt
    rw [if_pos (by omega), hn]; omega
theorem node_bd {F nid : Nat} (h6 : F ≤ 6) (h1 : 1 ≤ nid) (h2 : nid ≤ 100) : 0 ≤ ((nid : Int) - 1) * (F : Int) ∧ ((nid : Int) - 1) * (F : Int) ≤ 99 * (F : Int) :=
  ⟨Int.mul_nonneg (by omega) (by omega), Int.mul_le_mul_of_nonneg_right (by omega) (by omega)⟩

/-- What lies in the cells at the start. -/
structure Start (F : Nat) (l : List Cel) : Prop where
  lo : 10 + 100 * (F : Int) + 400 ≤ (l.length : Int)
  hi : l.length ≤ 1048576
  nats : Nats l
  zero : ∀ i : Int, i ≠ 0 → i ≠ 4 → i ≠ nad F 1 1 → cellAt l i = cel0
  high : cellAt l (nad F 1 1) = (0, ⟨#[]⟩, 1)
theorem ads_of {F nid n : Nat} (h4 : 4 ≤ F) (h6 : F ≤ 6) (h1 : 1 ≤ nid) (h2 : nid ≤ 100) (hn : 10 + 100 * (F : Int) + 400 ≤ (n : Int)) : Ads F (nla F nid) (nad F nid) n := by
  have hb := node_bd h6 h1 h2
  have hl := nla_eq (F := F) h1 h2
  refine ⟨by omega, fun r hr => ?_, fun r hr => ?_, fun r t hr ht e => ?_⟩
  · rw [nad_eq h1 h2 hr]; omega
  · rw [nad_eq h1 h2 hr]; omega
  · rw [nad_eq h1 h2 hr, nad_eq h1 h2 ht] at e; omega
theorem start_of {F : Nat} (h4 : 4 ≤ F) (h6 : F ≤ 6) : Start F (startCells 1 2 100 100 200 (F : Int)) := by
  have hlen := startCells_length 1 2 100 100 200 (F : Int) (limF h4 h6)
  have hall : allCells 1 2 100 100 200 (F : Int) = 10 + (100 * (F : Int) + 400) + 100 + 600 := by
    unfold allCells firstRecord firstChain firstNode; omega
  have he : nodeAt 100 (F : Int) (firstNode 1 2) 1 2 = nad F 1 1 := rfl
  have hlo : (0 : Int) ≤ nad F 1 1 ∧ nad F 1 1 = 12 := by rw [nad_eq (by omega) (by omega) (by omega), nla_eq (by omega) (by omega)]; omega
  have hr : ((List.replicate (allCells 1 2 100 100 200 (F : Int)).toNat cel0).length : Int) = allCells 1 2 100 100 200 (F : Int) := by rw [List.length_replicate]; omega
  have hc : ∀ i : Int, cellAt (startCells 1 2 100 100 200 (F : Int)) i = if nad F 1 1 = i then (0, ⟨#[]⟩, 1) else if i = 4 then (1, ⟨#[]⟩, 0) else if i = 0 then (1, ⟨#[]⟩, 0) else cel0 := fun i => by
    unfold startCells
    rw [he, cellAt_putAt, cellAt_putAt, cellAt_putAt, putAt_length, putAt_length]
    by_cases h1 : nad F 1 1 = i
    · rw [if_pos ⟨h1, hlo.1, by omega⟩, if_pos h1]
    · rw [if_neg (fun h => h1 h.1), if_neg h1]
      by_cases h2 : i = 4
      · rw [if_pos ⟨h2.symm, by omega, by omega⟩, if_pos h2]
      · rw [if_neg (fun h => h2 h.1.symm), if_neg h2]
        by_cases h3 : i = 0
        · rw [if_pos ⟨h3.symm, by omega, by omega⟩, if_pos h3]
        · rw [if_neg (fun h => h3 h.1.symm), if_neg h3]
          exact cellAt_zero _ _
  refine ⟨by omega, by omega, fun i => ?_, fun i h0 h4' h1 => ?_, ?_⟩
  · rw [hc]
    split
    · exact ⟨0, 1, _, rfl, by omega, by omega⟩
    · split
      · exact ⟨1, 0, _, rfl, by omega, by omega⟩
      · split
        · exact ⟨1, 0, _, rfl, by omega, by omega⟩
        · exact nat0
  · rw [hc, if_neg (fun e => h1 e.symm), if_neg h4', if_neg h0]
  · rw [hc, if_pos rfl]
/-- At the start node 1 is an empty leaf, and its latch is zero. -/
theorem Start.one {F : Nat} {l : List Cel} (h4 : 4 ≤ F) (h6 : F ≤ 6) (h : Start F l) : Holds (nad F 1) l pg0 ∧ cellAt l (nla F 1) = cel0 := by
  have hl := nla_eq (F := F) (nid := 1) (by omega) (by omega)
  have hr : ∀ r : Nat, r < 3 → nad F 1 r = 11 + (r : Int) := fun r hr => by rw [nad_eq (by omega) (by omega) (by omega), hl]; omega
  refine ⟨fun r hlt => ?_, h.zero _ (by omega) (by omega) (by rw [hr 1 (by omega)]; omega)⟩
  have hlt' : r < 3 := hlt
  rcases (by omega : r = 0 ∨ r = 1 ∨ r = 2) with rfl | rfl | rfl
  · rw [h.zero _ (by rw [hr 0 (by omega)]; omega) (by rw [hr 0 (by omega)]; omega) (by rw [hr 0 (by omega), hr 1 (by omega)]; omega)]; rfl
  · rw [h.high]; rfl
  · rw [h.zero _ (by rw [hr 2 (by omega)]; omega) (by rw [hr 2 (by omega)]; omega) (by rw [hr 2 (by omega), hr 1 (by omega)]; omega)]; rfl
theorem Start.ads {F nid : Nat} {l : List Cel} (h : Start F l) (h4 : 4 ≤ F) (h6 : F ≤ 6) (h1 : 1 ≤ nid) (h2 : nid ≤ 100) : Ads F (nla F nid) (nad F nid) l.length := ads_of h4 h6 h1 h2 h.lo

/-- What the kit's Memory answers for its own small configurations. -/
def KitOk (F : Nat) (w : World) (e : Ending) (w' : World) : Prop :=
  ∃ (b g : Nat) (l : List Cel) (fb fd : Int), e = .returned (.tuple #[.agg #[.int .i64 1, .int .i64 2, .int .i64 100, .int .i64 100, .int .i64 200, .int .i64 (F : Int), .int .u64 1000, .int .i64 10, .int .i64 fb, .int .i64 fd], .pointer (some ⟨b, 0, none⟩)]) ∧
    Mem w' b g l 0 ∧ Start F l ∧ Reach3 10 fb fd ∧ w.heap.size ≤ b ∧ w.heap.size ≤ g ∧ Kept (fun _ => False) w w'
theorem kitMem (F : Nat) (h4 : 4 ≤ F) (h6 : F ≤ 6) (w : World) :
    Calls Try.prog 26 #[.agg #[.int .i64 1, .int .i64 2, .int .i64 100, .int .i64 100, .int .i64 200, .int .i64 (F : Int), .int .u64 1000]] w (KitOk F w) := by
  refine (kitMemory_yes 1 2 100 100 200 (F : Int) 1000 (limF h4 h6) (by omega) (by omega) w).mono ?_
  rintro e w' ⟨b, g, he, hM, hb, hg, hK⟩
  exact ⟨b, g, _, firstChain 1 2 100 (F : Int), firstRecord 1 2 100 100 (F : Int), he, hM, start_of h4 h6, (limF h4 h6).reach, hb, hg, hK⟩
set_option maxHeartbeats 1000000 in
theorem kitConfig_any (T f : Int) (F : Nat) (hf : 4 + f % 3 = (F : Int)) (w : World) :
    Calls Try.prog 25 #[.int .i64 T, .int .i64 f] w fun e w' => e = .returned (.agg #[.int .i64 T, .int .i64 2, .int .i64 100, .int .i64 100, .int .i64 200, .int .i64 (F : Int), .int .u64 1000]) ∧ Kept (fun _ => False) w w' := by
  obtain ⟨m, hm⟩ : ∃ m : Nat, f % 3 = (m : Int) := ⟨(f % 3).toNat, by omega⟩
  have hF : 4 + (m : Int) = (F : Int) := by omega
  have HM := Lib.hid hm
  have hm3 : m < 3 := by omega
  clear hf hm
  go_enter Try.func25, Try.ntmps25
  go_wp2_with fail
  refine (mod_of f 3 m _ (by omega) (by omega) HM.out).mono ?_; rintro e w2 ⟨rfl, rfl⟩
  go_wp2
  refine bodyPost_ret (v := .agg #[.int .i64 T, .int .i64 2, .int .i64 100, .int .i64 100, .int .i64 200, .int .i64 (F : Int), .int .u64 1000]) ?_ rfl ⟨rfl, ?_⟩
  · have hE := Blk.new w [.int .i64 T, .int .i64 2, .int .i64 100, .int .i64 100, .int .i64 200, .int .i64 (F : Int), .int .u64 1000] 25
    have q0 := hE.cell (i := 0) rfl
    have q1 := hE.cell (i := 1) rfl
    have q2 := hE.cell (i := 2) rfl
    have q3 := hE.cell (i := 3) rfl
    have q4 := hE.cell (i := 4) rfl
    have q5 := hE.cell (i := 5) rfl
    have q6 := hE.cell (i := 6) rfl
    clear hE
    simp [results, Try.results25, go_sem, q0, q1, q2, q3, q4, q5, q6]
  · exact (Kept.refl _ _).alloc _
end

section
open Go.RowKit Go.Deep Plain
set_option linter.unusedVariables false

/-- The cell that a Read loads next. -/
def rcell (F nid : Nat) (l : List Cel) (y : Rst) : Cel := cellAt l (raddr (nla F nid) (nad F nid) y)
/-- A Read's next state in this memory. -/
def rgo (F nid : Nat) (l : List Cel) (y : Rst) : Rst := if y.ph < 3 then rnext F y (rcell F nid l y).1.toNat (rcell F nid l y).2.1 (rcell F nid l y).2.2.toNat else y
theorem rgo_ok {F nid : Nat} {l : List Cel} {y : Rst} (h : Okr F y) (hn : Nats l) : Okr F (rgo F nid l y) := by
  unfold rgo; split
  · exact rnext_ok h (by assumption) (nat_toNat (hn _)).2.1
  · exact h
/-- A Read alone: its state after so many steps. -/
def ralone (F nid : Nat) (l : List Cel) : Nat → Rst
  | 0 => rst0
  | k + 1 => rgo F nid l (ralone F nid l k)
theorem ralone_ok {F nid : Nat} {l : List Cel} (hn : Nats l) : ∀ k, Okr F (ralone F nid l k)
  | 0 => okr0 F
  | k + 1 => rgo_ok (ralone_ok hn k) hn
/-- Alone, in a memory where the page lies and the latch isn't changing: it reads the page in as many steps as there are cells, and two. -/
theorem ralone_at {F nid : Nat} {l : List Cel} (hn : Nats l) {P : Pg} (hP : Holds (nad F nid) l P) (hw : Wf P) (hF : P.xs.length ≤ F) {wd : Nat} (hl : (cellAt l (nla F nid)).1 = (wd : Int)) (hch : ¬ wd / 2 % 2 = 1) :
    ∀ k, k ≤ P.xs.length + 3 → ralone F nid l (k + 1) = ⟨if k = P.xs.length + 3 then 2 else 1, wd, got P k⟩
  | 0, _ => by
    have e : (cellAt l (nla F nid)).1.toNat = wd := by rw [hl]; rfl
    rw [if_neg (by omega), got_zero]
    show rgo F nid l rst0 = _
    unfold rgo rcell raddr
    rw [if_pos (show rst0.ph < 3 by decide), if_neg (show ¬ rst0.ph = 1 by decide)]
    unfold rnext
    rw [if_pos (show rst0.ph = 0 from rfl), e, if_neg hch]
  | k + 1, hk => by
    have ih := ralone_at hn hP hw hF hl hch k (by omega)
    rw [if_neg (by omega)] at ih
    show rgo F nid l (ralone F nid l (k + 1)) = _
    rw [ih]
    unfold rgo rcell raddr
    simp only
    rw [if_pos (by omega), if_pos trivial]
    have hrd : (got P k).rd = k := rfl
    rw [hrd]
    have hc := nat_toNat (hn (nad F nid k))
    have hpc := hP k (by omega)
    have ht : tk F (got P k) (cellAt l (nad F nid k)).1.toNat (cellAt l (nad F nid k)).2.1 (cellAt l (nad F nid k)).2.2.toNat = got P (k + 1) := by
      apply tk_got hw hF (by omega)
      rw [← hpc]; exact hc.1
    unfold rnext
    simp only
    rw [if_neg (by omega), if_pos trivial, ht]
    have hgl := got_last (P := P) (r := k) (by omega)
    have h2 : ((got P (k + 1)).rd = (got P (k + 1)).en) ↔ (k + 1 = P.xs.length + 3) := by
      have := hgl; rw [Bool.eq_iff_iff] at this; simpa using this
    by_cases hz : k + 1 = P.xs.length + 3
    · rw [if_pos (h2.2 hz), if_pos hz]
    · rw [if_neg (fun e => hz (h2.1 e)), if_neg hz]
theorem ralone_end {F nid : Nat} {l : List Cel} (hn : Nats l) {P : Pg} (hP : Holds (nad F nid) l P) (hw : Wf P) (hF : P.xs.length ≤ F) {wd : Nat} (hl : (cellAt l (nla F nid)).1 = (wd : Int)) (hch : ¬ wd / 2 % 2 = 1) (j : Nat) :
    ralone F nid l (P.xs.length + 5 + j) = ⟨3, wd, got P (P.xs.length + 3)⟩ := by
  induction j with
  | zero =>
    have h := ralone_at hn hP hw hF hl hch (P.xs.length + 3) (Nat.le_refl _)
    rw [if_pos rfl] at h
    show rgo F nid l (ralone F nid l (P.xs.length + 3 + 1)) = _
    rw [h]
    have e : (cellAt l (nla F nid)).1.toNat = wd := by rw [hl]; rfl
    unfold rgo rcell raddr
    simp only
    rw [if_pos (by omega), if_neg (by omega), e]
    unfold rnext
    simp
  | succ j ih =>
    show rgo F nid l (ralone F nid l (P.xs.length + 5 + j)) = _
    rw [ih]; unfold rgo; rw [if_neg (by simp)]
end

section
open Go.RowKit Go.Deep Plain
set_option linter.unusedVariables false

theorem _root_.Go.RowKit.Below.kept0 {w w' : World} (h : Below w.heap.size w w') : Kept (fun _ => False) w w' := ⟨h.os, h.tape, h.output, h.size, fun i hi _ => h.block i hi⟩

theorem neq_slot (x y : Sl) (w : World) :
    (binOp .neq 70 (.agg #[.string x.1, .int .u64 (x.2 : Int)]) (.agg #[.string y.1, .int .u64 (y.2 : Int)])).run Try.prog w = .ok (.bool (!(decide (x = y)))) w := by
  obtain ⟨k, r⟩ := x
  obtain ⟨k', r'⟩ := y
  by_cases h2 : k = k'
  · subst h2
    by_cases h3 : r = r'
    · subst h3
      simp [go_sem]
    · have h4 : ¬ (r : Int) = (r' : Int) := by omega
      simp [go_sem, h3, h4]
  · have h4 : ¬ k.toList = k'.toList := fun e => h2 (toList_inj e)
    simp [go_sem, h2, h4]

set_option maxHeartbeats 2000000 in
theorem same_no1 (lv : Nat) (hi : ByteArray) (la : Bool) (rt n : Nat) (xs xs2 : List Sl) (A A2 : Option Addr) (c c2 : Nat) (lv2 : Nat) (hi2 : ByteArray) (la2 : Bool) (rt2 : Nat) (n2 : Nat) (w : World) (hn : xs.length = n) (hn2 : xs2.length = n2) (hR : Rs w A c xs) (hR2 : Rs w A2 c2 xs2) (hd : ¬ lv = lv2) :
    Calls Try.prog 14 #[.agg #[.int .i64 (lv : Int), .slice A n c, .string hi, .bool la, .int .u64 (rt : Int)], .agg #[.int .i64 (lv2 : Int), .slice A2 n2 c2, .string hi2, .bool la2, .int .u64 (rt2 : Int)]] w fun e w' => e = .returned (.bool false) ∧ Kept (fun _ => False) w w' := by
  have e1 : ((lv : Int) == (lv2 : Int)) = false := by simp; omega
  obtain ⟨P0, S0, B0, Z0⟩ := box_two w [.int .i64 (lv : Int), .slice A n c, .string hi, .bool la, .int .u64 (rt : Int)] [.int .i64 (lv2 : Int), .slice A2 n2 c2, .string hi2, .bool la2, .int .u64 (rt2 : Int)] 31 31
  have HR := Lib.hid (hR.below B0 (Nat.le_refl _))
  have HR2 := Lib.hid (hR2.below B0 (Nat.le_refl _))
  have HP := Lib.hid P0
  have HS := Lib.hid S0
  have HB := Lib.hid B0.kept0
  clear hR hR2 P0 S0 B0 Z0
  have hd' : ¬ (lv : Int) = (lv2 : Int) := by omega
  go_enter Try.func14, Try.ntmps14
  go_wp2
  go_ret
  exact ⟨rfl, HB.out⟩

set_option maxHeartbeats 2000000 in
theorem same_no2 (lv : Nat) (hi : ByteArray) (la : Bool) (rt n : Nat) (xs xs2 : List Sl) (A A2 : Option Addr) (c c2 : Nat) (hi2 : ByteArray) (la2 : Bool) (rt2 : Nat) (n2 : Nat) (w : World) (hn : xs.length = n) (hn2 : xs2.length = n2) (hR : Rs w A c xs) (hR2 : Rs w A2 c2 xs2) (hd : ¬ hi = hi2) :
    Calls Try.prog 14 #[.agg #[.int .i64 (lv : Int), .slice A n c, .string hi, .bool la, .int .u64 (rt : Int)], .agg #[.int .i64 (lv : Int), .slice A2 n2 c2, .string hi2, .bool la2, .int .u64 (rt2 : Int)]] w fun e w' => e = .returned (.bool false) ∧ Kept (fun _ => False) w w' := by
  have e2 : (hi.toList == hi2.toList) = false := by simpa using fun e => hd (toList_inj e)
  obtain ⟨P0, S0, B0, Z0⟩ := box_two w [.int .i64 (lv : Int), .slice A n c, .string hi, .bool la, .int .u64 (rt : Int)] [.int .i64 (lv : Int), .slice A2 n2 c2, .string hi2, .bool la2, .int .u64 (rt2 : Int)] 31 31
  have HR := Lib.hid (hR.below B0 (Nat.le_refl _))
  have HR2 := Lib.hid (hR2.below B0 (Nat.le_refl _))
  have HP := Lib.hid P0
  have HS := Lib.hid S0
  have HB := Lib.hid B0.kept0
  clear hd hR hR2 P0 S0 B0 Z0
  go_enter Try.func14, Try.ntmps14
  go_wp2
  go_ret
  exact ⟨rfl, HB.out⟩

set_option maxHeartbeats 2000000 in
theorem same_no3 (lv : Nat) (hi : ByteArray) (la : Bool) (rt n : Nat) (xs xs2 : List Sl) (A A2 : Option Addr) (c c2 : Nat) (la2 : Bool) (rt2 : Nat) (n2 : Nat) (w : World) (hn : xs.length = n) (hn2 : xs2.length = n2) (hR : Rs w A c xs) (hR2 : Rs w A2 c2 xs2) (hd : ¬ la = la2) :
    Calls Try.prog 14 #[.agg #[.int .i64 (lv : Int), .slice A n c, .string hi, .bool la, .int .u64 (rt : Int)], .agg #[.int .i64 (lv : Int), .slice A2 n2 c2, .string hi, .bool la2, .int .u64 (rt2 : Int)]] w fun e w' => e = .returned (.bool false) ∧ Kept (fun _ => False) w w' := by
  have e3 : (la == la2) = false := by simpa using hd
  obtain ⟨P0, S0, B0, Z0⟩ := box_two w [.int .i64 (lv : Int), .slice A n c, .string hi, .bool la, .int .u64 (rt : Int)] [.int .i64 (lv : Int), .slice A2 n2 c2, .string hi, .bool la2, .int .u64 (rt2 : Int)] 31 31
  have HR := Lib.hid (hR.below B0 (Nat.le_refl _))
  have HR2 := Lib.hid (hR2.below B0 (Nat.le_refl _))
  have HP := Lib.hid P0
  have HS := Lib.hid S0
  have HB := Lib.hid B0.kept0
  clear hd hR hR2 P0 S0 B0 Z0
  go_enter Try.func14, Try.ntmps14
  go_wp2
  go_ret
  exact ⟨rfl, HB.out⟩

set_option maxHeartbeats 2000000 in
theorem same_no4 (lv : Nat) (hi : ByteArray) (la : Bool) (rt n : Nat) (xs xs2 : List Sl) (A A2 : Option Addr) (c c2 : Nat) (rt2 : Nat) (n2 : Nat) (w : World) (hn : xs.length = n) (hn2 : xs2.length = n2) (hR : Rs w A c xs) (hR2 : Rs w A2 c2 xs2) (hd : ¬ rt = rt2) :
    Calls Try.prog 14 #[.agg #[.int .i64 (lv : Int), .slice A n c, .string hi, .bool la, .int .u64 (rt : Int)], .agg #[.int .i64 (lv : Int), .slice A2 n2 c2, .string hi, .bool la, .int .u64 (rt2 : Int)]] w fun e w' => e = .returned (.bool false) ∧ Kept (fun _ => False) w w' := by
  have e4 : ((rt : Int) == (rt2 : Int)) = false := by simp; omega
  obtain ⟨P0, S0, B0, Z0⟩ := box_two w [.int .i64 (lv : Int), .slice A n c, .string hi, .bool la, .int .u64 (rt : Int)] [.int .i64 (lv : Int), .slice A2 n2 c2, .string hi, .bool la, .int .u64 (rt2 : Int)] 31 31
  have HR := Lib.hid (hR.below B0 (Nat.le_refl _))
  have HR2 := Lib.hid (hR2.below B0 (Nat.le_refl _))
  have HP := Lib.hid P0
  have HS := Lib.hid S0
  have HB := Lib.hid B0.kept0
  clear hd hR hR2 P0 S0 B0 Z0
  go_enter Try.func14, Try.ntmps14
  go_wp2
  go_ret
  exact ⟨rfl, HB.out⟩

set_option maxHeartbeats 2000000 in
theorem same_no5 (lv : Nat) (hi : ByteArray) (la : Bool) (rt n : Nat) (xs xs2 : List Sl) (A A2 : Option Addr) (c c2 : Nat) (n2 : Nat) (w : World) (hn : xs.length = n) (hn2 : xs2.length = n2) (hR : Rs w A c xs) (hR2 : Rs w A2 c2 xs2) (hd : ¬ n = n2) :
    Calls Try.prog 14 #[.agg #[.int .i64 (lv : Int), .slice A n c, .string hi, .bool la, .int .u64 (rt : Int)], .agg #[.int .i64 (lv : Int), .slice A2 n2 c2, .string hi, .bool la, .int .u64 (rt : Int)]] w fun e w' => e = .returned (.bool false) ∧ Kept (fun _ => False) w w' := by
  have e5 : ((n : Int) == (n2 : Int)) = false := by simp; omega
  obtain ⟨P0, S0, B0, Z0⟩ := box_two w [.int .i64 (lv : Int), .slice A n c, .string hi, .bool la, .int .u64 (rt : Int)] [.int .i64 (lv : Int), .slice A2 n2 c2, .string hi, .bool la, .int .u64 (rt : Int)] 31 31
  have HR := Lib.hid (hR.below B0 (Nat.le_refl _))
  have HR2 := Lib.hid (hR2.below B0 (Nat.le_refl _))
  have HP := Lib.hid P0
  have HS := Lib.hid S0
  have HB := Lib.hid B0.kept0
  clear hd hR hR2 P0 S0 B0 Z0
  go_enter Try.func14, Try.ntmps14
  go_wp2
  go_ret
  exact ⟨rfl, HB.out⟩

set_option maxHeartbeats 2000000 in
theorem same_go (lv : Nat) (hi : ByteArray) (la : Bool) (rt n : Nat) (xs xs2 : List Sl) (A A2 : Option Addr) (c c2 : Nat) (w : World) (hn : xs.length = n) (hn2 : xs2.length = n) (h40 : n ≤ 1099511627776) (hR : Rs w A c xs) (hR2 : Rs w A2 c2 xs2) :
    Calls Try.prog 14 #[.agg #[.int .i64 (lv : Int), .slice A n c, .string hi, .bool la, .int .u64 (rt : Int)], .agg #[.int .i64 (lv : Int), .slice A2 n c2, .string hi, .bool la, .int .u64 (rt : Int)]] w fun e w' => ∃ bb, e = .returned (.bool bb) ∧ Kept (fun _ => False) w w' ∧ (xs = xs2 → bb = true) := by
  obtain ⟨P0, S0, B0, Z0⟩ := box_two w [.int .i64 (lv : Int), .slice A n c, .string hi, .bool la, .int .u64 (rt : Int)] [.int .i64 (lv : Int), .slice A2 n c2, .string hi, .bool la, .int .u64 (rt : Int)] 31 31
  have HR := Lib.hid (hR.below B0 (Nat.le_refl _))
  have HR2 := Lib.hid (hR2.below B0 (Nat.le_refl _))
  have HP := Lib.hid P0
  have HS := Lib.hid S0
  have HB := Lib.hid B0.kept0
  clear hR hR2 P0 S0 B0 Z0
  go_enter Try.func14, Try.ntmps14
  go_wp2_with fail
  generalize (w.alloc (.cells #[.int .i64 (lv : Int), .slice A n c, .string hi, .bool la, .int .u64 (rt : Int)] 31)).alloc (.cells #[.int .i64 (lv : Int), .slice A2 n c2, .string hi, .bool la, .int .u64 (rt : Int)] 31) = W at *
  generalize hb1 : w.heap.size + 1 = b1 at *
  have HB1 := Lib.hid hb1
  clear hb1
  go_loopw [5] (fun i wr => ∃ j : Nat, j ≤ n ∧ i = .int .i64 j ∧ xs.take j = xs2.take j ∧ Below W.heap.size W wr) (fun i _ => n - (intOf i).toNat)
  case atStart => exact ⟨0, by omega, rfl, by simp, Below.refl _ _⟩
  case round =>
    obtain ⟨j, hj, rfl, htk, hB⟩ := hrel
    rename World => wr
    have HB2 := Lib.hid hB
    have hP := HP.out.below hB HP.out.lt
    have hS := HS.out.below hB HS.out.lt
    have HTK := Lib.hid htk
    have x1 := hP.cell (i := 1) rfl
    have y1 := hS.cell (i := 1) rfl
    clear hP hS htk
    by_cases hlt : j < n
    · obtain ⟨x, hx⟩ : ∃ x, xs[j]? = some x := ⟨_, List.getElem?_eq_getElem (by omega)⟩
      obtain ⟨y, hy⟩ : ∃ y, xs2[j]? = some y := ⟨_, List.getElem?_eq_getElem (by omega)⟩
      obtain ⟨g, off, hAP, hg, hcell⟩ := (HR.out.below hB (Nat.le_refl _)).at (by omega)
      obtain ⟨c0, c1⟩ := hcell j x hx
      obtain ⟨g2, off2, hAQ, hg2, hcell2⟩ := (HR2.out.below hB (Nat.le_refl _)).at (by omega)
      obtain ⟨d0, d1⟩ := hcell2 j y hy
      subst hAP hAQ
      have HX := Lib.hid hx
      have HY := Lib.hid hy
      have hjn : (j : Int) < (n : Int) := by omega
      obtain ⟨bb, hbb⟩ : ∃ bb, (!(decide (x = y))) = bb := ⟨_, rfl⟩
      have hnq : ∀ w : World, (binOp .neq 70 (.agg #[.string x.1, .int .u64 (x.2 : Int)]) (.agg #[.string y.1, .int .u64 (y.2 : Int)])).run Try.prog w = .ok (.bool bb) w := fun w => by rw [← hbb]; exact neq_slot x y w
      have HBB := Lib.hid hbb
      clear hcell hcell2 hx hy hbb hB
      cases bb
      · go_wp2_with fail
        go_quiet (fail)
        go_wp2
        go_roundw
        case rel =>
          have hxy : x = y := by have h := HBB.out; simpa using h
          exact ⟨j + 1, by omega, by go_num, by rw [List.take_add_one, List.take_add_one, HTK.out, HX.out, HY.out, hxy], below_drewN HB2.out _⟩
        case measure => simp [intOf]; omega
      · go_wp2_with fail
        go_quiet (fail)
        go_wp2
        go_ret
        refine ⟨false, rfl, HB.out.trans (below_drewN HB2.out _).kept0 (fun _ _ h => h), fun e => ?_⟩
        have h1 := HX.out
        rw [e, HY.out] at h1
        have hxy : y = x := by simpa using h1
        have h := HBB.out
        simp [hxy] at h
    · obtain rfl : j = n := by omega
      go_wp2
      go_ret
      exact ⟨true, rfl, HB.out.trans HB2.out.kept0 (fun _ _ h => h), fun _ => rfl⟩

theorem refSame_ex (P Q : Pg) (AP AQ : Option Addr) (cP cQ : Nat) (w : World) (h40 : P.xs.length ≤ 1099511627776) (hR : Rs w AP cP P.xs) (hR2 : Rs w AQ cQ Q.xs) :
    Calls Try.prog 14 #[.agg #[.int .i64 (P.lv : Int), .slice AP P.xs.length cP, .string P.hi, .bool P.la, .int .u64 (P.rt : Int)], .agg #[.int .i64 (Q.lv : Int), .slice AQ Q.xs.length cQ, .string Q.hi, .bool Q.la, .int .u64 (Q.rt : Int)]] w fun e w' => ∃ bb, e = .returned (.bool bb) ∧ Kept (fun _ => False) w w' ∧ (P = Q → bb = true) := by
  obtain ⟨lv, hi, la, rt, xs⟩ := P
  obtain ⟨lv2, hi2, la2, rt2, xs2⟩ := Q
  simp only at h40 hR hR2 ⊢
  by_cases h : lv = lv2
  · subst h
    by_cases h : hi = hi2
    · subst h
      by_cases h : la = la2
      · subst h
        by_cases h : rt = rt2
        · subst h
          by_cases h : xs.length = xs2.length
          · obtain ⟨n, hn⟩ : ∃ n, xs.length = n := ⟨_, rfl⟩
            rw [← h, hn]
            refine (same_go lv hi la rt n xs xs2 AP AQ cP cQ w hn (by rw [← h]; exact hn) (by omega) hR hR2).mono ?_
            rintro e w' ⟨bb, he, hk, hb⟩
            exact ⟨bb, he, hk, fun e => hb (by cases e; rfl)⟩
          · exact (same_no5 lv hi la rt xs.length xs xs2 AP AQ cP cQ xs2.length w rfl rfl hR hR2 h).mono fun e w' ⟨he, hk⟩ => ⟨false, he, hk, fun e => absurd (by cases e; rfl) h⟩
        · exact (same_no4 lv hi la rt xs.length xs xs2 AP AQ cP cQ rt2 xs2.length w rfl rfl hR hR2 h).mono fun e w' ⟨he, hk⟩ => ⟨false, he, hk, fun e => absurd (by cases e; rfl) h⟩
      · exact (same_no3 lv hi la rt xs.length xs xs2 AP AQ cP cQ la2 rt2 xs2.length w rfl rfl hR hR2 h).mono fun e w' ⟨he, hk⟩ => ⟨false, he, hk, fun e => absurd (by cases e; rfl) h⟩
    · exact (same_no2 lv hi la rt xs.length xs xs2 AP AQ cP cQ hi2 la2 rt2 xs2.length w rfl rfl hR hR2 h).mono fun e w' ⟨he, hk⟩ => ⟨false, he, hk, fun e => absurd (by cases e; rfl) h⟩
  · exact (same_no1 lv hi la rt xs.length xs xs2 AP AQ cP cQ lv2 hi2 la2 rt2 xs2.length w rfl rfl hR hR2 h).mono fun e w' ⟨he, hk⟩ => ⟨false, he, hk, fun e => absurd (by cases e; rfl) h⟩
theorem refSame_yes (P : Pg) (AP AQ : Option Addr) (cP cQ : Nat) (w : World) (h40 : P.xs.length ≤ 1099511627776) (hR : Rs w AP cP P.xs) (hR2 : Rs w AQ cQ P.xs) :
    Calls Try.prog 14 #[.agg #[.int .i64 (P.lv : Int), .slice AP P.xs.length cP, .string P.hi, .bool P.la, .int .u64 (P.rt : Int)], .agg #[.int .i64 (P.lv : Int), .slice AQ P.xs.length cQ, .string P.hi, .bool P.la, .int .u64 (P.rt : Int)]] w fun e w' => e = .returned (.bool true) ∧ Kept (fun _ => False) w w' :=
  (refSame_ex P P AP AQ cP cQ w h40 hR hR2).mono fun e w' ⟨bb, he, hk, hb⟩ => ⟨by rw [he, hb rfl], hk⟩
end
end Go.Proofs.Ythpaolhpkmgelaa
