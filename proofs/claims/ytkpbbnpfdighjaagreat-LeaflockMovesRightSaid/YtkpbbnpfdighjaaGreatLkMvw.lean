/-
  The world of the law while its owner splits node 1 and a Lock waits for it: each step of a machine as a contract from this predicate to itself. Condition: a fanout of four to six.
-/
import Derived.Test.YtkpbbnpfdighjaaGreatLkMvp
namespace Go.Proofs.YtkpbbnpfdighjaaGreat
open Go.RowKit Go.Deep Plain
set_option linter.unusedVariables false

/-- How many stores of the Write are made. -/
def jW (n : Nat) : Nat → Nat → Nat
  | 0, _ => 0
  | 1, j => j
  | _, _ => n
structure MW0 (F n0 B b g : Nat) (W0 : World) (fb fd : Int) (key : ByteArray) (P Q R : Pg) (x qf qw rr : Nat) (st j : Nat) (pz : Bool) (s : Ls) (k : Nat) (w : World) (l : List Cel) (ac r0 : Nat) (p1 : Value) (Zx Zf Zw : Nat → Prop) (col : Nat → Nat) : Prop where
  plain : Mvx F n0 key P Q R st j l s
  mem : Mem w b g l ac
  ac : ac ≤ k
  lock : LAt Zx w F fb fd x key 0 s
  fr : st = 0 → Stm Zf w qf 108 (frs F R) j 2 1 R
  wr : pz = false → Stm Zw w qw 110 (wrs F P Q) (jW (wrs F P Q).length st j) 1 5 Q
  row : Blk w rr 57 [.pointer (some ⟨r0, 0, none⟩), p1]
  r0m : st < 3 → RelB w r0 (nla F 2) 1 false
  r1m : pz = true → st < 4 → ∃ r1, p1 = .pointer (some ⟨r1, 0, none⟩) ∧ RelB w r1 (nla F 1) 5 false ∧ col r1 = 7
  cb : col b = 1
  cg : col g = 1
  cx : ∀ i, Zx i → col i = 2
  cf : ∀ i, Zf i → col i = 3
  cw : ∀ i, Zw i → col i = 4
  cr : col rr = 5
  c0 : col r0 = 6
  lo : ∀ i, col i ≠ 0 → (B ≤ i ∨ i = b ∨ i = g) ∧ i < w.heap.size
  out : Kept (fun i => B ≤ i ∨ i = b ∨ i = g) W0 w
/-- The world of the law's loop. -/
def MW (F n0 B b g : Nat) (W0 : World) (fb fd : Int) (key : ByteArray) (P Q R : Pg) (x qf qw rr : Nat) (st j : Nat) (pz : Bool) (s : Ls) (k : Nat) (w : World) : Prop :=
  ∃ (l : List Cel) (ac r0 : Nat) (p1 : Value) (Zx Zf Zw : Nat → Prop) (col : Nat → Nat), MW0 F n0 B b g W0 fb fd key P Q R x qf qw rr st j pz s k w l ac r0 p1 Zx Zf Zw col
section
variable {F n0 B b g : Nat} {W0 : World} {fb fd : Int} {key : ByteArray} {P Q R : Pg} {x qf qw rr : Nat} {st j : Nat} {pz : Bool} {s : Ls} {k : Nat} {w w' : World} {l : List Cel} {ac r0 : Nat} {p1 : Value} {Zx Zf Zw : Nat → Prop} {col : Nat → Nat}
/-- What only reads keeps all. -/
theorem MW.calm (H : MW F n0 B b g W0 fb fd key P Q R x qf qw rr st j pz s k w) (hk : Kept (fun _ => False) w w') : MW F n0 B b g W0 fb fd key P Q R x qf qw rr st j pz s k w' := by
  obtain ⟨l, ac, r0, p1, Zx, Zf, Zw, col, H⟩ := H
  exact ⟨l, ac, r0, p1, Zx, Zf, Zw, col, { plain := H.plain, mem := H.mem.kept hk id id, ac := H.ac, lock := H.lock.kept hk (fun _ _ h => h), fr := fun e => (H.fr e).kept hk (fun _ _ h => h), wr := fun e => (H.wr e).kept hk (fun _ _ h => h), row := hk.blk H.row id, r0m := fun e => hk.blk (H.r0m e) id, r1m := fun e1 e2 => (by obtain ⟨r1, h1, h2, h3⟩ := H.r1m e1 e2; exact ⟨r1, h1, hk.blk h2 id, h3⟩), cb := H.cb, cg := H.cg, cx := H.cx, cf := H.cf, cw := H.cw, cr := H.cr, c0 := H.c0, lo := fun i hi => ⟨(H.lo i hi).1, Nat.lt_of_lt_of_le (H.lo i hi).2 hk.size⟩, out := H.out.trans hk (fun _ _ h => h.elim) }⟩
theorem MW.memx (H : MW F n0 B b g W0 fb fd key P Q R x qf qw rr st j pz s k w) : ∃ l ac, Mem w b g l ac ∧ Mvx F n0 key P Q R st j l s := by
  obtain ⟨l, ac, r0, p1, Zx, Zf, Zw, col, H⟩ := H
  exact ⟨l, ac, H.mem, H.plain⟩
theorem MW.rowx (H : MW F n0 B b g W0 fb fd key P Q R x qf qw rr st j pz s k w) : ∃ v0 v1, Blk w rr 57 [v0, v1] := by
  obtain ⟨l, ac, r0, p1, Zx, Zf, Zw, col, H⟩ := H
  exact ⟨_, _, H.row⟩
theorem MW.outx (H : MW F n0 B b g W0 fb fd key P Q R x qf qw rr st j pz s k w) : Kept (fun i => B ≤ i ∨ i = b ∨ i = g) W0 w := by
  obtain ⟨l, ac, r0, p1, Zx, Zf, Zw, col, H⟩ := H
  exact H.out
/-- A step of the Lock. -/
theorem mw_x (S : Spl F P Q R) (h4 : 4 ≤ F) (h6 : F ≤ 6) (hb : 10 + 100 * (F : Int) + 400 ≤ (n0 : Int)) (hd : Reach3 10 fb fd) (H : MW F n0 B b g W0 fb fd key P Q R x qf qw rr st j pz s k w) (hB : B ≤ w.heap.size) (hst : st ≤ 4) (hk : k < 1000000) (hs : s.fin = false) :
    Calls Tryz.prog 20 #[.pointer (some ⟨x, 0, none⟩), .pointer (some ⟨b, 0, none⟩)] w fun e w' => ∃ s', e = .returned (.bool s'.fin) ∧ MW F n0 B b g W0 fb fd key P Q R x qf qw rr st j pz s' (k + 1) w' ∧ (st = 4 → dL F s' + 1 ≤ dL F s) := by
  obtain ⟨l, ac, r0, p1, Zx, Zf, Zw, col, H⟩ := H
  obtain ⟨hok, hM, hdl⟩ := H.plain.x S h4 h6 hb hst hs
  refine (lock_go F h4 h6 fb fd hd Zx x key 0 s w b g l ac H.mem (by have := H.ac; omega) (fun h => by have h1 := H.cx b h; have h2 := H.cb; omega) (fun h => by have h1 := H.cx g h; have h2 := H.cg; omega) H.plain.nod.nats hok H.lock).mono ?_
  rintro e w' ⟨rfl, hm, hl, hkp⟩
  rw [hs, if_neg Bool.false_ne_true] at hm
  have ap : ∀ i, col i ≠ 1 → col i ≠ 2 → ¬ (Zx i ∨ i = b ∨ i = g) := fun i h1 h2 h => by
    rcases h with h | rfl | rfl
    · exact h2 (H.cx i h)
    · exact h1 H.cb
    · exact h1 H.cg
  have hin : ∀ i, i < w.heap.size → (if i < w.heap.size then col i else if i < w'.heap.size then 2 else 0) = col i := fun i hi => if_pos hi
  have hlt : ∀ i, col i ≠ 0 → i < w.heap.size := fun i hi => (H.lo i hi).2
  have cb := H.cb; have cg := H.cg; have cr := H.cr; have c0 := H.c0
  refine ⟨_, rfl, ⟨_, ac + 1, r0, p1, Zn Zx w w', Zf, Zw, fun i => if i < w.heap.size then col i else if i < w'.heap.size then 2 else 0, { plain := hM, mem := hm, ac := by have := H.ac; omega, lock := hl, fr := fun e => (H.fr e).kept hkp (fun i hi => by have := H.cf i hi; exact ap i (by omega) (by omega)), wr := fun e => (H.wr e).kept hkp (fun i hi => by have := H.cw i hi; exact ap i (by omega) (by omega)), row := hkp.blk H.row (ap rr (by omega) (by omega)), r0m := fun e => hkp.blk (H.r0m e) (ap r0 (by omega) (by omega)), r1m := ?_, cb := ?_, cg := ?_, cx := ?_, cf := ?_, cw := ?_, cr := ?_, c0 := ?_, lo := ?_, out := ?_ }⟩, hdl⟩
  · intro e1 e2
    obtain ⟨r1, h1, h2, h3⟩ := H.r1m e1 e2
    exact ⟨r1, h1, hkp.blk h2 (ap r1 (by omega) (by omega)), by show (if r1 < w.heap.size then col r1 else if r1 < w'.heap.size then 2 else 0) = 7; rw [hin r1 (hlt r1 (by omega))]; exact h3⟩
  · show (if b < w.heap.size then col b else if b < w'.heap.size then 2 else 0) = 1; rw [hin b (hlt b (by omega))]; exact cb
  · show (if g < w.heap.size then col g else if g < w'.heap.size then 2 else 0) = 1; rw [hin g (hlt g (by omega))]; exact cg
  · intro i hi
    show (if i < w.heap.size then col i else if i < w'.heap.size then 2 else 0) = 2
    rcases hi with hi | hi
    · have := H.cx i hi
      rw [hin i (hlt i (by omega))]; exact this
    · rw [if_neg (by omega), if_pos hi.2]
  · intro i hi
    have := H.cf i hi
    show (if i < w.heap.size then col i else if i < w'.heap.size then 2 else 0) = 3; rw [hin i (hlt i (by omega))]; exact this
  · intro i hi
    have := H.cw i hi
    show (if i < w.heap.size then col i else if i < w'.heap.size then 2 else 0) = 4; rw [hin i (hlt i (by omega))]; exact this
  · show (if rr < w.heap.size then col rr else if rr < w'.heap.size then 2 else 0) = 5; rw [hin rr (hlt rr (by omega))]; exact cr
  · show (if r0 < w.heap.size then col r0 else if r0 < w'.heap.size then 2 else 0) = 6; rw [hin r0 (hlt r0 (by omega))]; exact c0
  · intro i hi
    have hsz := hkp.size
    have hBz := hB
    replace hi : (if i < w.heap.size then col i else if i < w'.heap.size then 2 else 0) ≠ 0 := hi
    by_cases h9 : i < w.heap.size
    · rw [if_pos h9] at hi
      exact ⟨(H.lo i hi).1, by omega⟩
    · by_cases h8 : i < w'.heap.size
      · exact ⟨.inl (by omega), h8⟩
      · rw [if_neg h9, if_neg h8] at hi; exact absurd rfl hi
  · refine H.out.trans hkp (fun i hi h => ?_)
    rcases h with h | h | h
    · have := H.cx i h; exact (H.lo i (by omega)).1
    · exact .inr (.inl h)
    · exact .inr (.inr h)
/-- What a step that writes to colour c and the memory keeps. -/
theorem MW0.apart (H : MW0 F n0 B b g W0 fb fd key P Q R x qf qw rr st j pz s k w l ac r0 p1 Zx Zf Zw col) {Z : Nat → Prop} {c : Nat} (hZ : ∀ i, Z i → col i = c) : ∀ i, col i ≠ 1 → col i ≠ c → ¬ (Z i ∨ i = b ∨ i = g) := fun i h1 h2 h => by
  rcases h with h | rfl | rfl
  · exact h2 (hZ i h)
  · exact h1 H.cb
  · exact h1 H.cg
theorem MW0.outs (H : MW0 F n0 B b g W0 fb fd key P Q R x qf qw rr st j pz s k w l ac r0 p1 Zx Zf Zw col) {Z : Nat → Prop} {c : Nat} (hc : c ≠ 0) (hZ : ∀ i, Z i → col i = c) (hk : Kept (fun i => Z i ∨ i = b ∨ i = g) w w') : Kept (fun i => B ≤ i ∨ i = b ∨ i = g) W0 w' := by
  refine H.out.trans hk (fun i hi h => ?_)
  rcases h with h | h | h
  · have := hZ i h; exact (H.lo i (by omega)).1
  · exact .inr (.inl h)
  · exact .inr (.inr h)
/-- A step of the Fresh. -/
theorem mw_f (S : Spl F P Q R) (h4 : 4 ≤ F) (h6 : F ≤ 6) (hb : 10 + 100 * (F : Int) + 400 ≤ (n0 : Int)) (hf : Fits R) (H : MW F n0 B b g W0 fb fd key P Q R x qf qw rr 0 j false s k w) (hk : k < 1000000) :
    Calls Tryz.prog 22 #[.pointer (some ⟨qf, 0, none⟩), .pointer (some ⟨b, 0, none⟩)] w fun e w' => ∃ r, e = .returned (.bool r) ∧ (r = false → MW F n0 B b g W0 fb fd key P Q R x qf qw rr 0 (j + 1) false s (k + 1) w' ∧ j + 1 < (frs F R).length) ∧ (r = true → MW F n0 B b g W0 fb fd key P Q R x qf qw rr 1 0 false s (k + 1) w' ∧ j + 1 = (frs F R).length) := by
  obtain ⟨l, ac, r0, p1, Zx, Zf, Zw, col, H⟩ := H
  obtain ⟨hj, -⟩ := H.plain.s0 rfl
  obtain ⟨ad, cN, cK, cM, hsj⟩ := sto_ex hj
  have hl := frs_len (F := F) (R := R)
  have hF := S.gr.2.1
  have ap := H.apart H.cf
  have cb := H.cb; have cg := H.cg; have cr := H.cr; have c0 := H.c0
  obtain ⟨hM1, hM2⟩ := H.plain.f S h4 h6 hb hf hsj
  refine (fstep_any Zf qf (frs F R) j 2 1 R w (H.fr rfl) b g l ac H.mem (fun h => by have h1 := H.cf b h; omega) (fun h => by have h1 := H.cf g h; omega) (by have := H.ac; omega) (by omega) ad cN cM cK hsj _ rfl).mono ?_
  rintro e w' ⟨rfl, hm, hst, hkp⟩
  have key1 : ∀ st' j', (st' = 0 → j' = j + 1) → jW (wrs F P Q).length st' j' = 0 → st' < 2 → Mvx F n0 key P Q R st' j' (putAt l ad (cN, cK, cM)) s → MW F n0 B b g W0 fb fd key P Q R x qf qw rr st' j' false s (k + 1) w' := fun st' j' hs0 hjw hst2 hM => ⟨_, ac + 1, r0, p1, Zx, Zf, Zw, col, { plain := hM, mem := hm, ac := by have := H.ac; omega, lock := H.lock.kept hkp (fun i hi => by have := H.cx i hi; exact ap i (by omega) (by omega)), fr := fun e => by rw [hs0 e]; exact hst, wr := fun e => by rw [hjw]; exact (H.wr rfl).kept hkp (fun i hi => by have := H.cw i hi; exact ap i (by omega) (by omega)), row := hkp.blk H.row (ap rr (by omega) (by omega)), r0m := fun e => hkp.blk (H.r0m (by omega)) (ap r0 (by omega) (by omega)), r1m := fun e => (by cases e), cb := cb, cg := cg, cx := H.cx, cf := H.cf, cw := H.cw, cr := cr, c0 := c0, lo := fun i hi => ⟨(H.lo i hi).1, Nat.lt_of_lt_of_le (H.lo i hi).2 hkp.size⟩, out := H.outs (by decide) H.cf hkp }⟩
  refine ⟨_, rfl, fun e => ?_, fun e => ?_⟩
  · have h9 : j + 1 ≠ (frs F R).length := by simpa using e
    have h8 : j + 1 < (frs F R).length := by omega
    exact ⟨key1 0 (j + 1) (fun _ => rfl) rfl (by omega) (hM1 h8), h8⟩
  · have h9 : j + 1 = (frs F R).length := by simpa using e
    exact ⟨key1 1 0 (fun e => absurd e (by decide)) rfl (by omega) (hM2 h9), h9⟩
/-- A step of the Write. -/
theorem mw_w (S : Spl F P Q R) (h4 : 4 ≤ F) (h6 : F ≤ 6) (hb : 10 + 100 * (F : Int) + 400 ≤ (n0 : Int)) (hf : Fits Q) (H : MW F n0 B b g W0 fb fd key P Q R x qf qw rr 1 j false s k w) (hk : k < 1000000) :
    Calls Tryz.prog 23 #[.pointer (some ⟨qw, 0, none⟩), .pointer (some ⟨b, 0, none⟩)] w fun e w' => ∃ r, e = .returned (.bool r) ∧ (r = false → MW F n0 B b g W0 fb fd key P Q R x qf qw rr 1 (j + 1) false s (k + 1) w' ∧ j + 1 < (wrs F P Q).length) ∧ (r = true → MW F n0 B b g W0 fb fd key P Q R x qf qw rr 2 0 false s (k + 1) w' ∧ j + 1 = (wrs F P Q).length) := by
  obtain ⟨l, ac, r0, p1, Zx, Zf, Zw, col, H⟩ := H
  obtain ⟨hj, -⟩ := H.plain.s1 rfl
  obtain ⟨ad, cN, cK, cM, hsj⟩ := sto_ex hj
  have hl := wrs_len (P := P) S.gq.2.1 h6
  have ap := H.apart H.cw
  have cb := H.cb; have cg := H.cg; have cr := H.cr; have c0 := H.c0
  obtain ⟨hM1, hM2⟩ := H.plain.w S h4 h6 hb hf hsj
  refine (wstep_any Zw qw (wrs F P Q) j 1 5 Q w (H.wr rfl) b g l ac H.mem (fun h => by have h1 := H.cw b h; omega) (fun h => by have h1 := H.cw g h; omega) (by have := H.ac; omega) (by omega) ad cN cM cK hsj _ rfl).mono ?_
  rintro e w' ⟨rfl, hm, hst, hkp⟩
  have key1 : ∀ st' j', jW (wrs F P Q).length st' j' = j + 1 → 0 < st' → st' < 3 → Mvx F n0 key P Q R st' j' (putAt l ad (cN, cK, cM)) s → MW F n0 B b g W0 fb fd key P Q R x qf qw rr st' j' false s (k + 1) w' := fun st' j' hjw hst1 hst2 hM => ⟨_, ac + 1, r0, p1, Zx, Zf, Zw, col, { plain := hM, mem := hm, ac := by have := H.ac; omega, lock := H.lock.kept hkp (fun i hi => by have := H.cx i hi; exact ap i (by omega) (by omega)), fr := fun e => by omega, wr := fun e => by rw [hjw]; exact hst, row := hkp.blk H.row (ap rr (by omega) (by omega)), r0m := fun e => hkp.blk (H.r0m (by omega)) (ap r0 (by omega) (by omega)), r1m := fun e => (by cases e), cb := cb, cg := cg, cx := H.cx, cf := H.cf, cw := H.cw, cr := cr, c0 := c0, lo := fun i hi => ⟨(H.lo i hi).1, Nat.lt_of_lt_of_le (H.lo i hi).2 hkp.size⟩, out := H.outs (by decide) H.cw hkp }⟩
  refine ⟨_, rfl, fun e => ?_, fun e => ?_⟩
  · have h9 : j + 1 ≠ (wrs F P Q).length := by simpa using e
    have h8 : j + 1 < (wrs F P Q).length := by omega
    exact ⟨key1 1 (j + 1) rfl (by omega) (by omega) (hM1 h8), h8⟩
  · have h9 : j + 1 = (wrs F P Q).length := by simpa using e
    exact ⟨key1 2 0 h9.symm (by omega) (by omega) (hM2 h9), h9⟩
/-- Held of the Write that has finished. -/
theorem mw_wheld (S : Spl F P Q R) (h6 : F ≤ 6) (H : MW F n0 B b g W0 fb fd key P Q R x qf qw rr 2 0 false s k w) :
    Calls Tryz.prog 24 #[.pointer (some ⟨qw, 0, none⟩)] w fun e w' => ∃ A c, e = .returned (.agg #[.int .u64 1, .int .u64 5, .int .i64 (Q.lv : Int), .slice A Q.xs.length c, .string Q.hi, .bool Q.la, .int .u64 (Q.rt : Int)]) ∧ MW F n0 B b g W0 fb fd key P Q R x qf qw rr 2 0 false s k w' ∧ w.heap.size ≤ w'.heap.size := by
  have H' := H
  obtain ⟨l, ac, r0, p1, Zx, Zf, Zw, col, H⟩ := H
  have hF := S.gq.2.1
  refine (wheld_any Zw qw (wrs F P Q) _ 1 5 Q w (H.wr rfl) rfl (by omega)).mono ?_
  rintro e w' ⟨A, c, rfl, -, -, hk⟩
  exact ⟨A, c, rfl, H'.calm hk, hk.size⟩
/-- The second Release is put into the row. -/
theorem MW.set1 (H : MW F n0 B b g W0 fb fd key P Q R x qf qw rr 2 0 false s k w) (hB : B ≤ w.heap.size) : MW F n0 B b g W0 fb fd key P Q R x qf qw rr 2 0 true s k ((w.alloc (.cells ⟨relv (nla F 1) 5 false⟩ 112)).setCell ⟨rr, 1, none⟩ (.pointer (some ⟨w.heap.size, 0, none⟩))) := by
  obtain ⟨l, ac, r0, p1, Zx, Zf, Zw, col, H⟩ := H
  have cb := H.cb; have cg := H.cg; have cr := H.cr; have c0 := H.c0
  have hlt : ∀ i, col i ≠ 0 → i < w.heap.size := fun i hi => (H.lo i hi).2
  have hkp := ((Kept.refl (fun i => i = rr) w).alloc (.cells ⟨relv (nla F 1) 5 false⟩ 112)).setCell (a := ⟨rr, 1, none⟩) (fun _ => rfl) (.pointer (some ⟨w.heap.size, 0, none⟩))
  have hsz : ((w.alloc (.cells ⟨relv (nla F 1) 5 false⟩ 112)).setCell ⟨rr, 1, none⟩ (.pointer (some ⟨w.heap.size, 0, none⟩))).heap.size = w.heap.size + 1 := by simp [World.setCell]
  have hrow : Blk ((w.alloc (.cells ⟨relv (nla F 1) 5 false⟩ 112)).setCell ⟨rr, 1, none⟩ (.pointer (some ⟨w.heap.size, 0, none⟩))) rr 57 [.pointer (some ⟨r0, 0, none⟩), .pointer (some ⟨w.heap.size, 0, none⟩)] := (H.row.alloc _).set 1 _
  have hnew : RelB ((w.alloc (.cells ⟨relv (nla F 1) 5 false⟩ 112)).setCell ⟨rr, 1, none⟩ (.pointer (some ⟨w.heap.size, 0, none⟩))) w.heap.size (nla F 1) 5 false := (Blk.new w (relv (nla F 1) 5 false) 112).other (fun e => by have h1 := hlt rr (by omega); have h2 : w.heap.size = rr := e; omega) _
  generalize (w.alloc (.cells ⟨relv (nla F 1) 5 false⟩ 112)).setCell ⟨rr, 1, none⟩ (.pointer (some ⟨w.heap.size, 0, none⟩)) = w' at *
  have hin : ∀ i, i < w.heap.size → (if i = w.heap.size then 7 else col i) = col i := fun i hi => if_neg (by omega)
  have ap : ∀ i, col i ≠ 5 → ¬ i = rr := fun i h e => by rw [e] at h; exact h cr
  refine ⟨l, ac, r0, _, Zx, Zf, Zw, fun i => if i = w.heap.size then 7 else col i, { plain := H.plain, mem := H.mem.kept hkp (ap b (by omega)) (ap g (by omega)), ac := H.ac, lock := H.lock.kept hkp (fun i hi => by have := H.cx i hi; exact ap i (by omega)), fr := fun e => (by cases e), wr := fun e => (by cases e), row := hrow, r0m := fun e => hkp.blk (H.r0m e) (ap r0 (by omega)), r1m := fun _ _ => ⟨_, rfl, hnew, if_pos rfl⟩, cb := ?_, cg := ?_, cx := ?_, cf := ?_, cw := ?_, cr := ?_, c0 := ?_, lo := ?_, out := ?_ }⟩
  · show (if b = w.heap.size then 7 else col b) = 1; rw [hin b (hlt b (by omega))]; exact cb
  · show (if g = w.heap.size then 7 else col g) = 1; rw [hin g (hlt g (by omega))]; exact cg
  · intro i hi
    have := H.cx i hi
    show (if i = w.heap.size then 7 else col i) = 2; rw [hin i (hlt i (by omega))]; exact this
  · intro i hi
    have := H.cf i hi
    show (if i = w.heap.size then 7 else col i) = 3; rw [hin i (hlt i (by omega))]; exact this
  · intro i hi
    have := H.cw i hi
    show (if i = w.heap.size then 7 else col i) = 4; rw [hin i (hlt i (by omega))]; exact this
  · show (if rr = w.heap.size then 7 else col rr) = 5; rw [hin rr (hlt rr (by omega))]; exact cr
  · show (if r0 = w.heap.size then 7 else col r0) = 6; rw [hin r0 (hlt r0 (by omega))]; exact c0
  · intro i hi
    replace hi : (if i = w.heap.size then 7 else col i) ≠ 0 := hi
    by_cases h9 : i = w.heap.size
    · exact ⟨.inl (by omega), by omega⟩
    · rw [if_neg h9] at hi
      exact ⟨(H.lo i hi).1, by have := (H.lo i hi).2; omega⟩
  · refine H.out.trans hkp (fun i hi h => ?_)
    rw [h]; exact (H.lo rr (by omega)).1
/-- The owner releases node 2. -/
theorem mw_r2 (S : Spl F P Q R) (h4 : 4 ≤ F) (h6 : F ≤ 6) (hb : 10 + 100 * (F : Int) + 400 ≤ (n0 : Int)) (H : MW F n0 B b g W0 fb fd key P Q R x qf qw rr 2 j true s k w) (hk : k < 1000000) :
    ∃ r0, w.cell? ⟨rr, 0, none⟩ = some (.pointer (some ⟨r0, 0, none⟩)) ∧ Calls Tryz.prog 25 #[.pointer (some ⟨r0, 0, none⟩), .pointer (some ⟨b, 0, none⟩)] w fun e w' => e = .returned (.bool true) ∧ MW F n0 B b g W0 fb fd key P Q R x qf qw rr 3 0 true s (k + 1) w' := by
  obtain ⟨l, ac, r0, p1, Zx, Zf, Zw, col, H⟩ := H
  have cb := H.cb; have cg := H.cg; have cr := H.cr; have c0 := H.c0
  have ap := H.apart (Z := fun i => i = r0) (c := 6) (fun i h => by rw [h]; exact c0)
  refine ⟨r0, H.row.cell (i := 0) rfl, ?_⟩
  refine (relStep_any r0 b g l ac (nla F 2) 1 w (H.r0m (by decide)) H.mem (fun e => by rw [e] at c0; omega) (fun e => by rw [e] at c0; omega) (by have := H.ac; omega) (by decide)).mono ?_
  rintro e w' ⟨rfl, hm, -, hkp⟩
  refine ⟨rfl, _, ac + 1, r0, p1, Zx, Zf, Zw, col, { plain := H.plain.r2 S h4 h6 hb, mem := hm, ac := by have := H.ac; omega, lock := H.lock.kept hkp (fun i hi => by have := H.cx i hi; exact ap i (by omega) (by omega)), fr := fun e => (by cases e), wr := fun e => (by cases e), row := hkp.blk H.row (ap rr (by omega) (by omega)), r0m := fun e => absurd e (by decide), r1m := fun e1 e2 => ?_, cb := cb, cg := cg, cx := H.cx, cf := H.cf, cw := H.cw, cr := cr, c0 := c0, lo := fun i hi => ⟨(H.lo i hi).1, Nat.lt_of_lt_of_le (H.lo i hi).2 hkp.size⟩, out := H.outs (c := 6) (by decide) (fun i h => by rw [h]; exact c0) hkp }⟩
  obtain ⟨r1, h1, h2, h3⟩ := H.r1m e1 (by decide)
  exact ⟨r1, h1, hkp.blk h2 (ap r1 (by omega) (by omega)), h3⟩
/-- The owner releases node 1. -/
theorem mw_r1 (S : Spl F P Q R) (h4 : 4 ≤ F) (h6 : F ≤ 6) (hb : 10 + 100 * (F : Int) + 400 ≤ (n0 : Int)) (H : MW F n0 B b g W0 fb fd key P Q R x qf qw rr 3 j true s k w) (hk : k < 1000000) :
    ∃ r1, w.cell? ⟨rr, 1, none⟩ = some (.pointer (some ⟨r1, 0, none⟩)) ∧ Calls Tryz.prog 25 #[.pointer (some ⟨r1, 0, none⟩), .pointer (some ⟨b, 0, none⟩)] w fun e w' => e = .returned (.bool true) ∧ MW F n0 B b g W0 fb fd key P Q R x qf qw rr 4 0 true s (k + 1) w' := by
  obtain ⟨l, ac, r0, p1, Zx, Zf, Zw, col, H⟩ := H
  have cb := H.cb; have cg := H.cg; have cr := H.cr; have c0 := H.c0
  obtain ⟨r1, rfl, h2, c1⟩ := H.r1m rfl (by decide)
  have ap := H.apart (Z := fun i => i = r1) (c := 7) (fun i h => by rw [h]; exact c1)
  refine ⟨r1, H.row.cell (i := 1) rfl, ?_⟩
  refine (relStep_any r1 b g l ac (nla F 1) 5 w h2 H.mem (fun e => by rw [e] at c1; omega) (fun e => by rw [e] at c1; omega) (by have := H.ac; omega) (by decide)).mono ?_
  rintro e w' ⟨rfl, hm, -, hkp⟩
  exact ⟨rfl, _, ac + 1, r0, _, Zx, Zf, Zw, col, { plain := H.plain.r1 S h4 h6 hb, mem := hm, ac := by have := H.ac; omega, lock := H.lock.kept hkp (fun i hi => by have := H.cx i hi; exact ap i (by omega) (by omega)), fr := fun e => (by cases e), wr := fun e => (by cases e), row := hkp.blk H.row (ap rr (by omega) (by omega)), r0m := fun e => absurd e (by decide), r1m := fun _ e2 => absurd e2 (by decide), cb := cb, cg := cg, cx := H.cx, cf := H.cf, cw := H.cw, cr := cr, c0 := c0, lo := fun i hi => ⟨(H.lo i hi).1, Nat.lt_of_lt_of_le (H.lo i hi).2 hkp.size⟩, out := H.outs (c := 7) (by decide) (fun i h => by rw [h]; exact c1) hkp }⟩
/-- What the Lock holds in the end. -/
theorem mw_held (h6 : F ≤ 6) {n wd : Nat} {sc : Cs} (H : MW F n0 B b g W0 fb fd key P Q R x qf qw rr st j pz (.lck n wd sc) k w) :
    Calls Tryz.prog 21 #[.pointer (some ⟨x, 0, none⟩)] w fun e w' => ∃ A c, e = .returned (.agg #[.int .u64 (n : Int), .int .u64 (wd : Int), .int .i64 (sc.lv : Int), .slice A sc.xs.length c, .string sc.hi, .bool sc.la, .int .u64 (sc.rt : Int)]) ∧ MW F n0 B b g W0 fb fd key P Q R x qf qw rr st j pz (.lck n wd sc) k w' ∧ Kept (fun _ => False) w w' := by
  have H' := H
  obtain ⟨l, ac, r0, p1, Zx, Zf, Zw, col, H⟩ := H
  refine (held_lck F h6 fb fd Zx x key 0 n wd sc w H.lock).mono ?_
  rintro e w' ⟨A, c, rfl, -, -, hk⟩
  exact ⟨A, c, rfl, H'.calm hk, hk⟩
end
end Go.Proofs.YtkpbbnpfdighjaaGreat
