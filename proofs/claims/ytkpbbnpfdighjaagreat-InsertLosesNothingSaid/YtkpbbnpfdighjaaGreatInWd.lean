/-
  The world of the law while an Insert runs and readers come: what is the Insert's, and each of its steps. Condition: a fanout of four to six.
-/
import Derived.Test.YtkpbbnpfdighjaaGreatInRe
namespace Go.Proofs.YtkpbbnpfdighjaaGreat
open Go.RowKit Go.Deep Plain
set_option linter.unusedVariables false

/-- The Insert's part of the world; S are the reader's blocks; d steps are left, k accesses at most are made. -/
def JB (F B b g : Nat) (W0 : World) (fb fd : Int) (i : Nat) (P X : Pg) (m : Nat) (sp : ByteArray) (l0 : List Cel) (t : Bool) (S : Nat → Prop) (d k : Nat) (w : World) : Prop :=
  ∃ (l : List Cel) (ac : Nat) (Z : Nat → Prop) (s : Is), Mem w b g l ac ∧ ac ≤ k ∧ IAt Z w F 100 fb fd i 1 1 P X m sp 100 s ∧ Ipl F 100 1 1 P X m sp 100 1 l0 ⟨#[]⟩ 0 s l d ∧ s.two = t ∧ (∀ j, Z j → B ≤ j ∧ j < w.heap.size ∧ j ≠ b ∧ j ≠ g ∧ ¬ S j) ∧ Kept (fun j => B ≤ j ∨ j = b ∨ j = g) W0 w
section
variable {F B b g : Nat} {W0 : World} {fb fd : Int} {i : Nat} {P X : Pg} {m : Nat} {sp : ByteArray} {l0 : List Cel} {t : Bool} {S S' Y : Nat → Prop} {d k : Nat} {w w' : World} {K : ByteArray} {M : Int}
/-- What neither writes to the memory nor to the Insert keeps its part. -/
theorem JB.calm (J : JB F B b g W0 fb fd i P X m sp l0 t S d k w) (hk : Kept (fun _ => False) w w') : JB F B b g W0 fb fd i P X m sp l0 t S d k w' := by
  obtain ⟨l, ac, Z, s, h1, h2, h3, h4, h5, h6, h7⟩ := J
  exact ⟨l, ac, Z, s, h1.kept hk id id, h2, h3.kept hk (fun _ _ h => h), h4, h5, fun j hj => by have := h6 j hj; have := hk.size; exact ⟨by omega, by omega, by omega, by omega, (h6 j hj).2.2.2.2⟩, h7.trans hk (fun _ _ h => h.elim)⟩
/-- The reader's blocks may be others, if they are new or were its own. -/
theorem JB.other (J : JB F B b g W0 fb fd i P X m sp l0 t S d k w) (hS : ∀ j, j < w.heap.size → S' j → S j) : JB F B b g W0 fb fd i P X m sp l0 t S' d k w := by
  obtain ⟨l, ac, Z, s, h1, h2, h3, h4, h5, h6, h7⟩ := J
  exact ⟨l, ac, Z, s, h1, h2, h3, h4, h5, fun j hj => ⟨(h6 j hj).1, (h6 j hj).2.1, (h6 j hj).2.2.1, (h6 j hj).2.2.2.1, fun e => (h6 j hj).2.2.2.2 (hS j (h6 j hj).2.1 e)⟩, h7⟩
/-- A step of the Insert. -/
theorem jb_step (O : Iok F 100 fb fd 1 1 P X m sp 100 1 l0 ⟨#[]⟩ 0) (J : JB F B b g W0 fb fd i P X m sp l0 t S d k w) (hd : 0 < d) (hB : B ≤ w.heap.size) (hS : ∀ j, S j → j < w.heap.size ∧ j ≠ b ∧ j ≠ g) (hk : k < 1000000) :
    Calls Tryz.prog 31 #[.pointer (some ⟨i, 0, none⟩), .pointer (some ⟨b, 0, none⟩)] w fun e w' => e = .returned (.bool (decide (d = 1))) ∧ JB F B b g W0 fb fd i P X m sp l0 t S (d - 1) (k + 1) w' ∧ Kept (fun j => ¬ S j) w w' := by
  obtain ⟨l, ac, Z, s, h1, h2, h3, h4, h5, h6, h7⟩ := J
  refine (ir_step O h3 h4 hd b g ac h1 (fun h => (h6 b h).2.2.1 rfl) (fun h => (h6 g h).2.2.2.1 rfl) (by omega)).mono ?_
  rintro e w' ⟨s', l', rfl, g1, g2, g3, g4, g5⟩
  refine ⟨rfl, ⟨l', ac + 1, _, s', g1, by omega, g2, g3, g5.trans h5, fun j hj => ?_, h7.trans g4 (fun j hj h => ?_)⟩, g4.mono (fun j h => ?_)⟩
  · have hz := g4.size
    have hbl := h1.obj.lt
    have hgl := h1.row.lt
    rcases hj with hj | hj
    · have := h6 j hj; exact ⟨this.1, by omega, this.2.2.1, this.2.2.2.1, this.2.2.2.2⟩
    · exact ⟨by omega, by omega, by omega, by omega, fun e => by have := (hS j e).1; omega⟩
  · rcases h with h | h | h
    · exact .inl (h6 j h).1
    · exact .inr (.inl h)
    · exact .inr (.inr h)
  · intro e
    rcases h with h | h | h
    · exact (h6 j h).2.2.2.2 e
    · exact (hS j e).2.1 h
    · exact (hS j e).2.2 h
/-- A finished Insert. -/
theorem JB.over (J : JB F B b g W0 fb fd i P X m sp l0 t S 0 k w) : ∃ (Z : Nat → Prop) (fo : Option Nat), IAt Z w F 100 fb fd i 1 1 P X m sp 100 (.don fo) := by
  obtain ⟨l, ac, Z, s, h1, h2, h3, h4, h5, h6, h7⟩ := J
  generalize hd : 0 = d at h4
  have hw1 := wrsN_len (F := F) (N := 100) (id := 1) (wd := 1) P (lpg X m sp (1 + 1))
  cases h4 with
  | don1 hv => exact ⟨Z, _, h3⟩
  | don0 => exact ⟨Z, _, h3⟩
  | ful hv => exact absurd hv (by decide)
  | tak0 hv => omega
  | none hv => omega
  | tak1 hv => omega
  | fil hv hj => omega
  | wri1 hv hj => omega
  | wri0 hj => omega
theorem jb_done (J : JB F B b g W0 fb fd i P X m sp l0 t S 0 k w) :
    Calls Tryz.prog 31 #[.pointer (some ⟨i, 0, none⟩), .pointer (some ⟨b, 0, none⟩)] w fun e w' => e = .returned (.bool true) ∧ JB F B b g W0 fb fd i P X m sp l0 t S 0 (k + 1) w' ∧ Kept (fun _ => False) w w' := by
  obtain ⟨Z, fo, h⟩ := J.over
  refine (is_done F 100 fb fd i 1 1 P X m sp 100 Z fo w h b).mono ?_
  rintro e w' ⟨rfl, hk⟩
  obtain ⟨l, ac, Z9, s, h1, h2, h3⟩ := J.calm hk
  exact ⟨rfl, ⟨l, ac, Z9, s, h1, by omega, h3⟩, hk⟩
theorem jb_err (J : JB F B b g W0 fb fd i P X m sp l0 t S 0 k w) :
    Calls Tryz.prog 35 #[.pointer (some ⟨i, 0, none⟩)] w fun e w' => e = .returned (.int .i64 0) ∧ Kept (fun _ => False) w w' := by
  obtain ⟨Z, fo, h⟩ := J.over
  exact is_err F 100 fb fd i 1 1 P X m sp 100 Z fo w h
end
/-- The page that a Find found. -/
theorem find_page (F : Nat) (h6 : F ≤ 6) (fb fd : Int) (Z : Nat → Prop) (x : Nat) (key : ByteArray) (lvl : Nat) (n wd : Nat) (Y : Pg) (hY : Y.xs.length ≤ 1000) (w : World) (h : FAt Z w F fb fd x key lvl (.arr n ⟨3, wd, got Y (Y.xs.length + 3)⟩)) :
    Calls Tryz.prog 33 #[.pointer (some ⟨x, 0, none⟩)] w fun e w' => ∃ (A : Option Addr) (c : Nat), e = .returned (.tuple #[.int .u64 (n : Int), .agg #[.int .i64 (Y.lv : Int), .slice A Y.xs.length c, .string Y.hi, .bool Y.la, .int .u64 (Y.rt : Int)]]) ∧ Rs w' A c Y.xs ∧ (∀ a, A = some a → w.heap.size ≤ a.block) ∧ Kept (fun _ => False) w w' := by
  obtain ⟨e1, e2, e3, e4, e5⟩ := got_all Y
  cases h with
  | arr hy h hok =>
    obtain ⟨q, h1, h2, h3⟩ := h
    refine (fnode_got Z F fb fd x n q _ w h1 _ h2 hy (hok.s.len40 h6)).mono ?_
    rintro e w' ⟨A, c, rfl, hR, hA, hK⟩
    refine ⟨A, c, ?_, ?_, hA, hK⟩
    · show Ending.returned (.tuple #[.int .u64 (n : Int), .agg #[.int .i64 ((got Y (Y.xs.length + 3)).lv : Int), .slice A (got Y (Y.xs.length + 3)).xs.length c, .string (got Y (Y.xs.length + 3)).hi, .bool (got Y (Y.xs.length + 3)).la, .int .u64 ((got Y (Y.xs.length + 3)).rt : Int)]]) = _
      rw [e1, e2, e3, e4, e5]
    · have hR' : Rs w' A c (got Y (Y.xs.length + 3)).xs := hR
      rw [e5] at hR'; exact hR'
/-- What stays the same while the law runs. -/
structure Kon (F n0 : Nat) (fb fd : Int) (P X : Pg) (m : Nat) (sp : ByteArray) (l0 : List Cel) (t : Bool) : Prop where
  h4 : 4 ≤ F
  h6 : F ≤ 6
  hb : 10 + 100 * (F : Int) + 400 ≤ (n0 : Int)
  spi : Spi F P (qpg t X m sp) (rpg X m)
  bse : Bse F n0 l0 P (qpg t X m sp) (rpg X m)
  fq : Fits (qpg t X m sp)
  fr : Fits (rpg X m)
  la : X.la = true
  asc : Asc X.xs
  lv : X.lv = 0
  mid : 1 ≤ m ∧ m < X.xs.length
  iok : Iok F 100 fb fd 1 1 P X m sp 100 1 l0 ⟨#[]⟩ 0
/-- How many of the Insert's steps write node 1. -/
def WLn (F : Nat) (P X : Pg) (m : Nat) (sp : ByteArray) (t : Bool) : Nat := (wrs F P (qpg t X m sp)).length
/-- A reader on its way. -/
def FJ (F : Nat) (P X : Pg) (m : Nat) (sp : ByteArray) (t : Bool) (kw : ByteArray) (d : Nat) (fs : Fs) : Prop := FI F kw P (qpg t X m sp) (rpg X m) (Cd d) (chd (WLn F P X m sp t) d) fs
section
variable {F n0 B b g : Nat} {W0 : World} {fb fd : Int} {i : Nat} {P X : Pg} {m : Nat} {sp : ByteArray} {l0 : List Cel} {t : Bool} {S : Nat → Prop} {d k : Nat} {w w' : World}
theorem FJ.next (K : Kon F n0 fb fd P X m sp l0 t) {kw : ByteArray} {fs : Fs} (h : FJ F P X m sp t kw d fs) (hd : 0 < d) : FJ F P X m sp t kw (d - 1) fs :=
  FI.next (wrs_len (P := P) K.spi.gq.2.1 K.h6).1 h hd
/-- A step of a reader. -/
theorem jf_step (K : Kon F n0 fb fd P X m sp l0 t) (xf : Nat) (Zr : Nat → Prop) (J : JB F B b g W0 fb fd i P X m sp l0 t (fun j => j = xf ∨ Zr j) d k w) (kw : ByteArray) (fs : Fs) (hA : FAt Zr w F fb fd xf kw 0 fs) (hI : FJ F P X m sp t kw d fs) (hS : ∀ j, j = xf ∨ Zr j → B ≤ j ∧ j ≠ b ∧ j ≠ g) (hB : B ≤ w.heap.size) (hbB : b < B) (hgB : g < B) (hk : k < 1000000) (r : Nat) (hx : (kw, r) ∈ X.xs) (hp : d ≠ 0 → (kw, r) ∈ P.xs) :
    Calls Tryz.prog 32 #[.pointer (some ⟨xf, 0, none⟩), .pointer (some ⟨b, 0, none⟩)] w fun e w' => ∃ (fs' : Fs) (Zr' : Nat → Prop), e = .returned (.bool fs'.fin) ∧ FAt Zr' w' F fb fd xf kw 0 fs' ∧ JB F B b g W0 fb fd i P X m sp l0 t (fun j => j = xf ∨ Zr' j) d (k + 1) w' ∧ (∀ j, j = xf ∨ Zr' j → B ≤ j ∧ j ≠ b ∧ j ≠ g) ∧ ((fs'.fin = false ∧ FJ F P X m sp t kw d fs' ∧ (d = 0 → dF F fs' + 1 ≤ dF F fs)) ∨ (fs'.fin = true ∧ ∃ (n wd : Nat) (Y : Pg), fs' = .arr n ⟨3, wd, got Y (Y.xs.length + 3)⟩ ∧ (kw, r) ∈ Y.xs ∧ Asc Y.xs ∧ Y.xs.length ≤ F)) := by
  obtain ⟨l, ac, Z, s, h1, h2, h3, h4, h5, h6, h7⟩ := J
  subst h5
  have N := noi_of K.h4 K.h6 K.hb K.bse K.spi K.fq K.fr K.la h4
  have hst := FI.step N K.spi hI
  have hx1 := hS xf (.inl rfl)
  refine (find_go F K.h4 K.h6 fb fd K.iok.reach Zr xf kw 0 fs w b g l ac h1 (by omega) (fun h => (hS b (.inr h)).2.1 rfl) (fun h => (hS g (.inr h)).2.2 rfl) hx1.2.1 hx1.2.2 N.nats hst.1 hA).mono ?_
  rintro e w' ⟨rfl, g1, Zr', g2, g3, g4⟩
  refine ⟨_, Zr', rfl, g2, ⟨l, ac + 1, Z, s, g1, by omega, h3.kept g3 (fun j hj h => ?_), h4, rfl, fun j hj => ?_, h7.trans g3 (fun j hj h => ?_)⟩, fun j hj => ?_, ?_⟩
  · have h8 := h6 j hj
    rcases h with h | h | h | h
    · exact h8.2.2.2.2 (.inl h)
    · exact h8.2.2.2.2 (.inr h)
    · exact h8.2.2.1 h
    · exact h8.2.2.2.1 h
  · have h8 := h6 j hj
    have h9 := g3.size
    refine ⟨h8.1, by omega, h8.2.2.1, h8.2.2.2.1, fun e => ?_⟩
    rcases e with e | e
    · exact h8.2.2.2.2 (.inl e)
    · rcases g4 j e with e | e
      · exact h8.2.2.2.2 (.inr e)
      · omega
  · rcases h with h | h | h | h
    · exact .inl (by rw [h]; exact hx1.1)
    · exact .inl (hS j (.inr h)).1
    · exact .inr (.inl h)
    · exact .inr (.inr h)
  · rcases hj with hj | hj
    · exact hS j (.inl hj)
    · rcases g4 j hj with e | e
      · exact hS j (.inr e)
      · omega
  · rcases hst.2 with h | ⟨n, wd, Y, h, hY⟩
    · left
      have hfin : (fgo F kw 0 l fs).fin = false := by
        generalize fgo F kw 0 l fs = fs' at h
        cases h <;> rfl
      refine ⟨hfin, h, fun e => ?_⟩
      subst e
      have N1 : Noi F l P (qpg s.two X m sp) (rpg X m) 1 false := by
        have e2 : chd (wrs F P (qpg s.two X m sp)).length 0 = false := by unfold chd; simp
        rw [e2] at N; exact N
      have hI1 : FI F kw P (qpg s.two X m sp) (rpg X m) 1 false fs := by
        have e2 : chd (WLn F P X m sp s.two) 0 = false := by unfold chd; simp
        unfold FJ at hI
        rw [e2] at hI; exact hI
      rcases FI.less N1 K.spi hI1 with ⟨n, y, h9⟩ | h9
      · rw [h9] at hfin; cases hfin
      · exact h9
    · right
      refine ⟨by rw [h]; rfl, n, wd, Y, h, ?_, ?_⟩
      · exact ari_has K.asc K.lv K.iok.sep K.mid.1 K.mid.2 hY hx (fun e => hp (fun e2 => by subst e2; exact absurd e (by decide))) K.la
      · have hpc := K.spi.pgC (Cd d)
        rcases hY with ⟨-, rfl, -⟩ | ⟨-, rfl, -, -⟩
        · exact ⟨hpc.2.2.1, hpc.2.1⟩
        · exact ⟨K.spi.gr.2.2.1, K.spi.gr.2.1⟩
/-- A reader that has just been made. -/
theorem JB.reader {S : Nat → Prop} (J : JB F B b g W0 fb fd i P X m sp l0 t S d k w) {x : Nat} (hx : w.heap.size ≤ x) (hk : Kept (fun _ => False) w w') : JB F B b g W0 fb fd i P X m sp l0 t (fun j => j = x ∨ False) d k w' := by
  refine JB.other (S := fun j => j = x ∨ S j) ?_ (fun j hj h => h.elim .inl False.elim)
  obtain ⟨l, ac, Z, s, h1, h2, h3, h4, h5, h6, h7⟩ := J
  refine ⟨l, ac, Z, s, h1.kept hk id id, h2, h3.kept hk (fun _ _ h => h), h4, h5, fun j hj => ?_, h7.trans hk (fun _ _ h => h.elim)⟩
  have h8 := h6 j hj
  have := hk.size
  exact ⟨h8.1, by omega, h8.2.2.1, h8.2.2.2.1, fun e => by rcases e with e | e; omega; exact h8.2.2.2.2 e⟩
theorem JB.out (J : JB F B b g W0 fb fd i P X m sp l0 t S d k w) : Kept (fun j => B ≤ j ∨ j = b ∨ j = g) W0 w := by
  obtain ⟨l, ac, Z, s, h1, h2, h3, h4, h5, h6, h7⟩ := J
  exact h7
theorem JB.le (J : JB F B b g W0 fb fd i P X m sp l0 t S d k w) {k' : Nat} (h : k ≤ k') : JB F B b g W0 fb fd i P X m sp l0 t S d k' w := by
  obtain ⟨l, ac, Z, s, h1, h2, h3⟩ := J
  exact ⟨l, ac, Z, s, h1, by omega, h3⟩
theorem JB.start {Z : Nat → Prop} {s : Is} {l : List Cel} (hm : Mem w b g l0 0) (hA : IAt Z w F 100 fb fd i 1 1 P X m sp 100 s) (hI : Ipl F 100 1 1 P X m sp 100 1 l0 ⟨#[]⟩ 0 s l0 d) (ht : s.two = t) (hZ : ∀ j, Z j → B ≤ j ∧ j < w.heap.size) (hb : b < B) (hg : g < B) : JB F B b g w fb fd i P X m sp l0 t (fun _ => False) d 0 w :=
  ⟨l0, 0, Z, s, hm, Nat.le_refl _, hA, hI, ht, fun j hj => by have := hZ j hj; exact ⟨this.1, this.2, by omega, by omega, id⟩, Kept.refl _ _⟩
end
/-- NewInsert of a slot into node 1, in either of its two ways. -/
theorem new_start (F : Nat) (fb fd : Int) (P : Pg) (A : Option Addr) (c : Nat) (key : ByteArray) (ref m : Nat) (sp : ByteArray) (l0 : List Cel) (w : World) (O : Iok F 100 fb fd 1 1 P (npg P key ref) m sp 100 1 l0 ⟨#[]⟩ 0) (hR : Rs w A c P.xs) (ha : Asc P.xs) (hk : has key P.xs = false) :
    Calls Tryz.prog 29 #[.agg #[.int .i64 1, .int .i64 2, .int .i64 100, .int .i64 100, .int .i64 200, .int .i64 (F : Int), .int .u64 1000, .int .i64 10, .int .i64 fb, .int .i64 fd], .agg #[.int .u64 1, .int .u64 1, .int .i64 (P.lv : Int), .slice A P.xs.length c, .string P.hi, .bool P.la, .int .u64 (P.rt : Int)], .string key, .int .u64 (ref : Int)] w fun e w' => ∃ (i : Nat) (Z : Nat → Prop) (s : Is) (d : Nat), e = .returned (.pointer (some ⟨i, 0, none⟩)) ∧ IAt Z w' F 100 fb fd i 1 1 P (npg P key ref) m sp 100 s ∧ Ipl F 100 1 1 P (npg P key ref) m sp 100 1 l0 ⟨#[]⟩ 0 s l0 d ∧ s.two = decide (F < (npg P key ref).xs.length) ∧ 0 < d ∧ (∀ j, Z j → w.heap.size ≤ j ∧ j < w'.heap.size) ∧ Kept (fun _ => False) w w' := by
  have hw0 := wrsN_len (F := F) (N := 100) (id := 1) (wd := 1) P (npg P key ref)
  by_cases hf : F < (npg P key ref).xs.length
  · refine (newInsert_take 100 F fb fd O.lim O.reach 1 1 P A c key ref 100 w (by have := O.pl; omega) O.plv (by decide) rfl hR ha hk hf).mono ?_
    rintro e w' ⟨i, q, A1, c1, A2, c2, rfl, hI, hQ, hR1, hR2, hGE, hK⟩
    refine ⟨i, fun j => w.heap.size ≤ j ∧ j < w'.heap.size, _, _, rfl, IAt.tak hI hQ ⟨by omega, hI.lt⟩ ⟨by omega, hQ.lt⟩ (by omega) hR1 hR2 (fun a ha hp => ?_) (fun a ha => ?_), .tak0 (by decide), by simp [Is.two, hf], by omega, fun j hj => hj, hK⟩
    · obtain ⟨g9, o9, e9, h9, -⟩ := hR1.at hp
      have h1 := hGE.2.2.1 a ha hp
      rw [e9] at ha; cases ha
      exact ⟨⟨h1.1, h9⟩, h1.2.1, h1.2.2⟩
    · obtain ⟨g9, o9, e9, h9, -⟩ := hR2.at (by rw [npg_length]; omega)
      have h1 := hGE.2.2.2 a ha
      rw [e9] at ha; cases ha
      exact ⟨⟨h1.1, h9⟩, h1.2.1, h1.2.2⟩
  · refine (newInsert_write 100 F fb fd O.lim O.reach 1 1 P A c key ref 100 w (by have := O.pl; omega) O.plv (by decide) rfl hR ha hk (by omega)).mono ?_
    rintro e w' ⟨i, q, Zw, A1, c1, A2, c2, rfl, hI, hS, hGE, hK⟩
    have hI0 := Ipl.wri0 (F := F) (N := 100) (id := 1) (wd := 1) (P := P) (X := npg P key ref) (m := m) (sp := sp) (lim := 100) (Nv := 1) (l0 := l0) (K := ⟨#[]⟩) (M := 0) (j := 0) (by omega)
    rw [List.take_zero, app_nil] at hI0
    exact ⟨i, fun j => j = i ∨ Zw j, _, _, rfl, IAt.wri0 hI hS (.inl rfl) (fun k hk => ⟨.inr hk, (hGE.2 k hk).2⟩), hI0, by simp [Is.two, hf], by omega, fun j hj => by
      rcases hj with hj | hj
      · rw [hj]; exact ⟨hGE.1, hI.lt⟩
      · exact ⟨(hGE.2 j hj).1, hS.lt j hj⟩, hK⟩
/-- Node 1 as the law makes it. -/
theorem bse_start {F : Nat} {l : List Cel} {P Q R : Pg} (h4 : 4 ≤ F) (h6 : F ≤ 6) (S0 : Start F l) (hr : cellAt l 0 = (((1 : Nat) : Int), (⟨#[]⟩ : ByteArray), (0 : Int)) ∧ cellAt l 4 = (((1 : Nat) : Int), (⟨#[]⟩ : ByteArray), (0 : Int))) (hF : P.xs.length ≤ F) (hf : Fits P) :
    Bse F l.length (putAt (app l (pst (nad F 1) P)) (nla F 1) ((1 : Int), (⟨#[]⟩ : ByteArray), (0 : Int))) P Q R ∧ 4 < (putAt (app l (pst (nad F 1) P)) (nla F 1) ((1 : Int), (⟨#[]⟩ : ByteArray), (0 : Int))).length ∧ cellAt (putAt (app l (pst (nad F 1) P)) (nla F 1) ((1 : Int), (⟨#[]⟩ : ByteArray), (0 : Int))) 4 = (((1 : Nat) : Int), (⟨#[]⟩ : ByteArray), (0 : Int)) := by
  have n1 := nla1 (F := F)
  have hb := S0.lo
  have ha : Ads F (nla F 1) (nad F 1) l.length := ads_of h4 h6 (by omega) (by omega) hb
  have hne : ∀ s ∈ pst (nad F 1) P, 10 ≤ s.1 := fun s hs => by
    obtain ⟨r, hr, rfl⟩ := pst_addr hs
    show 10 ≤ nad F 1 r
    rw [nad1 (by omega)]; omega
  have hla : cellAt (putAt (app l (pst (nad F 1) P)) (nla F 1) ((1 : Int), (⟨#[]⟩ : ByteArray), (0 : Int))) (nla F 1) = ((1 : Int), (⟨#[]⟩ : ByteArray), (0 : Int)) := cellAt_same (by rw [app_length]; exact ha.lat) _
  refine ⟨⟨⟨(S0.nats.app (hf.pstN _)).put _ ⟨1, 0, _, rfl, by omega, by omega⟩, ?_, ⟨fun _ => ⟨fun r hr' => ?_, 1, Nat.le_refl _, by rw [hla]; rfl⟩, fun e => (by cases e)⟩, by omega, fun e => absurd e (by decide)⟩, by rw [hla], by rw [putAt_length, app_length]⟩, by rw [putAt_length, app_length]; omega, ?_⟩
  · rw [cellAt_other (by omega), app_other _ _ (fun s hs => by have := hne s hs; omega), hr.1]; rfl
  · rw [cellAt_other (Ne.symm (ha.ne r (by have : r < P.xs.length + 3 := hr'; omega)))]
    have := pst_holds ha rfl hF (P.xs.length + 3) (Nat.le_refl _) r hr'
    rw [pst_all] at this; exact this
  · rw [cellAt_other (by omega), app_other _ _ (fun s hs => by have := hne s hs; omega), hr.2]
theorem kon_start {F : Nat} {fb fd : Int} {l : List Cel} {ks : List ByteArray} {key : ByteArray} (h4 : 4 ≤ F) (h6 : F ≤ 6) (S0 : Start F l) (hr : cellAt l 0 = (((1 : Nat) : Int), (⟨#[]⟩ : ByteArray), (0 : Int)) ∧ cellAt l 4 = (((1 : Nat) : Int), (⟨#[]⟩ : ByteArray), (0 : Int))) (hd : Reach3 10 fb fd) (h2 : 2 ≤ ks.length) (hF : ks.length ≤ F) (hk : (∀ k ∈ ks, k.size ≤ 32) ∧ ∀ i a b, ks[i]? = some a → ks[i + 1]? = some b → kl a b = true) (hkey : key.size ≤ 32) (hh : has key (slotsOf ks) = false) :
    ∃ (m : Nat) (sp : ByteArray), Kon F l.length fb fd (pgP ks) (npg (pgP ks) key 99) m sp (putAt (app l (pst (nad F 1) (pgP ks))) (nla F 1) ((1 : Int), (⟨#[]⟩ : ByteArray), (0 : Int))) (decide (F < (npg (pgP ks) key 99).xs.length)) := by
  have hA := slots_asc hk.2
  have hl := slotsOf_length ks
  have hlP : (pgP ks).xs.length = ks.length := hl
  have hXl : (npg (pgP ks) key 99).xs.length = ks.length + 1 := by rw [npg_length, hlP]
  have hXa : Asc (npg (pgP ks) key 99).xs := ins_asc _ _ hA hh
  obtain ⟨m, hm⟩ : ∃ m, m = (npg (pgP ks) key 99).xs.length - (npg (pgP ks) key 99).xs.length / 2 := ⟨_, rfl⟩
  obtain ⟨sp, hsp⟩ := sepr_ex (npg (pgP ks) key 99).lv (npg (pgP ks) key 99).xs m (by omega) (by omega)
  have hfP : Fits (pgP ks) := (fit_pages (by omega) 0 ⟨#[]⟩).1
  have href : ∀ x ∈ (npg (pgP ks) key 99).xs, x.2 < 18446744073709551616 ∧ x.1.size ≤ 1000 := fun x hx => by
    rcases ins_mem.1 hx with rfl | hx
    · exact ⟨by show 99 < _; omega, by show key.size ≤ 1000; omega⟩
    · obtain ⟨i, hi⟩ := List.getElem?_of_mem (show x ∈ slotsOf ks from hx)
      have h3 := slotsOf_at hi
      have h5 := (List.getElem?_eq_some_iff.1 hi).1
      have h7 := hk.1 x.1 (List.mem_of_getElem? h3.1)
      rw [hl] at h5
      exact ⟨by omega, by omega⟩
  have hS := asc_sub hXa m
  have hlp : (lpg (npg (pgP ks) key 99) m sp 2).xs.length = m := lpg_length (by omega)
  have hrp : (rpg (npg (pgP ks) key 99) m).xs.length = (npg (pgP ks) key 99).xs.length - m := rpg_length _ _
  have spi : Spi F (pgP ks) (qpg (decide (F < (npg (pgP ks) key 99).xs.length)) (npg (pgP ks) key 99) m sp) (rpg (npg (pgP ks) key 99) m) := by
    refine ⟨⟨fun _ => rfl, by omega, hA, rfl, rfl⟩, ?_, ⟨fun _ => rfl, by omega, hS.2, rfl, rfl⟩⟩
    by_cases ht : F < (npg (pgP ks) key 99).xs.length
    · rw [show decide (F < (npg (pgP ks) key 99).xs.length) = true by simp [ht]]
      exact ⟨fun e => (by cases e), by show (lpg (npg (pgP ks) key 99) m sp 2).xs.length ≤ F; omega, hS.1, rfl, .inr rfl⟩
    · rw [show decide (F < (npg (pgP ks) key 99).xs.length) = false by simp [ht]]
      exact ⟨fun _ => rfl, by show (npg (pgP ks) key 99).xs.length ≤ F; omega, hXa, rfl, .inl rfl⟩
  obtain ⟨hB, hlong, hc4⟩ := bse_start (P := pgP ks) (Q := qpg (decide (F < (npg (pgP ks) key 99).xs.length)) (npg (pgP ks) key 99) m sp) (R := rpg (npg (pgP ks) key 99) m) h4 h6 S0 hr (by omega) hfP
  refine ⟨m, sp, ⟨h4, h6, S0.lo, spi, hB, ?_, ?_, rfl, hXa, rfl, by omega, ⟨limF h4 h6, hd, by omega, (by show 0 < _; decide), by omega, (by show 0 < _; decide), by decide, hm, fun x hx => (href x hx).2, hsp, by decide, hlong, hc4⟩⟩⟩
  · by_cases ht : F < (npg (pgP ks) key 99).xs.length
    · rw [show decide (F < (npg (pgP ks) key 99).xs.length) = true by simp [ht]]
      exact ⟨(by show 0 < _; decide), (by show 2 < _; decide), fun x hx => (href x (List.mem_of_mem_take hx)).1, by show (lpg (npg (pgP ks) key 99) m sp 2).xs.length < _; omega⟩
    · rw [show decide (F < (npg (pgP ks) key 99).xs.length) = false by simp [ht]]
      exact ⟨(by show 0 < _; decide), (by show 0 < _; decide), fun x hx => (href x hx).1, by show (npg (pgP ks) key 99).xs.length < _; omega⟩
  · exact ⟨(by show 0 < _; decide), (by show 0 < _; decide), fun x hx => (href x (List.mem_of_mem_drop hx)).1, by omega⟩
/-- Where the elder keys' slots and the new one are. -/
theorem slot_in {ks : List ByteArray} {key kw : ByteArray} {q : Nat} (h : ks[q]? = some kw) : (kw, q + 1) ∈ (pgP ks).xs ∧ (kw, q + 1) ∈ (npg (pgP ks) key 99).xs ∧ (key, 99) ∈ (npg (pgP ks) key 99).xs := by
  have h1 : (kw, q + 1) ∈ (pgP ks).xs := List.mem_of_getElem? (slotsOf_get h)
  exact ⟨h1, ins_mem.2 (.inr h1), ins_mem.2 (.inl rfl)⟩
theorem no_key {ks : List ByteArray} {key : ByteArray} (h : ∀ q kq, q < ks.length → ks[q]? = some kq → (kq.toList == key.toList) = false) : has key (slotsOf ks) = false := by
  refine List.any_eq_false.2 (fun x hx e => ?_)
  obtain ⟨i, hi⟩ := List.getElem?_of_mem hx
  have h1 := (List.getElem?_eq_some_iff.1 hi).1
  rw [slotsOf_length] at h1
  have h2 := h i x.1 h1 (slotsOf_at hi).1
  have h3 : (x.1.toList == key.toList) = true := e
  rw [h2] at h3; cases h3
end Go.Proofs.YtkpbbnpfdighjaaGreat
