/-
  Several Locks side by side in memory, each with blocks of its own, a row of pointers to them and a row of numbers. Condition: none.
-/
import Derived.Test.YtkpbbnpfdighjaaGreatLkSched
import Derived.Test.YtkpbbnpfdighjaaGreatLkAux
import Derived.Deep.AppendLies
namespace Go.Proofs.YtkpbbnpfdighjaaGreat
open Go.RowKit Go.Deep Plain
set_option linter.unusedVariables false

theorem made_row (z : Value) (n : Nat) : madeCells #[z] n = ⟨List.replicate n z⟩ := by
  apply Array.ext'
  apply List.ext_getElem?
  intro j
  by_cases hj : j < n
  · simp [madeCells, hj, Nat.mod_one]
  · rw [List.getElem?_eq_none (by simp [madeCells]; omega), List.getElem?_eq_none (by simp; omega)]
theorem infoLk : (Tryz.prog.info? 49).map (fun i => (i.zero, i.size, i.bytes)) = some (some (.pointer none), 1, 8) := by kernel_rfl
/-- A row of numbers. -/
def hvs (hv : Nat → Int) (n : Nat) : List Value := (List.range n).map fun i => .int .i64 (hv i)
theorem hvs_zero (n : Nat) : hvs (fun _ => 0) n = List.replicate n (.int .i64 0) := by
  unfold hvs; apply List.ext_getElem?; intro j
  by_cases h : j < n
  · simp [h]
  · rw [List.getElem?_eq_none (by simp; omega), List.getElem?_eq_none (by simp; omega)]
theorem hvs_at {hv : Nat → Int} {n i : Nat} (h : i < n) : (hvs hv n)[i]? = some (.int .i64 (hv i)) := by
  unfold hvs; rw [List.getElem?_map, List.getElem?_range h]; rfl
theorem hvs_set {hv : Nat → Int} {n i : Nat} (v : Int) : (hvs hv n).set i (.int .i64 v) = hvs (upd hv i v) n := by
  apply List.ext_getElem?; intro j
  rw [List.getElem?_set]
  by_cases h : i = j
  · subst h
    rw [if_pos rfl]
    by_cases hl : i < n
    · rw [hvs_at hl, upd_at, if_pos (by unfold hvs; simpa using hl)]
    · rw [if_neg (by unfold hvs; simpa using hl), List.getElem?_eq_none (by unfold hvs; simp; omega)]
  · rw [if_neg h]
    unfold hvs; rw [List.getElem?_map, List.getElem?_map]
    by_cases hl : j < n
    · rw [List.getElem?_range hl]; simp only [Option.map_some]; rw [upd_ne _ _ (Ne.symm h)]
    · rw [List.getElem?_eq_none (by simp; omega)]; rfl
theorem upd_self {α : Type} {f : Nat → α} {i : Nat} {v : α} (h : f i = v) : upd f i v = f := by
  funext j
  by_cases e : j = i
  · subst e; rw [upd_at, h]
  · rw [upd_ne _ _ e]
theorem hfieldW (i : Int) (wd lv : Int) (A : Option Addr) (n c : Nat) (hi : ByteArray) (la : Bool) (rt : Int) (w : World) : (Instr.field 56 (.agg #[.int .u64 i, .int .u64 wd, .int .i64 lv, .slice A n c, .string hi, .bool la, .int .u64 rt]) 1).run Tryz.prog w = .ok (.int .u64 wd) w := by kernel_rfl
/-- A row of pointers. -/
def ptrv (x : Nat → Nat) (n : Nat) : List Value := (List.range n).map fun i => .pointer (some ⟨x i, 0, none⟩)
theorem ptrv_at {x : Nat → Nat} {n i : Nat} (h : i < n) : (ptrv x n)[i]? = some (.pointer (some ⟨x i, 0, none⟩)) := by
  unfold ptrv; rw [List.getElem?_map, List.getElem?_range h]; rfl
theorem ptrv_push (x : Nat → Nat) (n q : Nat) : ptrv (upd x n q) (n + 1) = ptrv x n ++ [.pointer (some ⟨q, 0, none⟩)] := by
  unfold ptrv; rw [List.range_succ, List.map_append]
  congr 1
  · apply List.map_congr_left; intro i hi
    rw [upd_ne _ _ (by have := List.mem_range.1 hi; omega)]
  · simp [upd_at]
/-- The first 40 bytes. -/
def cut40 (q : ByteArray) : ByteArray := q.extract 0 (min q.size 40)
theorem own_slice {w : World} {base e size n : Nat} {v : Value} {xs : List Value} (h : w.ownsRow base e size v n xs) (hn : 0 < n) :
    ∃ g cap, v = .slice (some ⟨g, 0, none⟩) n cap ∧ base ≤ g ∧ g < w.heap.size ∧ ∀ j u, xs[j]? = some u → w.cell? ⟨g, j, none⟩ = some u := by
  rcases h.2 with ⟨_, h0⟩ | ⟨g, cap, cur, rfl, hb, hg, rest⟩
  · omega
  · refine ⟨g, cap, rfl, hb, (Array.getElem?_eq_some_iff.1 hg).1, fun j u hu => ?_⟩
    have := h.cells (g := g) rfl j u hu
    rw [Addr.add_lit, Nat.zero_add] at this
    exact this
theorem own_block (g n c : Nat) : (Value.slice (some ⟨g, 0, none⟩) n c).ownBlock = some g := rfl

structure Mcs (Bad : Nat → Prop) (B b g : Nat) (wr : World) (F : Nat) (fb fd : Int) (n : Nat) (x : Nat → Nat) (key : Nat → ByteArray) (Z : Nat → Nat → Prop) (s : Nat → Ls) : Prop where
  mach : ∀ i, i < n → LAt (Z i) wr F fb fd (x i) (key i) 0 (s i)
  sep : ∀ i j, i < n → j < n → i ≠ j → ∀ k, Z i k → ¬ Z j k
  lo : ∀ i, i < n → ∀ k, Z i k → B ≤ k ∧ k < wr.heap.size ∧ ¬ Bad k ∧ k ≠ b ∧ k ≠ g
section
variable {Bad Bad' Y : Nat → Prop} {B b g : Nat} {wr w' : World} {F : Nat} {fb fd : Int} {n : Nat} {x : Nat → Nat} {key : Nat → ByteArray} {Z : Nat → Nat → Prop} {s : Nat → Ls}
theorem Mcs.zero : Mcs Bad B b g wr F fb fd 0 x key Z s := ⟨fun i h => by omega, fun i j h => by omega, fun i h => by omega⟩
theorem Mcs.kept (S : Mcs Bad B b g wr F fb fd n x key Z s) (hk : Kept Y wr w') (hY : ∀ i, i < n → ∀ k, Z i k → ¬ Y k) : Mcs Bad B b g w' F fb fd n x key Z s :=
  ⟨fun i hi => (S.mach i hi).kept hk (hY i hi), S.sep, fun i hi k hz => by have h := S.lo i hi k hz; have := hk.size; exact ⟨by omega, by omega, h.2.2.1, by omega, by omega⟩⟩
theorem Mcs.keptF (S : Mcs Bad B b g wr F fb fd n x key Z s) (hk : Kept (fun _ => False) wr w') : Mcs Bad B b g w' F fb fd n x key Z s := S.kept hk (fun _ _ _ _ h => h)
theorem Mcs.bad (S : Mcs Bad B b g wr F fb fd n x key Z s) (hB : ∀ i, i < n → ∀ k, Z i k → ¬ Bad' k) : Mcs Bad' B b g wr F fb fd n x key Z s :=
  ⟨S.mach, S.sep, fun i hi k hz => by have := S.lo i hi k hz; exact ⟨this.1, this.2.1, hB i hi k hz, this.2.2.2⟩⟩
theorem Mcs.step (S : Mcs Bad B b g wr F fb fd n x key Z s) {i : Nat} (hi : i < n) {s' : Ls} (hA : LAt (Zn (Z i) wr w') w' F fb fd (x i) (key i) 0 s') (hk : Kept (fun k => Z i k ∨ k = b ∨ k = g) wr w') (hbad : ∀ k, Bad k → k < wr.heap.size) (hb : b < wr.heap.size) (hg : g < wr.heap.size) (hB : B ≤ wr.heap.size) :
    Mcs Bad B b g w' F fb fd n x key (upd Z i (Zn (Z i) wr w')) (upd s i s') where
  mach := fun j hj => by
    by_cases e : j = i
    · subst e; rw [upd_at, upd_at]; exact hA
    · rw [upd_ne _ _ e, upd_ne _ _ e]
      refine (S.mach j hj).kept hk fun k hz h => ?_
      have h1 := S.lo j hj k hz
      rcases h with h | h | h
      · exact S.sep j i hj hi e k hz h
      · omega
      · omega
  sep := fun a c ha hc hne k hz => by
    by_cases ea : a = i
    · have ec : c ≠ i := by omega
      subst ea
      rw [upd_at] at hz
      rw [upd_ne _ _ ec]
      rcases hz with hz | hz
      · exact S.sep a c ha hc hne k hz
      · intro h; have := S.lo c hc k h; omega
    · rw [upd_ne _ _ ea] at hz
      by_cases ec : c = i
      · subst ec; rw [upd_at]
        intro h
        rcases h with h | h
        · exact S.sep a c ha hc hne k hz h
        · have := S.lo a ha k hz; omega
      · rw [upd_ne _ _ ec]; exact S.sep a c ha hc hne k hz
  lo := fun a ha k hz => by
    have hs := hk.size
    by_cases ea : a = i
    · subst ea; rw [upd_at] at hz
      rcases hz with hz | hz
      · have := S.lo a ha k hz; exact ⟨by omega, by omega, this.2.2.1, by omega, by omega⟩
      · exact ⟨by omega, by omega, fun h => by have := hbad k h; omega, by omega, by omega⟩
    · rw [upd_ne _ _ ea] at hz
      have := S.lo a ha k hz; exact ⟨by omega, by omega, this.2.2.1, by omega, by omega⟩
/-- One machine more. -/
theorem Mcs.push {v : Value} {w5 w6 : World} {n' c' g4 x5 : Nat} {Z5 : Nat → Prop} (S : Mcs (fun k => v.ownBlock = some k) B b g wr F fb fd n x key Z s) (hvl : ∀ k, v.ownBlock = some k → k < wr.heap.size)
    (h5 : Kept (fun _ => False) wr w5) (hA : LAt Z5 w5 F fb fd x5 (key n) 0 (s n)) (hZ5 : ∀ i, Z5 i → wr.heap.size ≤ i ∧ i < w5.heap.size) (h6 : Kept (fun k => v.ownBlock = some k) w5 w6)
    (hB : B ≤ wr.heap.size) (hb : b < B) (hg : g < B) (hor : v.ownBlock = some g4 ∨ w5.heap.size ≤ g4) :
    Mcs (fun k => (Value.slice (some ⟨g4, 0, none⟩) n' c').ownBlock = some k) B b g w6 F fb fd (n + 1) (upd x n x5) key (upd Z n Z5) s where
  mach := fun j hj => by
    by_cases e : j = n
    · subst e; rw [upd_at, upd_at]
      exact hA.kept h6 fun k hz h => by have := hZ5 k hz; have := hvl k h; omega
    · rw [upd_ne _ _ e, upd_ne _ _ e]
      exact ((S.mach j (by omega)).kept h5 (fun _ _ h => h)).kept h6 fun k hz h => (S.lo j (by omega) k hz).2.2.1 h
  sep := fun a c ha hc hne k hz => by
    by_cases ea : a = n
    · have ec : c ≠ n := by omega
      subst ea
      rw [upd_at] at hz
      rw [upd_ne _ _ ec]
      intro h; have := S.lo c (by omega) k h; have := hZ5 k hz; omega
    · rw [upd_ne _ _ ea] at hz
      by_cases ec : c = n
      · subst ec; rw [upd_at]
        intro h; have := S.lo a (by omega) k hz; have := hZ5 k h; omega
      · rw [upd_ne _ _ ec]; exact S.sep a c (by omega) (by omega) hne k hz
  lo := fun a ha k hz => by
    have hs5 := h5.size
    have hs6 := h6.size
    by_cases ea : a = n
    · subst ea; rw [upd_at] at hz
      have := hZ5 k hz
      refine ⟨by omega, by omega, fun h => ?_, by omega, by omega⟩
      have e : g4 = k := Option.some.inj h
      subst e
      rcases hor with h | h
      · have := hvl _ h; omega
      · omega
    · rw [upd_ne _ _ ea] at hz
      have h0 := S.lo a (by omega) k hz
      refine ⟨by omega, by omega, fun h => ?_, by omega, by omega⟩
      have e : g4 = k := Option.some.inj h
      subst e
      rcases hor with h | h
      · exact h0.2.2.1 h
      · omega
end
/-- The beginning of the schedule. -/
theorem sch_start {F H : Nat} {l : List Cel} {st mm : Nat → Nat} {lo : Nat → Nat → ByteArray} {pg : Nat → Nat → Pg} (T : Tr F l H st mm lo pg) (h4 : 4 ≤ F) (h6 : F ≤ 6) (hz : ∀ n, 1 ≤ n → n ≤ 100 → cellAt l (nla F n) = cel0) (hn : Nats l) (n : Nat) (key : Nat → ByteArray) :
    ∃ (t : Nat → Nat) (P : Nat → Pg) (φ : Nat → Nat), Sch F l n key t P φ (fun _ => 0) (fun _ => .fnd .root) l (fun _ => false) ∧ ∀ i, i < n → 0 < φ i := by
  have hH := T.H1
  have key0 : ∀ i, ∃ y : Nat × Pg × Nat, Tgt F (key i) l y.1 y.2.1 ∧ LW F (key i) 0 l y.1 y.2.1 (19 + y.2.2) (.fnd .root) := fun i => by
    obtain ⟨D, jt, hjt, hpath, hDle, hjlo, hjcov⟩ := T.find_root h6 (key i) 0 (by omega)
    have hV := T.lev 0 (by omega)
    have ha := T.all (L := 0) (by omega) hjt
    exact ⟨(st 0 + jt, pg 0 jt, D), ⟨hV.nd jt hjt, by show 1 ≤ st 0 + jt; omega, by show st 0 + jt ≤ 100; omega, hjcov⟩, .fnd (.root T.root hpath) hDle⟩
  obtain ⟨f, hf⟩ := Classical.skolem.1 key0
  refine ⟨fun i => (f i).1, fun i => (f i).2.1, fun i => 19 + (f i).2.2, ⟨fun i _ => (hf i).1, fun i _ => .run (hf i).2 rfl, Lks.start h4 hz hn, fun i _ h => ?_, fun x h => (by cases h), fun i j _ _ h => ?_⟩, fun i _ => by show 0 < 19 + _; omega⟩
  · have h2 : 19 + (f i).2.2 < 17 := h.2
    omega
  · have h2 : 19 + (f i).2.2 < 17 := h.2
    omega
/-- When none has work left, all is as it was. -/
theorem Sch.over {F : Nat} {l0 l : List Cel} {n : Nat} {key : Nat → ByteArray} {t : Nat → Nat} {P : Nat → Pg} {φ : Nat → Nat} {hv : Nat → Int} {s : Nat → Ls} {h : Nat → Bool} (S : Sch F l0 n key t P φ hv s l h) (hz : ∀ n, 1 ≤ n → n ≤ 100 → cellAt l0 (nla F n) = cel0) (h0 : ∀ i, i < n → φ i = 0) : l = l0 :=
  S.lks.eq hz fun m _ _ => by
    cases hm : h m with
    | false => rfl
    | true =>
      obtain ⟨i, hi, ho, -⟩ := S.who m hm
      have := ho.1
      have := h0 i hi
      omega

end Go.Proofs.YtkpbbnpfdighjaaGreat
