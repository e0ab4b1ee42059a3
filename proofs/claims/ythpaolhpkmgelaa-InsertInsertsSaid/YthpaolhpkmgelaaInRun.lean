/-
  Package insert: an Insert that nobody disturbs, step for step to its end; what lies in the memory at each place. Condition: a layout within its limits; pages of at most 900 slots.
-/
import Derived.Test.YthpaolhpkmgelaaInRes
namespace Go.Proofs.Ythpaolhpkmgelaa
open Go.RowKit Go.Deep Plain
set_option linter.unusedVariables false

/-- What is asked of the pages and the place of an Insert. -/
structure Iok (F : Nat) (N fb fd : Int) (id wd : Nat) (P X : Pg) (m : Nat) (sp : ByteArray) (lim Nv : Nat) (l0 : List Cel) (K : ByteArray) (M : Int) : Prop where
  lim : Lim 1 2 N 100 200 (F : Int)
  reach : Reach3 10 fb fd
  pl : P.xs.length ≤ 900
  plv : P.lv < 9223372036854775808
  xl : 2 ≤ X.xs.length ∧ X.xs.length ≤ 900
  xlv : X.lv < 9223372036854775808
  word : wd < 18446744073709551616
  mid : m = X.xs.length - X.xs.length / 2
  sz : ∀ x ∈ X.xs, x.1.size ≤ 1000
  sep : Sepr X.lv X.xs m sp
  nv : Nv < 18446744073709551615
  long : 4 < l0.length
  cell : cellAt l0 4 = ((Nv : Int), K, M)
/-- The memory once a number has been taken; the new node has been written. -/
def memT (l0 : List Cel) (Nv : Nat) (K : ByteArray) (M : Int) : List Cel := putAt l0 4 (((Nv + 1 : Nat) : Int), K, M)
/-- Where an Insert is, what lies in the memory, and how many steps are left. -/
inductive Ipl (F : Nat) (N : Int) (id wd : Nat) (P X : Pg) (m : Nat) (sp : ByteArray) (lim Nv : Nat) (l0 : List Cel) (K : ByteArray) (M : Int) : Is → List Cel → Nat → Prop
  | tak0 {N0 : Nat} {K0 : ByteArray} {M0 : Int} (hv : Nv < lim) : Ipl F N id wd P X m sp lim Nv l0 K M (.tak false N0 K0 M0) l0 (2 + (frsN F N X m (Nv + 1)).length + (wrsN F N id wd P (lpg X m sp (Nv + 1))).length)
  | none {N0 : Nat} {K0 : ByteArray} {M0 : Int} (hv : lim ≤ Nv) : Ipl F N id wd P X m sp lim Nv l0 K M (.tak false N0 K0 M0) l0 1
  | tak1 (hv : Nv < lim) : Ipl F N id wd P X m sp lim Nv l0 K M (.tak true Nv K M) l0 (1 + (frsN F N X m (Nv + 1)).length + (wrsN F N id wd P (lpg X m sp (Nv + 1))).length)
  | fil {j : Nat} (hv : Nv < lim) (hj : j < (frsN F N X m (Nv + 1)).length) : Ipl F N id wd P X m sp lim Nv l0 K M (.fil (Nv + 1) j) (app (memT l0 Nv K M) ((frsN F N X m (Nv + 1)).take j)) ((frsN F N X m (Nv + 1)).length - j + (wrsN F N id wd P (lpg X m sp (Nv + 1))).length)
  | wri1 {j : Nat} (hv : Nv < lim) (hj : j < (wrsN F N id wd P (lpg X m sp (Nv + 1))).length) : Ipl F N id wd P X m sp lim Nv l0 K M (.wri (some (Nv + 1)) j) (app (app (memT l0 Nv K M) (frsN F N X m (Nv + 1))) ((wrsN F N id wd P (lpg X m sp (Nv + 1))).take j)) ((wrsN F N id wd P (lpg X m sp (Nv + 1))).length - j)
  | wri0 {j : Nat} (hj : j < (wrsN F N id wd P X).length) : Ipl F N id wd P X m sp lim Nv l0 K M (.wri none j) (app l0 ((wrsN F N id wd P X).take j)) ((wrsN F N id wd P X).length - j)
  | don1 (hv : Nv < lim) : Ipl F N id wd P X m sp lim Nv l0 K M (.don (some (Nv + 1))) (app (app (memT l0 Nv K M) (frsN F N X m (Nv + 1))) (wrsN F N id wd P (lpg X m sp (Nv + 1)))) 0
  | don0 : Ipl F N id wd P X m sp lim Nv l0 K M (.don Option.none) (app l0 (wrsN F N id wd P X)) 0
  | ful (hv : lim ≤ Nv) : Ipl F N id wd P X m sp lim Nv l0 K M .ful l0 0
/-- It needs a second node. -/
def Is.two : Is → Bool
  | .wri Option.none _ => false
  | .don Option.none => false
  | _ => true
section
variable {Z : Nat → Prop} {w : World} {F : Nat} {N fb fd : Int} {i id wd : Nat} {P X : Pg} {m : Nat} {sp : ByteArray} {lim Nv : Nat} {l0 l : List Cel} {K : ByteArray} {M : Int} {s : Is} {d : Nat}
theorem frsN_len (X : Pg) (m num : Nat) : (frsN F N X m num).length = X.xs.length - m + 4 := by unfold frsN; rw [List.length_append, pst_length, rpg_length]; rfl
theorem wrsN_len (P Y : Pg) : 2 ≤ (wrsN F N id wd P Y).length ∧ (wrsN F N id wd P Y).length ≤ Y.xs.length + 5 := by
  unfold wrsN wsto
  have h := chg_length (pst (adr N F 10 id) P) (pst (adr N F 10 id) Y)
  rw [pst_length] at h
  rw [List.length_append, List.length_cons]
  show 2 ≤ _ + 1 + 1 ∧ _ + 1 + 1 ≤ _
  omega
theorem sto_ex2 {ss : List Sto} {j : Nat} (h : j < ss.length) : ∃ (ad cN : Int) (cK : ByteArray) (cM : Int), ss[j]? = some (ad, cN, cK, cM) := by
  obtain ⟨s, hs⟩ : ∃ s, ss[j]? = some s := ⟨_, List.getElem?_eq_getElem h⟩
  obtain ⟨ad, cN, cK, cM⟩ := s
  exact ⟨ad, cN, cK, cM, hs⟩
theorem ir_step (O : Iok F N fb fd id wd P X m sp lim Nv l0 K M) (h : IAt Z w F N fb fd i id wd P X m sp lim s) (I : Ipl F N id wd P X m sp lim Nv l0 K M s l d) (hd : 0 < d) (b g k : Nat) (hm : Mem w b g l k) (hb : ¬ Z b) (hg : ¬ Z g) (hk : k < 9223372036854775808) :
    Calls Try.prog 8 #[.pointer (some ⟨i, 0, none⟩), .pointer (some ⟨b, 0, none⟩)] w fun e w' => ∃ (s' : Is) (l' : List Cel), e = .returned (.bool (decide (d = 1))) ∧ Mem w' b g l' (k + 1) ∧ IAt (Zm Z w w') w' F N fb fd i id wd P X m sp lim s' ∧ Ipl F N id wd P X m sp lim Nv l0 K M s' l' (d - 1) ∧ Kept (fun j => Z j ∨ j = b ∨ j = g) w w' ∧ s'.two = s.two := by
  have hfl := frsN_len (F := F) (N := N) X m (Nv + 1)
  have hw1 := wrsN_len (F := F) (N := N) (id := id) (wd := wd) P (lpg X m sp (Nv + 1))
  have hw0 := wrsN_len (F := F) (N := N) (id := id) (wd := wd) P X
  have hml : m ≤ X.xs.length := by have := O.mid; omega
  have hll : (lpg X m sp (Nv + 1)).xs.length = m := lpg_length hml
  have hx := O.xl
  cases I with
  | tak0 hv =>
    rename_i N0 K0 M0
    refine (is_load F N fb fd i id wd P X m sp lim Z O.lim O.reach N0 Nv K0 K M0 M w h b g l0 k hm hb hg hk O.cell hv).mono ?_
    rintro e w' ⟨rfl, h1, h2, h3⟩
    refine ⟨_, _, by rw [show decide (2 + (frsN F N X m (Nv + 1)).length + (wrsN F N id wd P (lpg X m sp (Nv + 1))).length = 1) = false from by simp; omega], h1, h2, ?_, h3, rfl⟩
    rw [show 2 + (frsN F N X m (Nv + 1)).length + (wrsN F N id wd P (lpg X m sp (Nv + 1))).length - 1 = 1 + (frsN F N X m (Nv + 1)).length + (wrsN F N id wd P (lpg X m sp (Nv + 1))).length by omega]
    exact .tak1 hv
  | none hv =>
    rename_i N0 K0 M0
    refine (is_full F N fb fd i id wd P X m sp lim Z O.lim O.reach N0 Nv K0 K M0 M w h b g l0 k hm hb hg hk O.cell hv).mono ?_
    rintro e w' ⟨rfl, h1, h2, h3⟩
    exact ⟨_, _, rfl, h1, h2, .ful hv, h3, rfl⟩
  | tak1 hv =>
    have hsw : swaps l0 4 (Nv : Int) = true := by
      have hin : isIn l0 4 = true := by have := O.long; unfold isIn; simp; omega
      unfold swaps; rw [hin, O.cell]; simp
    refine (is_swap F N fb fd i id wd P X m sp lim Z O.lim O.reach Nv (Nv + 1) K M O.nv rfl hx.1 (by omega) O.xlv O.mid O.sz O.sep w h b g l0 k hm hb hg hk hsw).mono ?_
    rintro e w' ⟨rfl, h1, h2, h3⟩
    refine ⟨_, _, by rw [show decide (1 + (frsN F N X m (Nv + 1)).length + (wrsN F N id wd P (lpg X m sp (Nv + 1))).length = 1) = false from by simp; omega], h1, h2, ?_, h3, rfl⟩
    have := Ipl.fil (F := F) (N := N) (id := id) (wd := wd) (P := P) (X := X) (m := m) (sp := sp) (lim := lim) (Nv := Nv) (l0 := l0) (K := K) (M := M) (j := 0) hv (by omega)
    rw [List.take_zero] at this
    rw [show 1 + (frsN F N X m (Nv + 1)).length + (wrsN F N id wd P (lpg X m sp (Nv + 1))).length - 1 = (frsN F N X m (Nv + 1)).length - 0 + (wrsN F N id wd P (lpg X m sp (Nv + 1))).length by omega]
    exact this
  | fil hv hj =>
    rename_i j
    obtain ⟨ad, cN, cK, cM, hs⟩ := sto_ex2 hj
    have he := app_take (l := memT l0 Nv K M) hs
    by_cases hl : j + 1 = (frsN F N X m (Nv + 1)).length
    · refine (is_filled F N fb fd i id wd P X m sp lim Z O.lim O.reach (Nv + 1) j (by have := O.pl; omega) O.plv (by omega) O.xlv O.word ad cN cM cK hs w h b g _ k hm hb hg hk hl).mono ?_
      rintro e w' ⟨rfl, h1, h2, h3⟩
      refine ⟨_, _, by rw [show decide ((frsN F N X m (Nv + 1)).length - j + (wrsN F N id wd P (lpg X m sp (Nv + 1))).length = 1) = false from by simp; omega], h1, h2, ?_, h3, rfl⟩
      have := Ipl.wri1 (F := F) (N := N) (id := id) (wd := wd) (P := P) (X := X) (m := m) (sp := sp) (lim := lim) (Nv := Nv) (l0 := l0) (K := K) (M := M) (j := 0) hv (by omega)
      rw [List.take_zero, app_nil] at this
      rw [show (frsN F N X m (Nv + 1)).length - j + (wrsN F N id wd P (lpg X m sp (Nv + 1))).length - 1 = (wrsN F N id wd P (lpg X m sp (Nv + 1))).length - 0 by omega]
      have e2 : putAt (app (memT l0 Nv K M) ((frsN F N X m (Nv + 1)).take j)) ad (cN, cK, cM) = app (memT l0 Nv K M) (frsN F N X m (Nv + 1)) := by
        have e3 := he
        rw [hl, List.take_length] at e3; exact e3.symm
      rw [e2]; exact this
    · refine (is_fil F N fb fd i id wd P X m sp lim Z O.lim O.reach (Nv + 1) j (by have := O.pl; omega) O.plv (by omega) O.xlv O.word ad cN cM cK hs w h b g _ k hm hb hg hk (by omega)).mono ?_
      rintro e w' ⟨rfl, h1, h2, h3⟩
      refine ⟨_, _, by rw [show decide ((frsN F N X m (Nv + 1)).length - j + (wrsN F N id wd P (lpg X m sp (Nv + 1))).length = 1) = false from by simp; omega], h1, h2, ?_, h3, rfl⟩
      have := Ipl.fil (F := F) (N := N) (id := id) (wd := wd) (P := P) (X := X) (m := m) (sp := sp) (lim := lim) (Nv := Nv) (l0 := l0) (K := K) (M := M) (j := j + 1) hv (by omega)
      rw [he] at this
      rw [show (frsN F N X m (Nv + 1)).length - j + (wrsN F N id wd P (lpg X m sp (Nv + 1))).length - 1 = (frsN F N X m (Nv + 1)).length - (j + 1) + (wrsN F N id wd P (lpg X m sp (Nv + 1))).length by omega]
      exact this
  | wri1 hv hj =>
    rename_i j
    obtain ⟨ad, cN, cK, cM, hs⟩ := sto_ex2 hj
    have he := app_take (l := app (memT l0 Nv K M) (frsN F N X m (Nv + 1))) hs
    by_cases hl : j + 1 = (wrsN F N id wd P (lpg X m sp (Nv + 1))).length
    · refine (is_written1 F N fb fd i id wd P X m sp lim Z (Nv + 1) j (by omega) ad cN cM cK hs w h b g _ k hm hb hg hk hl).mono ?_
      rintro e w' ⟨rfl, h1, h2, h3⟩
      refine ⟨_, _, by rw [show decide ((wrsN F N id wd P (lpg X m sp (Nv + 1))).length - j = 1) = true from by simp; omega], h1, h2, ?_, h3, rfl⟩
      rw [show (wrsN F N id wd P (lpg X m sp (Nv + 1))).length - j - 1 = 0 by omega]
      have e2 : putAt (app (app (memT l0 Nv K M) (frsN F N X m (Nv + 1))) ((wrsN F N id wd P (lpg X m sp (Nv + 1))).take j)) ad (cN, cK, cM) = app (app (memT l0 Nv K M) (frsN F N X m (Nv + 1))) (wrsN F N id wd P (lpg X m sp (Nv + 1))) := by
        have e3 := he
        rw [hl, List.take_length] at e3; exact e3.symm
      rw [e2]; exact .don1 hv
    · refine (is_wri1 F N fb fd i id wd P X m sp lim Z (Nv + 1) j (by omega) ad cN cM cK hs w h b g _ k hm hb hg hk (by omega)).mono ?_
      rintro e w' ⟨rfl, h1, h2, h3⟩
      refine ⟨_, _, by rw [show decide ((wrsN F N id wd P (lpg X m sp (Nv + 1))).length - j = 1) = false from by simp; omega], h1, h2, ?_, h3, rfl⟩
      have := Ipl.wri1 (F := F) (N := N) (id := id) (wd := wd) (P := P) (X := X) (m := m) (sp := sp) (lim := lim) (Nv := Nv) (l0 := l0) (K := K) (M := M) (j := j + 1) hv (by omega)
      rw [he] at this
      rw [show (wrsN F N id wd P (lpg X m sp (Nv + 1))).length - j - 1 = (wrsN F N id wd P (lpg X m sp (Nv + 1))).length - (j + 1) by omega]
      exact this
  | wri0 hj =>
    rename_i j
    obtain ⟨ad, cN, cK, cM, hs⟩ := sto_ex2 hj
    have he := app_take (l := l0) hs
    by_cases hl : j + 1 = (wrsN F N id wd P X).length
    · refine (is_written0 F N fb fd i id wd P X m sp lim Z 0 j (by omega) ad cN cM cK hs w h b g _ k hm hb hg hk hl).mono ?_
      rintro e w' ⟨rfl, h1, h2, h3⟩
      refine ⟨_, _, by rw [show decide ((wrsN F N id wd P X).length - j = 1) = true from by simp; omega], h1, h2, ?_, h3, rfl⟩
      rw [show (wrsN F N id wd P X).length - j - 1 = 0 by omega]
      have e2 : putAt (app l0 ((wrsN F N id wd P X).take j)) ad (cN, cK, cM) = app l0 (wrsN F N id wd P X) := by
        have e3 := he
        rw [hl, List.take_length] at e3; exact e3.symm
      rw [e2]; exact .don0
    · refine (is_wri0 F N fb fd i id wd P X m sp lim Z 0 j (by omega) ad cN cM cK hs w h b g _ k hm hb hg hk (by omega)).mono ?_
      rintro e w' ⟨rfl, h1, h2, h3⟩
      refine ⟨_, _, by rw [show decide ((wrsN F N id wd P X).length - j = 1) = false from by simp; omega], h1, h2, ?_, h3, rfl⟩
      have := Ipl.wri0 (F := F) (N := N) (id := id) (wd := wd) (P := P) (X := X) (m := m) (sp := sp) (lim := lim) (Nv := Nv) (l0 := l0) (K := K) (M := M) (j := j + 1) (by omega)
      rw [he] at this
      rw [show (wrsN F N id wd P X).length - j - 1 = (wrsN F N id wd P X).length - (j + 1) by omega]
      exact this
  | don1 hv => omega
  | don0 => omega
  | ful hv => omega
/-- How many steps there are at most. -/
theorem Ipl.most (O : Iok F N fb fd id wd P X m sp lim Nv l0 K M) (I : Ipl F N id wd P X m sp lim Nv l0 K M s l d) : d ≤ X.xs.length + 11 := by
  have hfl := frsN_len (F := F) (N := N) X m (Nv + 1)
  have hw1 := wrsN_len (F := F) (N := N) (id := id) (wd := wd) P (lpg X m sp (Nv + 1))
  have hw0 := wrsN_len (F := F) (N := N) (id := id) (wd := wd) P X
  have hml : m ≤ X.xs.length := by have := O.mid; omega
  have hll : (lpg X m sp (Nv + 1)).xs.length = m := lpg_length hml
  cases I <;> omega
end
end Go.Proofs.Ythpaolhpkmgelaa
