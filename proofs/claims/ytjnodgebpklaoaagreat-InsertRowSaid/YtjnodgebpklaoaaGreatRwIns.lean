/-
 An Insert into a leaf of a row: its start and its steps whether or not it divides, and the memory behind it. Condition: a fanout of four to six.
-/
import Derived.Test.YtjnodgebpklaoaaGreatMgTrg
import Derived.Test.YtjnodgebpklaoaaGreatInRem
import Derived.Test.YtjnodgebpklaoaaGreatMgRes
namespace Go.Proofs.YtjnodgebpklaoaaGreat
section
open Go.RowKit Go.Deep Plain
set_option linter.unusedVariables false

structure Iw (F : Nat) (fb fd : Int) (id wd : Nat) (P X : Pg) (m : Nat) (sp : ByteArray) (lim Nv : Nat) (l0 : List Cel) : Prop where
 lm : Lim 1 2 (lim : Int) 100 200 (F : Int)
 reach : Reach3 10 fb fd
 pl : P.xs.length ≤ 900
 plv : P.lv < 9223372036854775808
 xl : X.xs.length ≤ 900
 word : wd < 18446744073709551616
 full : F < X.xs.length → Iok F (lim : Int) fb fd id wd P X m sp lim Nv l0 ⟨#[]⟩ 0
theorem new_startW (F : Nat) (fb fd : Int) (id wd lim Nv : Nat) (P : Pg) (A : Option Addr) (c : Nat) (key : ByteArray) (ref m : Nat) (sp : ByteArray) (l0 : List Cel) (w : World) (O : Iw F fb fd id wd P (npg P key ref) m sp lim Nv l0) (hR : Rs w A c P.xs) (ha : Asc P.xs) (hk : has key P.xs = false) :
  Calls Tryz.prog 18 #[.agg #[.int .i64 1, .int .i64 2, .int .i64 (lim : Int), .int .i64 100, .int .i64 200, .int .i64 (F : Int), .int .u64 1000, .int .i64 10, .int .i64 fb, .int .i64 fd], .agg #[.int .u64 (id : Int), .int .u64 (wd : Int), .int .i64 (P.lv : Int), .slice A P.xs.length c, .string P.hi, .bool P.la, .int .u64 (P.rt : Int)], .string key, .int .u64 (ref : Int)] w fun e w' => ∃ (i : Nat) (Z : Nat → Prop) (s : Is) (d : Nat), e = .returned (.pointer (some ⟨i, 0, none⟩)) ∧ IAt Z w' F (lim : Int) fb fd i id wd P (npg P key ref) m sp lim s ∧ Ipl F (lim : Int) id wd P (npg P key ref) m sp lim Nv l0 ⟨#[]⟩ 0 s l0 d ∧ s.two = decide (F < (npg P key ref).xs.length) ∧ 0 < d ∧ (∀ j, Z j → w.heap.size ≤ j ∧ j < w'.heap.size) ∧ Kept (fun _ => False) w w' := by
 by_cases hf : F < (npg P key ref).xs.length
 ·exact new_startG F fb fd id wd lim Nv P A c key ref m sp l0 w (O.full hf) hR ha hk
 ·have hw0 := wrsN_len (F := F) (N := (lim : Int)) (id := id) (wd := wd) P (npg P key ref)
  refine (newInsert_write (lim : Int) F fb fd O.lm O.reach id wd P A c key ref lim w (by have := O.pl; omega) O.plv O.word rfl hR ha hk (by omega)).mono ?_
  rintro e w' ⟨i, q, Zw, A1, c1, A2, c2, rfl, hI, hS, hGE, hK⟩
  have hI0 := Ipl.wri0 (F := F) (N := (lim : Int)) (id := id) (wd := wd) (P := P) (X := (npg P key ref)) (m := m) (sp := sp) (lim := lim) (Nv := Nv) (l0 := l0) (K := ⟨#[]⟩) (M := 0) (j := 0) (by omega)
  rw [List.take_zero, app_nil] at hI0
  exact ⟨i, fun j => j = i ∨ Zw j, _, _, rfl, IAt.wri0 hI hS (.inl rfl) (fun k hk => ⟨.inr hk, (hGE.2 k hk).2⟩), hI0, by simp [Is.two, hf], by omega, fun j hj => by
   rcases hj with hj | hj
   ·rw [hj]; exact ⟨hGE.1, hI.lt⟩
   ·exact ⟨(hGE.2 j hj).1, hS.lt j hj⟩, hK⟩
theorem ir_stepW {Z : Nat → Prop} {w : World} {F : Nat} {fb fd : Int} {i id wd : Nat} {P X : Pg} {m : Nat} {sp : ByteArray} {lim Nv : Nat} {l0 l : List Cel} {s : Is} {d : Nat} (O : Iw F fb fd id wd P X m sp lim Nv l0) (htw : s.two = decide (F < X.xs.length)) (h : IAt Z w F (lim : Int) fb fd i id wd P X m sp lim s) (I : Ipl F (lim : Int) id wd P X m sp lim Nv l0 ⟨#[]⟩ 0 s l d) (hd : 0 < d) (b g k : Nat) (hm : Mem w b g l k) (hb : ¬ Z b) (hg : ¬ Z g) (hk : k < 9223372036854775808) :
  Calls Tryz.prog 19 #[.pointer (some ⟨i, 0, none⟩), .pointer (some ⟨b, 0, none⟩)] w fun e w' => ∃ (s' : Is) (l' : List Cel), e = .returned (.bool (decide (d = 1))) ∧ Mem w' b g l' (k + 1) ∧ IAt (Zm Z w w') w' F (lim : Int) fb fd i id wd P X m sp lim s' ∧ Ipl F (lim : Int) id wd P X m sp lim Nv l0 ⟨#[]⟩ 0 s' l' (d - 1) ∧ Kept (fun j => Z j ∨ j = b ∨ j = g) w w' ∧ s'.two = s.two := by
 by_cases hf : F < X.xs.length
 ·exact ir_step (O.full hf) h I hd b g k hm hb hg hk
 ·rw [decide_eq_false hf] at htw
  have hw0 := wrsN_len (F := F) (N := (lim : Int)) (id := id) (wd := wd) P X
  have hx := O.xl
  cases I with
  | tak0 hv => cases htw
  | none hv => cases htw
  | tak1 hv => cases htw
  | fil hv hj => cases htw
  | wri1 hv hj => cases htw
  | wri0 hj =>
   rename_i j
   obtain ⟨ad, cN, cK, cM, hs⟩ := sto_ex2 hj
   have he := app_take (l := l0) hs
   by_cases hl : j + 1 = (wrsN F (lim : Int) id wd P X).length
   ·refine (is_written0 F (lim : Int) fb fd i id wd P X m sp lim Z 0 j (by omega) ad cN cM cK hs w h b g _ k hm hb hg hk hl).mono ?_
    rintro e w' ⟨rfl, h1, h2, h3⟩
    refine ⟨_, _, by rw [show decide ((wrsN F (lim : Int) id wd P X).length - j = 1) = true from by simp; omega], h1, h2, ?_, h3, rfl⟩
    rw [show (wrsN F (lim : Int) id wd P X).length - j - 1 = 0 by omega]
    have e2 : putAt (app l0 ((wrsN F (lim : Int) id wd P X).take j)) ad (cN, cK, cM) = app l0 (wrsN F (lim : Int) id wd P X) := by
     have e3 := he
     rw [hl, List.take_length] at e3; exact e3.symm
    rw [e2]; exact .don0
   ·refine (is_wri0 F (lim : Int) fb fd i id wd P X m sp lim Z 0 j (by omega) ad cN cM cK hs w h b g _ k hm hb hg hk (by omega)).mono ?_
    rintro e w' ⟨rfl, h1, h2, h3⟩
    refine ⟨_, _, by rw [show decide ((wrsN F (lim : Int) id wd P X).length - j = 1) = false from by simp; omega], h1, h2, ?_, h3, rfl⟩
    have := Ipl.wri0 (F := F) (N := (lim : Int)) (id := id) (wd := wd) (P := P) (X := X) (m := m) (sp := sp) (lim := lim) (Nv := Nv) (l0 := l0) (K := ⟨#[]⟩) (M := 0) (j := j + 1) (by omega)
    rw [he] at this
    rw [show (wrsN F (lim : Int) id wd P X).length - j - 1 = (wrsN F (lim : Int) id wd P X).length - (j + 1) by omega]
    exact this
  | don1 hv => omega
  | don0 => omega
  | ful hv => omega
end

section
open Go.RowKit Go.Deep Plain
set_option linter.unusedVariables false
theorem wsto_farR {la : Int} {ad : Nat → Int} {wb we : Nat} {l : List Cel} {P Q : Pg} {i : Int} (h1 : i ≠ la) (h2 : ∀ r, r < Q.xs.length + 3 → ad r ≠ i) : cellAt (app l (wsto la wb we (chg (pst ad P) (pst ad Q)))) i = cellAt l i := by
 rw [wsto_app, cellAt_other (Ne.symm h1), app_other _ _ (fun s hs => by
  obtain ⟨r, hr, rfl⟩ := chg_addr hs
  exact h2 r hr), cellAt_other (Ne.symm h1)]
theorem pst_farR {ad : Nat → Int} {l : List Cel} {Q : Pg} {i : Int} (h2 : ∀ r, r < Q.xs.length + 3 → ad r ≠ i) : cellAt (app l (pst ad Q)) i = cellAt l i :=
 app_other _ _ (fun s hs => by
  obtain ⟨r, hr, rfl⟩ := pst_addr hs
  exact h2 r hr)
theorem pst_holdsR {F : Nat} {la : Int} {ad : Nat → Int} {n : Nat} (ha : Ads F la ad n) {l : List Cel} (hn : l.length = n) {Q : Pg} (hQ : Q.xs.length ≤ F) : Holds ad (app l (pst ad Q)) Q := fun r hr => by
 have := pst_holds ha hn hQ (Q.xs.length + 3) (Nat.le_refl _) r hr
 rwa [List.take_of_length_le (by rw [pst_length]; exact Nat.le_refl _)] at this
theorem word_end {w0 : Nat} (h : w0 % 4 = 0) : unlockW (endW (beginW (lockW w0))) % 4 = 0 := by unfold unlockW endW beginW lockW; omega
theorem word_free {w0 : Nat} (h : w0 % 4 = 0) : unlockW (lockW w0) % 4 = 0 := by unfold unlockW lockW; omega
variable {F n kk : Nat} {R : List (Nat × Pg)} {l : List Cel} {key : ByteArray} {ref m : Nat} {sp : ByteArray} {t w0 : Nat} {P : Pg}
def lkd (F t w0 : Nat) (l : List Cel) : List Cel := putAt l (nla F t) (((lockW w0 : Nat) : Int), (⟨#[]⟩ : ByteArray), (0 : Int))
theorem lkd_nats (hn : Nats l) (hw : w0 < 18446744073709551616) : Nats (lkd F t w0 l) := hn.put _ ⟨lockW w0, 0, _, rfl, lockW_lt hw, by omega⟩
theorem RwS.free (h : RwS F n kk R l) (h4 : 4 ≤ F) (h6 : F ≤ 6) (htm : (t, P) ∈ R) (T : TgG F key l t w0 P) : RwS F n kk R (putAt (lkd F t w0 l) (nla F t) (((unlockW (lockW w0) : Nat) : Int), (⟨#[]⟩ : ByteArray), (0 : Int))) := by
 have hw := T.word h.nats
 have hin := T.in'
 refine h.rel h4 h6 htm (by unfold lkd; rw [putAt_length, putAt_length]; exact h.len) ((lkd_nats h.nats hw).put _ ⟨unlockW (lockW w0), 0, _, rfl, unlockW_lt (lockW_lt hw), by omega⟩) (word_free T.free) ?_ fun i hi => ?_
 ·rw [cellAt_same (by unfold lkd; rw [putAt_length]; exact hin)]
 ·unfold lkd; rw [cellAt_other (Ne.symm hi), cellAt_other (Ne.symm hi)]
theorem RwS.iw (h : RwS F n kk R l) (h4 : 4 ≤ F) (h6 : F ≤ 6) (ht : atR key R = some (t, P)) (T : TgG F key l t w0 P) {fb fd : Int} (hd : Reach3 10 fb fd) (hh : has key P.xs = false) (hks : key.size ≤ 1000) (hsz : ∀ x ∈ allS R, x.1.size ≤ 1000) (ref : Nat) :
  ∃ m sp, Iw F fb fd t (lockW w0) P (npg P key ref) m sp 100 kk (lkd F t w0 l) ∧ (F < (npg P key ref).xs.length → Hv F (npg P key ref) m sp) := by
 have htm := atR_mem ht
 obtain ⟨lo, p⟩ := h.page htm
 have hpl : P.xs.length ≤ F := p.len
 have hXl := npg_length P key ref
 have hw := T.word h.nats
 have hin := T.in'
 have hrm := h.room
 have hln := h.len
 have hX : Asc (npg P key ref).xs := ins_asc _ _ p.asc hh
 have hlv : (npg P key ref).lv = 0 := p.lv
 obtain ⟨m, hm⟩ : ∃ m, m = (npg P key ref).xs.length - (npg P key ref).xs.length / 2 := ⟨_, rfl⟩
 have hlv2 : P.lv = 0 := p.lv
 by_cases hf : F < (npg P key ref).xs.length
 ·obtain ⟨sp, hsp⟩ := sepr_ex (npg P key ref).lv (npg P key ref).xs m (by omega) (by omega)
  have O : Iok F 100 fb fd t (lockW w0) P (npg P key ref) m sp 100 kk (lkd F t w0 l) ⟨#[]⟩ 0 := {
   lim := limF h4 h6, reach := hd, pl := by omega, plv := by omega, xl := by omega, xlv := by omega, word := lockW_lt hw, mid := hm,
   sz := fun x hx => by
    rcases ins_mem.1 hx with rfl | hx
    ·exact hks
    ·exact hsz x (mem_allS htm hx)
   sep := hsp, nv := by have := h.k100; omega, long := by unfold lkd; rw [putAt_length]; omega,
   cell := by
    have hp := nla_rng h4 h6 T.one T.top
    unfold lkd; rw [cellAt_other (by omega)]; exact h.c4 }
  rw [hlv] at hsp
  exact ⟨m, sp, ⟨O.lim, hd, O.pl, O.plv, by omega, O.word, fun _ => O⟩, fun _ => hv_of hX hsp (by omega) (by omega) (by omega) (by omega)⟩
 ·exact ⟨m, ⟨#[]⟩, ⟨limF h4 h6, hd, by omega, by omega, by omega, lockW_lt hw, fun h => absurd h hf⟩, fun h => absurd h hf⟩
theorem RwS.ins0 (h : RwS F n kk R l) (h4 : 4 ≤ F) (h6 : F ≤ 6) (ht : atR key R = some (t, P)) (T : TgG F key l t w0 P) (hh : has key P.xs = false) (hF : ¬ F < (npg P key ref).xs.length) (hrf : ref < 18446744073709551616) :
  RwS F n kk (putR F key ref 0 m sp R) (putAt (app (lkd F t w0 l) (wrsN F 100 t (lockW w0) P (npg P key ref))) (nla F t) (((unlockW (endW (beginW (lockW w0))) : Nat) : Int), (⟨#[]⟩ : ByteArray), (0 : Int))) := by
 have htm := atR_mem ht
 obtain ⟨lo, p⟩ := h.page htm
 have hpl : P.xs.length ≤ F := p.len
 have hw := T.word h.nats
 have hin := T.in'
 have hfx : Fits (npg P key ref) := fits_npg (h.fits _ htm) (by omega) hrf
 have ha : Ads F (nla F t) (nad F t) n := ads_of h4 h6 T.one T.top h.room
 have had : ∀ r, r < F + 3 → nad F t r = nla F t + 1 + (r : Int) := fun r hr => nad_eq T.one T.top hr
 have hll : (lkd F t w0 l).length = n := by unfold lkd; rw [putAt_length]; exact h.len
 have hP1 : Holds (nad F t) (lkd F t w0 l) P := fun r hr => by
  unfold lkd; rw [cellAt_other (Ne.symm (ha.ne r (by omega)))]; exact h.hold _ htm r hr
 have hX1 : Holds (nad F t) (app (lkd F t w0 l) (wrsN F 100 t (lockW w0) P (npg P key ref))) (npg P key ref) := wsto_holds ha hll hP1 hpl (by omega)
 have hN1 : Nats (app (lkd F t w0 l) (wrsN F 100 t (lockW w0) P (npg P key ref))) := (lkd_nats h.nats hw).app (wsto_nats (beginW_lt (lockW_lt hw)) (endW_lt _) (hfx.chgN _ _))
 have hl1 : (app (lkd F t w0 l) (wrsN F 100 t (lockW w0) P (npg P key ref))).length = n := by rw [app_length]; exact hll
 have hfar1 : ∀ i : Int, (∀ j : Nat, j < F + 4 → i ≠ nla F t + (j : Int)) → cellAt (app (lkd F t w0 l) (wrsN F 100 t (lockW w0) P (npg P key ref))) i = cellAt l i := fun i hi => by
  have h0 := hi 0 (by omega)
  refine (wsto_farR (la := nla F t) (ad := nad F t) (by omega) (fun r hr => ?_)).trans ?_
  ·have h1 := had r (by omega)
   have h2 := hi (r + 1) (by omega)
   omega
  ·unfold lkd; rw [cellAt_other (by omega)]
 generalize app (lkd F t w0 l) (wrsN F 100 t (lockW w0) P (npg P key ref)) = l1 at *
 refine h.upd0 h4 h6 ht hh hF hrf (by rw [putAt_length]; exact hl1) (hN1.put _ ⟨_, 0, _, rfl, unlockW_lt (endW_lt _), by omega⟩) (fun r hr => ?_) (word_end T.free) (cellAt_same (by rw [hl1]; exact ha.lat) _) fun i hi => ?_
 ·rw [cellAt_other (Ne.symm (ha.ne r (by omega)))]; exact hX1 r hr
 ·have h0 := hi 0 (by omega)
  rw [cellAt_other (by omega)]; exact hfar1 i hi
end
end Go.Proofs.YtjnodgebpklaoaaGreat
