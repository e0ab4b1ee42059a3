/-
 The memory of a row behind an Insert that has divided a leaf, and its two Releases. Condition: a fanout of four to six.
-/
import Derived.Test.YtjnodgebpklaoaaGreatRwIns
import Derived.Test.YtjnodgebpklaoaaGreatLkKeys
import Derived.Test.YtjnodgebpklaoaaGreatLkSndA
namespace Go.Proofs.YtjnodgebpklaoaaGreat
section
open Go.RowKit Go.Deep Plain
set_option linter.unusedVariables false
variable {F n kk : Nat} {R : List (Nat × Pg)} {l : List Cel} {key : ByteArray} {ref m : Nat} {sp : ByteArray} {t w0 : Nat} {P : Pg}
def twoM (F : Nat) (l : List Cel) (t w0 kk : Nat) (P X : Pg) (m : Nat) (sp : ByteArray) : List Cel :=
 app (app (memT (lkd F t w0 l) kk ⟨#[]⟩ 0) (frsN F 100 X m (kk + 1))) (wrsN F 100 t (lockW w0) P (lpg X m sp (kk + 1)))
theorem RwS.ins1 (h : RwS F n kk R l) (h4 : 4 ≤ F) (h6 : F ≤ 6) (ht : atR key R = some (t, P)) (T : TgG F key l t w0 P) (hh : has key P.xs = false) (hF : F < (npg P key ref).xs.length) (hv : Hv F (npg P key ref) m sp) (hrf : ref < 18446744073709551616) (h100 : kk < 100) :
  RwS F n (kk + 1) (putR F key ref (kk + 1) m sp R) (putAt (putAt (twoM F l t w0 kk P (npg P key ref) m sp) (nla F t) (((unlockW (endW (beginW (lockW w0))) : Nat) : Int), (⟨#[]⟩ : ByteArray), (0 : Int))) (nla F (kk + 1)) (((unlockW 1 : Nat) : Int), (⟨#[]⟩ : ByteArray), (0 : Int))) := by
 have htm := atR_mem ht
 obtain ⟨lo, p⟩ := h.page htm
 have hpl : P.xs.length ≤ F := p.len
 have hw := T.word h.nats
 have hin := T.in'
 have htn : 1 ≤ t ∧ t ≤ kk := h.num _ htm
 have hfx : Fits (npg P key ref) := fits_npg (h.fits _ htm) (by omega) hrf
 have hfl : Fits (lpg (npg P key ref) m sp (kk + 1)) := fits_lpg hfx (by omega)
 have hfr : Fits (rpg (npg P key ref) m) := fits_rpg hfx
 have hYl : (lpg (npg P key ref) m sp (kk + 1)).xs.length ≤ F := by rw [lpg_length (Nat.le_of_lt hv.m2)]; exact hv.mF
 have hRl : (rpg (npg P key ref) m).xs.length ≤ F := by rw [rpg_length]; exact hv.rF
 have ha : Ads F (nla F t) (nad F t) n := ads_of h4 h6 T.one T.top h.room
 have hb : Ads F (nla F (kk + 1)) (nad F (kk + 1)) n := ads_of h4 h6 (by omega) (by omega) h.room
 have had : ∀ r, r < F + 3 → nad F t r = nla F t + 1 + (r : Int) := fun r hr => nad_eq T.one T.top hr
 have hbd : ∀ r, r < F + 3 → nad F (kk + 1) r = nla F (kk + 1) + 1 + (r : Int) := fun r hr => nad_eq (by omega) (by omega) hr
 have hap : nla F t + (F : Int) + 4 ≤ nla F (kk + 1) := nla_far h4 h6 T.one (by omega) (by omega)
 have hr1 := nla_rng h4 h6 T.one T.top
 have hr2 := nla_rng h4 h6 (n := kk + 1) (by omega) (by omega)
 have hln := h.len
 have hrm := h.room
 have hll : (lkd F t w0 l).length = n := by unfold lkd; rw [putAt_length]; exact h.len
 have hP1 : Holds (nad F t) (lkd F t w0 l) P := fun r hr => by
  unfold lkd; rw [cellAt_other (Ne.symm (ha.ne r (by omega)))]; exact h.hold _ htm r hr
 have hfk : ∀ i : Int, i ≠ nla F t → cellAt (lkd F t w0 l) i = cellAt l i := fun i hi => by unfold lkd; rw [cellAt_other (Ne.symm hi)]
 have hN0 : Nats (lkd F t w0 l) := lkd_nats h.nats hw
 unfold twoM memT
 generalize lkd F t w0 l = lk at *
 have e1 : frsN F 100 (npg P key ref) m (kk + 1) = pst (nad F (kk + 1)) (rpg (npg P key ref) m) ++ [(nla F (kk + 1), ((1 : Int), (⟨#[]⟩ : ByteArray), (0 : Int)))] := rfl
 have e2 : wrsN F 100 t (lockW w0) P (lpg (npg P key ref) m sp (kk + 1)) = wsto (nla F t) (beginW (lockW w0)) (endW (beginW (lockW w0))) (chg (pst (nad F t) P) (pst (nad F t) (lpg (npg P key ref) m sp (kk + 1)))) := rfl
 rw [e1, e2, app_snoc]
 generalize hl1 : putAt (app (putAt lk 4 (((kk + 1 : Nat) : Int), (⟨#[]⟩ : ByteArray), (0 : Int))) (pst (nad F (kk + 1)) (rpg (npg P key ref) m))) (nla F (kk + 1)) ((1 : Int), (⟨#[]⟩ : ByteArray), (0 : Int)) = l1
 have hn1 : l1.length = n := by rw [← hl1, putAt_length, app_length, putAt_length]; exact hll
 have hN1 : Nats l1 := by
  rw [← hl1]
  exact ((hN0.put _ ⟨kk + 1, 0, _, rfl, by omega, by omega⟩).app (hfr.pstN _)).put _ ⟨1, 0, _, rfl, by omega, by omega⟩
 have far1 : ∀ i : Int, i ≠ 4 → (∀ j : Nat, j < F + 4 → i ≠ nla F (kk + 1) + (j : Int)) → cellAt l1 i = cellAt lk i := fun i h0 hi => by
  have h1 := hi 0 (by omega)
  rw [← hl1, cellAt_other (by omega), pst_farR (fun r hr => by
   have h1 := hbd r (by omega)
   have h2 := hi (r + 1) (by omega)
   omega), cellAt_other (Ne.symm h0)]
 have c41 : cellAt l1 4 = (((kk + 1 : Nat) : Int), (⟨#[]⟩ : ByteArray), (0 : Int)) := by
  rw [← hl1, cellAt_other (by omega), pst_farR (fun r hr => by have h1 := hbd r (by omega); omega), cellAt_same (by omega)]
 have hP2 : Holds (nad F t) l1 P := fun r hr => by
  have h1 := had r (by omega)
  rw [far1 _ (by omega) (fun j hj => by omega)]; exact hP1 r hr
 have hR1 : Holds (nad F (kk + 1)) l1 (rpg (npg P key ref) m) := fun r hr => by
  have h1 := hbd r (by omega)
  rw [← hl1, cellAt_other (by omega)]
  exact pst_holdsR hb (by rw [putAt_length]; exact hll) hRl r hr
 have hX1 := wsto_holds (wb := beginW (lockW w0)) (we := endW (beginW (lockW w0))) ha hn1 hP2 hpl hYl
 have hN2 := hN1.app (wsto_nats (la := nla F t) (beginW_lt (lockW_lt hw)) (endW_lt (beginW (lockW w0))) (hfl.chgN (pst (nad F t) P) (nad F t)))
 have hfar : ∀ i : Int, (∀ j : Nat, j < F + 4 → i ≠ nla F t + (j : Int)) → cellAt (app l1 (wsto (nla F t) (beginW (lockW w0)) (endW (beginW (lockW w0))) (chg (pst (nad F t) P) (pst (nad F t) (lpg (npg P key ref) m sp (kk + 1)))))) i = cellAt l1 i := fun i hi => by
  have h0 := hi 0 (by omega)
  refine wsto_farR (by omega) (fun r hr => ?_)
  have h1 := had r (by omega)
  have h2 := hi (r + 1) (by omega)
  omega
 have hn2 : (app l1 (wsto (nla F t) (beginW (lockW w0)) (endW (beginW (lockW w0))) (chg (pst (nad F t) P) (pst (nad F t) (lpg (npg P key ref) m sp (kk + 1)))))).length = n := by rw [app_length]; exact hn1
 generalize app l1 (wsto (nla F t) (beginW (lockW w0)) (endW (beginW (lockW w0))) (chg (pst (nad F t) P) (pst (nad F t) (lpg (npg P key ref) m sp (kk + 1))))) = l2 at *
 have hla := ha.lat
 have hlb := hb.lat
 refine h.upd1 h4 h6 ht hh hF hv hrf rfl h100 (by rw [putAt_length, putAt_length]; exact hn2) ((hN2.put _ ⟨_, 0, _, rfl, unlockW_lt (endW_lt _), by omega⟩).put _ ⟨_, 0, _, rfl, unlockW_lt (by omega), by omega⟩) (fun r hr => ?_) (fun r hr => ?_) (word_end T.free) ?_ (wd2 := unlockW 1) (by decide) ?_ ?_ fun i h0 hi => ?_
 ·have h1 := had r (by omega)
  rw [cellAt_other (by omega), cellAt_other (by omega)]; exact hX1 r hr
 ·have h1 := hbd r (by omega)
  rw [cellAt_other (by omega), cellAt_other (by omega), hfar _ (fun j hj => by omega)]; exact hR1 r hr
 ·rw [cellAt_other (by omega), cellAt_same (by omega)]
 ·rw [cellAt_same (by rw [putAt_length]; omega)]
 ·rw [cellAt_other (by omega), cellAt_other (by omega), hfar 4 (fun j hj => by omega)]; exact c41
 ·have h1 := (hi 0 (by omega)).1
  have h2 := (hi 0 (by omega)).2
  rw [cellAt_other (by omega), cellAt_other (by omega), hfar i (fun j hj => (hi j hj).1), far1 i h0 (fun j hj => (hi j hj).2), hfk i (by omega)]
end
end Go.Proofs.YtjnodgebpklaoaaGreat
namespace Go.Proofs.YtjnodgebpklaoaaGreat
section
open Go.RowKit Go.Deep Plain
set_option linter.unusedVariables false
theorem Lrs.last {F : Nat} {key : ByteArray} {lvl : Nat} {l : List Cel} {t w0 : Nat} {P : Pg} {s : Ls} {m : List Cel} (h : Lrs F key lvl l t w0 P 0 s m) : s = .lck t (lockW w0) (got P (P.xs.length + 3)) ∧ m = lkd F t w0 l := by
 generalize hz : 0 = z at h
 cases h with
 | fnd h => omega
 | seek hN => omega
 | ready => omega
 | own hr => omega
 | lck => exact ⟨rfl, rfl⟩
theorem Rdv.keptL {w w' : World} {B : Nat} {v : Value} {n : Nat} {xs : List Value} (h : Rdv w B v n xs) (hk : Kept (fun i => B ≤ i) w w') (hB : B ≤ w.heap.size) : Rdv w' w'.heap.size v n xs := by
 obtain ⟨A, c, e, h1, h2, h3⟩ := h
 refine ⟨A, c, e, h1, h2, fun hp => ?_⟩
 obtain ⟨g, off, e2, hg, hc⟩ := h3 hp
 have := hk.size
 exact ⟨g, off, e2, by omega, fun j u hu => (hk.cell (p := ⟨g, off + j, none⟩) (show g < _ by omega) (fun h => by have h2 : B ≤ g := h; omega)).trans (hc j u hu)⟩
structure RwK (F n kk : Nat) (R : List (Nat × Pg)) (l : List Cel) (ks : List ByteArray) : Prop where
 s : RwS F n kk R l
 cnt : (allS R).length = ks.length
 key : ∀ (j : Nat) (k : ByteArray), ks[j]? = some k → (k, j + 1) ∈ allS R
 bd : ∀ x ∈ allS R, 1 ≤ x.2 ∧ x.2 ≤ ks.length
 nod : ((allS R).map Prod.snd).Nodup
 sz : ∀ x ∈ allS R, x.1.size ≤ 32
 few : kk ≤ ks.length + 1
section
variable {F n kk : Nat} {R : List (Nat × Pg)} {l : List Cel} {ks : List ByteArray} {key : ByteArray} {m : Nat} {sp : ByteArray} {t w0 : Nat} {P : Pg}
theorem RwK.start (h4 : 4 ≤ F) (h6 : F ≤ 6) (S0 : Start F l) (hr : cellAt l 0 = (((1 : Nat) : Int), (⟨#[]⟩ : ByteArray), (0 : Int)) ∧ cellAt l 4 = (((1 : Nat) : Int), (⟨#[]⟩ : ByteArray), (0 : Int))) : RwK F l.length 1 [(1, pg0)] l [] where
 s := {
  len := rfl, room := S0.lo, nats := S0.nats, row := ⟨rfl, rfl, ⟨rfl, fun _ => rfl, Nat.zero_le _, trivial, fun x hx => (by cases hx), fun x hx => (by cases hx)⟩⟩,
  nod := by simp, fst := rfl,
  hold := fun x hx => by rw [List.mem_singleton.1 hx]; exact (S0.one h4 h6).1
  lat := fun x hx => by rw [List.mem_singleton.1 hx]; exact ⟨0, rfl, (S0.one h4 h6).2⟩
  num := fun x hx => by rw [List.mem_singleton.1 hx]; exact ⟨Nat.le_refl _, Nat.le_refl _⟩
  cnt := Nat.le_refl _, k100 := by omega,
  fits := fun x hx => by rw [List.mem_singleton.1 hx]; exact fits0
  c0 := hr.1, c4 := hr.2,
  far := fun i hi => S0.zero i (by omega) (by omega) (by
   have h1 := nad_eq (F := F) (nid := 1) (r := 1) (by omega) (by omega) (by omega)
   have h2 := nla_rng h4 h6 (n := 1) (by omega) (by omega)
   have h3 := nla_eq (F := F) (nid := 1) (by omega) (by omega)
   rcases hi with a | a | a <;> omega) }
 cnt := rfl
 key := fun j k h => by cases h
 bd := fun x hx => by cases hx
 nod := List.nodup_nil
 sz := fun x hx => by cases hx
 few := Nat.le_refl _
theorem RwK.free (h : RwK F n kk R l ks) (h4 : 4 ≤ F) (h6 : F ≤ 6) (htm : (t, P) ∈ R) (T : TgG F key l t w0 P) : RwK F n kk R (putAt (lkd F t w0 l) (nla F t) (((unlockW (lockW w0) : Nat) : Int), (⟨#[]⟩ : ByteArray), (0 : Int))) ks :=
 ⟨h.s.free h4 h6 htm T, h.cnt, h.key, h.bd, h.nod, h.sz, h.few⟩
theorem RwK.more (h : RwK F n kk R l ks) {id k2 : Nat} {l' : List Cel} (hS : RwS F n k2 (putR F key (ks.length + 1) id m sp R) l') (hks : key.size ≤ 32) (hk2 : k2 ≤ kk + 1) : RwK F n k2 (putR F key (ks.length + 1) id m sp R) l' (ks ++ [key]) := by
 have he : allS (putR F key (ks.length + 1) id m sp R) = ins (key, ks.length + 1) (allS R) := allS_put h.s.row
 refine ⟨hS, ?_, fun j k hj => ?_, fun x hx => ?_, ?_, fun x hx => ?_, ?_⟩
 ·rw [he, ins_length, h.cnt, List.length_append]; rfl
 ·rw [he]
  rcases Nat.lt_or_ge j ks.length with a | a
  ·rw [List.getElem?_append_left a] at hj
   exact ins_mem.2 (.inr (h.key j k hj))
  ·rw [List.getElem?_append_right a] at hj
   have hj0 : j = ks.length := by
    rcases Nat.eq_zero_or_pos (j - ks.length) with e | e
    ·omega
    ·rw [List.getElem?_eq_none (show 1 ≤ j - ks.length by omega)] at hj; cases hj
   subst hj0
   rw [Nat.sub_self] at hj
   cases hj
   exact ins_mem.2 (.inl rfl)
 ·rw [he] at hx
  rw [List.length_append]
  rcases ins_mem.1 hx with rfl | hx
  ·exact ⟨by show 1 ≤ ks.length + 1; omega, by show ks.length + 1 ≤ ks.length + 1; omega⟩
  ·have := h.bd x hx
   exact ⟨this.1, by show x.2 ≤ ks.length + 1; omega⟩
 ·rw [he]
  refine ((ins_perm (key, ks.length + 1) (allS R)).map Prod.snd).nodup_iff.2 ?_
  refine List.nodup_cons.2 ⟨fun hx => ?_, h.nod⟩
  obtain ⟨x, hx, e⟩ := List.mem_map.1 hx
  have := (h.bd x hx).2
  have e2 : x.2 = ks.length + 1 := e
  omega
 ·rw [he] at hx
  rcases ins_mem.1 hx with rfl | hx
  ·exact hks
  ·exact h.sz x hx
 ·rw [List.length_append]; have := h.few; show k2 ≤ ks.length + 1 + 1; omega
theorem RwK.put0 (h : RwK F n kk R l ks) (h4 : 4 ≤ F) (h6 : F ≤ 6) (ht : atR key R = some (t, P)) (T : TgG F key l t w0 P) (hh : has key P.xs = false) (hks : key.size ≤ 32) (hl : ks.length < 1000) (hF : ¬ F < (npg P key (ks.length + 1)).xs.length) :
  RwK F n kk (putR F key (ks.length + 1) 0 m sp R) (putAt (app (lkd F t w0 l) (wrsN F 100 t (lockW w0) P (npg P key (ks.length + 1)))) (nla F t) (((unlockW (endW (beginW (lockW w0))) : Nat) : Int), (⟨#[]⟩ : ByteArray), (0 : Int))) (ks ++ [key]) :=
 h.more (h.s.ins0 h4 h6 ht T hh hF (by omega)) hks (by omega)
theorem RwK.put1 (h : RwK F n kk R l ks) (h4 : 4 ≤ F) (h6 : F ≤ 6) (ht : atR key R = some (t, P)) (T : TgG F key l t w0 P) (hh : has key P.xs = false) (hks : key.size ≤ 32) (hl : ks.length < 99) (hF : F < (npg P key (ks.length + 1)).xs.length) (hv : Hv F (npg P key (ks.length + 1)) m sp) :
  RwK F n (kk + 1) (putR F key (ks.length + 1) (kk + 1) m sp R) (putAt (putAt (twoM F l t w0 kk P (npg P key (ks.length + 1)) m sp) (nla F t) (((unlockW (endW (beginW (lockW w0))) : Nat) : Int), (⟨#[]⟩ : ByteArray), (0 : Int))) (nla F (kk + 1)) (((unlockW 1 : Nat) : Int), (⟨#[]⟩ : ByteArray), (0 : Int))) (ks ++ [key]) :=
 h.more (h.s.ins1 h4 h6 ht T hh hF hv (by omega) (by have := h.few; omega)) hks (by omega)
theorem RwK.poke (h : RwK F n kk R l ks) (h4 : 4 ≤ F) (h6 : F ≤ 6) (hk : ks.length ≤ 1000) : RwK F n kk R (putAt l 5 ((ks.length : Int), (⟨#[]⟩ : ByteArray), (0 : Int))) ks ∧ Rest F ks.length (putAt l 5 ((ks.length : Int), (⟨#[]⟩ : ByteArray), (0 : Int))) := by
 have hr := h.s.room
 have hl := h.s.len
 have hoth : ∀ i : Int, i ≠ 5 → cellAt (putAt l 5 ((ks.length : Int), (⟨#[]⟩ : ByteArray), (0 : Int))) i = cellAt l i := fun i hi => cellAt_other (Ne.symm hi) _
 have hn : ∀ x ∈ R, 1 ≤ x.1 ∧ x.1 ≤ 100 := fun x hx => by have h1 := h.s.num x hx; have h2 := h.s.k100; omega
 refine ⟨⟨{
  len := by rw [putAt_length]; exact hl
  room := hr
  nats := h.s.nats.put _ ⟨ks.length, 0, _, rfl, by omega, by omega⟩
  row := h.s.row
  nod := h.s.nod
  fst := h.s.fst
  hold := fun x hx r hr2 => by
   have h1 := hn x hx
   have h2 := nla_rng h4 h6 h1.1 h1.2
   have h3 := (h.s.page hx).choose_spec.len
   have h5 := nad_eq (F := F) h1.1 h1.2 (r := r) (by omega)
   rw [hoth _ (by omega)]; exact h.s.hold x hx r hr2
  lat := fun x hx => by
   obtain ⟨wd, a, c⟩ := h.s.lat x hx
   have h1 := hn x hx
   have h2 := nla_rng h4 h6 h1.1 h1.2
   exact ⟨wd, a, by rw [hoth _ (by omega)]; exact c⟩
  num := h.s.num
  cnt := h.s.cnt
  k100 := h.s.k100
  fits := h.s.fits
  c0 := by rw [hoth 0 (by omega)]; exact h.s.c0
  c4 := by rw [hoth 4 (by omega)]; exact h.s.c4
  far := fun i hi => by rw [hoth i (by omega)]; exact h.s.far i hi }, h.cnt, h.key, h.bd, h.nod, h.sz, h.few⟩, fun i hi => ?_, ?_⟩
 ·rw [hoth i (by omega)]; exact h.s.far i hi
 ·rw [cellAt_same (by omega)]
theorem RwK.found (h : RwK F n kk R l ks) {j : Nat} {k : ByteArray} (hj : ks[j]? = some k) : ∃ (t : Nat) (P : Pg), atR k R = some (t, P) ∧ (t, P) ∈ R ∧ (k, j + 1) ∈ P.xs := by
 obtain ⟨⟨t, P⟩, h1, h2, h3⟩ := h.s.row.at k
 exact ⟨t, P, h1, h2, h.s.row.mem_at _ (h.key j k hj) t P h1⟩
theorem RwK.refs (h : RwK F n kk R l ks) : RefsG (rRw R) (ksRw R).length := refs_of (fun x hx => by rw [h.cnt]; exact h.bd x hx) h.nod
theorem RwK.klen (h : RwK F n kk R l ks) : (ksRw R).length = ks.length := by rw [ksRw_len, h.cnt]
end
end
end Go.Proofs.YtjnodgebpklaoaaGreat
namespace Go.Proofs.YtjnodgebpklaoaaGreat
open Go.RowKit Go.Deep Plain
set_option linter.unusedVariables false

theorem infoStr : (Tryz.prog.info? 9).map (fun i => (i.zero, i.size, i.bytes)) = some (some (.string ByteArray.empty), 1, 16) := by kernel_rfl
theorem pfield2 (lv : Int) (A : Option Addr) (n c : Nat) (hi : ByteArray) (la : Bool) (rt : Int) (w : World) : (Instr.field 38 (.agg #[.int .i64 lv, .slice A n c, .string hi, .bool la, .int .u64 rt]) 2).run Tryz.prog w = .ok (.string hi) w := by kernel_rfl
theorem pfield3 (lv : Int) (A : Option Addr) (n c : Nat) (hi : ByteArray) (la : Bool) (rt : Int) (w : World) : (Instr.field 38 (.agg #[.int .i64 lv, .slice A n c, .string hi, .bool la, .int .u64 rt]) 3).run Tryz.prog w = .ok (.bool la) w := by kernel_rfl
def lows0 (lo : Nat → ByteArray) (j : Nat) : List ByteArray := (List.range j).map lo
def strv (ks : List ByteArray) : List Value := ks.map fun k => Value.string k
theorem lows0_step (lo : Nat → ByteArray) (j : Nat) : strv (lows0 lo (j + 1)) = strv (lows0 lo j) ++ [.string (lo j)] := by
 unfold lows0 strv; rw [List.range_succ, List.map_append, List.map_append]; rfl
theorem lows0_at (lo : Nat → ByteArray) {i j : Nat} (h : i < j) : (strv (lows0 lo j))[i]? = some (.string (lo i)) := by
 unfold lows0 strv; rw [List.getElem?_map, List.getElem?_map, List.getElem?_range h]; rfl
theorem strs_slice {w : World} {base n : Nat} {v : Value} {xs : List Value} (h : w.ownsRow base 9 1 v n xs) : ∃ A c, v = .slice A n c := by
 rcases h.2 with ⟨rfl, rfl⟩ | ⟨g, cap, cur, rfl, _⟩
 ·exact ⟨none, 0, rfl⟩
 ·exact ⟨_, cap, rfl⟩
end Go.Proofs.YtjnodgebpklaoaaGreat
