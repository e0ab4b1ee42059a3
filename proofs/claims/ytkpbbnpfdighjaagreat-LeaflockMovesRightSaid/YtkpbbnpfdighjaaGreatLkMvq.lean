/-
  The start of the law's loop: the pages that the split makes, what lies in the memory, and the world with the machines just made. Condition: a fanout of four to six.
-/
import Derived.Test.YtkpbbnpfdighjaaGreatLkMvw
import Derived.Test.YtkpbbnpfdighjaaGreatLkSplit
namespace Go.Proofs.YtkpbbnpfdighjaaGreat
open Go.RowKit Go.Deep Plain
set_option linter.unusedVariables false

section
variable {F n0 B b g : Nat} {W0 : World} {fb fd : Int} {key : ByteArray} {P Q R : Pg} {x qf qw rr : Nat} {w w' : World} {l : List Cel} {ks : List ByteArray}
theorem mw_start (M : Mvx F n0 key P Q R 0 0 l (.fnd .root)) {ac B1 B2 B3 r0 : Nat} {p1 : Value} {Zx Zf Zw : Nat → Prop} (hm : Mem w b g l ac) (hac : ac = 0) (hx : LAt Zx w F fb fd x key 0 (.fnd .root)) (hf : Stm Zf w qf 108 (frs F R) 0 2 1 R) (hw : Stm Zw w qw 110 (wrs F P Q) 0 1 5 Q)
    (hrow : Blk w rr 57 [.pointer (some ⟨r0, 0, none⟩), p1]) (hr0 : RelB w r0 (nla F 2) 1 false)
    (zx : ∀ i, Zx i → B ≤ i ∧ i < B1) (zf : ∀ i, Zf i → B1 ≤ i ∧ i < B2) (zw : ∀ i, Zw i → B2 ≤ i ∧ i < B3) (hr03 : B3 ≤ r0) (hrr : r0 < rr) (hb : b < B) (hg : g < B) (hB1 : B ≤ B1) (hB2 : B1 ≤ B2) (hB3 : B2 ≤ B3) : MW F n0 B b g w fb fd key P Q R x qf qw rr 0 0 false (.fnd .root) 0 w := by
  subst hac
  have h1 := hm.obj.lt
  have h2 := hm.row.lt
  have h3 := hrow.lt
  have h4 := hr0.lt
  refine ⟨l, 0, r0, p1, Zx, Zf, Zw, fun i => if i = b ∨ i = g then 1 else if i < B then 0 else if i < B1 then 2 else if i < B2 then 3 else if i < B3 then 4 else if i = r0 then 6 else if i = rr then 5 else 0, { plain := M, mem := hm, ac := Nat.le_refl _, lock := hx, fr := fun _ => hf, wr := fun _ => hw, row := hrow, r0m := fun _ => hr0, r1m := fun e => (by cases e), cb := if_pos (.inl rfl), cg := if_pos (.inr rfl), cx := fun i hi => ?_, cf := fun i hi => ?_, cw := fun i hi => ?_, cr := ?_, c0 := ?_, lo := fun i hi => ?_, out := Kept.refl _ _ }⟩
  · have := zx i hi
    show (if i = b ∨ i = g then 1 else if i < B then 0 else if i < B1 then 2 else if i < B2 then 3 else if i < B3 then 4 else if i = r0 then 6 else if i = rr then 5 else 0) = 2
    rw [if_neg (by omega), if_neg (by omega), if_pos (by omega)]
  · have := zf i hi
    show (if i = b ∨ i = g then 1 else if i < B then 0 else if i < B1 then 2 else if i < B2 then 3 else if i < B3 then 4 else if i = r0 then 6 else if i = rr then 5 else 0) = 3
    rw [if_neg (by omega), if_neg (by omega), if_neg (by omega), if_pos (by omega)]
  · have := zw i hi
    show (if i = b ∨ i = g then 1 else if i < B then 0 else if i < B1 then 2 else if i < B2 then 3 else if i < B3 then 4 else if i = r0 then 6 else if i = rr then 5 else 0) = 4
    rw [if_neg (by omega), if_neg (by omega), if_neg (by omega), if_neg (by omega), if_pos (by omega)]
  · show (if rr = b ∨ rr = g then 1 else if rr < B then 0 else if rr < B1 then 2 else if rr < B2 then 3 else if rr < B3 then 4 else if rr = r0 then 6 else if rr = rr then 5 else 0) = 5
    rw [if_neg (by omega), if_neg (by omega), if_neg (by omega), if_neg (by omega), if_neg (by omega), if_neg (by omega), if_pos rfl]
  · show (if r0 = b ∨ r0 = g then 1 else if r0 < B then 0 else if r0 < B1 then 2 else if r0 < B2 then 3 else if r0 < B3 then 4 else if r0 = r0 then 6 else if r0 = rr then 5 else 0) = 6
    rw [if_neg (by omega), if_neg (by omega), if_neg (by omega), if_neg (by omega), if_neg (by omega), if_pos rfl]
  · replace hi : (if i = b ∨ i = g then 1 else if i < B then 0 else if i < B1 then 2 else if i < B2 then 3 else if i < B3 then 4 else if i = r0 then 6 else if i = rr then 5 else 0) ≠ 0 := hi
    by_cases e1 : i = b ∨ i = g
    · exact ⟨by omega, by omega⟩
    · by_cases e2 : i < B
      · rw [if_neg e1, if_pos e2] at hi; exact absurd rfl hi
      · refine ⟨.inl (by omega), ?_⟩
        by_cases e3 : i < B3
        · omega
        · rw [if_neg e1, if_neg e2, if_neg (by omega), if_neg (by omega), if_neg e3] at hi
          by_cases e4 : i = r0
          · omega
          · by_cases e5 : i = rr
            · omega
            · rw [if_neg e4, if_neg e5] at hi; exact absurd rfl hi
/-- Whether the second Release has been made. -/
def pzS : Nat → Bool
  | 0 => false
  | 1 => false
  | _ => true
theorem pot_step {k n a c : Nat} (hp : k ≤ n ∨ k + a ≤ n + 84) (ha : a ≤ 84) (hc : c + 1 ≤ a) : k + 1 ≤ n ∨ k + 1 + c ≤ n + 84 := by omega
/-- The pages of the law. -/
def pgP (ks : List ByteArray) : Pg := ⟨0, ⟨#[]⟩, true, 0, slotsOf ks⟩
def pgQ (ks : List ByteArray) (m : Nat) (sp : ByteArray) : Pg := ⟨0, sp, false, 2, (slotsOf ks).take m⟩
def pgR (ks : List ByteArray) (m : Nat) : Pg := ⟨0, ⟨#[]⟩, true, 0, (slotsOf ks).drop m⟩
theorem slots_asc (ha : ∀ i a b, ks[i]? = some a → ks[i + 1]? = some b → kl a b = true) : Asc (slotsOf ks) := asc_of_get fun i x y hx hy => ha i x.1 y.1 (slotsOf_at hx).1 (slotsOf_at hy).1
theorem asc_sub {xs : List Sl} (h : Asc xs) (m : Nat) : Asc (xs.take m) ∧ Asc (xs.drop m) := by
  have hg : ∀ i x y, xs[i]? = some x → xs[i + 1]? = some y → kl x.1 y.1 = true := fun i x y hx hy => asc_get h (Nat.lt_succ_self i) hx hy
  refine ⟨asc_of_get fun i x y hx hy => ?_, asc_of_get fun i x y hx hy => ?_⟩
  · have h1 := (List.getElem?_eq_some_iff.1 hx).1
    have h2 := (List.getElem?_eq_some_iff.1 hy).1
    rw [List.length_take] at h1 h2
    rw [List.getElem?_take, if_pos (by omega)] at hx hy
    exact hg i x y hx hy
  · rw [List.getElem?_drop] at hx hy
    exact hg (m + i) x y hx (by rw [show m + i + 1 = m + (i + 1) by omega]; exact hy)
theorem spl_pages (h6 : F ≤ 6) (hF : ks.length ≤ F) (ha : ∀ i a b, ks[i]? = some a → ks[i + 1]? = some b → kl a b = true) (m : Nat) (sp : ByteArray) : Spl F (pgP ks) (pgQ ks m sp) (pgR ks m) := by
  have hA := slots_asc ha
  have hl := slotsOf_length ks
  have hS := asc_sub hA m
  refine ⟨⟨fun _ => rfl, ?_, hA, rfl, rfl⟩, ⟨fun e => (by cases e), ?_, hS.1, rfl, rfl⟩, ⟨fun _ => rfl, ?_, hS.2, rfl, rfl⟩⟩
  · show (slotsOf ks).length ≤ F; omega
  · show ((slotsOf ks).take m).length ≤ F; rw [List.length_take]; omega
  · show ((slotsOf ks).drop m).length ≤ F; rw [List.length_drop]; omega
theorem slots_ref (h6 : ks.length ≤ 6) : ∀ x ∈ slotsOf ks, x.2 < 18446744073709551616 := fun x hx => by
  obtain ⟨i, hi⟩ := List.getElem?_of_mem hx
  have h1 := (slotsOf_at hi).2
  have h2 := (List.getElem?_eq_some_iff.1 hi).1
  rw [slotsOf_length] at h2; omega
theorem fit_pages (h6 : ks.length ≤ 6) (m : Nat) (sp : ByteArray) : Fits (pgP ks) ∧ Fits (pgQ ks m sp) ∧ Fits (pgR ks m) := by
  have hr := slots_ref h6
  have hl := slotsOf_length ks
  refine ⟨⟨(by show 0 < _; decide), (by show 0 < _; decide), hr, ?_⟩, ⟨(by show 0 < _; decide), (by show 2 < _; decide), fun x hx => hr x (List.mem_of_mem_take hx), ?_⟩, ⟨(by show 0 < _; decide), (by show 0 < _; decide), fun x hx => hr x (List.mem_of_mem_drop hx), ?_⟩⟩
  · show (slotsOf ks).length < _; omega
  · show ((slotsOf ks).take m).length < _; rw [List.length_take]; omega
  · show ((slotsOf ks).drop m).length < _; rw [List.length_drop]; omega
/-- The memory when the loop begins. -/
def memL (F : Nat) (l : List Cel) (P : Pg) : List Cel := putAt (putAt (app l (pst (nad F 1) P)) (nla F 1) ((1 : Int), (⟨#[]⟩ : ByteArray), (0 : Int))) 4 ((2 : Int), (⟨#[]⟩ : ByteArray), (0 : Int))
theorem mvx_start (h4 : 4 ≤ F) (h6 : F ≤ 6) (S0 : Start F l) (hr : cellAt l 0 = (((1 : Nat) : Int), (⟨#[]⟩ : ByteArray), (0 : Int))) (hF : P.xs.length ≤ F) (hf : Fits P) : Mvx F l.length key P Q R 0 0 (memL F l P) (.fnd .root) := by
  have n1 := nla1 (F := F)
  have hb := S0.lo
  have ha : Ads F (nla F 1) (nad F 1) l.length := ads_of h4 h6 (by omega) (by omega) hb
  have hN : Nats (memL F l P) := ((S0.nats.app (hf.pstN _)).put _ ⟨1, 0, _, rfl, by omega, by omega⟩).put _ ⟨2, 0, _, rfl, by omega, by omega⟩
  have hne : ∀ s ∈ pst (nad F 1) P, 10 ≤ s.1 := fun s hs => by
    obtain ⟨r, hr, rfl⟩ := pst_addr hs
    show 10 ≤ nad F 1 r
    rw [nad1 (by omega)]; omega
  have h0 : (cellAt (memL F l P) 0).1 = 1 := by
    unfold memL
    rw [cellAt_other (by omega), cellAt_other (by omega), app_other _ _ (fun s hs => by have := hne s hs; omega), hr]; rfl
  have hla : cellAt (memL F l P) (nla F 1) = ((1 : Int), (⟨#[]⟩ : ByteArray), (0 : Int)) := by
    unfold memL
    rw [cellAt_other (by omega), cellAt_same (by rw [app_length]; exact ha.lat)]
  have hH : Holds (nad F 1) (memL F l P) P := fun r hr => by
    unfold memL
    rw [cellAt_other (by rw [nad1 (by omega)]; omega), cellAt_other (Ne.symm (ha.ne r (by omega)))]
    have := pst_holds ha rfl hF (P.xs.length + 3) (Nat.le_refl _) r hr
    rw [pst_all] at this; exact this
  exact Mvx.start ⟨hN, h0, ⟨fun _ => ⟨hH, 1, Nat.le_refl _, by rw [hla]; rfl⟩, fun e => (by cases e)⟩, by omega, fun e => absurd e (by decide)⟩ hla (by unfold memL; rw [putAt_length, putAt_length, app_length])
theorem Rs.cap {w : World} {A : Option Addr} {c m : Nat} {xs : List Sl} (h : Rs w A c xs) (h1 : xs.length ≤ m) (h2 : m ≤ c) : Rs w A m xs := by
  refine ⟨h1, by have := h.max; omega, fun hn => ?_, h.some'⟩
  have := h.none' hn; omega
theorem node1_at (h4 : 4 ≤ F) (h6 : F ≤ 6) (w : World) : Calls Tryz.prog 13 #[.agg #[.int .i64 1, .int .i64 2, .int .i64 100, .int .i64 100, .int .i64 200, .int .i64 (F : Int), .int .u64 1000], .int .u64 1, .int .i64 0] w fun e w' => e = .returned (.int .i64 (nla F 1)) ∧ Kept (fun _ => False) w w' :=
  refNode_any 1 2 100 100 200 (F : Int) 1000 1 0 (limF h4 h6) (by omega) (by omega) (by omega) w
theorem node2_at (h4 : 4 ≤ F) (h6 : F ≤ 6) (w : World) : Calls Tryz.prog 13 #[.agg #[.int .i64 1, .int .i64 2, .int .i64 100, .int .i64 100, .int .i64 200, .int .i64 (F : Int), .int .u64 1000], .int .u64 2, .int .i64 0] w fun e w' => e = .returned (.int .i64 (nla F 2)) ∧ Kept (fun _ => False) w w' :=
  refNode_any 1 2 100 100 200 (F : Int) 1000 2 0 (limF h4 h6) (by omega) (by omega) (by omega) w
end
end Go.Proofs.YtkpbbnpfdighjaaGreat
