/-
  What New, Time, Floor and Get of a model answer, and what they rest on: the comparison of times, the search among a key's changes. Condition: rows of at most a million changes, strings within the model's reach.
-/
import Derived.Test.YtodenkamlbihnaaModMem
import Derived.Test.YtodenkamlbihnaaBatFns
namespace Go.Proofs.Ytodenkamlbihnaa
open Go.RowKit Go.Deep Plain PlainE
set_option linter.unusedVariables false

def cmpN (x t : Nat) : Int := if x < t then -1 else if t < x then 1 else 0
set_option maxHeartbeats 400000 in
theorem nan64_any (x : Int) (w : World) :
    Calls Try.prog 86 #[.int .u64 x] w fun e w' => e = .returned (.bool false) ∧ w = w' := by
  go_enter Try.func86, Try.ntmps86
  go_wp2
  go_ret
  exact ⟨by simp, rfl⟩
set_option maxHeartbeats 400000 in
theorem cmp64_any (x t : Nat) (w : World) :
    Calls Try.prog 60 #[.int .u64 (x : Int), .int .u64 (t : Int)] w fun e w' => e = .returned (.int .i64 (cmpN x t)) ∧ w = w' := by
  unfold cmpN
  by_cases h1 : x < t
  · rw [if_pos h1]
    go_enter Try.func60, Try.ntmps60
    go_wp2_with fail
    refine (nan64_any (x : Int) _).mono ?_; rintro e w1 ⟨rfl, rfl⟩
    go_wp2_with fail
    refine (nan64_any (t : Int) _).mono ?_; rintro e w1 ⟨rfl, rfl⟩
    go_wp2
    go_ret
    exact ⟨by first | rfl | simp, rfl⟩
  · by_cases h2 : t < x
    · rw [if_neg h1, if_pos h2]
      go_enter Try.func60, Try.ntmps60
      go_wp2_with fail
      refine (nan64_any (x : Int) _).mono ?_; rintro e w1 ⟨rfl, rfl⟩
      go_wp2_with fail
      refine (nan64_any (t : Int) _).mono ?_; rintro e w1 ⟨rfl, rfl⟩
      go_wp2
      go_ret
      exact ⟨by first | rfl | simp, rfl⟩
    · rw [if_neg h1, if_neg h2]
      go_enter Try.func60, Try.ntmps60
      go_wp2_with fail
      refine (nan64_any (x : Int) _).mono ?_; rintro e w1 ⟨rfl, rfl⟩
      go_wp2_with fail
      refine (nan64_any (t : Int) _).mono ?_; rintro e w1 ⟨rfl, rfl⟩
      go_wp2
      go_ret
      exact ⟨by first | rfl | simp, rfl⟩
set_option maxHeartbeats 400000 in
theorem compareTime_any (x : Chg) (t : Nat) (w : World) :
    Calls Try.prog 47 #[.agg #[.int .u64 (x.1 : Int), .string x.2.1, .bool x.2.2], .int .u64 (t : Int)] w fun e w' => e = .returned (.int .i64 (cmpN x.1 t)) ∧ Below w.heap.size w w' := by
  have con := fun W => cmp64_any x.1 t W
  generalize cmpN x.1 t = r at con ⊢
  go_enter Try.func47, Try.ntmps47
  go_wp2_with fail
  refine (con _).mono ?_; rintro e w1 ⟨rfl, rfl⟩
  go_wp2
  go_ret
  exact ⟨rfl, (Below.refl _ _).alloc (Nat.le_refl _) _⟩

def inC (t : Nat) (l : List Chg) : Bool := match l[cntL t l]? with
  | some x => x.1 == t
  | none => false
theorem cntU_in {t : Nat} {l : List Chg} (ha : AscT l) : cntU t l = if inC t l = true then cntL t l + 1 else cntL t l := by
  rw [cntU_at t ha]
  unfold inC
  cases h : l[cntL t l]? with
  | none => simp
  | some x => simp
set_option maxHeartbeats 2000000 in
theorem bsearchC_any (A : Option Addr) (c : Nat) (xs : List Chg) (t : Nat) (w : World) (n : Nat) (hn : xs.length = n) (h40 : n ≤ 1000000) (hR : RC w A c xs) (ha : AscT xs) (q : Nat) (hq : cntL t xs = q) (b : Bool) (hb : inC t xs = b) :
    Calls Try.prog 46 #[.slice A n c, .int .u64 (t : Int), .func (.func 47) #[] #[]] w fun e w' => e = .returned (.tuple #[.int .i64 (q : Int), .bool b]) ∧ Below w.heap.size w w' := by
  have hqn : q ≤ n := by rw [← hq, ← hn]; exact cntL_le t xs
  have HR := Lib.hid hR
  have HQ := Lib.hid hq
  have HBV := Lib.hid hb
  have HA := Lib.hid ha
  clear hR hq hb ha
  go_enter Try.func46, Try.ntmps46
  go_wp2_with fail
  go_loopw [9, 10] (fun i j wr => ∃ lo hi : Nat, i = .int .i64 lo ∧ j = .int .i64 hi ∧ lo ≤ q ∧ q ≤ hi ∧ hi ≤ n ∧ Below w.heap.size w wr) (fun i j _ => (intOf j).toNat - (intOf i).toNat)
  case atStart => exact ⟨0, n, rfl, rfl, Nat.zero_le _, hqn, Nat.le_refl _, Below.refl _ _⟩
  case round =>
    obtain ⟨lo, hi, rfl, rfl, h1, h2, h3, hbel⟩ := hrel
    have HB := Lib.hid hbel
    have hs := hbel.size
    by_cases hlt : lo < hi
    · obtain ⟨x, hx⟩ : ∃ x, xs[(lo + hi) / 2]? = some x := ⟨_, List.getElem?_eq_getElem (by omega)⟩
      obtain ⟨g, off, rfl, hg, hcell⟩ := (HR.out.below hbel (Nat.le_refl _)).at (by omega)
      obtain ⟨c0, c1, c2⟩ := hcell _ x hx
      have hat := cntL_at t HA.out hx
      rw [HQ.out] at hat
      have con := fun W => compareTime_any x t W
      by_cases hm : (lo + hi) / 2 < q
      · have hc : cmpN x.1 t = -1 := by unfold cmpN; rw [if_pos (hat.2 hm)]
        rw [hc] at con
        clear hcell hx hat hc hbel
        go_wp2_with fail
        go_at_call 47
        refine (con _).mono ?_; rintro e w1 ⟨rfl, hB1⟩
        have HB1 := Lib.hid (HB.out.trans (hB1.mono hs))
        clear hB1 c0 c1 c2
        go_wp2
        go_roundw
        case rel => exact ⟨(lo + hi) / 2 + 1, hi, by rw [show ((lo : Int) + (hi : Int)) / 2 + 1 = (((lo + hi) / 2 + 1 : Nat) : Int) by omega], rfl, by omega, h2, h3, HB1.out⟩
        case measure => simp [intOf]; omega
      · obtain ⟨r, hr⟩ : ∃ r, cmpN x.1 t = r := ⟨_, rfl⟩
        have hr0 : 0 ≤ r := by
          rw [← hr]; unfold cmpN
          rw [if_neg (fun e => hm (hat.1 e))]
          split <;> omega
        rw [hr] at con
        clear hcell hx hat hr hbel
        go_wp2_with fail
        go_at_call 47
        refine (con _).mono ?_; rintro e w1 ⟨rfl, hB1⟩
        have HB1 := Lib.hid (HB.out.trans (hB1.mono hs))
        clear hB1 c0 c1 c2
        go_wp2
        go_roundw
        case rel => exact ⟨lo, (lo + hi) / 2, rfl, by rw [show ((lo : Int) + (hi : Int)) / 2 = (((lo + hi) / 2 : Nat) : Int) by omega], h1, by omega, by omega, HB1.out⟩
        case measure => simp [intOf]; omega
    · obtain rfl : lo = q := by omega
      by_cases hlast : lo < n
      · obtain ⟨x, hx⟩ : ∃ x, xs[lo]? = some x := ⟨_, List.getElem?_eq_getElem (by omega)⟩
        obtain ⟨g, off, rfl, hg, hcell⟩ := (HR.out.below hbel (Nat.le_refl _)).at (by omega)
        obtain ⟨c0, c1, c2⟩ := hcell _ x hx
        have hin : (cmpN x.1 t == 0) = b := by
          rw [← HBV.out]; unfold inC; rw [HQ.out, hx]
          have hnl : ¬ x.1 < t := fun e => by have := (cntL_at t HA.out hx).1 e; rw [HQ.out] at this; omega
          unfold cmpN
          rw [if_neg hnl]
          by_cases e : x.1 = t
          · rw [if_neg (by omega)]; simp [e]
          · rw [if_pos (by omega)]; simp [e]
        have con := fun W => compareTime_any x t W
        obtain ⟨r, hr⟩ : ∃ r, cmpN x.1 t = r := ⟨_, rfl⟩
        rw [hr] at con hin
        clear hcell hx hr hbel
        go_wp2_with fail
        go_at_call 47
        refine (con _).mono ?_; rintro e w1 ⟨rfl, hB1⟩
        have HB1 := Lib.hid (HB.out.trans (hB1.mono hs))
        clear hB1 c0 c1 c2
        go_wp2
        go_ret2
        exact ⟨by first | rfl | simp [← hin], HB1.out⟩
      · obtain rfl : b = false := by
          rw [← HBV.out]; unfold inC; rw [HQ.out, List.getElem?_eq_none (by omega)]
        go_wp2
        go_ret2
        exact ⟨by first | rfl | simp, HB.out⟩

/-- What a value with its sign is: the value, or the empty string. -/
def strO (o : Option ByteArray) : ByteArray := o.getD ByteArray.empty
set_option maxHeartbeats 2000000 in
theorem valueAt_any (A : Option Addr) (c : Nat) (xs : List Chg) (t : Nat) (w : World) (n : Nat) (hn : xs.length = n) (h40 : n ≤ 1000000) (hR : RC w A c xs) (ha : AscT xs) (s : ByteArray) (hs : strO (valAt xs t) = s) (b : Bool) (hb : (valAt xs t).isSome = b) :
    Calls Try.prog 37 #[.slice A n c, .int .u64 (t : Int)] w fun e w' => e = .returned (.tuple #[.string s, .bool b]) ∧ Below w.heap.size w w' := by
  obtain ⟨q, hq⟩ : ∃ q, cntL t xs = q := ⟨_, rfl⟩
  obtain ⟨d, hd⟩ : ∃ d, inC t xs = d := ⟨_, rfl⟩
  have hU := cntU_in (t := t) ha
  rw [hq, hd] at hU
  have hUn := cntU_le t xs
  have HS := Lib.hid hs
  have HBV := Lib.hid hb
  have con := fun W => bsearchC_any A c xs t W n hn h40
  obtain ⟨u, hu⟩ : ∃ u, cntU t xs = u := ⟨_, rfl⟩
  rw [hu] at hU hUn
  have HR := Lib.hid hR
  have HA := Lib.hid ha
  have HQ := Lib.hid hq
  have HD := Lib.hid hd
  have HU := Lib.hid hu
  clear hR ha hq hd hs hb hu
  go_enter Try.func37, Try.ntmps37
  go_wp2_with fail
  refine (con _ HR.out HA.out q HQ.out d HD.out).mono ?_; rintro e w1 ⟨rfl, hB1⟩
  clear con
  have HB1 := Lib.hid hB1
  have hs1 := hB1.size
  have HR1 := Lib.hid (HR.out.below hB1 (Nat.le_refl _))
  clear hB1
  by_cases h0 : u = 0
  · have hv : valAt xs t = none := by unfold valAt; rw [HU.out, if_pos h0]
    obtain rfl : s = ByteArray.empty := by rw [← HS.out, hv]; rfl
    obtain rfl : b = false := by rw [← HBV.out, hv]; rfl
    obtain rfl : d = false := by cases d <;> simp at hU <;> first | rfl | omega
    obtain rfl : q = 0 := by simp at hU; omega
    clear hU hUn hv
    go_wp2
    go_ret2
    exact ⟨by first | rfl | simp, HB1.out⟩
  · obtain ⟨i, rfl⟩ : ∃ i, u = i + 1 := ⟨u - 1, by omega⟩
    obtain ⟨x, hx⟩ : ∃ x, xs[i]? = some x := ⟨_, List.getElem?_eq_getElem (by omega)⟩
    have hv : valAt xs t = effC x := by unfold valAt; rw [HU.out, if_neg h0, Nat.add_sub_cancel, hx]; rfl
    obtain ⟨g, off, rfl, hg, hcell⟩ := HR1.out.at (by omega)
    obtain ⟨c0, c1, c2⟩ := hcell i x hx
    obtain ⟨x0, x1, x2⟩ := x
    have hin : i < n := by omega
    clear hcell hx HU
    cases x2
    · obtain rfl : s = x1 := by rw [← HS.out, hv]; rfl
      obtain rfl : b = true := by rw [← HBV.out, hv]; rfl
      cases d
      · obtain rfl : q = i + 1 := by simp at hU; omega
        have e1 : IntKind.i64.wrap (((i + 1 : Nat) : Int) - 1) = (i : Int) := by rw [IntKind.wrap_i64]; omega
        clear hU hUn hv h0
        go_wp2
        go_ret2
        exact ⟨by first | rfl | simp, HB1.out⟩
      · obtain rfl : q = i := by simp at hU; omega
        clear hU hUn hv h0
        go_wp2
        go_ret2
        exact ⟨by first | rfl | simp, HB1.out⟩
    · obtain rfl : s = ByteArray.empty := by rw [← HS.out, hv]; rfl
      obtain rfl : b = false := by rw [← HBV.out, hv]; rfl
      cases d
      · obtain rfl : q = i + 1 := by simp at hU; omega
        have e1 : IntKind.i64.wrap (((i + 1 : Nat) : Int) - 1) = (i : Int) := by rw [IntKind.wrap_i64]; omega
        clear hU hUn hv h0
        go_wp2
        go_ret2
        exact ⟨by first | rfl | simp, HB1.out⟩
      · obtain rfl : q = i := by simp at hU; omega
        clear hU hUn hv h0
        go_wp2
        go_ret2
        exact ⟨by first | rfl | simp, HB1.out⟩

set_option maxHeartbeats 1000000 in
theorem mget_any {p B m : Nat} {Z : Nat → Prop} {bs : List (List Wri)} {fl : Nat} {sn : Lit → Option Nat} (w : World) (h : MdS w p B Z m bs fl sn) (hT : bs.length ≤ 1000000) (k : ByteArray) (hk : k.size ≤ maxLen) (t : Nat)
    (s : ByteArray) (hs : strO (getL (stateL bs t) k) = s) (b : Bool) (hb : (getL (stateL bs t) k).isSome = b) :
    Calls Try.prog 29 #[.pointer (some ⟨p, 0, none⟩), .string k, .int .u64 (t : Int)] w fun e w' => e = .returned (.tuple #[.string s, .bool b]) ∧ Below w.heap.size w w' := by
  obtain ⟨bc, bn, nc, nn, Dc, Dn, sl, ch, hp, hc, hs', h1, h2, h3, h4, h5, h6, h7, h8, hz⟩ := h
  rw [← h1.val k t] at hs hb
  have hlk := hc.look hk
  obtain ⟨A, c, e1, hl, hR, _⟩ := RC.own (hc.row k)
  rw [e1] at hlk
  have con := fun W (hW : RC W A c (ch k)) => valueAt_any A c (ch k) t W (ch k).length rfl (Nat.le_trans (h1.len k) hT) hW (h1.asc k) s hs b hb
  generalize (ch k).length = n at hlk con
  have c0 := hp.cell (i := 2) rfl
  have HR := Lib.hid hR
  clear hs hb h1 h2 h3 h4 h5 h6 h7 h8 hz hc hs' hp hl e1 hR
  go_enter Try.func29, Try.ntmps29
  go_wp2_with fail
  refine (con _ HR.out).mono ?_; rintro e w1 ⟨rfl, hB1⟩
  have HB1 := Lib.hid hB1
  clear con hB1
  go_wp2
  go_ret2
  exact ⟨by first | rfl | simp, HB1.out⟩

set_option maxHeartbeats 1000000 in
theorem mtime_any {p B m : Nat} {Z : Nat → Prop} {bs : List (List Wri)} {fl : Nat} {sn : Lit → Option Nat} (w : World) (h : MdS w p B Z m bs fl sn) :
    Calls Try.prog 22 #[.pointer (some ⟨p, 0, none⟩)] w fun e w' => e = .returned (.int .u64 (bs.length : Int)) ∧ w = w' := by
  obtain ⟨bc, bn, nc, nn, Dc, Dn, sl, ch, hp, hc, hs', h1, h2, h3, h4, h5, h6, h7, h8, hz⟩ := h
  have c0 := hp.cell (i := 0) rfl
  clear h1 h2 h3 h4 h5 h6 h7 h8 hz hc hs' hp
  go_enter Try.func22, Try.ntmps22
  go_wp2
  go_ret
  exact ⟨by first | rfl | simp, rfl⟩
set_option maxHeartbeats 1000000 in
theorem mfloor_any {p B m : Nat} {Z : Nat → Prop} {bs : List (List Wri)} {fl : Nat} {sn : Lit → Option Nat} (w : World) (h : MdS w p B Z m bs fl sn) :
    Calls Try.prog 26 #[.pointer (some ⟨p, 0, none⟩)] w fun e w' => e = .returned (.int .u64 (fl : Int)) ∧ w = w' := by
  obtain ⟨bc, bn, nc, nn, Dc, Dn, sl, ch, hp, hc, hs', h1, h2, h3, h4, h5, h6, h7, h8, hz⟩ := h
  have c0 := hp.cell (i := 1) rfl
  clear h1 h2 h3 h4 h5 h6 h7 h8 hz hc hs' hp
  go_enter Try.func26, Try.ntmps26
  go_wp2
  go_ret
  exact ⟨by first | rfl | simp, rfl⟩
end Go.Proofs.Ytodenkamlbihnaa
