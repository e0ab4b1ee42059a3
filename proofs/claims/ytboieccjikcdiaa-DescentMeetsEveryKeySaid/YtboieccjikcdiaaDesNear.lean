/-
  What lastOf, Child and Below of package page answer. Condition: pages within the model's reach.
-/
import Derived.Test.YtboieccjikcdiaaPagFind
namespace Go.Proofs.Ytboieccjikcdiaa
open Go.RowKit Go.Deep Plain
set_option linter.unusedVariables false

set_option linter.unusedVariables false

/-- The slot ahead of place i. -/
def before (xs : List Sl) (i : Nat) : Option Sl := if i = 0 then none else xs[i - 1]?

def near : Option Sl → ByteArray × Nat × Bool
  | some x => (x.1, x.2, true)
  | none => (⟨#[]⟩, 0, false)

theorem before_take (xs : List Sl) (i : Nat) : before (xs.take i) i = before xs i := by
  unfold before; split
  · rfl
  · rw [List.getElem?_take, if_pos (by omega)]

theorem before_some {xs : List Sl} {i : Nat} (h : 0 < i) (hi : i ≤ xs.length) : ∃ x, before xs i = some x ∧ xs[i - 1]? = some x := by
  unfold before; rw [if_neg (by omega)]
  exact ⟨_, List.getElem?_eq_getElem (by omega), List.getElem?_eq_getElem (by omega)⟩

theorem near_zero {xs : List Sl} {s : ByteArray} {r : Nat} {b : Bool} (h : near (before xs 0) = (s, r, b)) : s = ⟨#[]⟩ ∧ r = 0 ∧ b = false := by
  simp only [before, if_true, near, Prod.mk.injEq] at h
  exact ⟨h.1.symm, h.2.1.symm, h.2.2.symm⟩

theorem near_pos {xs : List Sl} {i : Nat} {s : ByteArray} {r : Nat} {b : Bool} (h0 : 0 < i) (hi : i ≤ xs.length) (h : near (before xs i) = (s, r, b)) : xs[i - 1]? = some (s, r) ∧ b = true := by
  obtain ⟨x, hx, hx2⟩ := before_some h0 hi
  rw [hx] at h
  simp only [near, Prod.mk.injEq] at h
  obtain ⟨rfl, rfl, rfl⟩ := h
  exact ⟨hx2, rfl⟩

set_option maxHeartbeats 1000000 in
theorem lastOf_any (A : Option Addr) (c : Nat) (xs : List Sl) (w : World) (n : Nat) (hn : xs.length = n) (h40 : n ≤ 1099511627776) (hR : Rs w A c xs) (s : ByteArray) (r : Nat) (b : Bool) (h : near (before xs n) = (s, r, b)) :
    Calls Try.prog 75 #[.slice A n c] w fun e w' => e = .returned (.tuple #[.agg #[.string s, .int .u64 (r : Int)], .bool b]) ∧ Below w.heap.size w w' := by
  by_cases h0 : n = 0
  · subst h0
    obtain ⟨rfl, rfl, rfl⟩ := near_zero h
    go_enter Try.func75, Try.ntmps75
    go_wp2
    refine bodyPost_ret (v := .tuple #[.agg #[.string ⟨#[]⟩, .int .u64 0], .bool false]) (by first | (simp [results, Try.results75, go_sem]; done) | (simp [results, Try.results75, go_sem, *]; done)) rfl ⟨rfl, ?_⟩
    exact (Below.refl _ _).alloc (Nat.le_refl _) _
  · obtain ⟨hx2, rfl⟩ := near_pos (by omega) (by omega) h
    have hR1 : Rs (w.alloc (.cells #[.string ⟨#[]⟩, .int .u64 0] 65)) A c xs := hR.below ((Below.refl _ _).alloc (Nat.le_refl _) _) (Nat.le_refl _)
    obtain ⟨g, off, rfl, hg, hcell⟩ := hR1.at (by omega)
    obtain ⟨c0, c1⟩ := hcell (n - 1) _ hx2
    clear hcell hx2 hR1 hR h
    go_enter Try.func75, Try.ntmps75
    go_wp2
    refine bodyPost_ret (v := .tuple #[.agg #[.string s, .int .u64 (r : Int)], .bool true]) (by first | (simp [results, Try.results75, go_sem]; done) | (simp [results, Try.results75, go_sem, *]; done)) rfl ⟨rfl, ?_⟩
    exact (Below.refl _ _).alloc (Nat.le_refl _) _

theorem near_ex (o : Option Sl) : ∃ s r b, near o = (s, r, b) := ⟨_, _, _, rfl⟩

set_option maxHeartbeats 2000000 in
theorem child_any (lv : Int) (A : Option Addr) (c : Nat) (hi : ByteArray) (la : Bool) (rt : Nat) (xs : List Sl) (k : ByteArray) (w : World) (n : Nat) (hn : xs.length = n) (h40 : n ≤ 1099511627776) (hR : Rs w A c xs) (ha : Asc xs) (s : ByteArray) (r : Nat) (b : Bool) (h : near (before xs (if has k xs = true then cnt k xs + 1 else cnt k xs)) = (s, r, b)) :
    Calls Try.prog 56 #[.agg #[.int .i64 lv, .slice A n c, .string hi, .bool la, .int .u64 (rt : Int)], .string k] w fun e w' => e = .returned (.tuple #[.agg #[.string s, .int .u64 (r : Int)], .bool b]) ∧ Below w.heap.size w w' := by
  have hq := cnt_le k xs
  have hin : has k xs = true → cnt k xs < xs.length := fun h => by obtain ⟨_, _, _, h⟩ := has_in ha h; exact h
  have hqc : cnt k xs ≤ c := by have := hR.le; omega
  obtain ⟨P0, S0, B0, Z0⟩ := box_two w [.int .i64 lv, .slice A n c, .string hi, .bool la, .int .u64 (rt : Int)] [.string ⟨#[]⟩, .int .u64 0] 43 65
  go_enter Try.func56, Try.ntmps56
  go_wp2_with fail
  refine (find_any lv A c hi la rt xs k _ n hn h40 (hR.below B0 (Nat.le_refl _)) ha).mono ?_; rintro e w1 ⟨rfl, hB1⟩
  rw [Z0] at hB1
  have P1 := P0.below hB1 (by omega)
  have S1 := S0.below hB1 (by omega)
  have B1 := B0.trans (hB1.mono (by omega))
  have R1 := hR.below B1 (Nat.le_refl _)
  have b1 := P1.cell (i := 1) rfl
  have y0 := S1.cell (i := 0) rfl
  have y1 := S1.cell (i := 1) rfl
  have z0 := S1.frozen 0
  have z1 := S1.frozen 1
  have hs1 := hB1.size
  rw [Z0] at hs1
  generalize hhh : has k xs = hh at *
  generalize hqq : cnt k xs = q at *
  have HR1 := Lib.hid R1
  have HB1 := Lib.hid B1
  have HS1 := Lib.hid S1
  have HH := Lib.hid h
  have HQ := Lib.hid hqq
  have HA := Lib.hid hhh
  clear hR R1 P0 S0 B0 Z0 P1 S1 B1 hB1 h hqq hhh ha
  cases hh
  · have hql : (xs.take q).length = q := by rw [List.length_take]; omega
    have h1 : near (before (xs.take q) q) = (s, r, b) := by rw [before_take]; exact HH.out
    have H1 := Lib.hid h1
    clear h1
    go_wp2_with fail
    refine (lastOf_any _ _ (xs.take q) _ q hql (by omega) (HR1.out.take q) s r b H1.out).mono ?_; rintro e w2 ⟨rfl, hB2⟩
    have S2 := HS1.out.below hB2 (by omega)
    have B2 := Lib.hid (HB1.out.trans (hB2.mono (by omega)))
    have y0 := S2.cell (i := 0) rfl
    have y1 := S2.cell (i := 1) rfl
    have z0 := S2.frozen 0
    have z1 := S2.frozen 1
    clear S2 hB2
    go_wp2
    refine bodyPost_ret (v := .tuple #[.agg #[.string s, .int .u64 (r : Int)], .bool b]) (by first | (simp [results, Try.results56, go_sem]; done) | (simp [results, Try.results56, go_sem, *]; done)) rfl ⟨rfl, ?_⟩
    exact (B2.out.setCell (Nat.le_succ _) _).setCell (Nat.le_succ _) _
  · have hqn := hin rfl
    obtain ⟨hx, rfl⟩ := near_pos (xs := xs) (i := q + 1) (by omega) (by omega) HH.out
    rw [Nat.add_sub_cancel] at hx
    obtain ⟨g, off, rfl, hg, hcell⟩ := HR1.out.at (by omega)
    obtain ⟨c0, c1⟩ := hcell q _ hx
    clear hcell hx hin
    go_wp2
    refine bodyPost_ret (v := .tuple #[.agg #[.string s, .int .u64 (r : Int)], .bool true]) (by first | (simp [results, Try.results56, go_sem]; done) | (simp [results, Try.results56, go_sem, *]; done)) rfl ⟨rfl, ?_⟩
    exact (HB1.out.setCell (Nat.le_succ _) _).setCell (Nat.le_succ _) _

set_option maxHeartbeats 2000000 in
theorem below_any (lv : Int) (A : Option Addr) (c : Nat) (hi : ByteArray) (la : Bool) (rt : Nat) (xs : List Sl) (k : ByteArray) (last : Bool) (w : World) (n : Nat) (hn : xs.length = n) (h40 : n ≤ 1099511627776) (hR : Rs w A c xs) (ha : Asc xs) (s : ByteArray) (r : Nat) (b : Bool) (h : near (before xs (if last = true then n else cnt k xs)) = (s, r, b)) :
    Calls Try.prog 63 #[.agg #[.int .i64 lv, .slice A n c, .string hi, .bool la, .int .u64 (rt : Int)], .string k, .bool last] w fun e w' => e = .returned (.tuple #[.agg #[.string s, .int .u64 (r : Int)], .bool b]) ∧ Below w.heap.size w w' := by
  have hq := cnt_le k xs
  have hqc : cnt k xs ≤ c := by have := hR.le; omega
  obtain ⟨P0, S0, B0, Z0⟩ := box_two w [.int .i64 lv, .slice A n c, .string hi, .bool la, .int .u64 (rt : Int)] [.string ⟨#[]⟩, .int .u64 0] 43 65
  cases last
  · go_enter Try.func63, Try.ntmps63
    go_wp2_with fail
    refine (find_any lv A c hi la rt xs k _ n hn h40 (hR.below B0 (Nat.le_refl _)) ha).mono ?_; rintro e w1 ⟨rfl, hB1⟩
    rw [Z0] at hB1
    have P1 := P0.below hB1 (by omega)
    have S1 := S0.below hB1 (by omega)
    have B1 := B0.trans (hB1.mono (by omega))
    have R1 := hR.below B1 (Nat.le_refl _)
    have b1 := P1.cell (i := 1) rfl
    have hs1 := hB1.size
    rw [Z0] at hs1
    have h1 : near (before (xs.take (cnt k xs)) (cnt k xs)) = (s, r, b) := by rw [before_take]; exact h
    generalize hqq : cnt k xs = q at *
    have hql : (xs.take q).length = q := by rw [List.length_take]; omega
    have HR1 := Lib.hid R1
    have HB1 := Lib.hid B1
    have HS1 := Lib.hid S1
    have H1 := Lib.hid h1
    clear hR R1 P0 S0 B0 Z0 P1 S1 B1 hB1 h hqq ha h1
    go_wp2_with fail
    refine (lastOf_any _ _ (xs.take q) _ q hql (by omega) (HR1.out.take q) s r b H1.out).mono ?_; rintro e w2 ⟨rfl, hB2⟩
    have S2 := HS1.out.below hB2 (by omega)
    have B2 := Lib.hid (HB1.out.trans (hB2.mono (by omega)))
    have y0 := S2.cell (i := 0) rfl
    have y1 := S2.cell (i := 1) rfl
    have z0 := S2.frozen 0
    have z1 := S2.frozen 1
    clear S2 hB2
    go_wp2
    refine bodyPost_ret (v := .tuple #[.agg #[.string s, .int .u64 (r : Int)], .bool b]) (by first | (simp [results, Try.results63, go_sem]; done) | (simp [results, Try.results63, go_sem, *]; done)) rfl ⟨rfl, ?_⟩
    exact (B2.out.setCell (Nat.le_succ _) _).setCell (Nat.le_succ _) _
  · go_enter Try.func63, Try.ntmps63
    go_wp2_with fail
    refine (lastOf_any _ _ xs _ n hn h40 (hR.below B0 (Nat.le_refl _)) s r b h).mono ?_; rintro e w2 ⟨rfl, hB2⟩
    rw [Z0] at hB2
    have S2 := S0.below hB2 (by omega)
    have B2 := Lib.hid (B0.trans (hB2.mono (by omega)))
    have y0 := S2.cell (i := 0) rfl
    have y1 := S2.cell (i := 1) rfl
    have z0 := S2.frozen 0
    have z1 := S2.frozen 1
    clear S2 hB2 S0 P0 B0 Z0
    go_wp2
    refine bodyPost_ret (v := .tuple #[.agg #[.string s, .int .u64 (r : Int)], .bool b]) (by first | (simp [results, Try.results63, go_sem]; done) | (simp [results, Try.results63, go_sem, *]; done)) rfl ⟨rfl, ?_⟩
    exact (B2.out.setCell (Nat.le_succ _) _).setCell (Nat.le_succ _) _

end Go.Proofs.Ytboieccjikcdiaa
