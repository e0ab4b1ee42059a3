/-
  What Insert of package page and of its reference answer for ascending slots: a new row, the slot in its place; what was there stays as it was. Condition: rows of less than 2^40 slots.
-/
import Derived.Test.YtegbdpelnmaijaaPagFind
namespace Go.Proofs.Ytegbdpelnmaijaa
open Go.RowKit Go.Deep Plain
set_option linter.unusedVariables false

set_option maxHeartbeats 1000000 in
theorem copied_any (A : Option Addr) (c : Nat) (xs : List Sl) (w : World) (n : Nat) (hn : xs.length = n) (h40 : n ≤ 1099511627776) (hR : Rs w A c xs) :
    Calls Try.prog 36 #[.slice A n c] w fun e w' => ∃ v', e = .returned v' ∧ w'.ownsRow w.heap.size 32 2 v' n (flat xs) ∧ Below w.heap.size w w' := by
  go_enter Try.func36, Try.ntmps36
  go_wp2_with (at_builtin; go_must (refine wpList_app rfl (.const (.slice none 0 0)) (.tmp 3) rfl w.heap.size _ 0 [] rfl (World.ownsRow_nil _ _ _ _) A n c xs rfl hn hR (by omega) (Nat.le_refl _) ?_))
  intro v1 w1 hown hB
  go_wp2
  go_ret
  exact ⟨_, rfl, hown, hB⟩

set_option maxHeartbeats 2000000 in
theorem insert_no (lv : Int) (A : Option Addr) (c : Nat) (hi : ByteArray) (la : Bool) (rt : Nat) (xs : List Sl) (k : ByteArray) (r : Nat) (w : World) (n : Nat) (hn : xs.length = n) (h40 : n ≤ 1099511627776) (hR : Rs w A c xs) (ha : Asc xs) (hk : has k xs = true) :
    Calls Try.prog 21 #[.agg #[.int .i64 lv, .slice A n c, .string hi, .bool la, .int .u64 (rt : Int)], .string k, .int .u64 (r : Int)] w fun e w' => e = .returned (.tuple #[.agg #[.int .i64 0, .slice none 0 0, .string ⟨#[]⟩, .bool false, .int .u64 0], .bool false]) ∧ Below w.heap.size w w' := by
  obtain ⟨P0, S0, B0, Z0⟩ := box_two w [.int .i64 lv, .slice A n c, .string hi, .bool la, .int .u64 (rt : Int)] [.int .i64 0, .slice none 0 0, .string ⟨#[]⟩, .bool false, .int .u64 0] 25 25
  go_enter Try.func21, Try.ntmps21
  go_wp2_with fail
  refine (find_any lv A c hi la rt xs k _ n hn h40 (hR.below B0 (Nat.le_refl _)) ha).mono ?_; rintro e w1 ⟨rfl, hB1⟩
  rw [Z0] at hB1
  have S1 := S0.below hB1 (by omega)
  have B1 := Lib.hid (B0.trans (hB1.mono (by omega)))
  have y0 := S1.cell (i := 0) rfl
  have y1 := S1.cell (i := 1) rfl
  have y2 := S1.cell (i := 2) rfl
  have y3 := S1.cell (i := 3) rfl
  have y4 := S1.cell (i := 4) rfl
  have z0 := S1.frozen 0
  have z1 := S1.frozen 1
  have z2 := S1.frozen 2
  have z3 := S1.frozen 3
  have z4 := S1.frozen 4
  rw [hk]
  clear S1 hB1 P0 S0 B0 Z0 hR hk ha
  go_wp2
  refine bodyPost_ret (v := .tuple #[.agg #[.int .i64 0, .slice none 0 0, .string ⟨#[]⟩, .bool false, .int .u64 0], .bool false]) (by first | (simp [results, Try.results21, go_sem]; done) | (simp [results, Try.results21, go_sem, *]; done)) rfl ⟨rfl, ?_⟩
  exact ((((B1.out.setCell (Nat.le_succ _) _).setCell (Nat.le_succ _) _).setCell (Nat.le_succ _) _).setCell (Nat.le_succ _) _).setCell (Nat.le_succ _) _

set_option maxHeartbeats 4000000 in
theorem insert_yes (lv : Int) (A : Option Addr) (c : Nat) (hi : ByteArray) (la : Bool) (rt : Nat) (xs : List Sl) (k : ByteArray) (r : Nat) (w : World) (n : Nat) (hn : xs.length = n) (h40 : n ≤ 1099511627776) (hR : Rs w A c xs) (ha : Asc xs) (hk : has k xs = false) (hlt : n < 1099511627776) :
    Calls Try.prog 21 #[.agg #[.int .i64 lv, .slice A n c, .string hi, .bool la, .int .u64 (rt : Int)], .string k, .int .u64 (r : Int)] w fun e w' => ∃ A' c', e = .returned (.tuple #[.agg #[.int .i64 lv, .slice A' (n + 1) c', .string hi, .bool la, .int .u64 (rt : Int)], .bool true]) ∧
      w'.ownsRow w.heap.size 32 2 (.slice A' (n + 1) c') (n + 1) (flat (ins (k, r) xs)) ∧ Below w.heap.size w w' := by
  have hq := cnt_le k xs
  have hqc : cnt k xs ≤ c := by have := hR.le; omega
  have hic := ins_cut xs (k, r) ha
  simp only at hic
  obtain ⟨P0, S0, B0, Z0⟩ := box_two w [.int .i64 lv, .slice A n c, .string hi, .bool la, .int .u64 (rt : Int)] [.int .i64 0, .slice none 0 0, .string ⟨#[]⟩, .bool false, .int .u64 0] 25 25
  go_enter Try.func21, Try.ntmps21
  go_wp2_with fail
  refine (find_any lv A c hi la rt xs k _ n hn h40 (hR.below B0 (Nat.le_refl _)) ha).mono ?_; rintro e w1 ⟨rfl, hB1⟩
  rw [Z0] at hB1
  have P1 := P0.below hB1 (by omega)
  have S1 := S0.below hB1 (by omega)
  have B1 := B0.trans (hB1.mono (by omega))
  have R1 := hR.below B1 (Nat.le_refl _)
  have b1 := P1.cell (i := 1) rfl
  have hs1 := hB1.size
  rw [Z0] at hs1
  rw [hk]
  generalize cnt k xs = q at *
  have hql : (xs.take q).length = q := by rw [List.length_take]; omega
  have HIC := Lib.hid hic
  have HR1 := Lib.hid R1
  have HB1 := Lib.hid B1
  have HP1 := Lib.hid P1
  have HS1 := Lib.hid S1
  clear hR R1 P0 S0 B0 Z0 P1 S1 B1 hB1 ha hk hic
  go_wp2_with fail
  refine (copied_any _ _ (xs.take q) _ q hql (by omega) (HR1.out.take q)).mono ?_; rintro e w2 ⟨v2, rfl, hown2, hB2⟩
  have hs2 := hB2.size
  have HO2 := Lib.hid hown2
  have HP2 := Lib.hid (HP1.out.below hB2 (by omega))
  have HS2 := Lib.hid (HS1.out.below hB2 (by omega))
  have HB2 := Lib.hid hB2
  clear hown2 hB2 HP1 HS1 b1
  go_wp2_with (at_builtin; go_must (refine wpList_app rfl (.tmp 23) (.tmp 27) rfl w1.heap.size _ q (xs.take q) rfl (HO2.out.alloc _) (some ⟨w2.heap.size, 0, none⟩) 1 1 [(k, r)] rfl rfl (Rs.one w2 k r) (by omega) (by rw [nblk_alloc]; omega) ?_))
  intro v3 w3 hown3 hB3
  have hB3' := ((Below.refl w1.heap.size w2).alloc hs2 _).trans hB3
  have hs3 := hB3'.size
  have HO3 := Lib.hid hown3
  have HP3 := Lib.hid (HP2.out.below hB3' (by omega))
  have HS3 := Lib.hid (HS2.out.below hB3' (by omega))
  have HR3 := Lib.hid (HR1.out.below (HB2.out.trans hB3') (Nat.le_refl _))
  have HB3 := Lib.hid (HB2.out.trans hB3')
  have b1 := HP3.out.cell (i := 1) rfl
  clear hown3 hB3 hB3' HO2 HB2 HP2 HS2 HR1
  go_wp2_with (at_builtin; go_must (refine wpList_app rfl (.tmp 29) (.tmp 33) rfl w1.heap.size _ (q + 1) (xs.take q ++ [(k, r)]) rfl HO3.out _ (n - q) (c - q) (xs.drop q) rfl (by rw [List.length_drop]; omega) (HR3.out.drop q (by omega)) (by omega) (by omega) ?_))
  all_goals
    intro v4 w4 hown4 hB4
    have hs4 := hB4.size
    have hP4 := HP3.out.below hB4 (by omega)
    have hS4 := HS3.out.below hB4 (by omega)
    rw [← HIC.out] at hown4
    have e2 : q + 1 + (n - q) = n + 1 := by omega
    rw [e2] at hown4
    obtain ⟨A4, c4, rfl, hl4, hR4, hA4⟩ := Rs.own hown4
    have b0 := hP4.cell (i := 0) rfl
    have b1 := hP4.cell (i := 1) rfl
    have b2 := hP4.cell (i := 2) rfl
    have b3 := hP4.cell (i := 3) rfl
    have b4 := hP4.cell (i := 4) rfl
    have x1 := hP4.frozen 1
    have y0 := hS4.cell (i := 0) rfl
    have y1 := hS4.cell (i := 1) rfl
    have y2 := hS4.cell (i := 2) rfl
    have y3 := hS4.cell (i := 3) rfl
    have y4 := hS4.cell (i := 4) rfl
    have z0 := hS4.frozen 0
    have z1 := hS4.frozen 1
    have z2 := hS4.frozen 2
    have z3 := hS4.frozen 3
    have z4 := hS4.frozen 4
    have HO4 := Lib.hid hown4
    have HB4 := Lib.hid (HB1.out.trans ((HB3.out.trans hB4).mono (by omega)))
    clear hown4 hP4 hS4 hB4 HO3 HB3 HP3 HS3 HR3 hR4 hA4 hl4 e2 HIC
    go_wp2
    refine bodyPost_ret (v := .tuple #[.agg #[.int .i64 lv, .slice A4 (n + 1) c4, .string hi, .bool la, .int .u64 (rt : Int)], .bool true]) (by simp [results, Try.results21, go_sem, *]) rfl ?_
    exact ⟨_, _, rfl, own_less (own_page HO4.out (by omega) (by omega) _ _ _ _ _ _) (by omega), below_page HB4.out (Nat.le_refl _) (Nat.le_succ _) _ _ _ _ _ _⟩
end Go.Proofs.Ytegbdpelnmaijaa
