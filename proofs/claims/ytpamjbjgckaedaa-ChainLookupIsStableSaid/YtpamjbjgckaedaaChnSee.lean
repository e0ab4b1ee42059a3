/-
  What Visible and Value of package record and of its reference answer for any chain: the version that a time sees, its value. Condition: chains of at most 2^40 versions.
-/
import Derived.Test.YtpamjbjgckaedaaChnFns
namespace Go.Proofs.Ytpamjbjgckaedaa
open Go.RowKit Go.Deep Plain
set_option linter.unusedVariables false

set_option maxHeartbeats 1000000 in
theorem visible_any (A : Option Addr) (c : Nat) (xs : List Ve) (t : Nat) (w : World) (n : Nat) (hn : xs.length = n) (h40 : n ≤ 1099511627776) (hR : Rv w A c xs) (x : Ve) (b : Bool) (h : vis t xs = (x, b)) :
    Calls Try.prog 70 #[.slice A n c, .int .u64 (t : Int)] w fun e w' => e = .returned (.tuple #[.agg #[.int .u64 (x.1 : Int), .string x.2.1, .bool x.2.2], .bool b]) ∧ Below w.heap.size w w' := by
  have B0 := (Below.refl w.heap.size w).alloc (Nat.le_refl _) (.cells #[.int .u64 0, .string ⟨#[]⟩, .bool false] 51)
  have P0 := Blk.new w [.int .u64 0, .string ⟨#[]⟩, .bool false] 51
  have hz := nblk_alloc w (.cells #[.int .u64 0, .string ⟨#[]⟩, .bool false] 51)
  have HR0 := Lib.hid (hR.below B0 (Nat.le_refl _))
  have HB0 := Lib.hid B0
  have HP0 := Lib.hid P0
  have HZ := Lib.hid hz
  have HV := Lib.hid h
  clear B0 P0 hz h hR
  go_enter Try.func70, Try.ntmps70
  go_wp2_with fail
  refine (find_any A c xs t _ n hn h40 HR0.out).mono ?_; rintro e w1 ⟨rfl, hB1⟩
  have HR1 := Lib.hid (HR0.out.below hB1 (Nat.le_refl _))
  rw [HZ.out] at hB1
  have P1 := HP0.out.below hB1 (by omega)
  have HB1 := Lib.hid (HB0.out.trans (hB1.mono (by omega)))
  have y0 := P1.cell (i := 0) rfl
  have y1 := P1.cell (i := 1) rfl
  have y2 := P1.cell (i := 2) rfl
  have z0 := P1.frozen 0
  have z1 := P1.frozen 1
  have z2 := P1.frozen 2
  have hql := fnd_le t xs
  obtain ⟨q, hq⟩ : ∃ q, fnd t xs = q := ⟨_, rfl⟩
  rw [hq] at hql ⊢
  have HQ := Lib.hid hq
  clear P1 hB1 hq
  by_cases hqn : q = n
  · obtain ⟨rfl, rfl⟩ : x = nul ∧ b = false := by
      have h1 := HV.out
      rw [vis_no (by rw [HQ.out]; omega)] at h1
      cases h1; exact ⟨rfl, rfl⟩
    have hd : ((q : Int) == (n : Int)) = true := by simp; omega
    clear hqn
    go_wp2
    refine bodyPost_ret (v := .tuple #[.agg #[.int .u64 0, .string ⟨#[]⟩, .bool false], .bool false]) (by first | (simp [results, Try.results70, go_sem]; done) | (simp [results, Try.results70, go_sem, *]; done)) rfl ⟨rfl, ?_⟩
    exact ((HB1.out.setCell (Nat.le_refl _) _).setCell (Nat.le_refl _) _).setCell (Nat.le_refl _) _
  · have hd : ((q : Int) == (n : Int)) = false := by simp; omega
    have hlt : q < n := by omega
    obtain ⟨y, hy⟩ : ∃ y, xs[q]? = some y := ⟨_, List.getElem?_eq_getElem (by omega)⟩
    obtain ⟨rfl, rfl⟩ : x = y ∧ b = true := by
      have h1 := HV.out
      rw [vis_yes (x := y) (by rw [HQ.out]; exact hy)] at h1
      cases h1; exact ⟨rfl, rfl⟩
    obtain ⟨g, off, rfl, hg, hcell⟩ := HR1.out.at (by omega)
    obtain ⟨c0, c1, c2⟩ := hcell q _ hy
    clear hcell hy hqn
    go_wp2
    refine bodyPost_ret (v := .tuple #[.agg #[.int .u64 (x.1 : Int), .string x.2.1, .bool x.2.2], .bool true]) (by first | (simp [results, Try.results70, go_sem]; done) | (simp [results, Try.results70, go_sem, *]; done)) rfl ⟨rfl, ?_⟩
    exact ((HB1.out.setCell (Nat.le_refl _) _).setCell (Nat.le_refl _) _).setCell (Nat.le_refl _) _

set_option maxHeartbeats 1000000 in
theorem refVisible_any (A : Option Addr) (c : Nat) (xs : List Ve) (t : Nat) (w : World) (n : Nat) (hn : xs.length = n) (h40 : n ≤ 1099511627776) (hR : Rv w A c xs) (x : Ve) (b : Bool) (h : vis t xs = (x, b)) :
    Calls Try.prog 53 #[.slice A n c, .int .u64 (t : Int)] w fun e w' => e = .returned (.tuple #[.agg #[.int .u64 (x.1 : Int), .string x.2.1, .bool x.2.2], .bool b]) ∧ Below w.heap.size w w' := by
  have B0 := (Below.refl w.heap.size w).alloc (Nat.le_refl _) (.cells #[.int .u64 0, .string ⟨#[]⟩, .bool false] 51)
  have P0 := Blk.new w [.int .u64 0, .string ⟨#[]⟩, .bool false] 51
  have hz := nblk_alloc w (.cells #[.int .u64 0, .string ⟨#[]⟩, .bool false] 51)
  have HR0 := Lib.hid (hR.below B0 (Nat.le_refl _))
  have HB0 := Lib.hid B0
  have HP0 := Lib.hid P0
  have HZ := Lib.hid hz
  have HV := Lib.hid h
  clear B0 P0 hz h hR
  go_enter Try.func53, Try.ntmps53
  go_wp2_with fail
  refine (first_any A c xs t _ n hn h40 HR0.out).mono ?_; rintro e w1 ⟨rfl, hB1⟩
  have HR1 := Lib.hid (HR0.out.below hB1 (Nat.le_refl _))
  rw [HZ.out] at hB1
  have P1 := HP0.out.below hB1 (by omega)
  have HB1 := Lib.hid (HB0.out.trans (hB1.mono (by omega)))
  have y0 := P1.cell (i := 0) rfl
  have y1 := P1.cell (i := 1) rfl
  have y2 := P1.cell (i := 2) rfl
  have z0 := P1.frozen 0
  have z1 := P1.frozen 1
  have z2 := P1.frozen 2
  have hql := fnd_le t xs
  obtain ⟨q, hq⟩ : ∃ q, fnd t xs = q := ⟨_, rfl⟩
  rw [hq] at hql ⊢
  have HQ := Lib.hid hq
  clear P1 hB1 hq
  by_cases hqn : q = n
  · obtain ⟨rfl, rfl⟩ : x = nul ∧ b = false := by
      have h1 := HV.out
      rw [vis_no (by rw [HQ.out]; omega)] at h1
      cases h1; exact ⟨rfl, rfl⟩
    have hd : ((q : Int) == (n : Int)) = true := by simp; omega
    clear hqn
    go_wp2
    refine bodyPost_ret (v := .tuple #[.agg #[.int .u64 0, .string ⟨#[]⟩, .bool false], .bool false]) (by first | (simp [results, Try.results53, go_sem]; done) | (simp [results, Try.results53, go_sem, *]; done)) rfl ⟨rfl, ?_⟩
    exact ((HB1.out.setCell (Nat.le_refl _) _).setCell (Nat.le_refl _) _).setCell (Nat.le_refl _) _
  · have hd : ((q : Int) == (n : Int)) = false := by simp; omega
    have hlt : q < n := by omega
    obtain ⟨y, hy⟩ : ∃ y, xs[q]? = some y := ⟨_, List.getElem?_eq_getElem (by omega)⟩
    obtain ⟨rfl, rfl⟩ : x = y ∧ b = true := by
      have h1 := HV.out
      rw [vis_yes (x := y) (by rw [HQ.out]; exact hy)] at h1
      cases h1; exact ⟨rfl, rfl⟩
    obtain ⟨g, off, rfl, hg, hcell⟩ := HR1.out.at (by omega)
    obtain ⟨c0, c1, c2⟩ := hcell q _ hy
    clear hcell hy hqn
    go_wp2
    refine bodyPost_ret (v := .tuple #[.agg #[.int .u64 (x.1 : Int), .string x.2.1, .bool x.2.2], .bool true]) (by first | (simp [results, Try.results53, go_sem]; done) | (simp [results, Try.results53, go_sem, *]; done)) rfl ⟨rfl, ?_⟩
    exact ((HB1.out.setCell (Nat.le_refl _) _).setCell (Nat.le_refl _) _).setCell (Nat.le_refl _) _

set_option maxHeartbeats 1000000 in
theorem value_any (A : Option Addr) (c : Nat) (xs : List Ve) (t : Nat) (w : World) (n : Nat) (hn : xs.length = n) (h40 : n ≤ 1099511627776) (hR : Rv w A c xs) (s : ByteArray) (b : Bool) (h : val t xs = (s, b)) :
    Calls Try.prog 54 #[.slice A n c, .int .u64 (t : Int)] w fun e w' => e = .returned (.tuple #[.string s, .bool b]) ∧ Below w.heap.size w w' := by
  obtain ⟨x, p, hxp⟩ : ∃ x p, vis t xs = (x, p) := ⟨_, _, rfl⟩
  unfold val at h
  rw [hxp] at h
  have HV := Lib.hid hxp
  have HH := Lib.hid h
  clear hxp h
  go_enter Try.func54, Try.ntmps54
  go_wp2_with fail
  refine (visible_any A c xs t _ n hn h40 hR x p HV.out).mono ?_; rintro e w1 ⟨rfl, hB1⟩
  have HB1 := Lib.hid hB1
  have hs := hB1.size
  clear hB1 hR
  cases p
  · obtain ⟨rfl, rfl⟩ : s = ⟨#[]⟩ ∧ b = false := by have h := HH.out; simp at h; exact ⟨h.1.symm, h.2⟩
    go_wp2
    go_ret2
    exact ⟨rfl, HB1.out.alloc hs _⟩
  · obtain ⟨x1, x2, x3⟩ := x
    cases x3
    · obtain ⟨rfl, rfl⟩ : x2 = s ∧ b = true := by have h := HH.out; simp at h; exact h
      go_wp2
      go_ret2
      exact ⟨rfl, HB1.out.alloc hs _⟩
    · obtain ⟨rfl, rfl⟩ : s = ⟨#[]⟩ ∧ b = false := by have h := HH.out; simp at h; exact ⟨h.1.symm, h.2⟩
      go_wp2
      go_ret2
      exact ⟨rfl, HB1.out.alloc hs _⟩

set_option maxHeartbeats 1000000 in
theorem refValue_any (A : Option Addr) (c : Nat) (xs : List Ve) (t : Nat) (w : World) (n : Nat) (hn : xs.length = n) (h40 : n ≤ 1099511627776) (hR : Rv w A c xs) (s : ByteArray) (b : Bool) (h : val t xs = (s, b)) :
    Calls Try.prog 28 #[.slice A n c, .int .u64 (t : Int)] w fun e w' => e = .returned (.tuple #[.string s, .bool b]) ∧ Below w.heap.size w w' := by
  obtain ⟨x, p, hxp⟩ : ∃ x p, vis t xs = (x, p) := ⟨_, _, rfl⟩
  unfold val at h
  rw [hxp] at h
  have HV := Lib.hid hxp
  have HH := Lib.hid h
  clear hxp h
  go_enter Try.func28, Try.ntmps28
  go_wp2_with fail
  refine (refVisible_any A c xs t _ n hn h40 hR x p HV.out).mono ?_; rintro e w1 ⟨rfl, hB1⟩
  have HB1 := Lib.hid hB1
  have hs := hB1.size
  clear hB1 hR
  cases p
  · obtain ⟨rfl, rfl⟩ : s = ⟨#[]⟩ ∧ b = false := by have h := HH.out; simp at h; exact ⟨h.1.symm, h.2⟩
    go_wp2
    go_ret2
    exact ⟨rfl, HB1.out.alloc hs _⟩
  · obtain ⟨x1, x2, x3⟩ := x
    cases x3
    · obtain ⟨rfl, rfl⟩ : x2 = s ∧ b = true := by have h := HH.out; simp at h; exact h
      go_wp2
      go_ret2
      exact ⟨rfl, HB1.out.alloc hs _⟩
    · obtain ⟨rfl, rfl⟩ : s = ⟨#[]⟩ ∧ b = false := by have h := HH.out; simp at h; exact ⟨h.1.symm, h.2⟩
      go_wp2
      go_ret2
      exact ⟨rfl, HB1.out.alloc hs _⟩
end Go.Proofs.Ytpamjbjgckaedaa
