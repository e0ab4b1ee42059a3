/-
  What Live of package registry answers: the timestamps of the open snapshots, as sorted by the library's slices.Sort, of which the caller says what it leaves. Condition: sizes within their limits.
-/
import Derived.Test.YtddjggckmmdicaaRegSort
import Derived.Test.YtddjggckmmdicaaRegWm
namespace Go.Proofs.Ytddjggckmmdicaa
open Go.RowKit Go.Deep
set_option linter.unusedVariables false

/-- The timestamps of the open ones of the first snapshots. -/
def raw (x : Nat → Nat) : Nat → List Nat
  | 0 => []
  | j + 1 => if x j = 0 then raw x j else raw x j ++ [x j - 1]
theorem raw_len (x : Nat → Nat) : ∀ n, (raw x n).length ≤ n
  | 0 => Nat.le_refl _
  | n + 1 => by
    have := raw_len x n
    unfold raw; split
    · omega
    · rw [List.length_append]; simp; omega
theorem own2 {w : World} {base : Nat} {v : Value} {n : Nat} {xs : List Nat} (h : w.ownsRow base 22 1 v n (words xs)) : ∃ A c, v = .slice A n c ∧ xs.length = n ∧ Rw w A c xs ∧ ∀ g off, A = some ⟨g, off, none⟩ → base ≤ g := by
  have hA : ∀ A c, v = .slice A n c → ∀ g off, A = some ⟨g, off, none⟩ → base ≤ g := fun A c e g off ha => by
    subst ha
    rcases h.2 with ⟨rfl, _⟩ | ⟨g2, cap, cur, rfl, hb, _⟩
    · cases e
    · cases e; omega
  obtain ⟨A, c, e, h1, h2⟩ := Rw.own h
  exact ⟨A, c, e, h1, h2, hA A c e⟩
theorem own2f {w : World} {base : Nat} {A : Option Addr} {c n : Nat} {xs : List Value} (h : w.ownsRow base 22 1 (.slice A n c) n xs) : ∀ g off, A = some ⟨g, off, none⟩ → ∀ j, w.frozen? ⟨g, off + j, none⟩ = false := fun g off ha j => by
  subst ha
  rcases h.2 with ⟨e, _⟩ | ⟨g2, cap, cur, e, hb, hg, _⟩
  · cases e
  · cases e; simp [World.frozen?, hg]
theorem below_drewN {B : Nat} {w w' : World} (h : Below B w w') (m : Nat) : Below B w (w'.drewN m) := ⟨h.os, h.tape, h.output, h.size, h.block⟩
/-- The cells of the first n snapshots hold these words. -/
def Snaps (l : List Cel) (n : Nat) (x : Nat → Nat) : Prop := ∀ k, k < n → x k < 18446744073709551616 ∧ ∃ K M, cellAt l ((8 + k : Nat) : Int) = ((x k : Int), K, M)

set_option maxHeartbeats 4000000 in
theorem live_any (T S : Nat) (N C R F K a b d : Int) (hl : Lim (T : Int) (S : Int) N C R F) (p g : Nat) (l : List Cel) (k : Nat) (x : Nat → Nat) (n : Nat) (hn : T * S = n) (hx : Snaps l n x) (m : Nat) (hm : (raw x n).length = m) (out : List Nat) (w : World) (h : Mem w p g l k)
    (hS : ∀ (A : Option Addr) (c : Nat) (w1 : World), Rw w1 A c (raw x n) → w.heap.size ≤ w1.heap.size → (∀ g off, A = some ⟨g, off, none⟩ → w.heap.size ≤ g ∧ ∀ j, w1.frozen? ⟨g, off + j, none⟩ = false) → Calls Try.prog 31 #[.slice A m c] w1 fun e w2 => e = .returned (.tuple #[]) ∧ Rw w2 A c out ∧ Below w.heap.size w1 w2) :
    Calls Try.prog 16 #[.agg #[.int .i64 (T : Int), .int .i64 (S : Int), .int .i64 N, .int .i64 C, .int .i64 R, .int .i64 F, .int .u64 K, .int .i64 a, .int .i64 b, .int .i64 d], .pointer (some ⟨p, 0, none⟩)] w fun e w' => ∃ A c, e = .returned (.slice A m c) ∧ Rw w' A c out ∧ Below w.heap.size w w' := by
  have hT1 := hl.t1
  have hT2 := hl.t2
  have hS1 := hl.s1
  have hS2 := hl.s2
  have hn5 : n ≤ 64 * 8 := by rw [← hn]; exact Nat.mul_le_mul (by omega) (by omega)
  have hB0 := Blk.new w [.int .i64 (T : Int), .int .i64 (S : Int), .int .i64 N, .int .i64 C, .int .i64 R, .int .i64 F, .int .u64 K, .int .i64 a, .int .i64 b, .int .i64 d] 29
  have HK0 := Lib.hid ((Kept.refl (fun _ => False) w).alloc (.cells #[.int .i64 (T : Int), .int .i64 (S : Int), .int .i64 N, .int .i64 C, .int .i64 R, .int .i64 F, .int .u64 K, .int .i64 a, .int .i64 b, .int .i64 d] 29))
  have HL := Lib.hid hl
  have HX := Lib.hid hx
  have HS := Lib.hid hS
  have HM := Lib.hid h
  have HMM := Lib.hid hm
  have HN := Lib.hid hn
  clear hB0 hl hx hS h hm hn
  go_enter Try.func16, Try.ntmps16
  go_wp2_with fail
  refine (snapCells_any T S N C R F K a b d HL.out _).mono ?_; rintro e w1 ⟨rg, rc, rfl, hc1, hc2, hg1, hg2, hrow, hK1⟩
  rw [HN.out] at hc1 hrow
  rw [HN.out]
  have HK1 := Lib.hid (HK0.out.trans hK1 (fun _ _ h => h))
  have HM1 := Lib.hid (HM.out.kept HK1.out id id)
  have HR := Lib.hid hrow
  have hz := HK1.out.size
  clear hK1 HK0 hrow hg1 HM
  unfold maxLen at hc2
  go_wp2_with fail
  go_loopw [5, 13] (fun v i wr => ∃ j t : Nat, j ≤ n ∧ t ≤ j ∧ i = .int .i64 j ∧ wr.ownsRow w1.heap.size 22 1 v t (words (raw x j)) ∧ Below w1.heap.size w1 wr) (fun _ i _ => n - (intOf i).toNat)
  case atStart => exact ⟨0, 0, by omega, by omega, rfl, World.ownsRow_nil _ _ _ _, Below.refl _ _⟩
  case round =>
    obtain ⟨j, t, hj, htj, rfl, hown, hbel⟩ := hrel
    have HO := Lib.hid hown
    have HB := Lib.hid hbel
    clear hown hbel
    by_cases hlt : j < n
    · have r0 := (HB.out.cell (p := ⟨rg, j, none⟩) hg2).trans (HR.out j hlt)
      have hMj : Mem _ p g l k := HM1.out.kept (Below.kept HB.out (S := fun i => w1.heap.size ≤ i) (fun _ _ h => h)) (by have := HM1.out.obj.lt; omega) (by have := HM1.out.row.lt; omega)
      obtain ⟨hxb, K', M', hcl⟩ := HX.out j hlt
      have hr1 : raw x (j + 1) = if x j = 0 then raw x j else raw x j ++ [x j - 1] := rfl
      obtain ⟨u, hu⟩ : ∃ u, x j = u := ⟨_, rfl⟩
      rw [hu] at hxb hcl hr1
      have HR1 := Lib.hid hr1
      clear hr1 hu
      go_wp2_with fail
      refine (peek_any p g l k ((8 + j : Nat) : Int) (u : Int) M' K' _ hMj hcl).mono ?_; rintro e w2 ⟨rfl, hK2⟩
      have hz2 := HB.out.size
      have hB2 := HB.out.trans (hK2.below (B := w1.heap.size) hz2 (fun _ h => h.elim))
      have hO2 := own_below HO.out (hK2.below (Nat.le_refl _) (fun _ h => h.elim)) (Nat.le_refl _)
      have hz3 := hB2.size
      have HB2 := Lib.hid hB2
      have HO2 := Lib.hid hO2
      clear hB2 hO2 hK2 HB HO hMj r0 hcl hz2
      go_wp2_with fail
      by_cases h0 : u = 0
      · subst h0
        refine (timeOf_no M' K' _).mono ?_; rintro e w3 ⟨rfl, hK3⟩
        have HB3 := Lib.hid (HB2.out.trans (hK3.below (B := w1.heap.size) hz3 (fun _ h => h.elim)))
        have HO3 := Lib.hid (own_below HO2.out (hK3.below (Nat.le_refl _) (fun _ h => h.elim)) (Nat.le_refl _))
        have hr := HR1.out
        rw [if_pos rfl] at hr
        have HRR := Lib.hid hr
        clear hK3 HB2 HO2 hr
        go_wp2
        go_roundw
        case rel => exact ⟨j + 1, t, by omega, by omega, by go_num, by rw [HRR.out]; exact HO3.out, HB3.out⟩
        case measure => simp [intOf]; omega
      · obtain ⟨y, rfl⟩ : ∃ y, u = y + 1 := ⟨u - 1, by omega⟩
        have ht := timeOf_yes ((y + 1 : Nat) : Int) M' K' (by omega) (by omega) w2
        rw [show ((y + 1 : Nat) : Int) - 1 = (y : Int) by omega] at ht
        refine ht.mono ?_; rintro e w3 ⟨rfl, hK3⟩
        have hB3 := HB2.out.trans (hK3.below (B := w1.heap.size) hz3 (fun _ h => h.elim))
        have hz4 := hB3.size
        have HB3 := Lib.hid hB3
        have HO3 := Lib.hid (own_below HO2.out (hK3.below (Nat.le_refl _) (fun _ h => h.elim)) (Nat.le_refl _))
        have hr := HR1.out
        rw [if_neg h0, Nat.add_sub_cancel] at hr
        have HRR := Lib.hid hr
        clear hK3 hB3 HB2 HO2 hr ht
        go_wp2_with (at_builtin; go_must (refine wpList_appw rfl (.tmp 25) (.tmp 27) rfl w1.heap.size _ t (raw x j) rfl (HO3.out.alloc _) w3.heap.size 0 y rfl ((Blk.new w3 [.int .u64 (y : Int)] 22).cell (i := 0) rfl) (by omega) (by rw [nblk_alloc]; omega) ?_))
        intro v2 w4 hown4 hB4
        have HB4 := Lib.hid ((HB3.out.alloc hz4 _).trans hB4)
        rw [← HRR.out] at hown4
        have HO4 := Lib.hid hown4
        clear hown4 hB4
        go_wp2
        go_roundw
        case rel => exact ⟨j + 1, t + 1, by omega, by omega, by go_num, HO4.out, HB4.out⟩
        case measure => simp [intOf]; omega
    · obtain rfl : j = n := by omega
      obtain ⟨A, c, rfl, hl2, hR2, hA2⟩ := own2 HO.out
      obtain rfl : t = m := by rw [← hl2]; exact HMM.out
      have HA := Lib.hid hA2
      have HFZ := Lib.hid (own2f HO.out)
      have HRR := Lib.hid hR2
      have hz2 := HB.out.size
      clear hA2 hR2 hl2 HO
      go_wp2_with fail
      refine (HS.out A c _ HRR.out (by omega) (fun g off e => ⟨by have := HA.out g off e; omega, HFZ.out g off e⟩)).mono ?_; rintro e w5 ⟨rfl, hR5, hB5⟩
      have HR5 := Lib.hid hR5
      have HB5 := Lib.hid (((HK1.out.below (B := w.heap.size) (Nat.le_refl _) (fun _ h => h.elim)).trans (HB.out.mono hz)).trans hB5)
      clear hR5 hB5
      go_wp2
      go_ret
      exact ⟨A, c, rfl, HR5.out, HB5.out⟩

theorem live_asc (T S : Nat) (N C R F K a b d : Int) (hl : Lim (T : Int) (S : Int) N C R F) (p g : Nat) (l : List Cel) (k : Nat) (x : Nat → Nat) (n : Nat) (hn : T * S = n) (hx : Snaps l n x) (out : List Nat) (ho : raw x n = out) (h12 : out.length ≤ 12) (ha : Asc out) (w : World) (h : Mem w p g l k) :
    Calls Try.prog 16 #[.agg #[.int .i64 (T : Int), .int .i64 (S : Int), .int .i64 N, .int .i64 C, .int .i64 R, .int .i64 F, .int .u64 K, .int .i64 a, .int .i64 b, .int .i64 d], .pointer (some ⟨p, 0, none⟩)] w fun e w' => ∃ A c, e = .returned (.slice A out.length c) ∧ Rw w' A c out ∧ Below w.heap.size w w' := by
  subst ho
  refine live_any T S N C R F K a b d hl p g l k x n hn hx _ rfl _ w h fun A c w1 hR hz hA => ?_
  refine (sort_asc A c _ w1 _ rfl h12 hR ha).mono ?_
  rintro e w2 ⟨he, m, rfl⟩
  exact ⟨he, hR.drewN m, below_drewN (Below.refl _ _) m⟩

set_option maxHeartbeats 1000000 in
theorem sameW_any (A A2 : Option Addr) (c c2 : Nat) (xs : List Nat) (w : World) (n : Nat) (hn : xs.length = n) (h40 : n ≤ 1099511627776) (hR : Rw w A c xs) (hR2 : Rw w A2 c2 xs) :
    Calls Try.prog 15 #[.slice A n c, .slice A2 n c2] w fun e w' => e = .returned (.bool true) ∧ Below w.heap.size w w' := by
  have HR := Lib.hid hR
  have HR2 := Lib.hid hR2
  clear hR hR2
  go_enter Try.func15, Try.ntmps15
  go_wp2
  go_loopw [5] (fun i wr => ∃ j : Nat, j ≤ n ∧ i = .int .i64 j ∧ Below w.heap.size w wr) (fun i _ => n - (intOf i).toNat)
  case atStart => exact ⟨0, by omega, rfl, Below.refl _ _⟩
  case round =>
    obtain ⟨j, hj, rfl, hB⟩ := hrel
    have HB := Lib.hid hB
    by_cases hlt : j < n
    · obtain ⟨x, hx⟩ : ∃ x, xs[j]? = some x := ⟨_, List.getElem?_eq_getElem (by omega)⟩
      obtain ⟨g, off, rfl, hg, hcell⟩ := (HR.out.below hB (Nat.le_refl _)).at (by omega)
      obtain c0 := hcell j x hx
      obtain ⟨g2, off2, rfl, hg2, hcell2⟩ := (HR2.out.below hB (Nat.le_refl _)).at (by omega)
      obtain d0 := hcell2 j x hx
      clear hcell hcell2 hx hB
      go_wp2_with fail
      go_quiet (fail)
      go_wp2
      go_roundw
      case rel => exact ⟨j + 1, by omega, by go_num, below_drewN HB.out _⟩
      case measure => simp [intOf]; omega
    · go_wp2
      go_ret
      exact ⟨rfl, hB⟩

end Go.Proofs.Ytddjggckmmdicaa
