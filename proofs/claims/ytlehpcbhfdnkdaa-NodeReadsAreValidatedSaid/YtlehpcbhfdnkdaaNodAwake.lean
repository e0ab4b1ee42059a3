/-
  The sanity check of layer 8's statements ('awake') returns true; nothing that was there is written. Condition: none.
-/
import Derived.Test.YtlehpcbhfdnkdaaNodAlone
namespace Go.Proofs.Ytlehpcbhfdnkdaa
open Go.RowKit Go.Deep Plain
set_option linter.unusedVariables false

theorem pfield1 (lv rt : Int) (A : Option Addr) (n c : Nat) (hi : ByteArray) (la : Bool) (w : World) : (Instr.field 25 (.agg #[.int .i64 lv, .slice A n c, .string hi, .bool la, .int .u64 rt]) 1).run Try.prog w = .ok (.slice A n c) w := by kernel_rfl
theorem pfield3 (lv rt : Int) (A : Option Addr) (n c : Nat) (hi : ByteArray) (la : Bool) (w : World) : (Instr.field 25 (.agg #[.int .i64 lv, .slice A n c, .string hi, .bool la, .int .u64 rt]) 3).run Try.prog w = .ok (.bool la) w := by kernel_rfl
theorem pfield4 (lv rt : Int) (A : Option Addr) (n c : Nat) (hi : ByteArray) (la : Bool) (w : World) : (Instr.field 25 (.agg #[.int .i64 lv, .slice A n c, .string hi, .bool la, .int .u64 rt]) 4).run Try.prog w = .ok (.int .u64 rt) w := by kernel_rfl
theorem start_four {l : List Cel} (h : Start 4 l) : Holds (nad 4 1) l pg0 ∧ (cellAt l (nla 4 1)).1 = ((0 : Nat) : Int) := by
  obtain ⟨h1, h2⟩ := h.one (by omega) (by omega)
  exact ⟨h1, by rw [h2]; rfl⟩
/-- The example's Read after k steps (five suffice). -/
theorem awake_state {l : List Cel} (h : Start 4 l) (k : Nat) (hk : 5 ≤ k) : ralone 4 1 l k = ⟨3, 0, got pg0 3⟩ := by
  have := ralone_end (F := 4) (nid := 1) h.nats (start_four h).1 (fun _ => rfl) (by show 0 ≤ 4; omega) (wd := 0) (start_four h).2 (by omega) (k - 5)
  rw [show pg0.xs.length + 5 + (k - 5) = k by show 0 + 5 + (k - 5) = k; omega] at this
  exact this
theorem awake_before {l : List Cel} (h : Start 4 l) (k : Nat) (hk : k < 5) : (ralone 4 1 l k).ph < 3 := by
  match k, hk with
  | 0, _ => exact (by decide : (0 : Nat) < 3)
  | k + 1, hk => rw [ralone_at (F := 4) (nid := 1) h.nats (start_four h).1 (fun _ => rfl) (by show 0 ≤ 4; omega) (wd := 0) (start_four h).2 (by omega) k (by show k ≤ 3; omega)]; simp only; split <;> omega

theorem awake_page {Z : Nat → Prop} {w : World} {fb fd : Int} {q : Nat} (h : Rd Z w 4 fb fd q 1 ⟨3, 0, got pg0 3⟩) :
    Calls Try.prog 30 #[.pointer (some ⟨q, 0, none⟩)] w fun e w' => ∃ (A : Option Addr) (c : Nat), e = .returned (.agg #[.int .i64 0, .slice A 0 c, .string ⟨#[]⟩, .bool true, .int .u64 0]) ∧ Kept (fun _ => False) w w' :=
  (rpage_any Z 1 2 100 100 200 4 1000 10 fb fd q 1 _ w h rfl (by show 0 ≤ _; omega)).mono fun e w' ⟨A, c, he, _, _, hk⟩ => ⟨A, c, he, hk⟩

set_option maxRecDepth 100000 in
set_option maxHeartbeats 4000000 in
theorem awake_any (w : World) :
    Calls Try.prog 9 #[] w fun e w' => e = .returned (.bool true) ∧ Kept (fun _ => False) w w' := by
  go_enter Try.func9, Try.ntmps9
  go_wp2_with fail
  refine (kitConfig_any 1 0 4 (by rfl) _).mono ?_; rintro e w1 ⟨rfl, hK1⟩
  go_wp2_with fail
  refine (kitMem 4 (by omega) (by omega) _).mono ?_
  intro e w2 hok
  obtain ⟨b, g, l, fb, fd, rfl, hM2, hS2, hd, hb2, hg2, hK2⟩ := hok
  have hz := hK1.size
  have HM := Lib.hid hM2
  have HS := Lib.hid hS2
  have HD := Lib.hid hd
  have HBG := Lib.hid (show w.heap.size ≤ b ∧ w.heap.size ≤ g ∧ b < w2.heap.size ∧ g < w2.heap.size from ⟨by omega, by omega, hM2.obj.lt, hM2.row.lt⟩)
  have HK := Lib.hid (hK1.trans hK2 (fun _ _ h => h))
  clear hM2 hS2 hd hb2 hg2 hz hK1 hK2
  go_wp2_with fail
  have hal := (Kept.refl (fun _ => False) w2).alloc (.cells #[.int .i64 1, .int .i64 2, .int .i64 100, .int .i64 100, .int .i64 200, .int .i64 4, .int .u64 1000, .int .i64 10, .int .i64 fb, .int .i64 fd] 30)
  have HM3 := Lib.hid (HM.out.kept hal (fun h => h) (fun h => h))
  have HK3 := Lib.hid (HK.out.trans hal (fun _ _ h => h))
  have HLY := Lib.hid (Blk.new w2 [.int .i64 1, .int .i64 2, .int .i64 100, .int .i64 100, .int .i64 200, .int .i64 4, .int .u64 1000, .int .i64 10, .int .i64 fb, .int .i64 fd] 30)
  have HSZ := Lib.hid hal.size
  clear hal HM HK
  generalize w2.alloc (.cells #[.int .i64 1, .int .i64 2, .int .i64 100, .int .i64 100, .int .i64 200, .int .i64 4, .int .u64 1000, .int .i64 10, .int .i64 fb, .int .i64 fd] 30) = W at *
  generalize w2.heap.size = s0 at *
  refine (newRead_any 1 2 100 100 200 4 1000 10 fb fd (limF (F := 4) (by omega) (by omega)) HD.out 1 _).mono ?_; rintro e w4 ⟨q, rfl, hC4, hq4, hK4⟩
  have HC := Lib.hid (show Rd (fun i => i = q) w4 4 fb fd q 1 (ralone 4 1 l 0) from hC4)
  have HM := Lib.hid (HM3.out.kept hK4 (fun h => h) (fun h => h))
  have HK := Lib.hid (HK3.out.trans hK4 (fun _ _ h => h))
  have HQ := Lib.hid (show ∀ i, i = q → w.heap.size ≤ i ∧ i ≠ b ∧ i ≠ g from fun i e => by have := HBG.out; have := HSZ.out; have := HK3.out.size; omega)
  clear hC4 hq4 hK4 HM3 HK3 HLY
  go_wp2_with fail
  go_loopw [4] (fun i wr => ∃ (k : Nat) (Z : Nat → Prop), k ≤ 20 ∧ i = .int .i64 k ∧ (k = 0 ∨ k ≤ 4) ∧ Rd Z wr 4 fb fd q 1 (ralone 4 1 l k) ∧ (∀ i, Z i → w.heap.size ≤ i ∧ i ≠ b ∧ i ≠ g) ∧ Mem wr b g l k ∧ Kept (fun _ => False) w wr) (fun i _ => 20 - (intOf i).toNat)
  case atStart => exact ⟨0, _, by omega, rfl, .inl rfl, HC.out, HQ.out, HM.out, HK.out⟩
  case round =>
    obtain ⟨k, Z, hk, rfl, hk4, hC, hZ, hM, hK⟩ := hrel
    clear HC HQ HM HK
    rename World => wr
    have HC := Lib.hid hC
    have HZ := Lib.hid hZ
    have HM := Lib.hid hM
    have HK := Lib.hid hK
    have hk5 : k < 5 := by omega
    clear hC hZ hM hK hk4
    have hst : Calls Try.prog 28 #[.pointer (some ⟨q, 0, none⟩), .pointer (some ⟨b, 0, none⟩)] wr _ :=
      rstep_go Z 4 (by omega) (by omega) fb fd HD.out q 1 (ralone 4 1 l k) (ralone 4 1 l (k + 1)) wr HC.out (ralone_ok HS.out.nats k) b g l k (k + 1) HM.out (fun h => (HZ.out b h).2.1 rfl) (fun h => (HZ.out g h).2.2 rfl) (by omega) HS.out.nats rfl (if_pos (awake_before HS.out k hk5)) _ rfl
    have HST := Lib.hid hst
    clear hst
    by_cases h4 : k < 4
    · have hr : ((ralone 4 1 l (k + 1)).ph == 3) = false := by have := awake_before HS.out (k + 1) (by omega); simp; omega
      rw [hr] at HST
      clear hr
      go_wp2_with fail
      refine HST.out.mono ?_; rintro e w5 ⟨rfl, hM5, Z5, hC5, hK5, hZ5⟩
      have HM5 := Lib.hid hM5
      have HC5 := Lib.hid hC5
      have HZ5 := Lib.hid (show ∀ i, Z5 i → w.heap.size ≤ i ∧ i ≠ b ∧ i ≠ g from fun i hi => by rcases hZ5 i hi with h | h; exact HZ.out i h; have := HM.out.obj.lt; have := HM.out.row.lt; have := HK.out.size; omega)
      have HK5 := Lib.hid (HK.out.trans hK5 (fun i hi h => by rcases h with h | h | h; have := (HZ.out i h).1; omega; have := HBG.out; omega; have := HBG.out; omega))
      clear hM5 hC5 hK5 hZ5 HC HM HK HZ HST
      go_wp2
      go_roundw
      case rel => exact ⟨k + 1, Z5, by omega, by go_num, .inr (by omega), HC5.out, HZ5.out, HM5.out, HK5.out⟩
      case measure => simp [intOf]; omega
    · obtain rfl : k = 4 := by omega
      have hr : ((ralone 4 1 l (4 + 1)).ph == 3) = true := by rw [awake_state HS.out 5 (by omega)]; rfl
      rw [hr] at HST
      clear hr
      go_wp2_with fail
      refine HST.out.mono ?_; rintro e w5 ⟨rfl, hM5, Z5, hC5, hK5, hZ5⟩
      have hC5' : Rd Z5 w5 4 fb fd q 1 ⟨3, 0, got pg0 3⟩ := by have := hC5; rw [awake_state HS.out 5 (by omega)] at this; exact this
      have HM5 := Lib.hid hM5
      have HC5 := Lib.hid hC5'
      have HK5 := Lib.hid (HK.out.trans hK5 (fun i hi h => by rcases h with h | h | h; have := (HZ.out i h).1; omega; have := HBG.out; omega; have := HBG.out; omega))
      clear hM5 hC5 hC5' hK5 hZ5 HC HM HK HZ HST
      go_wp2_with fail
      refine (accesses_any b g l _ _ HM5.out).mono ?_; rintro e w6 ⟨rfl, rfl⟩
      go_wp2_with fail
      refine (awake_page HC5.out).mono ?_; rintro e w7 ⟨A7, c7, rfl, hK7⟩
      have hf7 := pfield3 0 0 A7 0 c7 ⟨#[]⟩ true
      have HC7 := Lib.hid (HC5.out.kept hK7 (fun _ _ h => h))
      have HK7 := Lib.hid (HK5.out.trans hK7 (fun _ _ h => h))
      clear hK7 HC5 HK5
      go_wp2_with fail
      refine (awake_page HC7.out).mono ?_; rintro e w8 ⟨A8, c8, rfl, hK8⟩
      have hf8 := pfield4 0 0 A8 0 c8 ⟨#[]⟩ true
      have HC8 := Lib.hid (HC7.out.kept hK8 (fun _ _ h => h))
      have HK8 := Lib.hid (HK7.out.trans hK8 (fun _ _ h => h))
      clear hK8 HC7 HK7
      go_wp2_with fail
      refine (awake_page HC8.out).mono ?_; rintro e w9 ⟨A9, c9, rfl, hK9⟩
      have hf9 := pfield1 0 0 A9 0 c9 ⟨#[]⟩ true
      have HK9 := Lib.hid (HK8.out.trans hK9 (fun _ _ h => h))
      clear hK9 HC8 HK8
      go_wp2
      go_ret
      exact ⟨rfl, HK9.out⟩

end Go.Proofs.Ytlehpcbhfdnkdaa
