/-
  The laws' sanity check ('awake') returns true. Condition: none.
-/
import Derived.Test.YtboieccjikcdiaaDesPlant
import Derived.Test.YtboieccjikcdiaaDesKitV
import Derived.Test.YtboieccjikcdiaaDesNode
namespace Go.Proofs.Ytboieccjikcdiaa
open Go.RowKit Go.Deep Plain
set_option linter.unusedVariables false

theorem root_of {F : Nat} (h4 : 4 ≤ F) (h6 : F ≤ 6) : cellAt (startCells 1 2 100 100 200 (F : Int)) 0 = (((1 : Nat) : Int), (⟨#[]⟩ : ByteArray), (0 : Int)) := by
  have hlen := startCells_length 1 2 100 100 200 (F : Int) (limF h4 h6)
  have hall : allCells 1 2 100 100 200 (F : Int) = 10 + (100 * (F : Int) + 400) + 100 + 600 := by
    unfold allCells firstRecord firstChain firstNode; omega
  have he : nodeAt 100 (F : Int) (firstNode 1 2) 1 2 = nad F 1 1 := rfl
  have hlo : nad F 1 1 = 12 := by rw [nad_eq (by omega) (by omega) (by omega), nla_eq (by omega) (by omega)]; omega
  have hr : ((List.replicate (allCells 1 2 100 100 200 (F : Int)).toNat cel0).length : Int) = allCells 1 2 100 100 200 (F : Int) := by rw [List.length_replicate]; omega
  unfold startCells
  rw [he, cellAt_other (by omega), cellAt_other (by omega), cellAt_same ⟨by omega, by omega⟩]; rfl
theorem kitMem2 (F : Nat) (h4 : 4 ≤ F) (h6 : F ≤ 6) (w : World) :
    Calls Try.prog 28 #[.agg #[.int .i64 1, .int .i64 2, .int .i64 100, .int .i64 100, .int .i64 200, .int .i64 (F : Int), .int .u64 1000]] w fun e w' => ∃ (b g : Nat) (l : List Cel) (fb fd : Int), e = .returned (.tuple #[.agg #[.int .i64 1, .int .i64 2, .int .i64 100, .int .i64 100, .int .i64 200, .int .i64 (F : Int), .int .u64 1000, .int .i64 10, .int .i64 fb, .int .i64 fd], .pointer (some ⟨b, 0, none⟩)]) ∧ Mem w' b g l 0 ∧ Start F l ∧ cellAt l 0 = (((1 : Nat) : Int), (⟨#[]⟩ : ByteArray), (0 : Int)) ∧ Reach3 10 fb fd ∧ w.heap.size ≤ b ∧ w.heap.size ≤ g ∧ Kept (fun _ => False) w w' := by
  refine (kitMemory_yes 1 2 100 100 200 (F : Int) 1000 (limF h4 h6) (by omega) (by omega) w).mono ?_
  rintro e w' ⟨b, g, he, hM, hb, hg, hK⟩
  exact ⟨b, g, _, firstChain 1 2 100 (F : Int), firstRecord 1 2 100 100 (F : Int), he, hM, start_of h4 h6, root_of h4 h6, (limF h4 h6).reach, hb, hg, hK⟩
theorem Start.latches {F : Nat} {l : List Cel} (h4 : 4 ≤ F) (h6 : F ≤ 6) (h : Start F l) : ∀ m, 1 ≤ m → m ≤ 100 → cellAt l (nla F m) = cel0 := fun m h1 h2 => by
  have hlo : nad F 1 1 = 12 := by rw [nad_eq (by omega) (by omega) (by omega), nla_eq (by omega) (by omega)]; omega
  rcases nla_lin h4 h6 h1 h2 with ⟨e, a⟩ | ⟨e, a⟩ | ⟨e, a⟩ <;> exact h.zero _ (by omega) (by omega) (by omega)
/-- The way of awake's Find: the only leaf. -/
theorem awake_path {l : List Cel} (h : Start 4 l) (key : ByteArray) : WPath 4 l (nxF key 0) 1 pg0 ⟨#[]⟩ 5 1 ⟨#[]⟩ := by
  obtain ⟨h1, h2⟩ := h.one (by omega) (by omega)
  exact .here (P := pg0) ⟨by omega, h1, ⟨0, by rw [h2]; rfl, by decide⟩, fun _ => rfl, by show 0 ≤ 4; omega, trivial⟩ rfl
/-- What a Find at its end answers. -/
theorem find_node (F : Nat) (fb fd : Int) (Z : Nat → Prop) (x : Nat) (key : ByteArray) (lvl : Nat) (l : List Cel) (t : Nat) (lo : ByteArray) (w : World) (ht : t ≠ 0) (hF : F ≤ 6) (h : WAt Z w F fb fd x 79 (tlF key lvl) (nxF key lvl) l 0 t lo) :
    Calls Try.prog 15 #[.pointer (some ⟨x, 0, none⟩)] w fun e w' => ∃ (P : Pg) (A : Option Addr) (c : Nat), Nd F l t P ∧ e = .returned (.tuple #[.int .u64 (t : Int), .agg #[.int .i64 (P.lv : Int), .slice A P.xs.length c, .string P.hi, .bool P.la, .int .u64 (P.rt : Int)]]) ∧ Rs w' A c P.xs ∧ (∀ a, A = some a → w.heap.size ≤ a.block) ∧ Kept (fun _ => False) w w' := by
  generalize hD : 0 = D at h
  cases h with
  | fail h => exact absurd rfl ht
  | start hB hc p => omega
  | read p hj hW => have := p.len; omega
  | done hp hy hs hW =>
    rename_i P y
    obtain ⟨q, h1, h2, h3⟩ := hW
    subst hs
    have hl := hp.len
    refine (fnode_got Z F fb fd x t q _ w h1 y h2 hy (Nat.le_trans hl (by omega))).mono ?_
    rintro e w' ⟨A, c, rfl, hR, hA, hK⟩
    exact ⟨y.s.pg, A, c, hp, rfl, hR, hA, hK⟩
theorem find_nowhere (F : Nat) (fb fd : Int) (Z : Nat → Prop) (x : Nat) (key : ByteArray) (lvl : Nat) (l : List Cel) (lo : ByteArray) (w : World) (h : WAt Z w F fb fd x 79 (tlF key lvl) (nxF key lvl) l 0 0 lo) :
    Calls Try.prog 15 #[.pointer (some ⟨x, 0, none⟩)] w fun e w' => e = .returned (.tuple #[.int .u64 0, .agg #[.int .i64 0, .slice none 0 0, .string ⟨#[]⟩, .bool false, .int .u64 0]]) ∧ Kept (fun _ => False) w w' := by
  generalize hD : 0 = D at h
  generalize hT : 0 = T at h
  cases h with
  | fail h => exact fnode_failed F fb fd x _ _ _ w h
  | start hB hc p => omega
  | read p hj hW => have := p.len; omega
  | done hp hy hs hW => exact absurd rfl hp.ne
set_option maxRecDepth 100000 in
set_option maxHeartbeats 4000000 in
theorem awake_any (w : World) :
    Calls Try.prog 9 #[] w fun e w' => e = .returned (.bool true) ∧ Kept (fun _ => False) w w' := by
  go_enter Try.func9, Try.ntmps9
  go_wp2_with fail
  refine (kitConfig_any 1 0 4 (by rfl) _).mono ?_; rintro e w1 ⟨rfl, hK1⟩
  go_wp2_with fail
  refine (kitMem2 4 (by omega) (by omega) _).mono ?_
  rintro e w2 ⟨b, g, l, fb, fd, rfl, hM2, hS2, hr2, hd, hb2, hg2, hK2⟩
  have hz := hK1.size
  have HM := Lib.hid hM2
  have HS := Lib.hid hS2
  have HRT := Lib.hid hr2
  have HD := Lib.hid hd
  have HBG := Lib.hid (show w.heap.size ≤ b ∧ w.heap.size ≤ g ∧ b < w2.heap.size ∧ g < w2.heap.size from ⟨by omega, by omega, hM2.obj.lt, hM2.row.lt⟩)
  have HK := Lib.hid (hK1.trans hK2 (fun _ _ h => h))
  clear hM2 hS2 hr2 hd hb2 hg2 hz hK1 hK2
  go_wp2_with fail
  have hal := (Kept.refl (fun _ => False) w2).alloc (.cells #[.int .i64 1, .int .i64 2, .int .i64 100, .int .i64 100, .int .i64 200, .int .i64 4, .int .u64 1000, .int .i64 10, .int .i64 fb, .int .i64 fd] 27)
  have HM3 := Lib.hid (HM.out.kept hal (fun h => h) (fun h => h))
  have HK3 := Lib.hid (HK.out.trans hal (fun _ _ h => h))
  have HSZ := Lib.hid hal.size
  clear hal HM HK
  generalize w2.alloc (.cells #[.int .i64 1, .int .i64 2, .int .i64 100, .int .i64 100, .int .i64 200, .int .i64 4, .int .u64 1000, .int .i64 10, .int .i64 fb, .int .i64 fd] 27) = W at *
  generalize w2.heap.size = s0 at *
  refine (newFind_any 4 fb fd ⟨#[107]⟩ 0 _).mono ?_; rintro e w4 ⟨x, rfl, hx4, hB4, hK4⟩
  have HM := Lib.hid (HM3.out.kept hK4 (fun h => h) (fun h => h))
  have HK := Lib.hid (HK3.out.trans hK4 (fun _ _ h => h))
  have HX := Lib.hid (show x ≠ b ∧ x ≠ g ∧ w.heap.size ≤ x by have := HBG.out; have := HSZ.out; have := HK3.out.size; omega)
  have HAT := Lib.hid (show WAt (fun _ => False) w4 4 fb fd x 79 (tlF ⟨#[107]⟩ 0) (nxF ⟨#[107]⟩ 0) l 6 1 ⟨#[]⟩ from WAt.start hB4 HRT.out (awake_path HS.out _))
  clear hK4 hB4 HM3 HK3 hx4
  go_wp2_with fail
  go_loopw [4] (fun kv wr => ∃ (k : Nat) (Z : Nat → Prop), k ≤ 5 ∧ kv = .int .i64 (k : Int) ∧ WAt Z wr 4 fb fd x 79 (tlF ⟨#[107]⟩ 0) (nxF ⟨#[107]⟩ 0) l (6 - k) 1 ⟨#[]⟩ ∧ Mem wr b g l k ∧ (∀ i, Z i → w.heap.size ≤ i ∧ i ≠ b ∧ i ≠ g) ∧ Kept (fun i => w.heap.size ≤ i) w wr ∧ w4.heap.size ≤ wr.heap.size) (fun kv _ => 5 - (intOf kv).toNat)
  case atStart => exact ⟨0, _, by omega, rfl, HAT.out, HM.out, fun i h => h.elim, HK.out.mono (fun _ h => h.elim), Nat.le_refl _⟩
  case round =>
    obtain ⟨k, Z, hk, rfl, hA, hM, hZ, hK, hs⟩ := hrel
    have HA := Lib.hid hA
    have HMr := Lib.hid hM
    have HZ := Lib.hid hZ
    have HKr := Lib.hid hK
    have hbl := hM.obj.lt
    have hgl := hM.row.lt
    have hk20 : (k : Int) < 20 := by omega
    clear hA hM hZ hK
    obtain ⟨d, hd⟩ : ∃ d, 6 - k = d + 1 := ⟨5 - k, by omega⟩
    have HST := Lib.hid (find_step 4 (by omega) (by omega) fb fd HD.out Z x ⟨#[107]⟩ 0 d 1 ⟨#[]⟩ wr b g l k HMr.out (by omega) (fun h => (HZ.out b h).2.1 rfl) (fun h => (HZ.out g h).2.2 rfl) HX.out.1 HX.out.2.1 HS.out.nats (by rw [← hd]; exact HA.out))
    go_wp2_with fail
    refine HST.out.mono ?_; rintro e w5 ⟨rfl, hM5, Z5, hA5, hK5, hn5⟩
    have HA5 := Lib.hid hA5
    have HM5 := Lib.hid hM5
    have HZ5 := Lib.hid (show ∀ i, Z5 i → w.heap.size ≤ i ∧ i ≠ b ∧ i ≠ g from fun i hi => by
      rcases hn5 i hi with h | h
      · exact HZ.out i h
      · have := HKr.out.size; omega)
    have HK5 := Lib.hid (HKr.out.trans hK5 (fun i hi h => by
      rcases h with h | h | h | h
      · rw [h]; exact HX.out.2.2
      · exact (HZ.out i h).1
      · rw [h]; exact HBG.out.1
      · rw [h]; exact HBG.out.2.1))
    have hs5 : w4.heap.size ≤ w5.heap.size := Nat.le_trans hs hK5.size
    clear hA5 hM5 hK5 hn5 HST HA HMr HZ HKr
    by_cases hd0 : d = 0
    · have e0 : (d == 0) = true := by simp [hd0]
      have hk5 : k = 5 := by omega
      have HFN := Lib.hid (find_node 4 fb fd Z5 x ⟨#[107]⟩ 0 l 1 ⟨#[]⟩ w5 (by omega) (by omega) (by have := HA5.out; rwa [hd0] at this))
      have HK50 := Lib.hid hk5
      have h6k : k ≤ 5 := by omega
      clear hd0 hk5 hd
      go_wp2_with fail
      refine HFN.out.mono ?_; rintro e w6 ⟨P, A, c, hP, rfl, hR, hAf, hK6⟩
      have hpe : P.la = true := by
        have h1 := hP.holds 1 (by omega)
        have h2 := (HS.out.one (by omega) (by omega)).1 1 (by show 1 < 0 + 3; omega)
        rw [h1] at h2
        cases hla : P.la
        · have h3 : hiCel P.hi P.la = hiCel pg0.hi pg0.la := h2
          rw [hla] at h3
          unfold hiCel at h3
          simp [pg0] at h3
        · rfl
      rw [hpe]
      have HM6 := Lib.hid (HM5.out.kept hK6 (fun h => h) (fun h => h))
      have HK6 := Lib.hid (HK5.out.trans hK6 (fun _ _ h => h.elim))
      clear hP hR hAf hK6 hpe
      go_wp2_with fail
      refine (accesses_any b g l (k + 1) _ (HM6.out.alloc _)).mono ?_; rintro e w7 ⟨rfl, rfl⟩
      have hkp : (0 : Int) < ((k + 1 : Nat) : Int) := by omega
      go_wp2
      go_ret
      refine ⟨rfl, ?_⟩
      have hKz := HK6.out.alloc (.cells #[.int .i64 (P.lv : Int), .slice A P.xs.length c, .string P.hi, .bool true, .int .u64 (P.rt : Int)] 43)
      exact ⟨hKz.os, hKz.tape, hKz.output, hKz.size, fun i hi _ => hKz.block i hi (by omega)⟩
    · have e0 : (d == 0) = false := by simp [hd0]
      have hd1 : 1 ≤ d := by omega
      have HDK := Lib.hid hd
      have hk4 : k ≤ 4 := by omega
      clear hd0 hd
      go_wp2
      go_roundw
      case rel => exact ⟨k + 1, Z5, by omega, by go_num, by have := HA5.out; have e := HDK.out; rwa [show d = 6 - (k + 1) by omega] at this, HM5.out, HZ5.out, HK5.out, hs5⟩
      case measure => simp [intOf]; omega

end Go.Proofs.Ytboieccjikcdiaa
