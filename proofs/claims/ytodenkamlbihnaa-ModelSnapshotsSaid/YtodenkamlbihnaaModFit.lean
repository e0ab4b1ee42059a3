/-
  What the law's fit answers: the writes cut to size. Condition: rows within the model's reach.
-/
import Derived.Test.YtodenkamlbihnaaBatRef
import Derived.Test.YtodenkamlbihnaaBatFns
import Derived.Deep.Cut
import Derived.Deep.CutBlock
import Derived.StillTailTactics
namespace Go.Proofs.Ytodenkamlbihnaa
open Go.RowKit Go.Deep Plain PlainE
set_option linter.unusedVariables false

def cutK (n : Nat) (v : ByteArray) : ByteArray := v.extract 0 (min v.size n)
def fitW (x : Wri) : Wri := (cutK 32 x.1, if x.2.2 = true then ⟨#[]⟩ else cutK 64 x.2.1, x.2.2)
def fitL (raw : List Wri) : List Wri := (raw.take 5).map fitW
theorem cutK_size (n : Nat) (v : ByteArray) : (cutK n v).size ≤ n := by
  unfold cutK
  rw [ByteArray.size_extract]; omega
theorem min_if (a n : Nat) : (if (n : Int) < (a : Int) then (n : Int) else (a : Int)) = ((min a n : Nat) : Int) := by split <;> omega
theorem fitW_size (x : Wri) : (fitW x).1.size ≤ 32 ∧ (fitW x).2.1.size ≤ 64 := by
  refine ⟨cutK_size _ _, ?_⟩
  show (if x.2.2 = true then (⟨#[]⟩ : ByteArray) else cutK 64 x.2.1).size ≤ 64
  split
  · exact Nat.zero_le _
  · exact cutK_size _ _
theorem fitL_len (raw : List Wri) : (fitL raw).length ≤ 5 := by unfold fitL; rw [List.length_map, List.length_take]; omega
theorem fitL_sz (raw : List Wri) : ∀ x ∈ fitL raw, Sz x := fun x hx => by
  obtain ⟨y, _, rfl⟩ := List.mem_map.1 hx
  have := fitW_size y
  unfold Sz maxLen; omega
theorem fitL_chk (raw : List Wri) : chk (fitL raw) = 0 := by
  have h1 : (fitL raw).any bigW = false := List.any_eq_false.2 fun x hx => by
    obtain ⟨y, _, rfl⟩ := List.mem_map.1 hx
    have := fitW_size y
    unfold bigW; simp [this.1, this.2]
  have h2 : (fitL raw).any badW = false := List.any_eq_false.2 fun x hx => by
    obtain ⟨y, _, rfl⟩ := List.mem_map.1 hx
    obtain ⟨a, v, d⟩ := y
    have e0 : (⟨#[]⟩ : ByteArray).toList = [] := by rw [ByteArray.toList_eq]
    cases d <;> simp [badW, fitW, e0]
  have h3 := fitL_len raw
  unfold chk
  rw [h1, h2]
  have : ¬ 16 < (fitL raw).length := by omega
  simp [this]
set_option maxHeartbeats 4000000 in
theorem fit_fresh (A : Option Addr) (c : Nat) (xs : List Wri) (w : World) (n : Nat) (hn : xs.length = n) (h47 : n ≤ maxLen) (hR : RW w A c xs) (hs : ∀ x ∈ xs, Sz x) :
    Calls Try.prog 18 #[.slice A n c] w fun e w' => ∃ A' c' r, e = .returned (.slice A' r c') ∧ (fitL xs).length = r ∧ r ≤ 5 ∧ RW w' A' c' (fitL xs) ∧ Below w.heap.size w w' ∧ ∀ a, A' = some a → w.heap.size ≤ a.block := by
  unfold maxLen at h47
  have HR := Lib.hid hR
  have HSZ := Lib.hid hs
  clear hR hs
  go_enter Try.func18, Try.ntmps18
  go_wp2_with fail
  go_loopw [3, 4] (fun o i wr => ∃ j : Nat, j ≤ n ∧ j ≤ 5 ∧ i = .int .i64 j ∧ wr.ownsRow w.heap.size 44 3 o j (flatW ((xs.take j).map fitW)) ∧ Below w.heap.size w wr) (fun _ i _ => 5 - (intOf i).toNat)
  case atStart => exact ⟨0, Nat.zero_le _, by omega, rfl, World.ownsRow_nil _ _ _ _, Below.refl _ _⟩
  case round =>
    obtain ⟨j, hj, hj3, rfl, hown, hbel⟩ := hrel
    have HO := Lib.hid hown
    have HB := Lib.hid hbel
    have hs := hbel.size
    clear hown
    by_cases hlt : j < n
    · by_cases hlt3 : j < 5
      · obtain ⟨x, hx⟩ : ∃ x, xs[j]? = some x := ⟨_, List.getElem?_eq_getElem (by omega)⟩
        obtain ⟨g, off, rfl, hg, hcell⟩ := (HR.out.below hbel (Nat.le_refl _)).at (by omega)
        obtain ⟨d0, d1, d2⟩ := hcell j x hx
        have hsx := HSZ.out x (List.mem_of_getElem? hx)
        have hst : (xs.take (j + 1)).map fitW = (xs.take j).map fitW ++ [fitW x] := by rw [take_nx hx, List.map_append]; rfl
        obtain ⟨L, hL⟩ : ∃ L, (xs.take j).map fitW = L := ⟨_, rfl⟩
        rw [hL] at hst
        have hO := HO.out
        rw [hL] at hO
        have HO := Lib.hid hO
        have HST := Lib.hid hst
        clear hO hL
        have hob : ∀ a c', _ = Value.slice (some a) j c' → a.block ≠ wr.heap.size := own_not HO.out (Nat.le_refl _)
        have HOB := Lib.hid hob
        clear hcell hx hst hbel hob
        obtain ⟨ka, va, de⟩ := x
        unfold Sz maxLen at hsx
        simp only at d0 d1 d2 hsx
        obtain ⟨hk9, hv9⟩ := hsx
        obtain ⟨K, hK⟩ : ∃ K, cutK 32 ka = K := ⟨_, rfl⟩
        obtain ⟨V, hV⟩ : ∃ V, cutK 64 va = V := ⟨_, rfl⟩
        have HK := Lib.hid hK
        have HV := Lib.hid hV
        clear hK hV
        go_upto_region 6 with fail
        have P0 := Lib.hid (Blk.new wr [.string ka, .string va, .bool de] 44)
        have B1 := Lib.hid (HB.out.alloc hs (.cells #[.string ka, .string va, .bool de] 44))
        have O1 := Lib.hid (HO.out.alloc (.cells #[.string ka, .string va, .bool de] 44))
        have hz : (wr.alloc (.cells #[.string ka, .string va, .bool de] 44)).heap.size = wr.heap.size + 1 := nblk_alloc _ _
        generalize wr.alloc (.cells #[.string ka, .string va, .bool de] 44) = W1 at *
        generalize hb0 : wr.heap.size = b0 at *
        have p0 := P0.out.cell (i := 0) rfl
        have p1 := P0.out.cell (i := 1) rfl
        have z0 := P0.out.frozen 0
        have z1 := P0.out.frozen 1
        clear d0 d1 d2 hb0
        obtain ⟨s1, hs1⟩ : ∃ s1, min ka.size 32 = s1 := ⟨_, rfl⟩
        obtain ⟨s2, hs2⟩ : ∃ s2, min va.size 64 = s2 := ⟨_, rfl⟩
        have hi1 : (if (32 : Int) < (ka.size : Int) then (32 : Int) else (ka.size : Int)) = (s1 : Int) := by rw [← hs1]; exact min_if ka.size 32
        have hi2 : (if (64 : Int) < (va.size : Int) then (64 : Int) else (va.size : Int)) = (s2 : Int) := by rw [← hs2]; exact min_if va.size 64
        have hl1 : s1 ≤ ka.size := by omega
        have hl2 : s2 ≤ va.size := by omega
        obtain rfl : K = ka.extract 0 s1 := by rw [← HK.out]; unfold cutK; rw [hs1]
        obtain rfl : V = va.extract 0 s2 := by rw [← HV.out]; unfold cutK; rw [hs2]
        have hf : fitW (ka, va, de) = (ka.extract 0 s1, (if de = true then ⟨#[]⟩ else va.extract 0 s2), de) := by unfold fitW cutK; rw [hs1, hs2]
        have HF := Lib.hid hf
        clear hs1 hs2 hf
        go_region
        have P3 := Lib.hid (show Blk (((W1.setCell ⟨b0, 0, none⟩ (.string (ka.extract 0 s1))).setCell ⟨b0, 1, none⟩ (.string (va.extract 0 s2))).drew) b0 44 [.string (ka.extract 0 s1), .string (va.extract 0 s2), .bool de] from (P0.out.set 0 (.string (ka.extract 0 s1))).set 1 (.string (va.extract 0 s2)))
        have hbw : w.heap.size ≤ b0 := hs
        have B3 := Lib.hid ((B1.out.setCell (p := ⟨b0, 0, none⟩) hbw (.string (ka.extract 0 s1))).setCell (p := ⟨b0, 1, none⟩) hbw (.string (va.extract 0 s2))).drew
        have O3 := Lib.hid (show (((W1.setCell ⟨b0, 0, none⟩ (.string (ka.extract 0 s1))).setCell ⟨b0, 1, none⟩ (.string (va.extract 0 s2))).drew).ownsRow w.heap.size 44 3 _ j (flatW L) from own_keep (own_keep O1.out (p := ⟨b0, 0, none⟩) HOB.out (.string (ka.extract 0 s1))) (p := ⟨b0, 1, none⟩) HOB.out (.string (va.extract 0 s2)))
        have hz3 : (((W1.setCell ⟨b0, 0, none⟩ (.string (ka.extract 0 s1))).setCell ⟨b0, 1, none⟩ (.string (va.extract 0 s2))).drew).heap.size = b0 + 1 := by simp [hz]
        generalize ((W1.setCell ⟨b0, 0, none⟩ (.string (ka.extract 0 s1))).setCell ⟨b0, 1, none⟩ (.string (va.extract 0 s2))).drew = W3 at *
        have HZ3 := Lib.hid hz3
        clear p0 p1 z0 z1 P0 B1 O1 hz hi1 hi2 hl1 hl2 hz3
        cases de
        · have p0 := P3.out.cell (i := 0) rfl
          have p1 := P3.out.cell (i := 1) rfl
          have p2 := P3.out.cell (i := 2) rfl
          have HZ4 := HZ3
          go_wp2_with (at_builtin; go_must (refine wpList_appW rfl (.tmp 39) (.tmp 41) rfl (w.heap.size) _ (j) (L) rfl (O3.out.alloc _) _ 1 1 [(ka.extract 0 s1, va.extract 0 s2, false)] rfl rfl (RW.one W3 (ka.extract 0 s1, va.extract 0 s2, false) _) (by omega) (by rw [nblk_alloc, HZ4.out]; omega) ?_))
          intro v5 w5 hown5 hB5
          have HB5 := Lib.hid ((B3.out.alloc (by rw [HZ4.out]; omega) _).trans hB5)
          have HO5 := Lib.hid hown5
          clear hB5 hown5
          go_wp2
          go_roundw
          case rel => exact ⟨j + 1, by omega, by omega, by go_num, by rw [HST.out, HF.out]; exact HO5.out, HB5.out⟩
          case measure => simp [intOf]; omega
        · have p0 := P3.out.cell (i := 0) rfl
          have p1 := P3.out.cell (i := 1) rfl
          have p2 := P3.out.cell (i := 2) rfl
          have z1 := P3.out.frozen 1
          have B4 := Lib.hid (B3.out.setCell (p := ⟨b0, 1, none⟩) hbw (.string ⟨#[]⟩))
          have O4 := Lib.hid (own_keep O3.out (p := ⟨b0, 1, none⟩) HOB.out (.string ⟨#[]⟩))
          have hz4 : (W3.setCell ⟨b0, 1, none⟩ (.string ⟨#[]⟩)).heap.size = b0 + 1 := by simp [HZ3.out]
          have HZ4 := Lib.hid hz4
          clear hz4
          go_wp2_with (at_builtin; go_must (refine wpList_appW rfl (.tmp 39) (.tmp 41) rfl (w.heap.size) _ (j) (L) rfl (O4.out.alloc _) _ 1 1 [(ka.extract 0 s1, ⟨#[]⟩, true)] rfl rfl (RW.oneAt (W3.setCell ⟨b0, 1, none⟩ (.string ⟨#[]⟩)) (ka.extract 0 s1, ⟨#[]⟩, true) _ (by simp)) (by omega) (by rw [nblk_alloc, HZ4.out]; omega) ?_))
          intro v5 w5 hown5 hB5
          have HB5 := Lib.hid ((B4.out.alloc (by rw [HZ4.out]; omega) _).trans hB5)
          have HO5 := Lib.hid hown5
          clear hB5 hown5
          go_wp2
          go_roundw
          case rel => exact ⟨j + 1, by omega, by omega, by go_num, by rw [HST.out, HF.out]; exact HO5.out, HB5.out⟩
          case measure => simp [intOf]; omega
      · have hfull : fitL xs = (xs.take j).map fitW := by unfold fitL; rw [show j = 5 by omega]
        obtain ⟨A2, c2, rfl, hl2, hR2, hf2⟩ := RW.own HO.out
        have HR2 := Lib.hid hR2
        have HL2 := Lib.hid hl2
        have HF2 := Lib.hid hf2
        clear hR2 hl2 hf2
        go_wp2
        go_ret
        exact ⟨_, _, _, rfl, by rw [hfull]; exact HL2.out, by omega, by rw [hfull]; exact HR2.out, HB.out, HF2.out⟩
    · have hfull : fitL xs = (xs.take j).map fitW := by unfold fitL; rw [List.take_of_length_le (i := 5) (by omega), List.take_of_length_le (i := j) (by omega)]
      obtain ⟨A2, c2, rfl, hl2, hR2, hf2⟩ := RW.own HO.out
      have HR2 := Lib.hid hR2
      have HL2 := Lib.hid hl2
      have HF2 := Lib.hid hf2
      clear hR2 hl2 hf2
      go_wp2
      go_ret
      exact ⟨_, _, _, rfl, by rw [hfull]; exact HL2.out, by omega, by rw [hfull]; exact HR2.out, HB.out, HF2.out⟩
theorem fit_any (A : Option Addr) (c : Nat) (xs : List Wri) (w : World) (n : Nat) (hn : xs.length = n) (h47 : n ≤ maxLen) (hR : RW w A c xs) (hs : ∀ x ∈ xs, Sz x) :
    Calls Try.prog 18 #[.slice A n c] w fun e w' => ∃ A' c' r, e = .returned (.slice A' r c') ∧ (fitL xs).length = r ∧ r ≤ 5 ∧ RW w' A' c' (fitL xs) ∧ Below w.heap.size w w' :=
  (fit_fresh A c xs w n hn h47 hR hs).mono fun e w' ⟨A', c', r, h1, h2, h3, h4, h5, _⟩ => ⟨A', c', r, h1, h2, h3, h4, h5⟩
end Go.Proofs.Ytodenkamlbihnaa
