/-
  The laws' tree: a memory with a tree of the keys. Condition: strings within the model's reach.
-/
import Derived.Test.YtboieccjikcdiaaDesLaw0
import Derived.Test.YtboieccjikcdiaaDesList
namespace Go.Proofs.Ytboieccjikcdiaa
open Go.RowKit Go.Deep Plain
set_option linter.unusedVariables false

/-- The keys of the laws' trees. -/
def keysOf (ss : List ByteArray) : List ByteArray := (PlainE.keysE (ss.take 40)).map (·.1)
theorem keysOf_len (ss : List ByteArray) : (keysOf ss).length ≤ 40 := by
  unfold keysOf; rw [List.length_map]
  have := PlainE.keysE_len (ss.take 40)
  rw [List.length_take] at this; omega
theorem keysOf_facts (ss : List ByteArray) : (∀ k ∈ keysOf ss, k.size ≤ 32) ∧ ∀ i a b, (keysOf ss)[i]? = some a → (keysOf ss)[i + 1]? = some b → kl a b = true := by
  refine ⟨fun k hk => ?_, fun i a b ha hb => ?_⟩
  · obtain ⟨y, hy, rfl⟩ := List.mem_map.1 hk
    exact PlainE.keysE_size _ y hy
  · unfold keysOf at ha hb
    rw [List.getElem?_map] at ha hb
    cases h1 : (PlainE.keysE (ss.take 40))[i]? with
    | none => rw [h1] at ha; cases ha
    | some x =>
      cases h2 : (PlainE.keysE (ss.take 40))[i + 1]? with
      | none => rw [h2] at hb; cases hb
      | some y =>
        rw [h1] at ha; rw [h2] at hb
        cases ha; cases hb
        have hl := (List.getElem?_eq_some_iff.1 h2).1
        have := PlainE.asc_at _ (PlainE.keysE_asc (ss.take 40)) i hl
        rw [List.getElem?_eq_getElem (by omega)] at h1
        rw [List.getElem?_eq_getElem hl] at h2
        cases h1; cases h2; exact this
theorem Rdv.keptN {w w' : World} {B : Nat} {v : Value} {n : Nat} {xs : List Value} (h : Rdv w B v n xs) (hk : Kept (fun _ => False) w w') (hB : B ≤ w.heap.size) : Rdv w' w'.heap.size v n xs := by
  obtain ⟨A, c, e, h1, h2, h3⟩ := h
  refine ⟨A, c, e, h1, h2, fun hp => ?_⟩
  obtain ⟨g, off, e2, hg, hc⟩ := h3 hp
  have := hk.size
  exact ⟨g, off, e2, by omega, fun j u hu => (hk.cell (p := ⟨g, off + j, none⟩) (show g < _ by omega) (fun h => h)).trans (hc j u hu)⟩
theorem keys_read {w : World} {base n : Nat} {v : Value} {l : List PlainE.Ent} (h : w.ownsRow base 9 1 v n (PlainE.keyCells l)) : ∃ A c, v = .slice A (l.map (·.1)).length c ∧ Kr w A (l.map (·.1)) ∧ ∀ a, A = some a → base ≤ a.block ∧ a.block < w.heap.size := by
  have hl : (l.map (·.1)).length = n := by have := h.1; unfold PlainE.keyCells at this; rw [List.length_map] at this ⊢; omega
  rcases h.2 with ⟨rfl, rfl⟩ | ⟨g, cap, cur, rfl, hb, hg, hc, hm, rest⟩
  · exact ⟨none, 0, by rw [hl], fun hp => by omega, fun a h => by cases h⟩
  · have hgl := (Array.getElem?_eq_some_iff.1 hg).1
    refine ⟨_, cap, by rw [hl], fun _ => ⟨g, 0, rfl, hgl, fun i k hi => ?_⟩, fun a ha => by cases ha; exact ⟨hb, hgl⟩⟩
    have := World.ownsRow.cells h (g := g) rfl i (.string k) (by
      unfold PlainE.keyCells; rw [List.getElem?_map] at hi ⊢
      cases hx : l[i]? with
      | none => rw [hx] at hi; cases hi
      | some x => rw [hx] at hi; cases hi; rfl)
    rw [Addr.add_lit] at this
    exact this
set_option maxRecDepth 100000 in
set_option maxHeartbeats 4000000 in
theorem tree_any (F : Nat) (h4 : 4 ≤ F) (h6 : F ≤ 6) (f : Int) (hF : 4 + f % 3 = (F : Int)) (AR : Option Addr) (nR cR : Nat) (ss : List ByteArray) (hnR : ss.length = nR) (sh : Int) (hs : 0 ≤ sh) (hide : Bool) (w : World) (hrd : Rdv w w.heap.size (.slice AR nR cR) nR (ss.map Value.string)) (hsz : ∀ s ∈ ss, s.size ≤ maxLen) :
    Calls Try.prog 8 #[.slice AR nR cR, .int .i64 f, .int .u64 sh, .bool hide] w fun e w' => ∃ (b g : Nat) (l : List Cel) (fb fd : Int) (A : Option Addr) (c H n0 : Nat), e = .returned (.tuple #[.agg #[.int .i64 1, .int .i64 2, .int .i64 100, .int .i64 100, .int .i64 200, .int .i64 (F : Int), .int .u64 1000], .agg #[.int .i64 1, .int .i64 2, .int .i64 100, .int .i64 100, .int .i64 200, .int .i64 (F : Int), .int .u64 1000, .int .i64 10, .int .i64 fb, .int .i64 fd], .pointer (some ⟨b, 0, none⟩), .slice A (keysOf ss).length c]) ∧ Mem w' b g l 0 ∧ Planted F (keysOf ss) hide n0 H l ∧ l.length ≤ 1048576 ∧ Reach3 10 fb fd ∧ w.heap.size ≤ b ∧ w.heap.size ≤ g ∧ Kr w' A (keysOf ss) ∧ (∀ a, A = some a → w.heap.size ≤ a.block ∧ a.block ≠ b ∧ a.block ≠ g) ∧ Kept (fun _ => False) w w' := by
  have HRD0 := Lib.hid hrd
  have HSZ := Lib.hid hsz
  clear hrd hsz
  go_enter Try.func8, Try.ntmps8
  go_wp2_with fail
  have hal := ((Kept.refl (fun _ => False) w).alloc (.cells #[.int .i64 0, .int .i64 0, .int .i64 0, .int .i64 0, .int .i64 0, .int .i64 0, .int .u64 0] 25)).alloc (.cells #[.int .i64 0, .int .i64 0, .int .i64 0, .int .i64 0, .int .i64 0, .int .i64 0, .int .u64 0, .int .i64 0, .int .i64 0, .int .i64 0] 27)
  have H8 := Lib.hid ((Blk.new w [.int .i64 0, .int .i64 0, .int .i64 0, .int .i64 0, .int .i64 0, .int .i64 0, .int .u64 0] 25).alloc (.cells #[.int .i64 0, .int .i64 0, .int .i64 0, .int .i64 0, .int .i64 0, .int .i64 0, .int .u64 0, .int .i64 0, .int .i64 0, .int .i64 0] 27))
  have hNN := Blk.new (w.alloc (.cells #[.int .i64 0, .int .i64 0, .int .i64 0, .int .i64 0, .int .i64 0, .int .i64 0, .int .u64 0] 25)) [.int .i64 0, .int .i64 0, .int .i64 0, .int .i64 0, .int .i64 0, .int .i64 0, .int .u64 0, .int .i64 0, .int .i64 0, .int .i64 0] 27
  have hsz1 : (w.alloc (.cells #[.int .i64 0, .int .i64 0, .int .i64 0, .int .i64 0, .int .i64 0, .int .i64 0, .int .u64 0] 25)).heap.size = w.heap.size + 1 := nblk_alloc _ _
  rw [hsz1] at hNN
  have H9 := Lib.hid hNN
  have HK := Lib.hid hal
  have HRD := Lib.hid (HRD0.out.keptN hal (Nat.le_refl _))
  clear hal hNN hsz1 HRD0
  generalize (w.alloc (.cells #[.int .i64 0, .int .i64 0, .int .i64 0, .int .i64 0, .int .i64 0, .int .i64 0, .int .u64 0] 25)).alloc (.cells #[.int .i64 0, .int .i64 0, .int .i64 0, .int .i64 0, .int .i64 0, .int .i64 0, .int .u64 0, .int .i64 0, .int .i64 0, .int .i64 0] 27) = W at *
  generalize hr9 : w.heap.size + 1 = r9 at *
  generalize hr8 : w.heap.size = r8 at *
  have HR8 := Lib.hid (show r8 = w.heap.size ∧ r9 = r8 + 1 by omega)
  clear hr8 hr9
  refine (kitConfig_any 1 f F hF _).mono ?_; rintro e w1 ⟨rfl, hK1⟩
  replace H8 := Lib.hid (hK1.blk H8.out (fun h => h))
  replace H9 := Lib.hid (hK1.blk H9.out (fun h => h))
  replace HRD := Lib.hid (HRD.out.keptN hK1 (Nat.le_refl _))
  replace HK := Lib.hid (HK.out.trans hK1 (fun _ _ h => h))
  clear hK1
  go_wp2_with fail
  have HLD := Lib.hid (show r8 < w1.heap.size ∧ r9 < w1.heap.size from ⟨H8.out.lt, H9.out.lt⟩)
  have hal := (Kept.refl (fun _ => False) w1).alloc (.cells #[.int .i64 1, .int .i64 2, .int .i64 100, .int .i64 100, .int .i64 200, .int .i64 (F : Int), .int .u64 1000] 25)
  have H12 := Lib.hid (Blk.new w1 [.int .i64 1, .int .i64 2, .int .i64 100, .int .i64 100, .int .i64 200, .int .i64 (F : Int), .int .u64 1000] 25)
  replace H8 := Lib.hid (hal.blk H8.out (fun h => h))
  replace H9 := Lib.hid (hal.blk H9.out (fun h => h))
  replace HRD := Lib.hid (HRD.out.keptN hal (Nat.le_refl _))
  replace HK := Lib.hid (HK.out.trans hal (fun _ _ h => h))
  clear hal
  have HLB := Lib.hid (show r8 < w1.heap.size ∧ r9 < w1.heap.size from ⟨HLD.out.1, HLD.out.2⟩)
  generalize hr12 : w1.heap.size = r12 at *
  have HLC := Lib.hid (show r8 < r12 ∧ r9 < r12 by have := HLB.out; omega)
  clear hr12 HLB
  generalize w1.alloc (.cells #[.int .i64 1, .int .i64 2, .int .i64 100, .int .i64 100, .int .i64 200, .int .i64 (F : Int), .int .u64 1000] 25) = W1 at *
  have HLA := Lib.hid (show r8 < W1.heap.size ∧ r9 < W1.heap.size ∧ r12 < W1.heap.size from ⟨H8.out.lt, H9.out.lt, H12.out.lt⟩)
  refine (kitMem2 F h4 h6 _).mono ?_
  rintro e w2 ⟨b, g, l, fb, fd, rfl, hM2, hS2, hr2, hd, hb2, hg2, hK2⟩
  replace H8 := Lib.hid (hK2.blk H8.out (fun h => h))
  replace H9 := Lib.hid (hK2.blk H9.out (fun h => h))
  replace H12 := Lib.hid (hK2.blk H12.out (fun h => h))
  replace HRD := Lib.hid (HRD.out.keptN hK2 (Nat.le_refl _))
  replace HK := Lib.hid (HK.out.trans hK2 (fun _ _ h => h))
  have HM := Lib.hid hM2
  have HLT := Lib.hid (show W1.heap.size ≤ b ∧ W1.heap.size ≤ g ∧ r8 < W1.heap.size ∧ r9 < W1.heap.size ∧ r12 < W1.heap.size from ⟨hb2, hg2, HLA.out.1, HLA.out.2.1, HLA.out.2.2⟩)
  have HS := Lib.hid hS2
  have HD := Lib.hid hd
  have HBG := Lib.hid (show r8 < b ∧ r9 < b ∧ r12 < b ∧ r8 < g ∧ r9 < g ∧ r12 < g ∧ b < w2.heap.size ∧ g < w2.heap.size by have h1 := H8.out.lt; have h2 := H9.out.lt; have h3 := H12.out.lt; have h4 := hM2.obj.lt; have h5 := hM2.row.lt; have h6 := HLT.out; omega)
  clear hM2 hS2 hr2 hd hb2 hg2 hK2
  go_wp2_with fail
  have hal := (Kept.refl (fun _ => False) w2).alloc (.cells #[.int .i64 1, .int .i64 2, .int .i64 100, .int .i64 100, .int .i64 200, .int .i64 (F : Int), .int .u64 1000, .int .i64 10, .int .i64 fb, .int .i64 fd] 27)
  have H13 := Lib.hid (Blk.new w2 [.int .i64 1, .int .i64 2, .int .i64 100, .int .i64 100, .int .i64 200, .int .i64 (F : Int), .int .u64 1000, .int .i64 10, .int .i64 fb, .int .i64 fd] 27)
  replace H8 := Lib.hid (hal.blk H8.out (fun h => h))
  replace H9 := Lib.hid (hal.blk H9.out (fun h => h))
  replace H12 := Lib.hid (hal.blk H12.out (fun h => h))
  replace HRD := Lib.hid (HRD.out.keptN hal (Nat.le_refl _))
  replace HK := Lib.hid (HK.out.trans hal (fun _ _ h => h))
  replace HM := Lib.hid (HM.out.kept hal (fun h => h) (fun h => h))
  clear hal
  have HR12 := Lib.hid (show r12 ≠ r8 ∧ r12 ≠ r9 by have := HLC.out; omega)
  generalize hr13 : w2.heap.size = r13 at *
  have HR13 := Lib.hid (show r13 ≠ b ∧ r13 ≠ g ∧ r8 < r13 ∧ r9 < r13 ∧ r12 < r13 by have := HBG.out; omega)
  clear hr13
  generalize w2.alloc (.cells #[.int .i64 1, .int .i64 2, .int .i64 100, .int .i64 100, .int .i64 200, .int .i64 (F : Int), .int .u64 1000, .int .i64 10, .int .i64 fb, .int .i64 fd] 27) = W2 at *
  have HBGW := Lib.hid (show b < W2.heap.size ∧ g < W2.heap.size ∧ r13 < W2.heap.size from ⟨HM.out.obj.lt, HM.out.row.lt, H13.out.lt⟩)
  refine (keys_any AR nR cR ss 40 _ hnR (by omega) HRD.out HSZ.out).mono ?_; rintro e w3 ⟨vk, rfl, hO3, hB3⟩
  have hK3 := Below.kept hB3 (S := fun _ => False) (fun i hi h => by omega)
  replace H8 := Lib.hid (hK3.blk H8.out (fun h => h))
  replace H9 := Lib.hid (hK3.blk H9.out (fun h => h))
  replace H12 := Lib.hid (hK3.blk H12.out (fun h => h))
  replace H13 := Lib.hid (hK3.blk H13.out (fun h => h))
  replace HRD := Lib.hid (HRD.out.keptN hK3 (Nat.le_refl _))
  replace HK := Lib.hid (HK.out.trans hK3 (fun _ _ h => h))
  replace HM := Lib.hid (HM.out.kept hK3 (fun h => h) (fun h => h))
  obtain ⟨AK, cK, rfl, hKr, hAK⟩ := keys_read hO3
  obtain ⟨nk, hnk⟩ : ∃ nk, (keysOf ss).length = nk := ⟨_, rfl⟩
  have hnk' : ((PlainE.keysE (ss.take 40)).map (·.1)).length = nk := hnk
  rw [hnk']
  have HKR := Lib.hid (show Kr w3 AK (keysOf ss) from hKr)
  have HAK := Lib.hid (show ∀ a, AK = some a → b < a.block ∧ g < a.block ∧ r8 < a.block ∧ r9 < a.block ∧ r12 < a.block ∧ r13 < a.block ∧ a.block < w3.heap.size from fun a ha => by
    have h1 := hAK a ha
    have h2 := HBGW.out
    have h3 := HBG.out
    have h4 := HR13.out
    omega)
  have HNK := Lib.hid hnk
  clear hO3 hB3 hK3 hKr hAK hnk hnk'
  have hx12 := H12.out
  have x0 := hx12.cell (i := 0) rfl
  have x1 := hx12.cell (i := 1) rfl
  have x2 := hx12.cell (i := 2) rfl
  have x3 := hx12.cell (i := 3) rfl
  have x4 := hx12.cell (i := 4) rfl
  have x5 := hx12.cell (i := 5) rfl
  have x6 := hx12.cell (i := 6) rfl
  clear hx12
  go_wp2_with fail
  refine (plant_any F h4 h6 b g l 0 AK nk cK (keysOf ss) sh hs hide _ HM.out HKR.out HNK.out (keysOf_len ss) HS.out.nats HS.out.lo (HS.out.latches h4 h6) (keysOf_facts ss)).mono ?_; rintro e w4 ⟨H, l2, rfl, hM4, hP4, hK4⟩
  have HP := Lib.hid hP4
  have hl2 : l2.length ≤ 1048576 := by
    obtain ⟨_, _, _, _, _, _, _, _, _, _, h⟩ := hP4
    rw [h]; exact HS.out.hi
  have nb : ∀ j, j ≠ b → j ≠ g → ¬ Own b g j := fun j h1 h2 e => by rcases e with e | e; exact h1 e; exact h2 e
  replace H8 := Lib.hid (hK4.blk H8.out (nb _ (by have := HBG.out; omega) (by have := HBG.out; omega)))
  replace H9 := Lib.hid (hK4.blk H9.out (nb _ (by have := HBG.out; omega) (by have := HBG.out; omega)))
  replace H12 := Lib.hid (hK4.blk H12.out (nb _ (by have := HBG.out; omega) (by have := HBG.out; omega)))
  replace H13 := Lib.hid (hK4.blk H13.out (nb _ HR13.out.1 HR13.out.2.1))
  replace HKR := Lib.hid (HKR.out.kept hK4 (fun a ha => nb _ (by have := HAK.out a ha; omega) (by have := HAK.out a ha; omega)))
  replace HAK := Lib.hid (show ∀ a, AK = some a → b < a.block ∧ g < a.block ∧ r8 < a.block ∧ r9 < a.block ∧ r12 < a.block ∧ r13 < a.block ∧ a.block < w4.heap.size from fun a ha => by have := HAK.out a ha; have := hK4.size; omega)
  replace HK := Lib.hid ((HK.out.mono (T := fun i => i = r8 ∨ i = r9) (fun _ h => h.elim)).trans hK4 (fun i hi e => by have h1 := HBG.out; have h2 := HR8.out; rcases e with e | e <;> omega))
  have HM4 := Lib.hid hM4
  have HL2 := Lib.hid hl2
  clear hM4 hP4 hK4 hl2 nb HM HRD x0 x1 x2 x3 x4 x5 x6
  go_wp2_with fail
  replace H8 := Lib.hid (H8.out.of (w' := w4.drew) rfl)
  replace H9 := Lib.hid (H9.out.of (w' := w4.drew) rfl)
  have H12d := Lib.hid (H12.out.of (w' := w4.drew) rfl)
  have H13d := Lib.hid (H13.out.of (w' := w4.drew) rfl)
  replace HM4 := Lib.hid HM4.out.drew
  replace HK := Lib.hid HK.out.drew
  have HKG := Lib.hid ((Kept.refl (fun i => i = r8 ∨ i = r9) w4).drew)
  refine wp_region_held_drew (S := (fun w' => Blk w' r12 25 [.int .i64 1, .int .i64 2, .int .i64 100, .int .i64 100, .int .i64 200, .int .i64 (F : Int), .int .u64 1000] ∧ Blk w' r13 27 [.int .i64 1, .int .i64 2, .int .i64 100, .int .i64 100, .int .i64 200, .int .i64 (F : Int), .int .u64 1000, .int .i64 10, .int .i64 fb, .int .i64 fd])) (by kernel_rfl) ?_ (fun hHeld => ?_)
  · exact ⟨H12d.out, H13d.out⟩
  replace HKR := Lib.hid (HKR.out.kept (Kept.refl (fun _ => False) w4).drew (fun _ _ h => h))
  generalize w4.drew = G at *
  refine wpAnyH_take (i := 0) (oi := ⟨some 35, _, _, _, _, _⟩) (v := ?_) rfl (by kernel_rfl) (by kernel_rfl) (by kernel_rfl) (fun _ _ _ h => h) (Or.inl ⟨by rfl, ?_⟩) hHeld ?_
  rotate_left
  · (intro wq hSw; have hb9 := hSw.1; have hc9 := hSw.2; have x0 := hb9.cell (i := 0) rfl; have x1 := hb9.cell (i := 1) rfl; have x2 := hb9.cell (i := 2) rfl; have x3 := hb9.cell (i := 3) rfl; have x4 := hb9.cell (i := 4) rfl; have x5 := hb9.cell (i := 5) rfl; have x6 := hb9.cell (i := 6) rfl; have y0 := hc9.cell (i := 0) rfl; have y1 := hc9.cell (i := 1) rfl; have y2 := hc9.cell (i := 2) rfl; have y3 := hc9.cell (i := 3) rfl; have y4 := hc9.cell (i := 4) rfl; have y5 := hc9.cell (i := 5) rfl; have y6 := hc9.cell (i := 6) rfl; have y7 := hc9.cell (i := 7) rfl; have y8 := hc9.cell (i := 8) rfl; have y9 := hc9.cell (i := 9) rfl; clear hb9 hc9; go_simp; try with_reducible rfl)
  try simp only [Act.put, List.setIfInBounds_toArray, List.set_cons_zero, List.set_cons_succ]
  refine wpAnyH_take (i := 1) (oi := ⟨some 36, _, _, _, _, _⟩) (v := ?_) rfl (by kernel_rfl) (by kernel_rfl) (by kernel_rfl) (fun _ _ _ h => h) (Or.inl ⟨by rfl, ?_⟩) hHeld ?_
  rotate_left
  · (intro wq hSw; have hb9 := hSw.1; have hc9 := hSw.2; have x0 := hb9.cell (i := 0) rfl; have x1 := hb9.cell (i := 1) rfl; have x2 := hb9.cell (i := 2) rfl; have x3 := hb9.cell (i := 3) rfl; have x4 := hb9.cell (i := 4) rfl; have x5 := hb9.cell (i := 5) rfl; have x6 := hb9.cell (i := 6) rfl; have y0 := hc9.cell (i := 0) rfl; have y1 := hc9.cell (i := 1) rfl; have y2 := hc9.cell (i := 2) rfl; have y3 := hc9.cell (i := 3) rfl; have y4 := hc9.cell (i := 4) rfl; have y5 := hc9.cell (i := 5) rfl; have y6 := hc9.cell (i := 6) rfl; have y7 := hc9.cell (i := 7) rfl; have y8 := hc9.cell (i := 8) rfl; have y9 := hc9.cell (i := 9) rfl; clear hb9 hc9; go_simp; try with_reducible rfl)
  try simp only [Act.put, List.setIfInBounds_toArray, List.set_cons_zero, List.set_cons_succ]
  refine wpAnyH_take (i := 2) (oi := ⟨some 37, _, _, _, _, _⟩) (v := ?_) rfl (by kernel_rfl) (by kernel_rfl) (by kernel_rfl) (fun _ _ _ h => h) (Or.inl ⟨by rfl, ?_⟩) hHeld ?_
  rotate_left
  · (intro wq hSw; go_simp; try with_reducible rfl)
  try simp only [Act.put, List.setIfInBounds_toArray, List.set_cons_zero, List.set_cons_succ]
  refine wpAnyH_take (i := 3) (oi := ⟨some 38, _, _, _, _, _⟩) (v := ?_) rfl (by kernel_rfl) (by kernel_rfl) (by kernel_rfl) (fun _ _ _ h => h) (Or.inl ⟨by rfl, ?_⟩) hHeld ?_
  rotate_left
  · (intro wq hSw; go_simp; try with_reducible rfl)
  try simp only [Act.put, List.setIfInBounds_toArray, List.set_cons_zero, List.set_cons_succ]
  refine wpAnyH_ready (rs := [4]) (by kernel_rfl) (by simp) ?_
  refine AllReadyH.cons (o := ⟨none, _, _, _, _, _⟩) rfl (fun KK hK => ?_) AllReadyH.nil
  have h9 := H8.out
  have s0 := h9.cell (i := 0) rfl
  have s1 := h9.cell (i := 1) rfl
  have s2 := h9.cell (i := 2) rfl
  have s3 := h9.cell (i := 3) rfl
  have s4 := h9.cell (i := 4) rfl
  have s5 := h9.cell (i := 5) rfl
  have s6 := h9.cell (i := 6) rfl
  have z0 := h9.frozen 0
  have z1 := h9.frozen 1
  have z2 := h9.frozen 2
  have z3 := h9.frozen 3
  have z4 := h9.frozen 4
  have z5 := h9.frozen 5
  have z6 := h9.frozen 6
  clear h9
  go_simp
  have hKs := (((((((Kept.refl (fun i => i = r8) G).setCell (a := ⟨r8, 0, none⟩) (fun _ => rfl) (.int .i64 1)).setCell (a := ⟨r8, 1, none⟩) (fun _ => rfl) (.int .i64 2)).setCell (a := ⟨r8, 2, none⟩) (fun _ => rfl) (.int .i64 100)).setCell (a := ⟨r8, 3, none⟩) (fun _ => rfl) (.int .i64 100)).setCell (a := ⟨r8, 4, none⟩) (fun _ => rfl) (.int .i64 200)).setCell (a := ⟨r8, 5, none⟩) (fun _ => rfl) (.int .i64 (F : Int))).setCell (a := ⟨r8, 6, none⟩) (fun _ => rfl) (.int .u64 1000)
  replace HKG := Lib.hid (HKG.out.trans hKs (fun i _ e => by exact .inl e))
  replace HK := Lib.hid (HK.out.trans hKs (fun i _ e => by exact .inl e))
  replace H9 := Lib.hid (hKs.blk H9.out (by have := HR8.out; omega))
  replace H12d := Lib.hid (hKs.blk H12d.out (by have := HR12.out; omega))
  replace H13d := Lib.hid (hKs.blk H13d.out (by have := HR13.out; omega))
  replace HM4 := Lib.hid (HM4.out.kept hKs (by have := HBG.out; omega) (by have := HBG.out; omega))
  replace HKR := Lib.hid (HKR.out.kept hKs (fun a ha e => by have := HAK.out a ha; omega))
  replace H8 := Lib.hid ((((((((H8.out).set 0 (.int .i64 1)).set 1 (.int .i64 2)).set 2 (.int .i64 100)).set 3 (.int .i64 100)).set 4 (.int .i64 200)).set 5 (.int .i64 (F : Int))).set 6 (.int .u64 1000))
  clear hKs s0 z0 s1 z1 s2 z2 s3 z3 s4 z4 s5 z5 s6 z6
  generalize (((((((G).setCell ⟨r8, 0, none⟩ (.int .i64 1)).setCell ⟨r8, 1, none⟩ (.int .i64 2)).setCell ⟨r8, 2, none⟩ (.int .i64 100)).setCell ⟨r8, 3, none⟩ (.int .i64 100)).setCell ⟨r8, 4, none⟩ (.int .i64 200)).setCell ⟨r8, 5, none⟩ (.int .i64 (F : Int))).setCell ⟨r8, 6, none⟩ (.int .u64 1000) = G at *
  refine hK.out _ _ ?_ (fun hHeld2 => ?_)
  · exact ⟨H12d.out, H13d.out⟩
  clear hK KK hHeld
  have hHeld := hHeld2
  clear hHeld2
  try simp only [Act.put, List.setIfInBounds_toArray, List.set_cons_zero, List.set_cons_succ]
  refine wpAnyH_ready (rs := [5]) (by kernel_rfl) (by simp) ?_
  refine AllReadyH.cons (o := ⟨none, _, _, _, _, _⟩) rfl (fun KK hK => ?_) AllReadyH.nil
  have h9 := H9.out
  have s0 := h9.cell (i := 0) rfl
  have s1 := h9.cell (i := 1) rfl
  have s2 := h9.cell (i := 2) rfl
  have s3 := h9.cell (i := 3) rfl
  have s4 := h9.cell (i := 4) rfl
  have s5 := h9.cell (i := 5) rfl
  have s6 := h9.cell (i := 6) rfl
  have s7 := h9.cell (i := 7) rfl
  have s8 := h9.cell (i := 8) rfl
  have s9 := h9.cell (i := 9) rfl
  have z0 := h9.frozen 0
  have z1 := h9.frozen 1
  have z2 := h9.frozen 2
  have z3 := h9.frozen 3
  have z4 := h9.frozen 4
  have z5 := h9.frozen 5
  have z6 := h9.frozen 6
  have z7 := h9.frozen 7
  have z8 := h9.frozen 8
  have z9 := h9.frozen 9
  clear h9
  go_simp
  have hKs := ((((((((((Kept.refl (fun i => i = r9) G).setCell (a := ⟨r9, 0, none⟩) (fun _ => rfl) (.int .i64 1)).setCell (a := ⟨r9, 1, none⟩) (fun _ => rfl) (.int .i64 2)).setCell (a := ⟨r9, 2, none⟩) (fun _ => rfl) (.int .i64 100)).setCell (a := ⟨r9, 3, none⟩) (fun _ => rfl) (.int .i64 100)).setCell (a := ⟨r9, 4, none⟩) (fun _ => rfl) (.int .i64 200)).setCell (a := ⟨r9, 5, none⟩) (fun _ => rfl) (.int .i64 (F : Int))).setCell (a := ⟨r9, 6, none⟩) (fun _ => rfl) (.int .u64 1000)).setCell (a := ⟨r9, 7, none⟩) (fun _ => rfl) (.int .i64 10)).setCell (a := ⟨r9, 8, none⟩) (fun _ => rfl) (.int .i64 fb)).setCell (a := ⟨r9, 9, none⟩) (fun _ => rfl) (.int .i64 fd)
  replace HKG := Lib.hid (HKG.out.trans hKs (fun i _ e => by exact .inr e))
  replace HK := Lib.hid (HK.out.trans hKs (fun i _ e => by exact .inr e))
  replace H8 := Lib.hid (hKs.blk H8.out (by have := HR8.out; omega))
  replace H12d := Lib.hid (hKs.blk H12d.out (by have := HR12.out; omega))
  replace H13d := Lib.hid (hKs.blk H13d.out (by have := HR13.out; omega))
  replace HM4 := Lib.hid (HM4.out.kept hKs (by have := HBG.out; omega) (by have := HBG.out; omega))
  replace HKR := Lib.hid (HKR.out.kept hKs (fun a ha e => by have := HAK.out a ha; omega))
  replace H9 := Lib.hid (((((((((((H9.out).set 0 (.int .i64 1)).set 1 (.int .i64 2)).set 2 (.int .i64 100)).set 3 (.int .i64 100)).set 4 (.int .i64 200)).set 5 (.int .i64 (F : Int))).set 6 (.int .u64 1000)).set 7 (.int .i64 10)).set 8 (.int .i64 fb)).set 9 (.int .i64 fd))
  clear hKs s0 z0 s1 z1 s2 z2 s3 z3 s4 z4 s5 z5 s6 z6 s7 z7 s8 z8 s9 z9
  generalize ((((((((((G).setCell ⟨r9, 0, none⟩ (.int .i64 1)).setCell ⟨r9, 1, none⟩ (.int .i64 2)).setCell ⟨r9, 2, none⟩ (.int .i64 100)).setCell ⟨r9, 3, none⟩ (.int .i64 100)).setCell ⟨r9, 4, none⟩ (.int .i64 200)).setCell ⟨r9, 5, none⟩ (.int .i64 (F : Int))).setCell ⟨r9, 6, none⟩ (.int .u64 1000)).setCell ⟨r9, 7, none⟩ (.int .i64 10)).setCell ⟨r9, 8, none⟩ (.int .i64 fb)).setCell ⟨r9, 9, none⟩ (.int .i64 fd) = G at *
  refine hK.out _ _ ?_ (fun hHeld2 => ?_)
  · exact ⟨H12d.out, H13d.out⟩
  clear hK KK hHeld
  have hHeld := hHeld2
  clear hHeld2
  try simp only [Act.put, List.setIfInBounds_toArray, List.set_cons_zero, List.set_cons_succ]
  refine wpAnyH_take (i := 6) (oi := ⟨some 10, _, _, _, _, _⟩) (v := ?_) rfl (by kernel_rfl) (by kernel_rfl) (by kernel_rfl) (fun _ _ _ h => h) (Or.inl ⟨by rfl, ?_⟩) hHeld ?_
  rotate_left
  · (intro wq hSw; go_simp; try with_reducible rfl)
  try simp only [Act.put, List.setIfInBounds_toArray, List.set_cons_zero, List.set_cons_succ]
  refine wpAnyH_take (i := 7) (oi := ⟨some 11, _, _, _, _, _⟩) (v := ?_) rfl (by kernel_rfl) (by kernel_rfl) (by kernel_rfl) (fun _ _ _ h => h) (Or.inl ⟨by rfl, ?_⟩) hHeld ?_
  rotate_left
  · (intro wq hSw; go_simp; try with_reducible rfl)
  try simp only [Act.put, List.setIfInBounds_toArray, List.set_cons_zero, List.set_cons_succ]
  refine wpAnyH_done (by kernel_rfl) ?_ _
  clear hHeld
  have q0 := H8.out.cell (i := 0) rfl
  have q1 := H8.out.cell (i := 1) rfl
  have q2 := H8.out.cell (i := 2) rfl
  have q3 := H8.out.cell (i := 3) rfl
  have q4 := H8.out.cell (i := 4) rfl
  have q5 := H8.out.cell (i := 5) rfl
  have q6 := H8.out.cell (i := 6) rfl
  have t0 := H9.out.cell (i := 0) rfl
  have t1 := H9.out.cell (i := 1) rfl
  have t2 := H9.out.cell (i := 2) rfl
  have t3 := H9.out.cell (i := 3) rfl
  have t4 := H9.out.cell (i := 4) rfl
  have t5 := H9.out.cell (i := 5) rfl
  have t6 := H9.out.cell (i := 6) rfl
  have t7 := H9.out.cell (i := 7) rfl
  have t8 := H9.out.cell (i := 8) rfl
  have t9 := H9.out.cell (i := 9) rfl
  go_wp2
  refine bodyPost_ret (v := .tuple #[.agg #[.int .i64 1, .int .i64 2, .int .i64 100, .int .i64 100, .int .i64 200, .int .i64 (F : Int), .int .u64 1000], .agg #[.int .i64 1, .int .i64 2, .int .i64 100, .int .i64 100, .int .i64 200, .int .i64 (F : Int), .int .u64 1000, .int .i64 10, .int .i64 fb, .int .i64 fd], .pointer (some ⟨b, 0, none⟩), .slice AK nk cK]) ?_ rfl ?_
  · simp [results, Try.results8, go_sem, q0, q1, q2, q3, q4, q5, q6, t0, t1, t2, t3, t4, t5, t6, t7, t8, t9]
  have h8 := HR8.out
  have hbg := HBG.out
  refine ⟨b, g, l2, fb, fd, AK, cK, H, l.length, by rw [HNK.out], HM4.out, HP.out, HL2.out, HD.out, by omega, by omega, HKR.out, fun a ha => ?_, ⟨HK.out.os, HK.out.tape, HK.out.output, HK.out.size, fun i hi _ => HK.out.block i hi (fun e => by rcases e with e | e <;> omega)⟩⟩
  have h9 := HAK.out a ha
  omega

end Go.Proofs.Ytboieccjikcdiaa
