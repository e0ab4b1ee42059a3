/-
  What Apply of a model answers for a batch that passes Check. Condition: at most a million batches and stores, at most a thousand writes.
-/
import Derived.Test.YtodenkamlbihnaaModSnap
import Derived.Test.YtodenkamlbihnaaModNor
import Derived.Deep.Cut
import Derived.BigRegion
namespace Go.Proofs.Ytodenkamlbihnaa
open Go.RowKit Go.Deep Plain PlainE
set_option linter.unusedVariables false
theorem ChM.lookW {w w' : World} {bm base n : Nat} {D : DataW Value} {sl : ByteArray → Value} {ch : ByteArray → List Chg} (h : ChM w bm base n D sl ch) {k : ByteArray} (hk : k.size ≤ maxLen) (hb : w'.heap[bm]? = w.heap[bm]?) : (Instr.lookup 62 (.map (some bm)) (.string k) false).run Try.prog w' = .ok (sl k) w' := by
  obtain ⟨v, ps, hrun, hv⟩ := (map_of h.own hb).lookup keyedS Try.underlying62 (Try.zeroValue75 w') (zd := .held (.slice none 0 0)) (zp := []) rfl (keyOf_str hk)
  have hv2 : D.atKey (litB k) (.held (.slice none 0 0)) = .held v := by
    have hv3 : some (DataW.held v, ([] : List MemPlace)) = some (D.atKey (litB k) (.held (.slice none 0 0)), ps) := hv
    exact (Prod.mk.inj (Option.some.inj hv3)).1.symm
  have : v = sl k := by
    by_cases hc : ch k = []
    · have h0 : Maps.has D (litB k) = false := by
        cases hh : Maps.has D (litB k)
        · rfl
        · exact absurd hc ((h.has k).1 hh)
      rw [Maps.atKey_of_not_has h0] at hv2
      rw [h.nil k hc]
      exact (DataW.held.inj hv2).symm
    · rw [h.val k hc] at hv2
      exact (DataW.held.inj hv2).symm
  rw [← this]; exact hrun

open Go.RowKit in
theorem Kept.grownK {w w' : World} {row : Option Nat} (h : Kept (fun _ => False) w w') : w.grownBy w' row := ⟨h.os, h.tape, h.output, h.size, fun i hi _ => h.block i hi (fun h => h)⟩
set_option maxRecDepth 100000 in
set_option maxHeartbeats 4000000 in
theorem mapply_any {p B m : Nat} {Z : Nat → Prop} {bs : List (List Wri)} {fl : Nat} {sn : Lit → Option Nat} (w : World) (h : MdS w p B Z m bs fl sn) (hT : bs.length ≤ 1000000) (hm : m ≤ 1000000)
    (A : Option Addr) (c : Nat) (b : List Wri) (n : Nat) (hn : b.length = n) (h40 : n ≤ 1000) (hR : RW w A c b) (hs : ∀ x ∈ b, Sz x) (hb : chk b = 0) :
    Calls Try.prog 19 #[.pointer (some ⟨p, 0, none⟩), .slice A n c] w fun e w' => e = .returned (.int .u64 ((bs.length : Int) + 1)) ∧ MdS w' p B (fun i => Z i ∨ (w.heap.size ≤ i ∧ i < w'.heap.size)) (m + n) (bs ++ [b]) fl sn ∧ Kept Z w w' := by
  obtain ⟨r, hr⟩ : ∃ r, (nrm b).length = r := ⟨_, rfl⟩
  have hrn : r ≤ n := by
    rw [← hr, nrm_ok hb, normL_length, ← hn]
    refine snoc_ind (p := fun b => (keysB b).length ≤ b.length) (Nat.le_refl _) (fun b w ih => ?_) b
    rw [keysB_len_snoc, List.length_append]; split <;> simp <;> omega
  have con := fun W (hW : RW W A c b) => normalize_any A c b W n hn (by omega) hW hs 0 hb r hr
  obtain ⟨bc, bn, nc0, nn, Dc0, Dn, sl0, ch0, hp, hc, hsn, h1, h2, h3, h4, h5, h6, h7, h8, hz⟩ := h
  obtain ⟨ns, hns⟩ : ∃ ns, nrm b = ns := ⟨_, rfl⟩
  have hasc : AscW ns := by rw [← hns, nrm_ok hb]; exact normL_asc b
  have hsz : ∀ x ∈ ns, x.1.size ≤ maxLen := fun x hx => by
    rw [← hns, nrm_ok hb] at hx
    exact (hs x (lastW_key (normL_mem.1 hx)).2).1
  have hnL : ns = normL b := by rw [← hns, nrm_ok hb]
  rw [hns] at con hr
  have HR := Lib.hid hR
  have HCS := Lib.hid h1
  have HASC := Lib.hid hasc
  have HSZ := Lib.hid hsz
  have HNL := Lib.hid hnL
  have HRL := Lib.hid hr
  have HPP := Lib.hid hp
  have HCC := Lib.hid hc
  have HSN := Lib.hid hsn
  have HZ := Lib.hid hz
  have H2 := Lib.hid h2
  have H3 := Lib.hid h3
  have H4 := Lib.hid h4
  have H5 := Lib.hid h5
  have H6 := Lib.hid h6
  have H7 := Lib.hid h7
  have H8 := Lib.hid h8
  have HNN := Lib.hid hn
  have ne1 := Lib.hid (MdS.nop (B := 0) hp hc.own)
  have ne2 := Lib.hid (MdS.nop (B := 0) hp hsn.own)
  have hrow : ∀ k g, (sl0 k).ownBlock = some g → g ≠ p ∧ g ≠ bn := fun k g hg => by
    obtain ⟨_, _, cur, hh⟩ := own_cells (hc.row k) hg
    refine ⟨fun e => ?_, fun e => ?_⟩
    · have h9 : w.heap[p]? = some (.cells _ 65 (0, 0)) := hp
      rw [e, h9] at hh; cases hh
    · obtain ⟨es, clock, hm9, _⟩ := hsn.own
      rw [e, hm9] at hh; cases hh
  have HROW0 := Lib.hid hrow
  clear hR h1 hasc hsz hnL hr hp hc hsn hz h2 h3 h4 h5 h6 h7 h8 hn hrow hs hb hns
  have hbl : (bs.length : Int) ≤ 1000000 := by omega
  go_enter Try.func19, Try.ntmps19
  go_wp2_with fail
  refine (con _ HR.out).mono ?_; rintro e w1 ⟨A1, c1, rfl, hR1, hB1, hF1⟩
  clear con
  have hs1 := hB1.size
  have HR1 := Lib.hid hR1
  have HF1 := Lib.hid hF1
  have HB1 := Lib.hid hB1
  have hk1 : Kept (fun _ => False) w w1 := Below.kept hB1 (fun i hi hB => absurd hi (by omega))
  have HK1 := Lib.hid hk1
  have hp1 := hk1.blk HPP.out (fun h => h)
  have HP1 := Lib.hid hp1
  have c0 := hp1.cell (i := 0) rfl
  have f0 := hp1.frozen 0
  have ew : IntKind.u64.wrap ((bs.length : Int) + 1) = (bs.length : Int) + 1 := by rw [IntKind.wrap_u64]; omega
  clear hR1 hB1 hF1 hk1 hp1
  go_wp2_with fail
  go_loopw [29] (fun i wr => ∃ (k nc : Nat) (D : DataW Value) (sl : ByteArray → Value), k ≤ r ∧ i = .int .i64 k ∧ Blk wr p 65 [.int .u64 ((bs.length : Int) + 1), .int .u64 (fl : Int), .map (some bc), .map (some bn)] ∧ ChM wr bc B nc D sl (chTo (bs.length + 1) ch0 (ns.take k)) ∧ nc ≤ nc0 + k ∧ (∀ k g, (sl k).ownBlock = some g → (Z g ∧ g ≠ p ∧ g ≠ bn) ∨ w1.heap.size ≤ g) ∧ Kept Z w wr ∧ (∀ i, i < w1.heap.size → w.heap.size ≤ i → wr.heap[i]? = w1.heap[i]?) ∧ w1.heap.size ≤ wr.heap.size ∧ wr.heap[bn]? = w1.heap[bn]?) (fun i _ => r - (intOf i).toNat)
  case atStart =>
    have hk : Kept Z w (w1.setCell ⟨p, 0, none⟩ (.int .u64 ((bs.length : Int) + 1))) := (HK1.out.mono (fun _ h => h.elim)).setCell (a := ⟨p, 0, none⟩) (fun _ => H5.out) _
    have hk2 : Kept (fun i => i = p) w1 (w1.setCell ⟨p, 0, none⟩ (.int .u64 ((bs.length : Int) + 1))) := (Kept.refl (fun i => i = p) w1).setCell (a := ⟨p, 0, none⟩) (fun _ => rfl) _
    have hpl := HPP.out.lt
    exact ⟨0, nc0, Dc0, sl0, Nat.zero_le _, rfl, HP1.out.set 0 _, HCC.out.of ((hk2.block bc (Nat.lt_of_lt_of_le HCC.out.own.lt hs1) ne1.out).trans (HK1.out.block bc HCC.out.own.lt (fun h => h))) (fun k g hg => (hk2.block g (Nat.lt_of_lt_of_le (own_cells (HCC.out.row k) hg).2.1 hs1) (HROW0.out k g hg).1).trans (HK1.out.block g (own_cells (HCC.out.row k) hg).2.1 (fun h => h))), Nat.le_refl _, fun k g hg => .inl ⟨H8.out k g hg, HROW0.out k g hg⟩, hk, fun i hi1 hi2 => hk2.block i hi1 (by omega), hk2.size, hk2.block bn (Nat.lt_of_lt_of_le HSN.out.own.lt hs1) ne2.out⟩
  case round =>
    obtain ⟨k, nc, D, sl, hk, rfl, hp, hc, hnc, hzn, hkz, hold, hsz1, hbn⟩ := hrel
    have HP := Lib.hid hp
    have HC := Lib.hid hc
    have HNC0 := Lib.hid hnc
    have HZN := Lib.hid hzn
    have HKZ0 := Lib.hid hkz
    have HOLD := Lib.hid hold
    have HS1 := Lib.hid hsz1
    have HBN := Lib.hid hbn
    clear hnc hzn hbn c0 f0
    by_cases hlt : k < r
    · obtain ⟨x, hx⟩ : ∃ x, ns[k]? = some x := ⟨_, List.getElem?_eq_getElem (by have := HRL.out; omega)⟩
      obtain ⟨g1, o1, eA, hg1, hcell⟩ := HR1.out.at (by have := HRL.out; omega)
      have hg1w := HF1.out ⟨g1, o1, none⟩ eA
      subst eA
      obtain ⟨z0, z1, z2⟩ := hcell k x hx
      have hgo : wr.heap[g1]? = w1.heap[g1]? := hold g1 hg1 hg1w
      have d0 := (World.cell?_of_block (w := w1) (w' := wr) (a := ⟨g1, o1 + k * 3, none⟩) hgo).trans z0
      have d1 := (World.cell?_of_block (w := w1) (w' := wr) (a := ⟨g1, o1 + k * 3 + 1, none⟩) hgo).trans z1
      have d2 := (World.cell?_of_block (w := w1) (w' := wr) (a := ⟨g1, o1 + k * 3 + 2, none⟩) hgo).trans z2
      have hnx := chTo_nx (T := bs.length + 1) (ch := ch0) HASC.out hx
      have hkx := HSZ.out x (List.mem_of_getElem? hx)
      obtain ⟨x0, x1, x2⟩ := x
      have HNX0 := Lib.hid hnx
      have HKZ := Lib.hid hkx
      clear hcell hx z0 z1 z2 hgo hold hkz hp hc hnx hkx hg1w
      go_upto_region 8 with fail
      obtain ⟨V, hV⟩ : ∃ V, wr.alloc (.cells #[.string x0, .string x1, .bool x2] 44) = V := ⟨_, rfl⟩
      have HXV := Lib.hid (show Blk V wr.heap.size 44 [.string x0, .string x1, .bool x2] from hV ▸ Blk.new wr [.string x0, .string x1, .bool x2] 44)
      have HKV := Lib.hid (show Kept (fun _ => False) wr V from hV ▸ (Kept.refl (fun _ => False) wr).alloc _)
      have hszV : V.heap.size = wr.heap.size + 1 := by rw [← hV]; exact nblk_alloc _ _
      rw [hV]
      clear hV d0 d1 d2
      have HPV := Lib.hid (HKV.out.blk HP.out (fun h => h))
      have HCV := Lib.hid (HC.out.of (HKV.out.block bc HC.out.own.lt (fun h => h)) (fun k g hg => HKV.out.block g (own_cells (HC.out.row k) hg).2.1 (fun h => h)))
      have HSV := Lib.hid (show B ≤ V.heap.size by have := (HZ.out p H5.out); omega)
      have HNP := Lib.hid (show ¬ (sl x0).ownBlock = some p from fun h => by
        rcases HZN.out x0 p h with h9 | h9
        · exact h9.2.1 rfl
        · have := HPP.out.lt; omega)
      have HNX := Lib.hid (show ¬ (sl x0).ownBlock = some wr.heap.size from fun h => by have := (own_cells (HC.out.row x0) h).2.1; omega)
      have HNC := Lib.hid (show ¬ (sl x0).ownBlock = some bc from fun h => HC.out.off h rfl)
      have HLK := Lib.hid (show ∀ wq, Kept (fun i => (sl x0).ownBlock = some i) V wq → (Instr.lookup 62 (.map (some bc)) (.string x0) false).run Try.prog wq = .ok (sl x0) wq from fun wq hq => (HCV.out).lookW HKZ.out (hq.block bc HCV.out.own.lt HNC.out))
      obtain ⟨n0, hn0⟩ : ∃ n0, (chTo (bs.length + 1) ch0 (ns.take k) x0).length = n0 := ⟨_, rfl⟩
      have HROW := Lib.hid (show V.ownsRow B 77 3 (sl x0) n0 (flatC (chTo (bs.length + 1) ch0 (ns.take k) x0)) from hn0 ▸ HCV.out.row x0)
      have HN0 := Lib.hid (show (chTo (bs.length + 1) ch0 (ns.take k) x0).length = n0 ∧ n0 ≤ 1000000 from ⟨hn0, by
        have h9 := HCS.out.len x0
        have h8 : chTo (bs.length + 1) ch0 (ns.take k) x0 = ch0 x0 := HNX0.out.1
        rw [← hn0, h8]; omega⟩)
      have HNCM := Lib.hid (show nc ≤ 1001000 by have := HNC0.out; have := H2.out; omega)
      clear hn0
      refine region_E 24 (fun w' => Kept (fun i => (sl x0).ownBlock = some i) V w') (by kernel_rfl) ?_ (fun hHeld => ?_)
      · exact ((Kept.refl (fun _ => False) _).drew).mono (fun _ h => h.elim)
      have HW := Lib.hid ((Kept.refl (fun _ => False) V).drew)
      generalize V.drew = G at *
      refine anyE_take (i := 0) (oi := ⟨some 33, _, _, _, _, _⟩) (v := ?_) rfl (by kernel_rfl) (by kernel_rfl) (by kernel_rfl) (by kernel_rfl) (fun _ _ _ h => h) (Or.inl ⟨by rfl, ?_⟩) hHeld ?_
      rotate_left
      · (intro wq hSw; go_simp; try with_reducible rfl)
      try simp only [Act.put, List.setIfInBounds_toArray, List.set_cons_zero, List.set_cons_succ]
      refine anyE_take (i := 1) (oi := ⟨some 34, _, _, _, _, _⟩) (v := ?_) rfl (by kernel_rfl) (by kernel_rfl) (by kernel_rfl) (by kernel_rfl) (fun _ _ _ h => h) (Or.inl ⟨by rfl, ?_⟩) hHeld ?_
      rotate_left
      · (intro wq hSw; go_simp; try with_reducible rfl)
      try simp only [Act.put, List.setIfInBounds_toArray, List.set_cons_zero, List.set_cons_succ]
      refine anyE_take (i := 2) (oi := ⟨some 35, _, _, _, _, _⟩) (v := ?_) rfl (by kernel_rfl) (by kernel_rfl) (by kernel_rfl) (by kernel_rfl) (fun _ _ _ h => h) (Or.inl ⟨by rfl, ?_⟩) hHeld ?_
      rotate_left
      · (intro wq hSw; go_simp; try with_reducible rfl)
      try simp only [Act.put, List.setIfInBounds_toArray, List.set_cons_zero, List.set_cons_succ]
      refine anyE_take (i := 3) (oi := ⟨some 36, _, _, _, _, _⟩) (v := ?_) rfl (by kernel_rfl) (by kernel_rfl) (by kernel_rfl) (by kernel_rfl) (fun _ _ _ h => h) (Or.inl ⟨by rfl, ?_⟩) hHeld ?_
      rotate_left
      · (intro wq hSw; have hb9 := hSw.blk HPV.out HNP.out; have p0 := hb9.cell (i := 0) rfl; have p1 := hb9.cell (i := 1) rfl; have p2 := hb9.cell (i := 2) rfl; have p3 := hb9.cell (i := 3) rfl; clear hb9; have hc9 := hSw.blk HXV.out HNX.out; have y0 := hc9.cell (i := 0) rfl; have y1 := hc9.cell (i := 1) rfl; have y2 := hc9.cell (i := 2) rfl; clear hc9; have lk := HLK.out wq hSw; go_simp; try with_reducible rfl)
      try simp only [Act.put, List.setIfInBounds_toArray, List.set_cons_zero, List.set_cons_succ]
      refine anyE_take (i := 4) (oi := ⟨some 37, _, _, _, _, _⟩) (v := ?_) rfl (by kernel_rfl) (by kernel_rfl) (by kernel_rfl) (by kernel_rfl) (fun _ _ _ h => h) (Or.inl ⟨by rfl, ?_⟩) hHeld ?_
      rotate_left
      · (intro wq hSw; go_simp; try with_reducible rfl)
      try simp only [Act.put, List.setIfInBounds_toArray, List.set_cons_zero, List.set_cons_succ]
      refine anyE_take (i := 5) (oi := ⟨some 38, _, _, _, _, _⟩) (v := ?_) rfl (by kernel_rfl) (by kernel_rfl) (by kernel_rfl) (by kernel_rfl) (fun _ _ _ h => h) (Or.inl ⟨by rfl, ?_⟩) hHeld ?_
      rotate_left
      · (intro wq hSw; have hb9 := hSw.blk HPV.out HNP.out; have p0 := hb9.cell (i := 0) rfl; have p1 := hb9.cell (i := 1) rfl; have p2 := hb9.cell (i := 2) rfl; have p3 := hb9.cell (i := 3) rfl; clear hb9; have hc9 := hSw.blk HXV.out HNX.out; have y0 := hc9.cell (i := 0) rfl; have y1 := hc9.cell (i := 1) rfl; have y2 := hc9.cell (i := 2) rfl; clear hc9; have lk := HLK.out wq hSw; go_simp; try with_reducible rfl)
      try simp only [Act.put, List.setIfInBounds_toArray, List.set_cons_zero, List.set_cons_succ]
      refine anyE_take (i := 6) (oi := ⟨some 39, _, _, _, _, _⟩) (v := ?_) rfl (by kernel_rfl) (by kernel_rfl) (by kernel_rfl) (by kernel_rfl) (fun _ _ _ h => h) (Or.inl ⟨by rfl, ?_⟩) hHeld ?_
      rotate_left
      · (intro wq hSw; go_simp; try with_reducible rfl)
      try simp only [Act.put, List.setIfInBounds_toArray, List.set_cons_zero, List.set_cons_succ]
      refine anyE_take (i := 7) (oi := ⟨some 40, _, _, _, _, _⟩) (v := ?_) rfl (by kernel_rfl) (by kernel_rfl) (by kernel_rfl) (by kernel_rfl) (fun _ _ _ h => h) (Or.inl ⟨by rfl, ?_⟩) hHeld ?_
      rotate_left
      · (intro wq hSw; go_simp; try with_reducible rfl)
      try simp only [Act.put, List.setIfInBounds_toArray, List.set_cons_zero, List.set_cons_succ]
      refine anyE_take (i := 8) (oi := ⟨some 41, _, _, _, _, _⟩) (v := ?_) rfl (by kernel_rfl) (by kernel_rfl) (by kernel_rfl) (by kernel_rfl) (fun _ _ _ h => h) (Or.inl ⟨by rfl, ?_⟩) hHeld ?_
      rotate_left
      · (intro wq hSw; go_simp; try with_reducible rfl)
      try simp only [Act.put, List.setIfInBounds_toArray, List.set_cons_zero, List.set_cons_succ]
      refine anyE_take (i := 9) (oi := ⟨some 42, _, _, _, _, _⟩) (v := ?_) rfl (by kernel_rfl) (by kernel_rfl) (by kernel_rfl) (by kernel_rfl) (fun _ _ _ h => h) (Or.inl ⟨by rfl, ?_⟩) hHeld ?_
      rotate_left
      · (intro wq hSw; have hb9 := hSw.blk HPV.out HNP.out; have p0 := hb9.cell (i := 0) rfl; have p1 := hb9.cell (i := 1) rfl; have p2 := hb9.cell (i := 2) rfl; have p3 := hb9.cell (i := 3) rfl; clear hb9; have hc9 := hSw.blk HXV.out HNX.out; have y0 := hc9.cell (i := 0) rfl; have y1 := hc9.cell (i := 1) rfl; have y2 := hc9.cell (i := 2) rfl; clear hc9; have lk := HLK.out wq hSw; go_simp; try with_reducible rfl)
      try simp only [Act.put, List.setIfInBounds_toArray, List.set_cons_zero, List.set_cons_succ]
      refine anyE_take (i := 10) (oi := ⟨some 43, _, _, _, _, _⟩) (v := ?_) rfl (by kernel_rfl) (by kernel_rfl) (by kernel_rfl) (by kernel_rfl) (fun _ _ _ h => h) (Or.inl ⟨by rfl, ?_⟩) hHeld ?_
      rotate_left
      · (intro wq hSw; go_simp; try with_reducible rfl)
      try simp only [Act.put, List.setIfInBounds_toArray, List.set_cons_zero, List.set_cons_succ]
      refine anyE_take (i := 11) (oi := ⟨some 44, _, _, _, _, _⟩) (v := ?_) rfl (by kernel_rfl) (by kernel_rfl) (by kernel_rfl) (by kernel_rfl) (fun _ _ _ h => h) (Or.inl ⟨by rfl, ?_⟩) hHeld ?_
      rotate_left
      · (intro wq hSw; have hb9 := hSw.blk HPV.out HNP.out; have p0 := hb9.cell (i := 0) rfl; have p1 := hb9.cell (i := 1) rfl; have p2 := hb9.cell (i := 2) rfl; have p3 := hb9.cell (i := 3) rfl; clear hb9; have hc9 := hSw.blk HXV.out HNX.out; have y0 := hc9.cell (i := 0) rfl; have y1 := hc9.cell (i := 1) rfl; have y2 := hc9.cell (i := 2) rfl; clear hc9; have lk := HLK.out wq hSw; go_simp; try with_reducible rfl)
      try simp only [Act.put, List.setIfInBounds_toArray, List.set_cons_zero, List.set_cons_succ]
      refine anyE_take (i := 12) (oi := ⟨some 45, _, _, _, _, _⟩) (v := sl x0) rfl (by kernel_rfl) (by kernel_rfl) (by kernel_rfl) (by kernel_rfl) (fun _ _ _ h => h) (Or.inl ⟨by rfl, ?_⟩) hHeld ?_
      · (intro wq hSw; have hb9 := hSw.blk HPV.out HNP.out; have p0 := hb9.cell (i := 0) rfl; have p1 := hb9.cell (i := 1) rfl; have p2 := hb9.cell (i := 2) rfl; have p3 := hb9.cell (i := 3) rfl; clear hb9; have hc9 := hSw.blk HXV.out HNX.out; have y0 := hc9.cell (i := 0) rfl; have y1 := hc9.cell (i := 1) rfl; have y2 := hc9.cell (i := 2) rfl; clear hc9; have lk := HLK.out wq hSw; go_simp; try first | (with_reducible rfl) | (simp; omega) | (intros; omega) | simp [*])
      try simp only [Act.put, List.setIfInBounds_toArray, List.set_cons_zero, List.set_cons_succ]
      refine anyE_take (i := 13) (oi := ⟨some 46, _, _, _, _, _⟩) (v := ?_) rfl (by kernel_rfl) (by kernel_rfl) (by kernel_rfl) (by kernel_rfl) (fun _ _ _ h => h) (Or.inl ⟨by rfl, ?_⟩) hHeld ?_
      rotate_left
      · (intro wq hSw; go_simp; try with_reducible rfl)
      try simp only [Act.put, List.setIfInBounds_toArray, List.set_cons_zero, List.set_cons_succ]
      refine anyE_take (i := 14) (oi := ⟨some 47, _, _, _, _, _⟩) (v := ?_) rfl (by kernel_rfl) (by kernel_rfl) (by kernel_rfl) (by kernel_rfl) (fun _ _ _ h => h) (Or.inl ⟨by rfl, ?_⟩) hHeld ?_
      rotate_left
      · (intro wq hSw; go_simp; try with_reducible rfl)
      try simp only [Act.put, List.setIfInBounds_toArray, List.set_cons_zero, List.set_cons_succ]
      refine anyE_take (i := 15) (oi := ⟨some 48, _, _, _, _, _⟩) (v := ?_) rfl (by kernel_rfl) (by kernel_rfl) (by kernel_rfl) (by kernel_rfl) (fun _ _ _ h => h) (Or.inl ⟨by rfl, ?_⟩) hHeld ?_
      rotate_left
      · (intro wq hSw; go_simp; try with_reducible rfl)
      try simp only [Act.put, List.setIfInBounds_toArray, List.set_cons_zero, List.set_cons_succ]
      refine anyE_take (i := 16) (oi := ⟨some 49, _, _, _, _, _⟩) (v := ?_) rfl (by kernel_rfl) (by kernel_rfl) (by kernel_rfl) (by kernel_rfl) (fun _ _ _ h => h) (Or.inl ⟨by rfl, ?_⟩) hHeld ?_
      rotate_left
      · (intro wq hSw; have hb9 := hSw.blk HPV.out HNP.out; have p0 := hb9.cell (i := 0) rfl; have p1 := hb9.cell (i := 1) rfl; have p2 := hb9.cell (i := 2) rfl; have p3 := hb9.cell (i := 3) rfl; clear hb9; have hc9 := hSw.blk HXV.out HNX.out; have y0 := hc9.cell (i := 0) rfl; have y1 := hc9.cell (i := 1) rfl; have y2 := hc9.cell (i := 2) rfl; clear hc9; have lk := HLK.out wq hSw; go_simp; try with_reducible rfl)
      try simp only [Act.put, List.setIfInBounds_toArray, List.set_cons_zero, List.set_cons_succ]
      refine anyE_take (i := 17) (oi := ⟨some 50, _, _, _, _, _⟩) (v := ?_) rfl (by kernel_rfl) (by kernel_rfl) (by kernel_rfl) (by kernel_rfl) (fun _ _ _ h => h) (Or.inl ⟨by rfl, ?_⟩) hHeld ?_
      rotate_left
      · (intro wq hSw; go_simp; try with_reducible rfl)
      try simp only [Act.put, List.setIfInBounds_toArray, List.set_cons_zero, List.set_cons_succ]
      refine anyE_take (i := 18) (oi := ⟨some 51, _, _, _, _, _⟩) (v := ?_) rfl (by kernel_rfl) (by kernel_rfl) (by kernel_rfl) (by kernel_rfl) (fun _ _ _ h => h) (Or.inl ⟨by rfl, ?_⟩) hHeld ?_
      rotate_left
      · (intro wq hSw; have hb9 := hSw.blk HPV.out HNP.out; have p0 := hb9.cell (i := 0) rfl; have p1 := hb9.cell (i := 1) rfl; have p2 := hb9.cell (i := 2) rfl; have p3 := hb9.cell (i := 3) rfl; clear hb9; have hc9 := hSw.blk HXV.out HNX.out; have y0 := hc9.cell (i := 0) rfl; have y1 := hc9.cell (i := 1) rfl; have y2 := hc9.cell (i := 2) rfl; clear hc9; have lk := HLK.out wq hSw; go_simp; try with_reducible rfl)
      try simp only [Act.put, List.setIfInBounds_toArray, List.set_cons_zero, List.set_cons_succ]
      refine anyE_take (i := 19) (oi := ⟨some 52, _, _, _, _, _⟩) (v := ?_) rfl (by kernel_rfl) (by kernel_rfl) (by kernel_rfl) (by kernel_rfl) (fun _ _ _ h => h) (Or.inl ⟨by rfl, ?_⟩) hHeld ?_
      rotate_left
      · (intro wq hSw; go_simp; try with_reducible rfl)
      try simp only [Act.put, List.setIfInBounds_toArray, List.set_cons_zero, List.set_cons_succ]
      refine anyE_take (i := 20) (oi := ⟨some 53, _, _, _, _, _⟩) (v := ?_) rfl (by kernel_rfl) (by kernel_rfl) (by kernel_rfl) (by kernel_rfl) (fun _ _ _ h => h) (Or.inl ⟨by rfl, ?_⟩) hHeld ?_
      rotate_left
      · (intro wq hSw; have hb9 := hSw.blk HPV.out HNP.out; have p0 := hb9.cell (i := 0) rfl; have p1 := hb9.cell (i := 1) rfl; have p2 := hb9.cell (i := 2) rfl; have p3 := hb9.cell (i := 3) rfl; clear hb9; have hc9 := hSw.blk HXV.out HNX.out; have y0 := hc9.cell (i := 0) rfl; have y1 := hc9.cell (i := 1) rfl; have y2 := hc9.cell (i := 2) rfl; clear hc9; have lk := HLK.out wq hSw; go_simp; try with_reducible rfl)
      try simp only [Act.put, List.setIfInBounds_toArray, List.set_cons_zero, List.set_cons_succ]
      refine anyE_take (i := 21) (oi := ⟨some 54, _, _, _, _, _⟩) (v := ?_) rfl (by kernel_rfl) (by kernel_rfl) (by kernel_rfl) (by kernel_rfl) (fun _ _ _ h => h) (Or.inl ⟨by rfl, ?_⟩) hHeld ?_
      rotate_left
      · (intro wq hSw; go_simp; try with_reducible rfl)
      try simp only [Act.put, List.setIfInBounds_toArray, List.set_cons_zero, List.set_cons_succ]
      refine anyE_ready (i := 22) (o := ⟨some 55, _, _, _, _, _⟩) (by kernel_rfl) rfl (fun KK hK => ?_)
      go_simp
      have HNb := Lib.hid (show RC (G.alloc (.cells #[.int .u64 ((bs.length : Int) + 1), .string x1, .bool x2] 77)) (some ⟨G.heap.size, 0, none⟩) 1 [(bs.length + 1, x1, x2)] from RC.one G (bs.length + 1, x1, x2) 77)
      have hszG : (G.alloc (.cells #[.int .u64 ((bs.length : Int) + 1), .string x1, .bool x2] 77)).heap.size = G.heap.size + 1 := nblk_alloc _ _
      have HG1 := Lib.hid hszG
      replace HW := Lib.hid (HW.out.alloc (.cells #[.int .u64 ((bs.length : Int) + 1), .string x1, .bool x2] 77))
      clear hszG
      generalize G.alloc (.cells #[.int .u64 ((bs.length : Int) + 1), .string x1, .bool x2] 77) = G2 at *
      refine hK.out _ _ (fun _ => ?_) (fun hHeld2 => ?_)
      · exact HW.out.mono (fun _ h => h.elim)
      clear hK KK hHeld
      have hHeld := hHeld2 (by decide)
      clear hHeld2
      try simp only [Act.put, List.setIfInBounds_toArray, List.set_cons_zero, List.set_cons_succ]
      refine anyE_ready (i := 23) (o := ⟨some 56, _, _, _, _, _⟩) (by kernel_rfl) rfl (fun KK hK => ?_)
      refine step_appC _ (by rfl) (.tmp 45) (.tmp 55) (by rfl) B (sl x0) n0 (chTo (bs.length + 1) ch0 (ns.take k) x0) (by rfl) (own_of HROW.out (fun g hg => HW.out.block g (own_cells HROW.out hg).2.1 (fun h => h))) ⟨G.heap.size, 0, none⟩ 1 (bs.length + 1, x1, x2) (by rfl) HNb.out (by have := HN0.out; omega) (by have := HW.out.size; have := HSV.out; omega) ?_
      intro v5 w7 hown7 hgr7 hat7
      have HKS := Lib.hid ((HW.out.mono (T := fun i => (sl x0).ownBlock = some i) (fun _ h => h.elim)).grown hgr7 (fun k hk _ => hk))
      have HO7 := Lib.hid hown7
      have HA7 := Lib.hid (show v5.ownBlock = (sl x0).ownBlock ∨ ∃ g, v5.ownBlock = some g ∧ V.heap.size ≤ g from hat7.imp id (fun h => ⟨_, h, HW.out.size⟩))
      have HG7 := Lib.hid (show V.grownBy w7 (sl x0).ownBlock from (Kept.grownK HW.out).trans hgr7)
      clear hown7 hgr7 hat7 HNb HG1
      refine hK.out _ _ (fun _ => ?_) (fun hHeld2 => ?_)
      · exact HKS.out
      clear hK KK hHeld
      have hHeld := hHeld2 (by decide)
      clear hHeld2
      try simp only [Act.put, List.setIfInBounds_toArray, List.set_cons_zero, List.set_cons_succ]
      refine anyE_ready (i := 24) (o := ⟨none, _, _, _, _, _⟩) (by kernel_rfl) rfl (fun KK hK => ?_)
      refine step_mapC _ (by rfl) (.tmp 36) (.tmp 38) (.tmp 56) (by rfl) bc nc D (by rfl) (map_of HCV.out.own (HKS.out.block bc HCV.out.own.lt HNC.out)) (by unfold maxLen; have := HNCM.out; omega) x0 v5 (by rfl) (by rfl) HKZ.out ?_
      intro w8 hm8 hg8
      have HC8 := Lib.hid (HCV.out.put HKZ.out (c := (bs.length + 1, x1, x2)) (v := v5) (by rw [HN0.out.1]; exact HO7.out) HG7.out HA7.out hm8 hg8)
      have HG8 := Lib.hid hg8
      clear hm8 hg8
      refine hK.out _ _ (fun h => absurd rfl h) (fun _ => ?_)
      clear hK KK hHeld
      refine anyE_done (by kernel_rfl) ?_ _

      have hKV : Kept Z w V := HKZ0.out.trans (HKV.out.mono (fun _ h => h.elim)) (fun _ _ h => h)
      have HKF := Lib.hid (show Kept Z w w8 from (hKV.trans HKS.out (fun i hi h => (HZN.out x0 i h).elim (fun h => h.1) (fun h => absurd hi (by omega)))).trans ((Kept.refl (fun i => i = bc) w7).grown HG8.out (fun k hk _ => by injection hk with e; exact e.symm)) (fun i hi h => by subst h; exact H6.out))
      have hsz78 := HG8.out.size
      have hsz7 := HKS.out.size
      clear hKV
      go_wp2
      go_roundw
      case rel => exact ⟨k + 1, nc + 1, _, _, by omega, by go_num, (HKS.out.blk HPV.out HNP.out).of (HG8.out.block p (Nat.lt_of_lt_of_le HPV.out.lt hsz7) (fun e => ne1.out (by injection e with e; exact e.symm))), by rw [HNX0.out.2]; exact HC8.out, by have := HNC0.out; omega, fun k2 g2 hg2 => by
          by_cases e : k2 = x0
          · rw [if_pos e] at hg2
            rcases HA7.out with h9 | ⟨g9, h9, h99⟩
            · exact HZN.out x0 g2 (h9 ▸ hg2)
            · rw [h9] at hg2; cases hg2; exact .inr (by omega)
          · rw [if_neg e] at hg2; exact HZN.out k2 g2 hg2, HKF.out, fun i hi1 hi2 => by
          have hne : i ≠ bc := fun e => by have := HCC.out.own.lt; omega
          have hnr : ¬ (sl x0).ownBlock = some i := fun h => by
            rcases HZN.out x0 i h with h9 | h9
            · have := (HZ.out i h9.1).2; omega
            · omega
          exact (HG8.out.block i (by omega) (fun e => hne (by injection e))).trans ((HKS.out.block i (by omega) hnr).trans ((HKV.out.block i (by omega) (fun h => h)).trans (HOLD.out i hi1 hi2))), by omega, by
          have hl := HSN.out.own.lt
          have hnr : ¬ (sl x0).ownBlock = some bn := fun h => by
            rcases HZN.out x0 bn h with h9 | h9
            · exact h9.2.2 rfl
            · omega
          exact (HG8.out.block bn (by omega) (fun e => H4.out (by injection e with e; exact e.symm))).trans ((HKS.out.block bn (by omega) hnr).trans ((HKV.out.block bn (by omega) (fun h => h)).trans HBN.out))⟩
      case measure => simp [intOf]; omega
    · have hkr : k = r := by omega
      have hfull : ns.take k = normL b := by rw [hkr, ← HRL.out, List.take_length, HNL.out]
      have hc2 := HC.out
      rw [hfull] at hc2
      have HC2 := Lib.hid hc2
      have HHR := Lib.hid hkr
      have c0 := HP.out.cell (i := 0) rfl
      clear hc2 hfull hold hkz hp hc hkr
      go_wp2
      go_ret
      have e9 : (((bs ++ [b]).length : Nat) : Int) = (bs.length : Int) + 1 := by simp
      refine ⟨by first | rfl | simp, ⟨bc, bn, nc, nn, D, Dn, sl, _, by rw [e9]; exact HP.out, HC2.out, HSN.out.of (HBN.out.trans (HK1.out.block bn HSN.out.own.lt (fun h => h))), HCS.out.apply b, by have := HNC0.out; have := H2.out; have := HHR.out; omega, by have := H3.out; omega, H4.out, .inl H5.out, .inl H6.out, .inl H7.out, fun k g hg => ?_, fun i hi => ?_⟩, HKZ0.out⟩
      · rcases HZN.out k g hg with h9 | h9
        · exact .inl h9.1
        · exact .inr ⟨by omega, (own_cells (HC2.out.row k) hg).2.1⟩
      · have hw9 := HKZ0.out.size
        rcases hi with h9 | h9
        · exact ⟨(HZ.out i h9).1, Nat.lt_of_lt_of_le (HZ.out i h9).2 hw9⟩
        · have := (HZ.out p H5.out); exact ⟨by omega, h9.2⟩
end Go.Proofs.Ytodenkamlbihnaa
