/-
  What Level of a view answers on a tree. Condition: the kit's small configurations.
-/
import Derived.Test.YtkpbbnpfdighjaaGreatLkPlant
namespace Go.Proofs.YtkpbbnpfdighjaaGreat
section
open Go.RowKit Go.Deep Plain
set_option linter.unusedVariables false

theorem infoU64 : (Tryz.prog.info? 24).map (fun i => (i.zero, i.size, i.bytes)) = some (some (.int .u64 0), 1, 8) := by kernel_rfl
theorem pfield4 (lv : Int) (A : Option Addr) (n c : Nat) (hi : ByteArray) (la : Bool) (rt : Int) (w : World) : (Instr.field 40 (.agg #[.int .i64 lv, .slice A n c, .string hi, .bool la, .int .u64 rt]) 4).run Tryz.prog w = .ok (.int .u64 rt) w := by kernel_rfl
/-- The cells of a row of words. -/
def wds (ps : List Nat) : List Value := ps.map fun (p : Nat) => Value.int .u64 (p : Int)
theorem wds_at {ps : List Nat} {i p : Nat} (h : ps[i]? = some p) : (wds ps)[i]? = some (.int .u64 (p : Int)) := by unfold wds; rw [List.getElem?_map, h]; rfl
/-- The nodes of a level. -/
def ids (s m : Nat) : List Nat := (List.range m).map fun j => s + j
theorem ids_len (s m : Nat) : (ids s m).length = m := by unfold ids; simp
theorem ids_at {s m j : Nat} (h : j < m) : (ids s m)[j]? = some (s + j) := by unfold ids; rw [List.getElem?_map, List.getElem?_range h]; rfl
theorem ids_step (s j : Nat) : ids s (j + 1) = ids s j ++ [s + j] := by unfold ids; rw [List.range_succ, List.map_append]; rfl
/-- The first slot of the first node above refers to the first node. -/
theorem Tr.first {F H : Nat} {l : List Cel} {st mm : Nat → Nat} {lo : Nat → Nat → ByteArray} {pg : Nat → Nat → Pg} (T : Tr F l H st mm lo pg) {L : Nat} (hL : L + 1 < H) : (pg (L + 1) 0).xs[0]? = some (⟨#[]⟩, st L) := by
  have V := T.lev (L + 1) hL
  have V2 := T.lev L (by omega)
  obtain ⟨⟨r, h0⟩, hx⟩ := T.up L hL 0 V.pos
  obtain ⟨j, hj, he⟩ := hx _ (List.mem_of_getElem? h0)
  rw [V.low0] at he h0
  have h1 : lo L j = ⟨#[]⟩ := by injection he with a; exact a.symm
  have hj0 : j = 0 := by
    rcases Nat.eq_zero_or_pos j with e | e
    · exact e
    · have := V2.mono e hj
      rw [h1] at this
      rw [kl_nil] at this; cases this
  subst hj0
  rw [h0, he, h1]; rfl
/-- A View's Page of a node of the tree. -/
theorem tpage_any (F : Nat) (h4 : 4 ≤ F) (h6 : F ≤ 6) (g n : Nat) (l : List Cel) (hl : l.length = n) (H : Nat) (st mm : Nat → Nat) (lo : Nat → Nat → ByteArray) (pg : Nat → Nat → Pg) (T : Tr F l H st mm lo pg) (L i nid : Nat) (hL : L < H) (hi : i < mm L) (hnid : nid = st L + i) (lvv : Nat) (hlv : lvv = L) (w : World) (hv : Blk w g 46 (flat3 l)) :
    Calls Tryz.prog 86 #[.agg #[.int .i64 1, .int .i64 2, .int .i64 100, .int .i64 100, .int .i64 200, .int .i64 (F : Int), .int .u64 1000, .slice (some ⟨g, 0, none⟩) n n], .int .u64 (nid : Int)] w fun e w' => ∃ (A : Option Addr) (c : Nat), e = .returned (.agg #[.int .i64 (lvv : Int), .slice A (pg L i).xs.length c, .string (pg L i).hi, .bool (pg L i).la, .int .u64 ((pg L i).rt : Int)]) ∧ Rs w' A c (pg L i).xs ∧ (∀ a, A = some a → w.heap.size ≤ a.block) ∧ Kept (fun _ => False) w w' := by
  subst hnid hlv
  have hall := T.all hL hi
  have hnd := (T.lev _ hL).nd i hi
  have hlv := (T.lev _ hL).lv i hi
  have h100 := T.H100
  have := vpage_any F h4 h6 g n l hl (st lvv + i) (by omega) (by omega) (pg lvv i) hnd.holds hnd.wf hnd.len (by omega) w hv
  rw [hlv] at this; exact this
theorem tnode_any (F : Nat) (h4 : 4 ≤ F) (h6 : F ≤ 6) (g n : Nat) (l : List Cel) (hl : l.length = n) (H : Nat) (st mm : Nat → Nat) (lo : Nat → Nat → ByteArray) (pg : Nat → Nat → Pg) (T : Tr F l H st mm lo pg) (L i nid : Nat) (hL : L < H) (hi : i < mm L) (hnid : nid = st L + i) (w : World) (hv : Blk w g 46 (flat3 l)) :
    Calls Tryz.prog 81 #[.agg #[.int .i64 1, .int .i64 2, .int .i64 100, .int .i64 100, .int .i64 200, .int .i64 (F : Int), .int .u64 1000, .slice (some ⟨g, 0, none⟩) n n], .int .u64 (nid : Int)] w fun e w' => e = .returned (.bool true) ∧ Kept (fun _ => False) w w' := by
  subst hnid
  have hall := T.all hL hi
  exact vnode_in F h4 h6 g n l hl (st L + i) (st (H - 1)) 0 ⟨#[]⟩ (by omega) (by omega) (by omega) w hv T.tot
/-- A slice that reads as these words; its row lies at base or behind. -/
def Wr (w : World) (A : Option Addr) (base : Nat) (ps : List Nat) : Prop := 0 < ps.length → ∃ g off, A = some ⟨g, off, none⟩ ∧ g < w.heap.size ∧ base ≤ g ∧ ∀ (i p : Nat), ps[i]? = some p → w.cell? ⟨g, off + i, none⟩ = some (.int .u64 (p : Int))
theorem words_read {w : World} {base n : Nat} {v : Value} {ps : List Nat} (h : w.ownsRow base 24 1 v n (wds ps)) : ∃ A c, v = .slice A n c ∧ Wr w A base ps := by
  have hl : ps.length = n := by have := h.1; unfold wds at this; rw [List.length_map] at this; omega
  rcases h.2 with ⟨rfl, rfl⟩ | ⟨g, cap, cur, rfl, hb, hg, hc, hm, rest⟩
  · exact ⟨none, 0, rfl, fun hp => by omega⟩
  · refine ⟨_, cap, rfl, fun _ => ⟨g, 0, rfl, (Array.getElem?_eq_some_iff.1 hg).1, hb, fun i p hi => ?_⟩⟩
    have := World.ownsRow.cells h (g := g) rfl i _ (wds_at hi)
    rw [Addr.add_lit] at this
    exact this
set_option maxRecDepth 100000 in
set_option maxHeartbeats 8000000 in
theorem vlevel_in (F : Nat) (h4 : 4 ≤ F) (h6 : F ≤ 6) (g n : Nat) (l : List Cel) (hl : l.length = n) (H : Nat) (st mm : Nat → Nat) (lo : Nat → Nat → ByteArray) (pg : Nat → Nat → Pg) (T : Tr F l H st mm lo pg) (lvl : Nat) (hlv : lvl < H) (w : World) (hv : Blk w g 46 (flat3 l)) :
    Calls Tryz.prog 85 #[.agg #[.int .i64 1, .int .i64 2, .int .i64 100, .int .i64 100, .int .i64 200, .int .i64 (F : Int), .int .u64 1000, .slice (some ⟨g, 0, none⟩) n n], .int .i64 (lvl : Int)] w fun e w' => ∃ (A : Option Addr) (c : Nat), e = .returned (.slice A (mm lvl) c) ∧ (0 < mm lvl → ∃ g off, A = some ⟨g, off, none⟩ ∧ g < w'.heap.size ∧ w.heap.size ≤ g ∧ ∀ (i p : Nat), (ids (st lvl) (mm lvl))[i]? = some p → w'.cell? ⟨g, off + i, none⟩ = some (.int .u64 (p : Int))) ∧ Kept (fun _ => False) w w' := by
  obtain ⟨i0, hi0, hz0, hz1, hz2⟩ := info_parts infoU64
  have HI0 := Lib.hid hi0
  have HI1 := Lib.hid hz0
  have HI2 := Lib.hid hz1
  have HI3 := Lib.hid hz2
  clear hi0 hz0 hz1 hz2
  have HV := Lib.hid hv
  have hH1 := T.H1
  have hH100 := T.H100
  have hfd := field0 (st (H - 1) : Int) 0 ⟨#[]⟩
  clear hv
  go_enter Tryz.func85, Tryz.ntmps85
  go_wp2_with fail
  have hal := (Kept.refl (fun _ => False) w).alloc (.cells #[.int .i64 1, .int .i64 2, .int .i64 100, .int .i64 100, .int .i64 200, .int .i64 (F : Int), .int .u64 1000, .slice (some ⟨g, 0, none⟩) n n] 78)
  have HB := Lib.hid (Blk.new w [.int .i64 1, .int .i64 2, .int .i64 100, .int .i64 100, .int .i64 200, .int .i64 (F : Int), .int .u64 1000, .slice (some ⟨g, 0, none⟩) n n] 78)
  replace HV := Lib.hid (hal.blk HV.out (fun h => h))
  have HK := Lib.hid hal
  clear hal
  generalize w.heap.size = r0 at HB ⊢
  generalize w.alloc (.cells #[.int .i64 1, .int .i64 2, .int .i64 100, .int .i64 100, .int .i64 200, .int .i64 (F : Int), .int .u64 1000, .slice (some ⟨g, 0, none⟩) n n] 78) = W at *
  refine (vat_any F h4 h6 g n l hl 0 (st (H - 1) : Int) 0 ⟨#[]⟩ _ HV.out T.root).mono ?_; rintro e w1 ⟨rfl, hK1⟩
  replace HB := Lib.hid (hK1.blk HB.out (fun h => h))
  replace HV := Lib.hid (hK1.blk HV.out (fun h => h))
  replace HK := Lib.hid (HK.out.trans hK1 (fun _ _ h => h))
  clear hK1
  go_wp2_with fail
  go_loopw [5, 6] (fun nv kv wr => ∃ k cur : Nat, cur + k + 1 = H ∧ (lvl ≤ cur ∨ k = 0) ∧ kv = .int .i64 (k : Int) ∧ nv = .int .u64 ((st cur : Nat) : Int) ∧ Blk wr r0 78 [.int .i64 1, .int .i64 2, .int .i64 100, .int .i64 100, .int .i64 200, .int .i64 (F : Int), .int .u64 1000, .slice (some ⟨g, 0, none⟩) n n] ∧ Blk wr g 46 (flat3 l) ∧ Kept (fun _ => False) w wr) (fun _ kv _ => H - (intOf kv).toNat)
  case atStart => exact ⟨0, H - 1, by omega, .inr rfl, rfl, rfl, HB.out, HV.out, HK.out⟩
  case round =>
    obtain ⟨k, cur, hck, hor, rfl, rfl, hB, hV, hK⟩ := hrel
    replace HB := Lib.hid hB
    replace HV := Lib.hid hV
    replace HK := Lib.hid hK
    have HOR := Lib.hid hor
    have hcur : cur < H := by omega
    have hk100 : (k : Int) ≤ 100 := by omega
    clear hB hV hK hor
    have hb9 := HB.out
    have x0 := hb9.cell (i := 0) rfl
    have x1 := hb9.cell (i := 1) rfl
    have x2 := hb9.cell (i := 2) rfl
    have x3 := hb9.cell (i := 3) rfl
    have x4 := hb9.cell (i := 4) rfl
    have x5 := hb9.cell (i := 5) rfl
    have x6 := hb9.cell (i := 6) rfl
    have x7 := hb9.cell (i := 7) rfl
    clear hb9
    go_wp2_with fail
    refine (tnode_any F h4 h6 g n l hl H st mm lo pg T cur 0 (st cur) (by omega) (T.lev cur (by omega)).pos rfl _ HV.out).mono ?_; rintro e wa ⟨rfl, hKa⟩
    clear x0 x1 x2 x3 x4 x5 x6 x7
    replace HB := Lib.hid (hKa.blk HB.out (fun h => h))
    replace HV := Lib.hid (hKa.blk HV.out (fun h => h))
    replace HK := Lib.hid (HK.out.trans hKa (fun _ _ h => h))
    clear hKa
    have hb9 := HB.out
    have x0 := hb9.cell (i := 0) rfl
    have x1 := hb9.cell (i := 1) rfl
    have x2 := hb9.cell (i := 2) rfl
    have x3 := hb9.cell (i := 3) rfl
    have x4 := hb9.cell (i := 4) rfl
    have x5 := hb9.cell (i := 5) rfl
    have x6 := hb9.cell (i := 6) rfl
    have x7 := hb9.cell (i := 7) rfl
    clear hb9
    go_wp2_with fail
    refine (tpage_any F h4 h6 g n l hl H st mm lo pg T cur 0 (st cur) (by omega) (T.lev cur (by omega)).pos rfl cur rfl _ HV.out).mono ?_; rintro e wb ⟨A1, c1, rfl, -, -, hKb⟩
    have hpf := pfield0 (cur : Int) A1 (pg cur 0).xs.length c1 (pg cur 0).hi (pg cur 0).la ((pg cur 0).rt : Int)
    clear x0 x1 x2 x3 x4 x5 x6 x7
    replace HB := Lib.hid (hKb.blk HB.out (fun h => h))
    replace HV := Lib.hid (hKb.blk HV.out (fun h => h))
    replace HK := Lib.hid (HK.out.trans hKb (fun _ _ h => h))
    clear hKb
    by_cases hgt : lvl < cur
    · have d1 : (lvl : Int) < (cur : Int) := by omega
      obtain ⟨c0, hc0⟩ : ∃ c0, cur = c0 + 1 := ⟨cur - 1, by omega⟩
      have HC0 := Lib.hid hc0
      have hf := T.first (L := c0) (by omega)
      rw [← hc0] at hf
      have hc0l : c0 + k + 2 ≤ H ∧ H ≤ c0 + k + 2 ∧ lvl ≤ c0 := by omega
      clear hc0
      have hb9 := HB.out
      have x0 := hb9.cell (i := 0) rfl
      have x1 := hb9.cell (i := 1) rfl
      have x2 := hb9.cell (i := 2) rfl
      have x3 := hb9.cell (i := 3) rfl
      have x4 := hb9.cell (i := 4) rfl
      have x5 := hb9.cell (i := 5) rfl
      have x6 := hb9.cell (i := 6) rfl
      have x7 := hb9.cell (i := 7) rfl
      clear hb9
      go_wp2_with fail
      refine (tpage_any F h4 h6 g n l hl H st mm lo pg T cur 0 (st cur) (by omega) (T.lev cur (by omega)).pos rfl cur rfl _ HV.out).mono ?_; rintro e wc ⟨A2, c2, rfl, hR2, -, hKc⟩
      have hpos := (List.getElem?_eq_some_iff.1 hf).1
      obtain ⟨g2, o2, rfl, hg2, hc2⟩ := hR2.at hpos
      have href := (hc2 0 _ hf).2
      rw [Nat.zero_mul, Nat.add_zero] at href
      obtain ⟨xl, hxl⟩ : ∃ xl, (pg cur 0).xs.length = xl := ⟨_, rfl⟩
      rw [hxl] at hpos ⊢
      have hxl0 : ((xl : Int) == 0) = false := beq_false_of_ne (by omega)
      have hxlp : (0 : Int) < (xl : Int) := by omega
      clear x0 x1 x2 x3 x4 x5 x6 x7
      replace HB := Lib.hid (hKc.blk HB.out (fun h => h))
      replace HV := Lib.hid (hKc.blk HV.out (fun h => h))
      replace HK := Lib.hid (HK.out.trans hKc (fun _ _ h => h))
      clear hKc
      clear hR2 hf hc2 hpf hxl
      have hal := (Kept.refl (fun _ => False) wc).alloc (.cells #[.int .i64 (cur : Int), .slice (some ⟨g2, o2, none⟩) xl c2, .string (pg cur 0).hi, .bool (pg cur 0).la, .int .u64 ((pg cur 0).rt : Int)] 40)
      replace HB := Lib.hid (hal.blk HB.out (fun h => h))
      replace HV := Lib.hid (hal.blk HV.out (fun h => h))
      replace HK := Lib.hid (HK.out.trans hal (fun _ _ h => h))
      clear hal
      go_wp2
      go_roundw
      case rel => exact ⟨k + 1, c0, by omega, .inl (by omega), by go_num, rfl, HB.out, HV.out, HK.out⟩
      case measure => simp [intOf]; omega
    · have d1 : ¬ (lvl : Int) < (cur : Int) := by omega
      obtain rfl : cur = lvl := by have := HOR.out; omega
      rename World => V0
      go_wp2_with fail
      go_loopw [5, 8] (fun nv ov wr => ∃ j : Nat, j ≤ mm cur ∧ nv = .int .u64 (((if j < mm cur then st cur + j else 0) : Nat) : Int) ∧ slLen ov = j ∧ wr.ownsRow V0.heap.size 24 1 ov j (wds (ids (st cur) j)) ∧ Below V0.heap.size V0 wr) (fun _ ov _ => mm cur - slLen ov)
      case atStart => exact ⟨0, Nat.zero_le _, by rw [if_pos (show 0 < mm cur from (T.lev cur hcur).pos), Nat.add_zero], rfl, World.ownsRow_nil _ _ _ _, Below.refl _ _⟩
      case round =>
        obtain ⟨j, hj, rfl, hsl, hO, hBl⟩ := hrel
        have HO := Lib.hid hO
        have HBl := Lib.hid hBl
        have hzr := hBl.size
        have hbr := HB.out.below hBl HB.out.lt
        have hvr := HV.out.below hBl HV.out.lt
        obtain ⟨A0, c0', rfl, -⟩ := words_read hO
        have hm100 : mm cur ≤ 100 := by have := (T.lev cur hcur).top; have := (T.lev cur hcur).s1; omega
        clear hO hBl hsl
        have HBr := Lib.hid hbr
        have HVr := Lib.hid hvr
        have x0 := hbr.cell (i := 0) rfl
        have x1 := hbr.cell (i := 1) rfl
        have x2 := hbr.cell (i := 2) rfl
        have x3 := hbr.cell (i := 3) rfl
        have x4 := hbr.cell (i := 4) rfl
        have x5 := hbr.cell (i := 5) rfl
        have x6 := hbr.cell (i := 6) rfl
        have x7 := hbr.cell (i := 7) rfl
        clear hbr hvr
        by_cases hjm : j < mm cur
        · rw [if_pos hjm]
          obtain ⟨nid, hnid⟩ : ∃ nid, st cur + j = nid := ⟨_, rfl⟩
          rw [hnid]
          have HNI := Lib.hid hnid
          have dj : (j : Int) < 100 := by omega
          clear hnid
          go_wp2_with fail
          refine (tnode_any F h4 h6 g n l hl H st mm lo pg T cur j nid hcur hjm HNI.out.symm _ HVr.out).mono ?_; rintro e wc ⟨rfl, hKc⟩
          clear x0 x1 x2 x3 x4 x5 x6 x7
          replace HBr := Lib.hid (hKc.blk HBr.out (fun h => h))
          replace HVr := Lib.hid (hKc.blk HVr.out (fun h => h))
          replace HO := Lib.hid (own_below HO.out (hKc.below (Nat.le_refl _) (fun _ h => h.elim)) (Nat.le_refl _))
          replace HBl := Lib.hid (HBl.out.trans ((hKc.below (Nat.le_refl _) (fun _ h => h.elim)).mono hzr))
          replace hzr := Nat.le_trans hzr hKc.size
          clear hKc
          have hb8 := HBr.out
          have x0 := hb8.cell (i := 0) rfl
          have x1 := hb8.cell (i := 1) rfl
          have x2 := hb8.cell (i := 2) rfl
          have x3 := hb8.cell (i := 3) rfl
          have x4 := hb8.cell (i := 4) rfl
          have x5 := hb8.cell (i := 5) rfl
          have x6 := hb8.cell (i := 6) rfl
          have x7 := hb8.cell (i := 7) rfl
          clear hb8
          go_wp2_with fail
          refine (tpage_any F h4 h6 g n l hl H st mm lo pg T cur j nid hcur hjm HNI.out.symm cur rfl _ HVr.out).mono ?_; rintro e wd ⟨A3, c3, rfl, -, -, hKd⟩
          have hpf3 := pfield0 (cur : Int) A3 (pg cur j).xs.length c3 (pg cur j).hi (pg cur j).la ((pg cur j).rt : Int)
          clear x0 x1 x2 x3 x4 x5 x6 x7
          replace HBr := Lib.hid (hKd.blk HBr.out (fun h => h))
          replace HVr := Lib.hid (hKd.blk HVr.out (fun h => h))
          replace HO := Lib.hid (own_below HO.out (hKd.below (Nat.le_refl _) (fun _ h => h.elim)) (Nat.le_refl _))
          replace HBl := Lib.hid (HBl.out.trans ((hKd.below (Nat.le_refl _) (fun _ h => h.elim)).mono hzr))
          replace hzr := Nat.le_trans hzr hKd.size
          clear hKd
          have hb8 := HBr.out
          have x0 := hb8.cell (i := 0) rfl
          have x1 := hb8.cell (i := 1) rfl
          have x2 := hb8.cell (i := 2) rfl
          have x3 := hb8.cell (i := 3) rfl
          have x4 := hb8.cell (i := 4) rfl
          have x5 := hb8.cell (i := 5) rfl
          have x6 := hb8.cell (i := 6) rfl
          have x7 := hb8.cell (i := 7) rfl
          clear hb8
          have hown := HO.out
          go_wp2_with (at_builtin; go_must (refine wpList_append_own _ rfl (.tmp 63) (.tmp 65) 130 rfl V0.heap.size 24 i0 _ 1 8 Tryz.underlying130 HI0.out HI1.out HI2.out HI3.out rfl (by decide) _ _ _ rfl (hown.alloc _) ⟨wd.heap.size, 0, none⟩ 1 1 [.int .u64 (nid : Int)] rfl rfl ?a1 ?b1 ?c1 ?d1 ?e1 ?_))
          try case a1 =>
            intro q u hu
            match q, hu with
            | 0, hu => simp at hu; subst hu; simp [Addr.add]
            | q + 1, hu => simp at hu
          case b1 => first | exact rfl | (intro u hu; simp at hu; subst hu; rfl)
          case c1 => unfold maxLen; omega
          case d1 => omega
          case e1 => first | omega | (simp; omega)
          intro v1 we hown1 hgr1 _
          have hal := (Below.refl wd.heap.size wd).alloc (Nat.le_refl _) (.cells #[.int .u64 (nid : Int)] 24)
          have hBe := Below.grown (hal.mono hzr) hgr1 (by rw [nblk_alloc]; omega) fun q hq => (hown.lt q hq).1
          replace HBl := Lib.hid (HBl.out.trans hBe)
          have hO1 : we.ownsRow V0.heap.size 24 1 v1 (j + 1) (wds (ids (st cur) (j + 1))) := by
            have e : wds (ids (st cur) (j + 1)) = wds (ids (st cur) j) ++ [.int .u64 (nid : Int)] := by rw [ids_step, HNI.out]; unfold wds; rw [List.map_append]; rfl
            rw [e]; exact hown1
          replace HO := Lib.hid hO1
          obtain ⟨A4, c4, rfl, -⟩ := words_read hO1
          replace hzr := Nat.le_trans hzr hBe.size
          replace HBr := Lib.hid (HBr.out.below hBe (by have := HB.out.lt; omega))
          replace HVr := Lib.hid (HVr.out.below hBe (by have := HV.out.lt; omega))
          clear hown1 hgr1 hal hBe hO1 hown x0 x1 x2 x3 x4 x5 x6 x7
          have hb8 := HBr.out
          have x0 := hb8.cell (i := 0) rfl
          have x1 := hb8.cell (i := 1) rfl
          have x2 := hb8.cell (i := 2) rfl
          have x3 := hb8.cell (i := 3) rfl
          have x4 := hb8.cell (i := 4) rfl
          have x5 := hb8.cell (i := 5) rfl
          have x6 := hb8.cell (i := 6) rfl
          have x7 := hb8.cell (i := 7) rfl
          clear hb8
          go_wp2_with fail
          refine (tpage_any F h4 h6 g n l hl H st mm lo pg T cur j nid hcur hjm HNI.out.symm cur rfl _ HVr.out).mono ?_; rintro e wf ⟨A5, c5, rfl, -, -, hKf⟩
          have hpf5 := pfield4 (cur : Int) A5 (pg cur j).xs.length c5 (pg cur j).hi (pg cur j).la ((pg cur j).rt : Int)
          have hrt : (pg cur j).rt = if j + 1 < mm cur then st cur + (j + 1) else 0 := by
            by_cases h : j + 1 < mm cur
            · rw [if_pos h, ((T.lev cur hcur).next j h).2.1]; omega
            · rw [if_neg h, ((T.lev cur hcur).last j (by omega)).2]
          have HRT := Lib.hid hrt
          clear x0 x1 x2 x3 x4 x5 x6 x7
          replace HBr := Lib.hid (hKf.blk HBr.out (fun h => h))
          replace HVr := Lib.hid (hKf.blk HVr.out (fun h => h))
          replace HO := Lib.hid (own_below HO.out (hKf.below (Nat.le_refl _) (fun _ h => h.elim)) (Nat.le_refl _))
          replace HBl := Lib.hid (HBl.out.trans ((hKf.below (Nat.le_refl _) (fun _ h => h.elim)).mono hzr))
          replace hzr := Nat.le_trans hzr hKf.size
          clear hKf
          have hb8 := HBr.out
          have x0 := hb8.cell (i := 0) rfl
          have x1 := hb8.cell (i := 1) rfl
          have x2 := hb8.cell (i := 2) rfl
          have x3 := hb8.cell (i := 3) rfl
          have x4 := hb8.cell (i := 4) rfl
          have x5 := hb8.cell (i := 5) rfl
          have x6 := hb8.cell (i := 6) rfl
          have x7 := hb8.cell (i := 7) rfl
          clear hb8
          clear hrt
          go_wp2
          go_roundw
          case rel => exact ⟨j + 1, by omega, by rw [HRT.out], rfl, HO.out, HBl.out⟩
          case measure => simp [slLen]; omega
        · obtain hje : j = mm cur := by omega
          rw [if_neg hjm]
          have HJE := Lib.hid hje
          clear hje
          go_wp2_with fail
          refine (vnode_zero F h4 h6 g n l hl 0 (st (H - 1)) 0 ⟨#[]⟩ rfl _ HVr.out T.tot).mono ?_; rintro e wc ⟨rfl, hKc⟩
          have hKz := (HK.out.trans (Below.kept HBl.out (S := fun _ => False) (fun i hi h => by omega)) (fun _ _ h => h)).trans hKc (fun _ _ h => h)
          have HKz := Lib.hid hKz
          have HOz := Lib.hid (own_kept HO.out hKc (fun _ _ h => h))
          have hV0 := HK.out.size
          clear hKz hKc
          go_wp2
          go_ret
          rw [HJE.out] at HOz
          obtain ⟨A6, c6, he6, hR6⟩ := words_read HOz.out
          cases he6
          refine ⟨A0, c0', by rw [HJE.out]; rfl, fun hp => ?_, HKz.out⟩
          obtain ⟨g7, o7, e7, hg7, hb7, hc7⟩ := hR6 (by rw [ids_len]; exact hp)
          exact ⟨g7, o7, e7, hg7, by omega, fun q p hq => hc7 q p hq⟩

set_option maxRecDepth 100000 in
set_option maxHeartbeats 8000000 in
theorem vlevel_out (F : Nat) (h4 : 4 ≤ F) (h6 : F ≤ 6) (g n : Nat) (l : List Cel) (hl : l.length = n) (H : Nat) (st mm : Nat → Nat) (lo : Nat → Nat → ByteArray) (pg : Nat → Nat → Pg) (T : Tr F l H st mm lo pg) (lvl : Nat) (hlv : H ≤ lvl) (hlb : lvl ≤ 1000) (w : World) (hv : Blk w g 46 (flat3 l)) :
    Calls Tryz.prog 85 #[.agg #[.int .i64 1, .int .i64 2, .int .i64 100, .int .i64 100, .int .i64 200, .int .i64 (F : Int), .int .u64 1000, .slice (some ⟨g, 0, none⟩) n n], .int .i64 (lvl : Int)] w fun e w' => e = .returned (.slice none 0 0) ∧ Kept (fun _ => False) w w' := by
  have HV := Lib.hid hv
  have hH1 := T.H1
  have hH100 := T.H100
  have hfd := field0 (st (H - 1) : Int) 0 ⟨#[]⟩
  clear hv
  go_enter Tryz.func85, Tryz.ntmps85
  go_wp2_with fail
  have hal := (Kept.refl (fun _ => False) w).alloc (.cells #[.int .i64 1, .int .i64 2, .int .i64 100, .int .i64 100, .int .i64 200, .int .i64 (F : Int), .int .u64 1000, .slice (some ⟨g, 0, none⟩) n n] 78)
  have HB := Lib.hid (Blk.new w [.int .i64 1, .int .i64 2, .int .i64 100, .int .i64 100, .int .i64 200, .int .i64 (F : Int), .int .u64 1000, .slice (some ⟨g, 0, none⟩) n n] 78)
  replace HV := Lib.hid (hal.blk HV.out (fun h => h))
  have HK := Lib.hid hal
  clear hal
  generalize w.heap.size = r0 at HB ⊢
  generalize w.alloc (.cells #[.int .i64 1, .int .i64 2, .int .i64 100, .int .i64 100, .int .i64 200, .int .i64 (F : Int), .int .u64 1000, .slice (some ⟨g, 0, none⟩) n n] 78) = W at *
  refine (vat_any F h4 h6 g n l hl 0 (st (H - 1) : Int) 0 ⟨#[]⟩ _ HV.out T.root).mono ?_; rintro e w1 ⟨rfl, hK1⟩
  replace HB := Lib.hid (hK1.blk HB.out (fun h => h))
  replace HV := Lib.hid (hK1.blk HV.out (fun h => h))
  replace HK := Lib.hid (HK.out.trans hK1 (fun _ _ h => h))
  clear hK1
  go_wp2_with fail
  go_loopw [5, 6] (fun nv kv wr => ∃ k cur : Nat, cur + k + 1 = H ∧ (lvl ≤ cur ∨ k = 0) ∧ kv = .int .i64 (k : Int) ∧ nv = .int .u64 ((st cur : Nat) : Int) ∧ Blk wr r0 78 [.int .i64 1, .int .i64 2, .int .i64 100, .int .i64 100, .int .i64 200, .int .i64 (F : Int), .int .u64 1000, .slice (some ⟨g, 0, none⟩) n n] ∧ Blk wr g 46 (flat3 l) ∧ Kept (fun _ => False) w wr) (fun _ kv _ => H - (intOf kv).toNat)
  case atStart => exact ⟨0, H - 1, by omega, .inr rfl, rfl, rfl, HB.out, HV.out, HK.out⟩
  case round =>
    obtain ⟨k, cur, hck, hor, rfl, rfl, hB, hV, hK⟩ := hrel
    replace HB := Lib.hid hB
    replace HV := Lib.hid hV
    replace HK := Lib.hid hK
    have HOR := Lib.hid hor
    have hcur : cur < H := by omega
    have hk100 : (k : Int) ≤ 100 := by omega
    clear hB hV hK hor
    have hb9 := HB.out
    have x0 := hb9.cell (i := 0) rfl
    have x1 := hb9.cell (i := 1) rfl
    have x2 := hb9.cell (i := 2) rfl
    have x3 := hb9.cell (i := 3) rfl
    have x4 := hb9.cell (i := 4) rfl
    have x5 := hb9.cell (i := 5) rfl
    have x6 := hb9.cell (i := 6) rfl
    have x7 := hb9.cell (i := 7) rfl
    clear hb9
    go_wp2_with fail
    refine (tnode_any F h4 h6 g n l hl H st mm lo pg T cur 0 (st cur) (by omega) (T.lev cur (by omega)).pos rfl _ HV.out).mono ?_; rintro e wa ⟨rfl, hKa⟩
    clear x0 x1 x2 x3 x4 x5 x6 x7
    replace HB := Lib.hid (hKa.blk HB.out (fun h => h))
    replace HV := Lib.hid (hKa.blk HV.out (fun h => h))
    replace HK := Lib.hid (HK.out.trans hKa (fun _ _ h => h))
    clear hKa
    have hb9 := HB.out
    have x0 := hb9.cell (i := 0) rfl
    have x1 := hb9.cell (i := 1) rfl
    have x2 := hb9.cell (i := 2) rfl
    have x3 := hb9.cell (i := 3) rfl
    have x4 := hb9.cell (i := 4) rfl
    have x5 := hb9.cell (i := 5) rfl
    have x6 := hb9.cell (i := 6) rfl
    have x7 := hb9.cell (i := 7) rfl
    clear hb9
    go_wp2_with fail
    refine (tpage_any F h4 h6 g n l hl H st mm lo pg T cur 0 (st cur) (by omega) (T.lev cur (by omega)).pos rfl cur rfl _ HV.out).mono ?_; rintro e wb ⟨A1, c1, rfl, -, -, hKb⟩
    have hpf := pfield0 (cur : Int) A1 (pg cur 0).xs.length c1 (pg cur 0).hi (pg cur 0).la ((pg cur 0).rt : Int)
    clear x0 x1 x2 x3 x4 x5 x6 x7
    replace HB := Lib.hid (hKb.blk HB.out (fun h => h))
    replace HV := Lib.hid (hKb.blk HV.out (fun h => h))
    replace HK := Lib.hid (HK.out.trans hKb (fun _ _ h => h))
    clear hKb
    by_cases hgt : lvl < cur
    · exact absurd hgt (by omega)
    · have d1 : ¬ (lvl : Int) < (cur : Int) := by omega
      have HCE := Lib.hid (show cur = H - 1 by have := HOR.out; omega)
      have hcl : cur < lvl := by have := HOR.out; omega
      rename World => V0
      go_wp2_with fail
      go_loopw [5, 8] (fun nv ov wr => nv = .int .u64 ((st cur : Nat) : Int) ∧ ov = .slice none 0 0 ∧ Blk wr r0 78 [.int .i64 1, .int .i64 2, .int .i64 100, .int .i64 100, .int .i64 200, .int .i64 (F : Int), .int .u64 1000, .slice (some ⟨g, 0, none⟩) n n] ∧ Blk wr g 46 (flat3 l) ∧ Kept (fun _ => False) w wr) (fun _ _ _ => 0)
      case atStart => exact ⟨rfl, rfl, HB.out, HV.out, HK.out⟩
      case round =>
        obtain ⟨rfl, rfl, hB, hV, hK⟩ := hrel
        replace HB := Lib.hid hB
        replace HV := Lib.hid hV
        replace HK := Lib.hid hK
        clear hB hV hK hpf
        have hb9 := HB.out
        have x0 := hb9.cell (i := 0) rfl
        have x1 := hb9.cell (i := 1) rfl
        have x2 := hb9.cell (i := 2) rfl
        have x3 := hb9.cell (i := 3) rfl
        have x4 := hb9.cell (i := 4) rfl
        have x5 := hb9.cell (i := 5) rfl
        have x6 := hb9.cell (i := 6) rfl
        have x7 := hb9.cell (i := 7) rfl
        clear hb9
        go_wp2_with fail
        refine (tnode_any F h4 h6 g n l hl H st mm lo pg T cur 0 (st cur) (by omega) (T.lev cur (by omega)).pos rfl _ HV.out).mono ?_; rintro e wa ⟨rfl, hKa⟩
        clear x0 x1 x2 x3 x4 x5 x6 x7
        replace HB := Lib.hid (hKa.blk HB.out (fun h => h))
        replace HV := Lib.hid (hKa.blk HV.out (fun h => h))
        replace HK := Lib.hid (HK.out.trans hKa (fun _ _ h => h))
        clear hKa
        have hb9 := HB.out
        have x0 := hb9.cell (i := 0) rfl
        have x1 := hb9.cell (i := 1) rfl
        have x2 := hb9.cell (i := 2) rfl
        have x3 := hb9.cell (i := 3) rfl
        have x4 := hb9.cell (i := 4) rfl
        have x5 := hb9.cell (i := 5) rfl
        have x6 := hb9.cell (i := 6) rfl
        have x7 := hb9.cell (i := 7) rfl
        clear hb9
        go_wp2_with fail
        refine (tpage_any F h4 h6 g n l hl H st mm lo pg T cur 0 (st cur) (by omega) (T.lev cur (by omega)).pos rfl cur rfl _ HV.out).mono ?_; rintro e wb ⟨A1, c1, rfl, -, -, hKb⟩
        have hpf := pfield0 (cur : Int) A1 (pg cur 0).xs.length c1 (pg cur 0).hi (pg cur 0).la ((pg cur 0).rt : Int)
        clear x0 x1 x2 x3 x4 x5 x6 x7
        replace HB := Lib.hid (hKb.blk HB.out (fun h => h))
        replace HV := Lib.hid (hKb.blk HV.out (fun h => h))
        replace HK := Lib.hid (HK.out.trans hKb (fun _ _ h => h))
        clear hKb
        have dne : ((cur : Int) == (lvl : Int)) = false := beq_false_of_ne (by omega)
        go_wp2
        go_ret
        exact ⟨rfl, HK.out⟩
end
end Go.Proofs.YtkpbbnpfdighjaaGreat
