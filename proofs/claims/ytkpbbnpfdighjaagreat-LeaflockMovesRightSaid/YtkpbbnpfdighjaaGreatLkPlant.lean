/-
  What the kit's Plant, View and Height answer. Condition: the kit's small configurations.
-/
import Derived.Test.YtkpbbnpfdighjaaGreatLkView
import Derived.Test.YtkpbbnpfdighjaaGreatLkTree
import Derived.Test.YtkpbbnpfdighjaaGreatLkPage
namespace Go.Proofs.YtkpbbnpfdighjaaGreat
section
open Go.RowKit Go.Deep Plain
set_option linter.unusedVariables false

theorem poke_to (b g : Nat) (l : List Cel) (k : Nat) (i N : Int) (nN : Nat) (M : Int) (K : ByteArray) (w : World) (hN : N = (nN : Int)) (h : Mem w b g l k) :
    Calls Tryz.prog 12 #[.pointer (some ⟨b, 0, none⟩), .int .i64 i, .agg #[.int .u64 N, .string K, .int .u64 M]] w fun e w' => e = .returned (.tuple #[]) ∧ Mem w' b g (putAt l i ((nN : Int), K, M)) k ∧ Kept (Own b g) w w' := by
  subst hN; exact poke_any b g l k i _ M K w h
section
variable {w : World} {ops : Array Oper} {rest : List Oper} {o : Oper} {a : Act} {Q : Exit → Act → World → Prop}
/-- append(s, x) of a slot that was just laid out: nothing but the row of s changes. -/
theorem wpList_snoc (hgd : o.guard = none) (s x : Operand) (ho : o.op = .call { callee := .builtin .append, args := #[s, x], argTypes := #[36, 36] })
    (base : Nat) (v : Value) (n : Nat) (xs : List Sl) (hs : a.eval s = v) (hown : w.ownsRow base 38 2 v n (flat xs)) (ad : Addr) (k : ByteArray) (r : Nat) (hx : a.eval x = .slice (some ad) 1 1)
    (hR : Rs w (some ad) 1 [(k, r)]) (h40 : n + 1 ≤ 1099511627776) (hbase : base ≤ w.heap.size)
    (h : ∀ v' w', w'.ownsRow base 38 2 v' (n + 1) (flat (xs ++ [(k, r)])) → Kept (fun i => some i = v.ownBlock) w w' → wpList Tryz.prog ops Q rest (a.put o.dst v') w') : wpList Tryz.prog ops Q (o :: rest) a w := by
  obtain ⟨i, hi, hz0, hz1, hz2⟩ := info_parts Tryz.info38
  refine wpList_append_own w hgd s x 36 ho base 38 i _ 2 24 Tryz.underlying36 hi hz0 hz1 hz2 rfl (by decide) v n (flat xs) hs hown ad 1 1 (flat [(k, r)]) hx (by rw [flat_length]; rfl) ?_ (flat_one _) (by unfold maxLen; omega) (by omega) hbase ?_
  · intro j u hu
    obtain ⟨g, off, e, _, hc⟩ := hR.some' (by simp)
    cases e
    rw [Addr.add_lit]; exact hc j u hu
  · intro v' w' hown' hgr _
    refine h v' w' (by rw [flat_append]; exact hown') ?_
    exact (Kept.refl _ w).grown hgr fun k hk _ => hk.symm
end
/-- A slice that reads as these strings. -/
def Kr (w : World) (A : Option Addr) (ks : List ByteArray) : Prop := 0 < ks.length → ∃ g off, A = some ⟨g, off, none⟩ ∧ g < w.heap.size ∧ ∀ (i : Nat) (k : ByteArray), ks[i]? = some k → w.cell? ⟨g, off + i, none⟩ = some (.string k)
theorem Kr.kept {w w' : World} {A : Option Addr} {ks : List ByteArray} {Y : Nat → Prop} (h : Kr w A ks) (hk : Kept Y w w') (hY : ∀ a, A = some a → ¬ Y a.block) : Kr w' A ks := fun hp => by
  obtain ⟨g, off, e, hg, hc⟩ := h hp
  exact ⟨g, off, e, Nat.lt_of_lt_of_le hg hk.size, fun i k hi => (hk.cell (p := ⟨g, off + i, none⟩) hg (show ¬ Y g from hY _ e)).trans (hc i k hi)⟩
set_option linter.unusedVariables false

theorem Rs.keptP {Y : Nat → Prop} {w w' : World} {A : Option Addr} {c : Nat} {xs : List Sl} (h : Rs w A c xs) (hk : Kept Y w w') (hA : 0 < xs.length → ∀ a, A = some a → ¬ Y a.block) : Rs w' A c xs :=
  ⟨h.le, h.max, h.none', fun hp => by
    obtain ⟨g, off, e, hg, hc⟩ := h.some' hp
    exact ⟨g, off, e, Nat.lt_of_lt_of_le hg hk.size, fun j u hu => (hk.cell (p := ⟨g, off + j, none⟩) hg (show ¬ Y g from hA hp _ e)).trans (hc j u hu)⟩⟩
theorem kput_to (F nid : Nat) (h4 : 4 ≤ F) (h6 : F ≤ 6) (hn1 : 1 ≤ nid) (hn2 : nid ≤ 100) (lv : Nat) (A : Option Addr) (c : Nat) (hi : ByteArray) (la : Bool) (rt : Nat) (xs : List Sl) (n : Nat) (hn : xs.length = n) (hw : la = true → hi = ⟨#[]⟩) (hlen : n ≤ F) (hlv : lv < 9223372036854775808) (b g : Nat) (l : List Cel) (k : Nat) (w : World) (hm : Mem w b g l k) (hR : Rs w A c xs) (hA : ∀ a, A = some a → ¬ Own b g a.block) :
    Calls Tryz.prog 11 #[.agg #[.int .i64 1, .int .i64 2, .int .i64 100, .int .i64 100, .int .i64 200, .int .i64 (F : Int), .int .u64 1000], .pointer (some ⟨b, 0, none⟩), .int .u64 (nid : Int), .agg #[.int .i64 (lv : Int), .slice A n c, .string hi, .bool la, .int .u64 (rt : Int)]] w fun e w' => e = .returned (.tuple #[]) ∧ Mem w' b g (app l (pst (nad F nid) (⟨lv, hi, la, rt, xs⟩ : Pg))) k ∧ Kept (Own b g) w w' := by
  subst hn; exact kput_any F nid h4 h6 hn1 hn2 ⟨lv, hi, la, rt, xs⟩ hw hlen hlv A c b g l k w hm hR hA
def slLen : Value → Nat
  | .slice _ n _ => n
  | _ => 0
theorem flat_take_snoc {ks : List ByteArray} {i : Nat} {k : ByteArray} (h : ks[i]? = some k) : flat (slotsOf (ks.take i) ++ [(k, i + 1)]) = flat (slotsOf (ks.take (i + 1))) := by rw [slotsOf_step h]
/-- What Plant leaves: a tree of the keys. -/
def Planted (F : Nat) (ks : List ByteArray) (hide : Bool) (n0 H : Nat) (l2 : List Cel) : Prop :=
  ∃ st mm lo pg off, Tr F l2 H st mm lo pg ∧ Leaves ks (mm 0) (lo 0) (pg 0) off ∧ st 0 = 1 ∧ (hide = false → Full H mm lo pg st) ∧ Nats l2 ∧ l2.length = n0 ∧ Rest F ks.length l2 ∧ (∀ n, 1 ≤ n → n ≤ 100 → cellAt l2 (nla F n) = cel0) ∧ ∀ L', L' < H → ∀ i, i < mm L' → ∀ x ∈ (pg L' i).xs, cov (pg L' i) x.1 = true
/-- What group answers is a division. -/
theorem pt_of {F least n L : Nat} {ps : List Nat} (h : Grp F least n 0 ps) (hn : 0 < n) (hL : 1 ≤ L → least = 2) : Pt F L n ps := by
  have hs := h.sum
  rw [Nat.add_zero] at hs
  refine ⟨?_, hs, fun i p hp => (h.le i p hp).2, fun _ i p hp => (h.le i p hp).1, fun h1 i p hp hi => ?_, fun e => by omega⟩
  · cases ps with
    | nil => simp at hs; omega
    | cons x r => simp
  · rcases h.ge i p hp with h2 | ⟨-, h2⟩
    · rw [hL h1] at h2; exact h2
    · omega
/-- A slice that reads as these numbers; its row lies at base or behind. -/
def Ir (w : World) (A : Option Addr) (base : Nat) (ps : List Nat) : Prop := 0 < ps.length → ∃ g off, A = some ⟨g, off, none⟩ ∧ g < w.heap.size ∧ base ≤ g ∧ ∀ (i p : Nat), ps[i]? = some p → w.cell? ⟨g, off + i, none⟩ = some (.int .i64 (p : Int))
theorem Ir.kept {w w' : World} {A : Option Addr} {base : Nat} {ps : List Nat} {Y : Nat → Prop} (h : Ir w A base ps) (hk : Kept Y w w') (hY : ∀ i, base ≤ i → ¬ Y i) : Ir w' A base ps := fun hp => by
  obtain ⟨g, off, e, hg, hb, hc⟩ := h hp
  exact ⟨g, off, e, Nat.lt_of_lt_of_le hg hk.size, hb, fun i p hi => (hk.cell (p := ⟨g, off + i, none⟩) hg (show ¬ Y g from hY _ hb)).trans (hc i p hi)⟩
theorem ints_read {w : World} {base n : Nat} {v : Value} {ps : List Nat} (h : w.ownsRow base 3 1 v n (ints ps)) : ∃ A c, v = .slice A ps.length c ∧ Ir w A base ps := by
  have hl : ps.length = n := by have := h.1; rw [ints_length] at this; omega
  rcases h.2 with ⟨rfl, rfl⟩ | ⟨g, cap, cur, rfl, hb, hg, hc, hm, rest⟩
  · exact ⟨none, 0, by rw [hl], fun hp => by omega⟩
  · refine ⟨_, cap, by rw [hl], fun _ => ⟨g, 0, rfl, (Array.getElem?_eq_some_iff.1 hg).1, hb, fun i p hi => ?_⟩⟩
    have := World.ownsRow.cells h (g := g) rfl i _ (ints_at hi)
    rw [Addr.add_lit] at this
    exact this
theorem Bt.small {F L nx : Nat} {l : List Cel} {S : List Sl} {ks : List ByteArray} {hide : Bool} {st mm : Nat → Nat} {lo : Nat → Nat → ByteArray} {pg : Nat → Nat → Pg} {off : Nat → Nat} (B : Bt F l L nx S ks hide st mm lo pg off) : S.length ≤ 1000 := by
  rcases Nat.eq_zero_or_pos L with e | e
  · have := (B.base e).2.2.1; omega
  · obtain ⟨L', rfl⟩ : ∃ L', L = L' + 1 := ⟨L - 1, by omega⟩
    have := (B.more L' rfl).2.2.2.1
    unfold cap at this; split at this <;> omega
theorem Bt.nx100 {F L nx : Nat} {l : List Cel} {S : List Sl} {ks : List ByteArray} {hide : Bool} {st mm : Nat → Nat} {lo : Nat → Nat → ByteArray} {pg : Nat → Nat → Pg} {off : Nat → Nat} (B : Bt F l L nx S ks hide st mm lo pg off) : nx ≤ 100 := by
  rcases Nat.eq_zero_or_pos L with e | e
  · have := (B.base e).1; omega
  · obtain ⟨L', rfl⟩ : ∃ L', L = L' + 1 := ⟨L - 1, by omega⟩
    have h1 := (B.more L' rfl).2.2.2.1
    have := cap_pos S.length
    omega
theorem pt_zero (F L : Nat) : Pt F L 0 [0] := ⟨by simp, rfl, fun i p hp => by
  have := (List.getElem?_eq_some_iff.1 hp).1
  simp at this; subst this; simp at hp; omega, fun h => by omega, fun _ i p _ hi => by simp at hi, fun _ => rfl⟩
set_option maxRecDepth 100000 in
set_option maxHeartbeats 8000000 in
end

section
open Go.RowKit Go.Deep Plain
set_option linter.unusedVariables false

theorem cells_at (b g : Nat) (l : List Cel) (k : Nat) (w : World) (gv : Nat) (hgv : w.heap.size = gv) (h : Mem w b g l k) (hl : l.length ≤ 1099511627776) :
    Calls Tryz.prog 80 #[.pointer (some ⟨b, 0, none⟩)] w fun e w' => e = .returned (.slice (some ⟨gv, 0, none⟩) l.length l.length) ∧ Blk w' gv 46 (flat3 l) ∧ Kept (fun _ => False) w w' := by
  subst hgv; exact kitCells_any b g l k w h hl
set_option maxHeartbeats 2000000 in
theorem view_any (F : Nat) (b g : Nat) (l : List Cel) (k n : Nat) (hl : l.length = n) (hn : n ≤ 1048576) (w : World) (hm : Mem w b g l k) :
    Calls Tryz.prog 38 #[.agg #[.int .i64 1, .int .i64 2, .int .i64 100, .int .i64 100, .int .i64 200, .int .i64 (F : Int), .int .u64 1000], .pointer (some ⟨b, 0, none⟩)] w fun e w' => ∃ gv, e = .returned (.agg #[.int .i64 1, .int .i64 2, .int .i64 100, .int .i64 100, .int .i64 200, .int .i64 (F : Int), .int .u64 1000, .slice (some ⟨gv, 0, none⟩) n n]) ∧ Blk w' gv 46 (flat3 l) ∧ w.heap.size ≤ gv ∧ Kept (fun _ => False) w w' := by
  have HM := Lib.hid hm
  have HL := Lib.hid hl
  clear hm hl
  go_enter Tryz.func38, Tryz.ntmps38
  go_wp2_with fail
  have hal := ((Kept.refl (fun _ => False) w).alloc (.cells #[.int .i64 1, .int .i64 2, .int .i64 100, .int .i64 100, .int .i64 200, .int .i64 (F : Int), .int .u64 1000] 26)).alloc (.cells #[.int .i64 0, .int .i64 0, .int .i64 0, .int .i64 0, .int .i64 0, .int .i64 0, .int .u64 0, .slice none 0 0] 78)
  have HB := Lib.hid ((Blk.new w [.int .i64 1, .int .i64 2, .int .i64 100, .int .i64 100, .int .i64 200, .int .i64 (F : Int), .int .u64 1000] 26).alloc (.cells #[.int .i64 0, .int .i64 0, .int .i64 0, .int .i64 0, .int .i64 0, .int .i64 0, .int .u64 0, .slice none 0 0] 78))
  have hNN := Blk.new (w.alloc (.cells #[.int .i64 1, .int .i64 2, .int .i64 100, .int .i64 100, .int .i64 200, .int .i64 (F : Int), .int .u64 1000] 26)) [.int .i64 0, .int .i64 0, .int .i64 0, .int .i64 0, .int .i64 0, .int .i64 0, .int .u64 0, .slice none 0 0] 78
  have hsz1 : (w.alloc (.cells #[.int .i64 1, .int .i64 2, .int .i64 100, .int .i64 100, .int .i64 200, .int .i64 (F : Int), .int .u64 1000] 26)).heap.size = w.heap.size + 1 := nblk_alloc _ _
  rw [hsz1] at hNN
  have HN := Lib.hid hNN
  have HM2 := Lib.hid (HM.out.kept hal (fun h => h) (fun h => h))
  have HK := Lib.hid hal
  clear hal hNN hsz1 HM
  generalize (w.alloc (.cells #[.int .i64 1, .int .i64 2, .int .i64 100, .int .i64 100, .int .i64 200, .int .i64 (F : Int), .int .u64 1000] 26)).alloc (.cells #[.int .i64 0, .int .i64 0, .int .i64 0, .int .i64 0, .int .i64 0, .int .i64 0, .int .u64 0, .slice none 0 0] 78) = W at *
  generalize hr1 : w.heap.size + 1 = r1 at *
  generalize hr0 : w.heap.size = r0 at *
  have HR := Lib.hid (show r1 = r0 + 1 by omega)
  have HR0 := Lib.hid hr0
  clear hr0 hr1
  replace HM2 := Lib.hid (HM2.out.drew)
  replace HN := Lib.hid (HN.out.of (w' := W.drew) rfl)
  replace HB := Lib.hid (HB.out.of (w' := W.drew) rfl)
  replace HK := Lib.hid HK.out.drew
  refine wp_region_held_drew (S := (fun w' => Blk w' r0 26 [.int .i64 1, .int .i64 2, .int .i64 100, .int .i64 100, .int .i64 200, .int .i64 (F : Int), .int .u64 1000])) (by kernel_rfl) ?_ (fun hHeld => ?_)
  · exact HB.out
  have HN0 := Lib.hid (show r1 < W.drew.heap.size from HN.out.lt)
  generalize W.drew = G at *
  obtain ⟨gv, hgv⟩ : ∃ gv, G.heap.size = gv := ⟨_, rfl⟩
  replace HN0 := Lib.hid (show r1 < gv by have := HN0.out; omega)
  refine wpAnyH_take (i := 0) (oi := ⟨some 5, _, _, _, _, _⟩) (v := ?_) rfl (by kernel_rfl) (by kernel_rfl) (by kernel_rfl) (fun _ _ _ h => h) (Or.inl ⟨by rfl, ?_⟩) hHeld ?_
  rotate_left
  · (intro wq hSw; have hb9 := hSw; have x0 := hb9.cell (i := 0) rfl; have x1 := hb9.cell (i := 1) rfl; have x2 := hb9.cell (i := 2) rfl; have x3 := hb9.cell (i := 3) rfl; have x4 := hb9.cell (i := 4) rfl; have x5 := hb9.cell (i := 5) rfl; have x6 := hb9.cell (i := 6) rfl; clear hb9; go_simp; try with_reducible rfl)
  try simp only [Act.put, List.setIfInBounds_toArray, List.set_cons_zero, List.set_cons_succ]
  refine wpAnyH_take (i := 1) (oi := ⟨some 6, _, _, _, _, _⟩) (v := ?_) rfl (by kernel_rfl) (by kernel_rfl) (by kernel_rfl) (fun _ _ _ h => h) (Or.inl ⟨by rfl, ?_⟩) hHeld ?_
  rotate_left
  · (intro wq hSw; go_simp; try with_reducible rfl)
  try simp only [Act.put, List.setIfInBounds_toArray, List.set_cons_zero, List.set_cons_succ]
  refine wpAnyH_ready (rs := [2]) (by kernel_rfl) (by simp) ?_
  refine AllReadyH.cons (o := ⟨some 7, _, _, _, _, _⟩) rfl (fun KK hK => ?_) AllReadyH.nil
  go_simp
  go_at_call 80
  refine Calls.mono (cells_at b g l k G gv hgv HM2.out (by have := HL.out; omega)) ?_; rintro e G2 ⟨rfl, hBv, hKv⟩
  rw [HL.out]
  have HBv := Lib.hid hBv
  replace HN := Lib.hid (hKv.blk HN.out (fun h => h))
  replace HB := Lib.hid (hKv.blk HB.out (fun h => h))
  have HGV := Lib.hid (show r1 < gv by have := HN0.out; omega)
  replace HK := Lib.hid (HK.out.trans hKv (fun _ _ h => h))
  clear hBv hKv
  refine hK.out _ _ ?_ (fun hHeld2 => ?_)
  · exact HB.out
  clear hK KK hHeld
  have hHeld := hHeld2
  clear hHeld2
  try simp only [Act.put, List.setIfInBounds_toArray, List.set_cons_zero, List.set_cons_succ]
  refine wpAnyH_take (i := 3) (oi := ⟨some 8, _, _, _, _, _⟩) (v := ?_) rfl (by kernel_rfl) (by kernel_rfl) (by kernel_rfl) (fun _ _ _ h => h) (Or.inl ⟨by rfl, ?_⟩) hHeld ?_
  rotate_left
  · (intro wq hSw; go_simp; try with_reducible rfl)
  try simp only [Act.put, List.setIfInBounds_toArray, List.set_cons_zero, List.set_cons_succ]
  refine wpAnyH_ready (rs := [4]) (by kernel_rfl) (by simp) ?_
  refine AllReadyH.cons (o := ⟨none, _, _, _, _, _⟩) rfl (fun KK hK => ?_) AllReadyH.nil
  have h9 := HN.out
  have s0 := h9.cell (i := 0) rfl
  have s1 := h9.cell (i := 1) rfl
  have s2 := h9.cell (i := 2) rfl
  have s3 := h9.cell (i := 3) rfl
  have s4 := h9.cell (i := 4) rfl
  have s5 := h9.cell (i := 5) rfl
  have s6 := h9.cell (i := 6) rfl
  have s7 := h9.cell (i := 7) rfl
  have z0 := h9.frozen 0
  have z1 := h9.frozen 1
  have z2 := h9.frozen 2
  have z3 := h9.frozen 3
  have z4 := h9.frozen 4
  have z5 := h9.frozen 5
  have z6 := h9.frozen 6
  have z7 := h9.frozen 7
  clear h9
  go_simp
  replace HBv := Lib.hid (((((((((HBv.out).other (a := ⟨r1, 0, none⟩) (by have := HGV.out; show gv ≠ r1; omega) (.int .i64 1)).other (a := ⟨r1, 1, none⟩) (by have := HGV.out; show gv ≠ r1; omega) (.int .i64 2)).other (a := ⟨r1, 2, none⟩) (by have := HGV.out; show gv ≠ r1; omega) (.int .i64 100)).other (a := ⟨r1, 3, none⟩) (by have := HGV.out; show gv ≠ r1; omega) (.int .i64 100)).other (a := ⟨r1, 4, none⟩) (by have := HGV.out; show gv ≠ r1; omega) (.int .i64 200)).other (a := ⟨r1, 5, none⟩) (by have := HGV.out; show gv ≠ r1; omega) (.int .i64 (F : Int))).other (a := ⟨r1, 6, none⟩) (by have := HGV.out; show gv ≠ r1; omega) (.int .u64 1000)).other (a := ⟨r1, 7, none⟩) (by have := HGV.out; show gv ≠ r1; omega) (.slice (some ⟨gv, 0, none⟩) n n))
  replace HN := Lib.hid (((((((((HN.out).set 0 (.int .i64 1)).set 1 (.int .i64 2)).set 2 (.int .i64 100)).set 3 (.int .i64 100)).set 4 (.int .i64 200)).set 5 (.int .i64 (F : Int))).set 6 (.int .u64 1000)).set 7 (.slice (some ⟨gv, 0, none⟩) n n))
  replace HB := Lib.hid (((((((((HB.out).other (a := ⟨r1, 0, none⟩) (by have := HR.out; show r0 ≠ r1; omega) (.int .i64 1)).other (a := ⟨r1, 1, none⟩) (by have := HR.out; show r0 ≠ r1; omega) (.int .i64 2)).other (a := ⟨r1, 2, none⟩) (by have := HR.out; show r0 ≠ r1; omega) (.int .i64 100)).other (a := ⟨r1, 3, none⟩) (by have := HR.out; show r0 ≠ r1; omega) (.int .i64 100)).other (a := ⟨r1, 4, none⟩) (by have := HR.out; show r0 ≠ r1; omega) (.int .i64 200)).other (a := ⟨r1, 5, none⟩) (by have := HR.out; show r0 ≠ r1; omega) (.int .i64 (F : Int))).other (a := ⟨r1, 6, none⟩) (by have := HR.out; show r0 ≠ r1; omega) (.int .u64 1000)).other (a := ⟨r1, 7, none⟩) (by have := HR.out; show r0 ≠ r1; omega) (.slice (some ⟨gv, 0, none⟩) n n))
  replace HK := Lib.hid (((((((((HK.out).setNew (b := r1) (by rw [HR.out, HR0.out]; omega) 0 (.int .i64 1)).setNew (b := r1) (by rw [HR.out, HR0.out]; omega) 1 (.int .i64 2)).setNew (b := r1) (by rw [HR.out, HR0.out]; omega) 2 (.int .i64 100)).setNew (b := r1) (by rw [HR.out, HR0.out]; omega) 3 (.int .i64 100)).setNew (b := r1) (by rw [HR.out, HR0.out]; omega) 4 (.int .i64 200)).setNew (b := r1) (by rw [HR.out, HR0.out]; omega) 5 (.int .i64 (F : Int))).setNew (b := r1) (by rw [HR.out, HR0.out]; omega) 6 (.int .u64 1000)).setNew (b := r1) (by rw [HR.out, HR0.out]; omega) 7 (.slice (some ⟨gv, 0, none⟩) n n))
  clear s0 z0 s1 z1 s2 z2 s3 z3 s4 z4 s5 z5 s6 z6 s7 z7
  refine hK.out _ _ ?_ (fun hHeld2 => ?_)
  · exact HB.out
  clear hK KK hHeld
  have hHeld := hHeld2
  clear hHeld2
  try simp only [Act.put, List.setIfInBounds_toArray, List.set_cons_zero, List.set_cons_succ]
  refine wpAnyH_done (by kernel_rfl) ?_ _
  clear hHeld
  clear hgv
  have q0 := HN.out.cell (i := 0) rfl
  have q1 := HN.out.cell (i := 1) rfl
  have q2 := HN.out.cell (i := 2) rfl
  have q3 := HN.out.cell (i := 3) rfl
  have q4 := HN.out.cell (i := 4) rfl
  have q5 := HN.out.cell (i := 5) rfl
  have q6 := HN.out.cell (i := 6) rfl
  have q7 := HN.out.cell (i := 7) rfl
  go_wp2
  refine bodyPost_ret (v := .agg #[.int .i64 1, .int .i64 2, .int .i64 100, .int .i64 100, .int .i64 200, .int .i64 (F : Int), .int .u64 1000, .slice (some ⟨gv, 0, none⟩) n n]) ?_ rfl ?_
  · simp [results, Tryz.results38, go_sem, q0, q1, q2, q3, q4, q5, q6, q7]
  exact ⟨gv, rfl, HBv.out, by have := HGV.out; have := HR.out; have := HR0.out; omega, HK.out⟩

theorem pfield0 (lv : Int) (A : Option Addr) (n c : Nat) (hi : ByteArray) (la : Bool) (rt : Int) (w : World) : (Instr.field 40 (.agg #[.int .i64 lv, .slice A n c, .string hi, .bool la, .int .u64 rt]) 0).run Tryz.prog w = .ok (.int .i64 lv) w := by kernel_rfl
set_option maxHeartbeats 2000000 in
theorem height_any (F : Nat) (h4 : 4 ≤ F) (h6 : F ≤ 6) (g n : Nat) (l : List Cel) (hl : l.length = n) (rt : Nat) (M0 : Int) (K0 : ByteArray) (h1 : 1 ≤ rt) (h2 : rt ≤ 100) (P : Pg) (hH : Holds (nad F rt) l P) (hw : Wf P) (hF : P.xs.length ≤ F) (hlv : P.lv ≤ 1000) (w : World) (hv : Blk w g 46 (flat3 l)) (hc : cellAt l 0 = ((rt : Int), K0, M0)) :
    Calls Tryz.prog 41 #[.agg #[.int .i64 1, .int .i64 2, .int .i64 100, .int .i64 100, .int .i64 200, .int .i64 (F : Int), .int .u64 1000, .slice (some ⟨g, 0, none⟩) n n]] w fun e w' => e = .returned (.int .i64 ((P.lv : Int) + 1)) ∧ Kept (fun _ => False) w w' := by
  have HV0 := Lib.hid hv
  have HC := Lib.hid hc
  have HH := Lib.hid hH
  have HW := Lib.hid hw
  have hfd := field0 (rt : Int) M0 K0
  have hwr : IntKind.i64.wrap ((P.lv : Int) + 1) = (P.lv : Int) + 1 := by rw [IntKind.wrap_i64]; omega
  clear hv hc hH hw
  go_enter Tryz.func41, Tryz.ntmps41
  go_wp2_with fail
  have hal := (Kept.refl (fun _ => False) w).alloc (.cells #[.int .i64 1, .int .i64 2, .int .i64 100, .int .i64 100, .int .i64 200, .int .i64 (F : Int), .int .u64 1000, .slice (some ⟨g, 0, none⟩) n n] 78)
  have HB := Lib.hid (Blk.new w [.int .i64 1, .int .i64 2, .int .i64 100, .int .i64 100, .int .i64 200, .int .i64 (F : Int), .int .u64 1000, .slice (some ⟨g, 0, none⟩) n n] 78)
  have HV := Lib.hid (hal.blk HV0.out (fun h => h))
  have HK := Lib.hid hal
  clear hal HV0
  generalize w.heap.size = r0 at HB ⊢
  generalize w.alloc (.cells #[.int .i64 1, .int .i64 2, .int .i64 100, .int .i64 100, .int .i64 200, .int .i64 (F : Int), .int .u64 1000, .slice (some ⟨g, 0, none⟩) n n] 78) = W at *
  replace HV := Lib.hid (HV.out.of (w' := W.drew) rfl)
  replace HB := Lib.hid (HB.out.of (w' := W.drew) rfl)
  replace HK := Lib.hid HK.out.drew
  refine wp_region_held_drew (S := (fun w' => Blk w' r0 78 [.int .i64 1, .int .i64 2, .int .i64 100, .int .i64 100, .int .i64 200, .int .i64 (F : Int), .int .u64 1000, .slice (some ⟨g, 0, none⟩) n n])) (by kernel_rfl) ?_ (fun hHeld => ?_)
  · exact HB.out
  generalize W.drew = G0 at *
  refine wpAnyH_take (i := 0) (oi := ⟨some 3, _, _, _, _, _⟩) (v := ?_) rfl (by kernel_rfl) (by kernel_rfl) (by kernel_rfl) (fun _ _ _ h => h) (Or.inl ⟨by rfl, ?_⟩) hHeld ?_
  rotate_left
  · (intro wq hSw; have hb9 := hSw; have x0 := hb9.cell (i := 0) rfl; have x1 := hb9.cell (i := 1) rfl; have x2 := hb9.cell (i := 2) rfl; have x3 := hb9.cell (i := 3) rfl; have x4 := hb9.cell (i := 4) rfl; have x5 := hb9.cell (i := 5) rfl; have x6 := hb9.cell (i := 6) rfl; have x7 := hb9.cell (i := 7) rfl; clear hb9; go_simp; try with_reducible rfl)
  try simp only [Act.put, List.setIfInBounds_toArray, List.set_cons_zero, List.set_cons_succ]
  refine wpAnyH_take (i := 1) (oi := ⟨some 4, _, _, _, _, _⟩) (v := ?_) rfl (by kernel_rfl) (by kernel_rfl) (by kernel_rfl) (fun _ _ _ h => h) (Or.inl ⟨by rfl, ?_⟩) hHeld ?_
  rotate_left
  · (intro wq hSw; have hb9 := hSw; have x0 := hb9.cell (i := 0) rfl; have x1 := hb9.cell (i := 1) rfl; have x2 := hb9.cell (i := 2) rfl; have x3 := hb9.cell (i := 3) rfl; have x4 := hb9.cell (i := 4) rfl; have x5 := hb9.cell (i := 5) rfl; have x6 := hb9.cell (i := 6) rfl; have x7 := hb9.cell (i := 7) rfl; clear hb9; go_simp; try with_reducible rfl)
  try simp only [Act.put, List.setIfInBounds_toArray, List.set_cons_zero, List.set_cons_succ]
  refine wpAnyH_ready (rs := [2]) (by kernel_rfl) (by simp) ?_
  refine AllReadyH.cons (o := ⟨some 5, _, _, _, _, _⟩) rfl (fun KK hK => ?_) AllReadyH.nil
  go_simp
  go_at_call 82
  refine (vat_any F h4 h6 g n l hl 0 (rt : Int) M0 K0 _ HV.out HC.out).mono ?_; rintro e G ⟨rfl, hB⟩
  replace HV := Lib.hid (hB.blk HV.out (fun h => h))
  replace HB := Lib.hid (hB.blk HB.out (fun h => h))
  replace HK := Lib.hid (HK.out.trans hB (fun _ _ h => h))
  clear hB
  refine hK.out _ _ ?_ (fun hHeld2 => ?_)
  · exact HB.out
  clear hK KK hHeld
  have hHeld := hHeld2
  clear hHeld2
  try simp only [Act.put, List.setIfInBounds_toArray, List.set_cons_zero, List.set_cons_succ]
  refine wpAnyH_take (i := 3) (oi := ⟨some 6, _, _, _, _, _⟩) (v := .int .u64 (rt : Int)) rfl (by kernel_rfl) (by kernel_rfl) (by kernel_rfl) (fun _ _ _ h => h) (Or.inl ⟨by rfl, ?_⟩) hHeld ?_
  · (intro wq hSw; go_simp; try first | (with_reducible rfl) | (simp; omega) | (intros; omega) | simp [*])
  try simp only [Act.put, List.setIfInBounds_toArray, List.set_cons_zero, List.set_cons_succ]
  refine wpAnyH_ready (rs := [4]) (by kernel_rfl) (by simp) ?_
  refine AllReadyH.cons (o := ⟨some 7, _, _, _, _, _⟩) rfl (fun KK hK => ?_) AllReadyH.nil
  go_simp
  go_at_call 86
  refine (vpage_any F h4 h6 g n l hl rt h1 h2 P HH.out HW.out hF (by omega) _ HV.out).mono ?_; rintro e G3 ⟨A9, c9, rfl, -, -, hB⟩
  have hpf := pfield0 (P.lv : Int) A9 P.xs.length c9 P.hi P.la (P.rt : Int)
  replace HV := Lib.hid (hB.blk HV.out (fun h => h))
  replace HB := Lib.hid (hB.blk HB.out (fun h => h))
  replace HK := Lib.hid (HK.out.trans hB (fun _ _ h => h))
  clear hB
  refine hK.out _ _ ?_ (fun hHeld2 => ?_)
  · exact HB.out
  clear hK KK hHeld
  have hHeld := hHeld2
  clear hHeld2
  try simp only [Act.put, List.setIfInBounds_toArray, List.set_cons_zero, List.set_cons_succ]
  refine wpAnyH_take (i := 5) (oi := ⟨some 8, _, _, _, _, _⟩) (v := .int .i64 (P.lv : Int)) rfl (by kernel_rfl) (by kernel_rfl) (by kernel_rfl) (fun _ _ _ h => h) (Or.inl ⟨by rfl, ?_⟩) hHeld ?_
  · (intro wq hSw; go_simp; try first | (with_reducible rfl) | (simp; omega) | (intros; omega) | simp [*])
  try simp only [Act.put, List.setIfInBounds_toArray, List.set_cons_zero, List.set_cons_succ]
  refine wpAnyH_take (i := 6) (oi := ⟨some 9, _, _, _, _, _⟩) (v := .int .i64 ((P.lv : Int) + 1)) rfl (by kernel_rfl) (by kernel_rfl) (by kernel_rfl) (fun _ _ _ h => h) (Or.inl ⟨by rfl, ?_⟩) hHeld ?_
  · (intro wq hSw; go_simp; try first | (with_reducible rfl) | (simp; omega) | (intros; omega) | simp [*])
  try simp only [Act.put, List.setIfInBounds_toArray, List.set_cons_zero, List.set_cons_succ]
  refine wpAnyH_take (i := 7) (oi := ⟨some 2, _, _, _, _, _⟩) (v := ?_) rfl (by kernel_rfl) (by kernel_rfl) (by kernel_rfl) (fun _ _ _ h => h) (Or.inl ⟨by rfl, ?_⟩) hHeld ?_
  rotate_left
  · (intro wq hSw; go_simp; try with_reducible rfl)
  try simp only [Act.put, List.setIfInBounds_toArray, List.set_cons_zero, List.set_cons_succ]
  refine wpAnyH_done (by kernel_rfl) ?_ _
  clear hHeld
  go_wp2
  go_ret
  exact ⟨rfl, HK.out⟩
end
end Go.Proofs.YtkpbbnpfdighjaaGreat
