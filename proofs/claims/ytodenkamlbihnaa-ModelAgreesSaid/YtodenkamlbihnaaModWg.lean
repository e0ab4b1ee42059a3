/-
  What Add, Release and Open of the reference's world answer. Condition: at most 99 batches, at most a thousand writes and snapshots.
-/
import Derived.Test.YtodenkamlbihnaaModWf
import Derived.Deep.Cut
import Derived.Deep.AppendLies
import Derived.BigRegion
namespace Go.Proofs.Ytodenkamlbihnaa
open Go.RowKit Go.Deep Plain PlainE
set_option linter.unusedVariables false

section
variable {P : Program}
/-- An append at a step of a region that draws its order. -/
theorem step_app (w : World) {ops : Array Oper} {o : Oper} {a : Act} {K : Act → World → Prop} {Q : Exit → Act → World → Prop} {E : Prop} (hgd : o.guard = none) (s x : Operand) (t : TypeId)
    (ho : o.op = .call { callee := .builtin .append, args := #[s, x], argTypes := #[t, t] })
    (base : Nat) (e : TypeId) (i : TypeInfo) (z : Value) (size bytes : Nat) (ht : P.underlying t = some (.slice e)) (hi : P.info? e = some i) (hz : i.zero = some z)
    (hsize : i.size = size) (hby : i.bytes = bytes) (hzs : z.cells.size = size) (hsz : 0 < size)
    (v : Value) (n : Nat) (xs : List Value) (hs : a.eval s = v) (hown : w.ownsRow base e size v n xs)
    (A : Option Addr) (m c : Nat) (news : List Value) (hx : a.eval x = .slice A m c) (hl : news.length = m * size) (hA : A = none → m = 0 ∧ c = 0) (hmc : ∀ ad, A = some ad → ∀ j u, news[j]? = some u → w.cell? (ad.add j) = some u) (h1 : ∀ u ∈ news, u.oneCell' = true)
    (h63 : n + m ≤ maxLen) (hbytes : (n + m) * bytes ≤ 140737488355328) (hbase : base ≤ w.heap.size)
    (h : ∀ v' w', w'.ownsRow base e size v' (n + m) (xs ++ news) → w.grownBy w' v.ownBlock → (v'.ownBlock = v.ownBlock ∨ v'.ownBlock = some w.heap.size) → K (a.put o.dst v') w') :
    if Region.wanted o (yielded ops a.tmps) = true then Oper.wp P o a w K Q else E := by
  have hw : Region.wanted o (yielded ops a.tmps) = true := by simp [Region.wanted, hgd]
  rw [if_pos hw]
  cases A with
  | none =>
    obtain ⟨rfl, rfl⟩ := hA rfl
    have hys : news = [] := List.eq_nil_of_length_eq_zero (by omega)
    subst hys
    have hrun := run_append_owned_none (P := P) (w := w) base t o.type e i size ht hi v n xs hown
    unfold Oper.wp
    simp [execOp, ho, resolve, invoke, builtin, hs, hx, hrun, Result.andThen]
    exact h v w (by rw [List.append_nil]; exact hown) ⟨rfl, rfl, rfl, Nat.le_refl _, fun _ _ _ => rfl⟩ (.inl rfl)
  | some ad =>
    obtain ⟨v', w', hr, h2, h3, _, h5⟩ := run_append_own_at (P := P) w base t o.type e i z size bytes ht hi hz hsize hby hzs hsz v n xs hown ad m c news hl (hmc ad rfl) h1 h63 hbytes hbase
    unfold Oper.wp execOp
    simp only [ho, resolve, invoke, builtin, Sem.run_bind, Sem.run_pure, Result.andThen_ok, List.map_toArray, List.map_cons, List.map_nil, hs, hx, hr]
    exact h v' w' h2 h3 h5
end
theorem Try.info34 : (Try.prog.info? 34).map (fun i => (i.zero, i.size, i.bytes)) = some (some (.slice none 0 0), 1, 24) := by kernel_rfl
theorem RW.keptB {w w' : World} {A : Option Addr} {c : Nat} {xs : List Wri} (h : RW w A c xs) (hk : Kept (fun _ => False) w w') : RW w' A c xs :=
  h.below (hk.below (Nat.le_refl _) (fun _ h => h.elim)) (Nat.le_refl _)
theorem RSn.keptB {w w' : World} {A : Option Addr} {c : Nat} {xs : List Sp} (h : RSn w A c xs) (hk : Kept (fun _ => False) w w') : RSn w' A c xs :=
  h.below (hk.below (Nat.le_refl _) (fun _ h => h.elim)) (Nat.le_refl _)
theorem RW.news {w : World} {A : Option Addr} {c : Nat} {xs : List Wri} (h : RW w A c xs) {ad : Addr} (hA : A = some ad) {j : Nat} {u : Value} (hu : (flatW xs)[j]? = some u) : w.cell? (ad.add j) = some u := by
  have hp : 0 < xs.length := by
    have := (List.getElem?_eq_some_iff.1 hu).1
    rw [flatW_length] at this; omega
  obtain ⟨g, off, e, _, hc⟩ := h.some' hp
  rw [e] at hA; cases hA
  rw [Addr.add_lit]; exact hc j u hu
theorem RSn.news {w : World} {A : Option Addr} {c : Nat} {xs : List Sp} (h : RSn w A c xs) {ad : Addr} (hA : A = some ad) {j : Nat} {u : Value} (hu : (flatN xs)[j]? = some u) : w.cell? (ad.add j) = some u := by
  have hp : 0 < xs.length := by
    have := (List.getElem?_eq_some_iff.1 hu).1
    rw [flatN_length] at this; omega
  obtain ⟨g, off, e, _, hc⟩ := h.some' hp
  rw [e] at hA; cases hA
  rw [Addr.add_lit]; exact hc j u hu
theorem RSn.dropAt {w : World} {A A' : Option Addr} {c : Nat} {xs : List Sp} (h : RSn w A c xs) (i : Nat) (hi : i ≤ xs.length) (hA : (if c = i then A else A.map (·.add (i * 3))) = A') : RSn w A' (c - i) (xs.drop i) := hA ▸ h.drop i hi
theorem own5_slice {w : World} {base e size n : Nat} {v : Value} {xs : List Value} (h : w.ownsRow base e size v n xs) : v.oneCell' = true := by
  obtain ⟨A, c, rfl⟩ := own_slice h; rfl
theorem own_setq {w : World} {q k b e s n : Nat} {v u : Value} {x xs : List Value} {t : TypeId} (ho : w.ownsRow b e s v n x) (hp : Blk w q t xs) (hne : e ≠ t) : (w.setCell ⟨q, k, none⟩ u).ownsRow b e s v n x :=
  own_of ho fun g hg => ((Kept.refl (fun i => i = q) w).setCell (a := ⟨q, k, none⟩) (fun _ => rfl) u).block g (own_cells ho hg).2.1 (fun e2 => own_blk ho hp hne (e2 ▸ hg))
theorem Wd.add {w w7 : World} {q B : Nat} {Z : Nat → Prop} {bs : List (List Wri)} {fl : Nat} {sv : List Sp} {vB vS v7 v5 : Value} {vals : List Value} {b : List Wri} (h : Wd w q B Z bs fl sv vB vS vals) (hk : Kept (fun i => vB.ownBlock = some i) w w7)
    (h7 : w7.ownsRow B 34 1 v7 (bs.length + 1) (vals ++ [v5])) (h5 : w7.ownsRow B 44 3 v5 b.length (flatW b)) (hA : ∀ g, v7.ownBlock = some g → vB.ownBlock = some g ∨ w.heap.size ≤ g) (hF : ∀ g, v5.ownBlock = some g → w.heap.size ≤ g) :
    WdS (w7.setCell ⟨q, 0, none⟩ v7) q B (fun i => Z i ∨ (w.heap.size ≤ i ∧ i < (w7.setCell ⟨q, 0, none⟩ v7).heap.size)) (bs ++ [b]) fl sv ∧ Kept Z w (w7.setCell ⟨q, 0, none⟩ v7) := by
  have hp := hk.blk h.p (own_blk h.b h.p (by decide))
  have hsz : (w7.setCell ⟨q, 0, none⟩ v7).heap.size = w7.heap.size := by simp [World.setCell]
  refine ⟨⟨v7, vS, vals ++ [v5], hp.set 0 _, ?_, own_setq (own_of h.s fun g hg => hk.block g (own_cells h.s hg).2.1 (fun h2 => own_kind h.s h.b (by decide) hg h2)) hp (by decide), fun i x hx => ?_, .inl h.zq, fun g hg => ?_, fun g hg => .inl (h.zs g hg), fun i hi => ?_⟩, ?_⟩
  · rw [List.length_append]; exact own_setq h7 hp (by decide)
  · by_cases hi : i < bs.length
    · rw [List.getElem?_append_left hi] at hx
      obtain ⟨v, h1, h2, h3⟩ := h.r i x hx
      have hvl : i < vals.length := (List.getElem?_eq_some_iff.1 h1).1
      exact ⟨v, by rw [List.getElem?_append_left hvl]; exact h1, own_setq (own_of h2 fun g hg => hk.block g (own_cells h2 hg).2.1 (fun h4 => own_kind h2 h.b (by decide) hg h4)) hp (by decide), fun g hg => .inl (h3 g hg)⟩
    · have hil : i = bs.length := by have := (List.getElem?_eq_some_iff.1 hx).1; simp at this; omega
      subst hil
      obtain rfl : b = x := by simpa using hx
      have hvl : vals.length = bs.length := by have := h.b.1; omega
      exact ⟨v5, by rw [← hvl]; simp, own_setq h5 hp (by decide), fun g hg => .inr ⟨hF g hg, by rw [hsz]; exact (own_cells h5 hg).2.1⟩⟩
  · rcases hA g hg with h1 | h1
    · exact .inl (h.zb g h1)
    · exact .inr ⟨h1, by rw [hsz]; exact (own_cells h7 hg).2.1⟩
  · have h1 := hk.size
    rcases hi with hi | hi
    · have := h.z i hi; rw [hsz]; omega
    · have := h.z q h.zq; exact ⟨by omega, hi.2⟩
  · exact (hk.mono (fun i hi => h.zb i hi)).setCell (a := ⟨q, 0, none⟩) (fun _ => h.zq) _
theorem Wd.snaps {w w7 : World} {q B : Nat} {Z : Nat → Prop} {bs : List (List Wri)} {fl : Nat} {sv sv' : List Sp} {vB vS v7 : Value} {vals : List Value} (h : Wd w q B Z bs fl sv vB vS vals) (hk : Kept (fun i => vS.ownBlock = some i) w w7)
    (h7 : w7.ownsRow B 69 3 v7 sv'.length (flatN sv')) (hA : ∀ g, v7.ownBlock = some g → vS.ownBlock = some g ∨ w.heap.size ≤ g) :
    WdS (w7.setCell ⟨q, 2, none⟩ v7) q B (fun i => Z i ∨ (w.heap.size ≤ i ∧ i < (w7.setCell ⟨q, 2, none⟩ v7).heap.size)) bs fl sv' ∧ Kept Z w (w7.setCell ⟨q, 2, none⟩ v7) := by
  have hp := hk.blk h.p (own_blk h.s h.p (by decide))
  have hsz : (w7.setCell ⟨q, 2, none⟩ v7).heap.size = w7.heap.size := by simp [World.setCell]
  refine ⟨⟨vB, v7, vals, hp.set 2 _, own_setq (own_of h.b fun g hg => hk.block g (own_cells h.b hg).2.1 (fun h2 => own_kind h.b h.s (by decide) hg h2)) hp (by decide), own_setq h7 hp (by decide), fun i x hx => ?_, .inl h.zq, fun g hg => .inl (h.zb g hg), fun g hg => ?_, fun i hi => ?_⟩, ?_⟩
  · obtain ⟨v, h1, h2, h3⟩ := h.r i x hx
    exact ⟨v, h1, own_setq (own_of h2 fun g hg => hk.block g (own_cells h2 hg).2.1 (fun h4 => own_kind h2 h.s (by decide) hg h4)) hp (by decide), fun g hg => .inl (h3 g hg)⟩
  · rcases hA g hg with h1 | h1
    · exact .inl (h.zs g h1)
    · exact .inr ⟨h1, by rw [hsz]; exact (own_cells h7 hg).2.1⟩
  · have h1 := hk.size
    rcases hi with hi | hi
    · have := h.z i hi; rw [hsz]; omega
    · have := h.z q h.zq; exact ⟨by omega, hi.2⟩
  · exact (hk.mono (fun i hi => h.zs i hi)).setCell (a := ⟨q, 2, none⟩) (fun _ => h.zq) _
theorem WdS.setC {w : World} {q B : Nat} {Z : Nat → Prop} {bs : List (List Wri)} {fl : Nat} {sv : List Sp} (h : WdS w q B Z bs fl sv) : WdS (w.setCell ⟨q, 3, none⟩ (.slice none 0 0)) q B Z bs fl sv := by
  obtain ⟨vB, vS, vals, h⟩ := h
  have hsz : (w.setCell ⟨q, 3, none⟩ (.slice none 0 0)).heap.size = w.heap.size := by simp [World.setCell]
  exact ⟨vB, vS, vals, h.p.set 3 _, own_setq h.b h.p (by decide), own_setq h.s h.p (by decide), fun i x hx => by
    obtain ⟨v, h1, h2, h3⟩ := h.r i x hx
    exact ⟨v, h1, own_setq h2 h.p (by decide), h3⟩, h.zq, h.zb, h.zs, fun i hi => by rw [hsz]; exact h.z i hi⟩
theorem WdS.setCKept {w : World} {q B : Nat} {Z : Nat → Prop} {bs : List (List Wri)} {fl : Nat} {sv : List Sp} (h : WdS w q B Z bs fl sv) : Kept Z w (w.setCell ⟨q, 3, none⟩ (.slice none 0 0)) := by
  obtain ⟨vB, vS, vals, h⟩ := h
  exact (Kept.refl Z w).setCell (a := ⟨q, 3, none⟩) (fun _ => h.zq) _
theorem delS_len (t j : Int) (sv : List Sp) : (delS t j sv).length ≤ sv.length := by
  unfold delS
  cases h : ixS t j sv with
  | none => exact Nat.le_refl _
  | some i =>
    show (sv.take i ++ sv.drop (i + 1)).length ≤ _
    rw [List.length_append, List.length_take, List.length_drop]
    have := ixS_lt h
    omega

set_option maxRecDepth 100000 in
set_option maxHeartbeats 4000000 in
theorem wadd_any {q B : Nat} {Z : Nat → Prop} {bs : List (List Wri)} {fl : Nat} {sv : List Sp} (w : World) (h : WdS w q B Z bs fl sv) (hT : bs.length ≤ 99) (A : Option Addr) (c : Nat) (b : List Wri) (n : Nat) (hn : b.length = n) (h40 : n ≤ 1000) (hR : RW w A c b) :
    Calls Try.prog 20 #[.pointer (some ⟨q, 0, none⟩), .slice A n c] w fun e w' => e = .returned (.int .u64 ((bs.length : Int) + 1)) ∧ WdS w' q B (fun i => Z i ∨ (w.heap.size ≤ i ∧ i < w'.heap.size)) (bs ++ [b]) fl sv ∧ Kept Z w w' := by
  obtain ⟨vB, vS, vals, h⟩ := h
  obtain ⟨iw, hi3, hj3, hk3, hl3⟩ := info_parts Try.info44
  obtain ⟨ib, hi1, hj1, hk1, hl1⟩ := info_parts Try.info34
  have HI3 := Lib.hid hi3
  have HJ3 := Lib.hid hj3
  have HK3 := Lib.hid hk3
  have HL3 := Lib.hid hl3
  have HI1 := Lib.hid hi1
  have HJ1 := Lib.hid hj1
  have HK1 := Lib.hid hk1
  have HL1 := Lib.hid hl1
  have HH := Lib.hid h
  have HP := Lib.hid h.p
  have HNQ := Lib.hid (own_blk h.b h.p (by decide))
  have HBW := Lib.hid (show B ≤ w.heap.size by have := h.z q h.zq; omega)
  have HR := Lib.hid hR
  have HN := Lib.hid hn
  obtain ⟨T, hTT⟩ : ∃ T, bs.length = T := ⟨_, rfl⟩
  have HTT := Lib.hid hTT
  have HOB := Lib.hid (show w.ownsRow B 34 1 vB T vals from hTT ▸ h.b)
  rw [hTT] at hT
  clear h hi3 hj3 hk3 hl3 hi1 hj1 hk1 hl1 hR hn hTT
  go_enter Try.func20, Try.ntmps20
  go_upto_region 1 with fail
  refine region_E 8 (fun w' => Kept (fun i => vB.ownBlock = some i) w w') (by kernel_rfl) ?_ (fun hHeld => ?_)
  · exact ((Kept.refl (fun _ => False) _).drew).mono (fun _ h => h.elim)
  have HW := Lib.hid ((Kept.refl (fun _ => False) w).drew)
  generalize w.drew = G at *
  refine anyE_take (i := 0) (oi := ⟨some 6, _, _, _, _, _⟩) (v := ?_) rfl (by kernel_rfl) (by kernel_rfl) (by kernel_rfl) (by kernel_rfl) (fun _ _ _ h => h) (Or.inl ⟨by rfl, ?_⟩) hHeld ?_
  rotate_left
  · (intro wq hSw; go_simp; try with_reducible rfl)
  try simp only [Act.put, List.setIfInBounds_toArray, List.set_cons_zero, List.set_cons_succ]
  refine anyE_take (i := 1) (oi := ⟨some 7, _, _, _, _, _⟩) (v := ?_) rfl (by kernel_rfl) (by kernel_rfl) (by kernel_rfl) (by kernel_rfl) (fun _ _ _ h => h) (Or.inl ⟨by rfl, ?_⟩) hHeld ?_
  rotate_left
  · (intro wq hSw; go_simp; try with_reducible rfl)
  try simp only [Act.put, List.setIfInBounds_toArray, List.set_cons_zero, List.set_cons_succ]
  refine anyE_take (i := 2) (oi := ⟨some 8, _, _, _, _, _⟩) (v := ?_) rfl (by kernel_rfl) (by kernel_rfl) (by kernel_rfl) (by kernel_rfl) (fun _ _ _ h => h) (Or.inl ⟨by rfl, ?_⟩) hHeld ?_
  rotate_left
  · (intro wq hSw; go_simp; try with_reducible rfl)
  try simp only [Act.put, List.setIfInBounds_toArray, List.set_cons_zero, List.set_cons_succ]
  refine anyE_take (i := 3) (oi := ⟨some 9, _, _, _, _, _⟩) (v := ?_) rfl (by kernel_rfl) (by kernel_rfl) (by kernel_rfl) (by kernel_rfl) (fun _ _ _ h => h) (Or.inl ⟨by rfl, ?_⟩) hHeld ?_
  rotate_left
  · (intro wq hSw; have hb9 := hSw.blk HP.out HNQ.out; have p0 := hb9.cell (i := 0) rfl; have p2 := hb9.cell (i := 2) rfl; clear hb9; go_simp; try with_reducible rfl)
  try simp only [Act.put, List.setIfInBounds_toArray, List.set_cons_zero, List.set_cons_succ]
  refine anyE_take (i := 4) (oi := ⟨some 10, _, _, _, _, _⟩) (v := ?_) rfl (by kernel_rfl) (by kernel_rfl) (by kernel_rfl) (by kernel_rfl) (fun _ _ _ h => h) (Or.inl ⟨by rfl, ?_⟩) hHeld ?_
  rotate_left
  · (intro wq hSw; go_simp; try with_reducible rfl)
  try simp only [Act.put, List.setIfInBounds_toArray, List.set_cons_zero, List.set_cons_succ]
  refine anyE_ready (i := 5) (o := ⟨some 11, _, _, _, _, _⟩) (by kernel_rfl) rfl (fun KK hK => ?_)
  refine step_app _ (by rfl) (.const (.slice none 0 0)) (.tmp 10) 34 (by rfl) B 44 iw _ 3 40 Try.underlying34 HI3.out HJ3.out HK3.out HL3.out rfl (by decide) (.slice none 0 0) 0 [] (by rfl) (World.ownsRow_nil _ _ _ _) A n c (flatW b) (by rfl) (by rw [flatW_length, HN.out]) (fun e => ⟨by have := HR.out.le; have := HR.out.none' e; have := HN.out; omega, HR.out.none' e⟩) (fun ad hA j u hu => RW.news (HR.out.keptB HW.out) hA hu) (flatW_one b) (by unfold maxLen; omega) (by omega) (by have := HW.out.size; have := HBW.out; omega) ?_
  intro v5 G1 hown5 hgr5 hat5
  have hown5' : G1.ownsRow B 44 3 v5 n (flatW b) := by simpa using hown5
  obtain ⟨A5, c5, e5⟩ := own_slice hown5'
  subst e5
  have HW1 := Lib.hid (HW.out.grown hgr5 (fun k hk _ => by cases hk))
  have HO5 := Lib.hid hown5'
  have HF5 := Lib.hid (show ∀ g, (Value.slice A5 n c5).ownBlock = some g → w.heap.size ≤ g from fun g hg => by
    rcases hat5 with h | h
    · rw [h] at hg; cases hg
    · rw [h] at hg; cases hg; exact HW.out.size)
  clear hown5 hown5' hgr5 hat5 HW
  refine hK.out _ _ (fun _ => ?_) (fun hHeld2 => ?_)
  · exact HW1.out.mono (fun _ h => h.elim)
  clear hK KK hHeld
  have hHeld := hHeld2 (by decide)
  clear hHeld2
  try simp only [Act.put, List.setIfInBounds_toArray, List.set_cons_zero, List.set_cons_succ]
  refine anyE_ready (i := 6) (o := ⟨some 12, _, _, _, _, _⟩) (by kernel_rfl) rfl (fun KK hK => ?_)
  go_simp
  have HNb := Lib.hid (show (G1.alloc (.cells #[.slice A5 n c5] 34)).cell? ⟨G1.heap.size, 0, none⟩ = some (.slice A5 n c5) from (Blk.new G1 [.slice A5 n c5] 34).cell (i := 0) rfl)
  have hszG : (G1.alloc (.cells #[.slice A5 n c5] 34)).heap.size = G1.heap.size + 1 := nblk_alloc _ _
  have HG1 := Lib.hid hszG
  have HW2 := Lib.hid (HW1.out.alloc (.cells #[.slice A5 n c5] 34))
  have HO6 := Lib.hid (HO5.out.alloc (.cells #[.slice A5 n c5] 34))
  have HOV := Lib.hid (own5_slice HO5.out)
  clear hszG HW1 HO5
  generalize G1.alloc (.cells #[.slice A5 n c5] 34) = G2 at *
  refine hK.out _ _ (fun _ => ?_) (fun hHeld2 => ?_)
  · exact HW2.out.mono (fun _ h => h.elim)
  clear hK KK hHeld
  have hHeld := hHeld2 (by decide)
  clear hHeld2
  try simp only [Act.put, List.setIfInBounds_toArray, List.set_cons_zero, List.set_cons_succ]
  refine anyE_ready (i := 7) (o := ⟨some 13, _, _, _, _, _⟩) (by kernel_rfl) rfl (fun KK hK => ?_)
  refine step_app _ (by rfl) (.tmp 9) (.tmp 12) 27 (by rfl) B 34 ib _ 1 24 Try.underlying27 HI1.out HJ1.out HK1.out HL1.out rfl (by decide) vB T vals (by rfl) (own_of HOB.out (fun g hg => HW2.out.block g (own_cells HOB.out hg).2.1 (fun h => h))) (some ⟨G1.heap.size, 0, none⟩) 1 1 [.slice A5 n c5] (by rfl) rfl (fun e => by cases e) (fun ad hA j u hu => by
    cases hA
    match j, hu with
    | 0, hu => simp at hu; subst hu; rw [Addr.add_lit]; exact HNb.out) (fun u hu => by simp at hu; subst hu; exact HOV.out) (by unfold maxLen; omega) (by omega) (by have := HW2.out.size; have := HBW.out; omega) ?_
  intro v7 w7 hown7 hgr7 hat7
  obtain ⟨A7, c7, e7⟩ := own_slice hown7
  subst e7
  have HKS := Lib.hid ((HW2.out.mono (T := fun i => vB.ownBlock = some i) (fun _ h => h.elim)).grown hgr7 (fun k hk _ => hk))
  have HO7 := Lib.hid hown7
  have HO8 := Lib.hid (own_of HO6.out (fun g hg => hgr7.block g (own_cells HO6.out hg).2.1 (fun e => by
    have h1 := HF5.out g hg
    have h2 := (own_cells HOB.out e.symm).2.1
    omega)))
  have HA7 := Lib.hid (show ∀ g, (Value.slice A7 (T + 1) c7).ownBlock = some g → vB.ownBlock = some g ∨ w.heap.size ≤ g from fun g hg => by
    rcases hat7 with h | h
    · exact .inl (h ▸ hg)
    · rw [h] at hg; cases hg; exact .inr HW2.out.size)
  clear hown7 hgr7 hat7 HNb HG1 HO6
  refine hK.out _ _ (fun _ => ?_) (fun hHeld2 => ?_)
  · exact HKS.out
  clear hK KK hHeld
  have hHeld := hHeld2 (by decide)
  clear hHeld2
  try simp only [Act.put, List.setIfInBounds_toArray, List.set_cons_zero, List.set_cons_succ]
  refine anyE_ready (i := 8) (o := ⟨some 5, _, _, _, _, _⟩) (by kernel_rfl) rfl (fun KK hK => ?_)
  go_simp
  refine hK.out _ _ (fun h => absurd rfl h) (fun _ => ?_)
  clear hK KK hHeld
  try simp only [Act.put, List.setIfInBounds_toArray, List.set_cons_zero, List.set_cons_succ]
  refine anyE_done (by kernel_rfl) ?_ _
  have hp7 := HKS.out.blk HP.out HNQ.out
  have p0 := hp7.cell (i := 0) rfl
  have f0 := hp7.frozen 0
  have hfin := Wd.add HH.out HKS.out (by rw [HTT.out]; exact HO7.out) (by rw [HN.out]; exact HO8.out) HA7.out HF5.out
  have HFI := Lib.hid hfin
  clear hfin hp7
  go_wp2_with fail
  refine (wtime_any _ HFI.out.1 (by simp; have := HTT.out; omega)).mono ?_; rintro e w8 ⟨rfl, rfl⟩
  go_wp2
  go_ret
  exact ⟨by first | rfl | simp [HTT.out], HFI.out⟩

set_option maxRecDepth 100000 in
set_option maxHeartbeats 4000000 in
theorem wrelease_any {q B : Nat} {Z : Nat → Prop} {bs : List (List Wri)} {fl : Nat} {sv : List Sp} (w : World) (h : WdS w q B Z bs fl sv) (hs : sv.length ≤ 1000) (t j : Int) :
    Calls Try.prog 14 #[.pointer (some ⟨q, 0, none⟩), .int .i64 t, .int .i64 j] w fun e w' => e = .returned (.tuple #[]) ∧ WdS w' q B (fun i => Z i ∨ (w.heap.size ≤ i ∧ i < w'.heap.size)) bs fl (delS t j sv) ∧ Kept Z w w' := by
  have con := wsnap_any w h (by omega) t j
  obtain ⟨iw, hi3, hj3, hk3, hl3⟩ := info_parts Try.info69
  have HI3 := Lib.hid hi3
  have HJ3 := Lib.hid hj3
  have HK3 := Lib.hid hk3
  have HL3 := Lib.hid hl3
  have HDD := Lib.hid h
  obtain ⟨vB, vS, vals, h⟩ := h
  have HH := Lib.hid h
  have HP := Lib.hid h.p
  have HBW := Lib.hid (show B ≤ w.heap.size by have := h.z q h.zq; omega)
  obtain ⟨n, hns⟩ : ∃ ns, sv.length = ns := ⟨_, rfl⟩
  have HNS := Lib.hid hns
  cases hix : ixS t j sv with
  | none =>
    have hdel : delS t j sv = sv := by unfold delS; rw [hix]
    have HDEL := Lib.hid hdel
    rw [hix] at con
    have e1 : ixV none = -1 := rfl
    rw [e1] at con
    clear hi3 hj3 hk3 hl3 h hns hdel hix e1
    go_enter Try.func14, Try.ntmps14
    go_wp2_with fail
    refine con.mono ?_; rintro e w1 ⟨rfl, rfl⟩
    go_wp2
    refine bodyPost_ret (results_none rfl _ _ _) rfl ?_
    exact ⟨by first | rfl | simp, by rw [HDEL.out]; exact HDD.out.mono (fun i hi => .inl hi) (fun i hi => hi.elim HDD.out.lt (fun h => absurd h.2 (by omega))), Kept.refl _ _⟩
  | some i =>
    have hin := ixS_lt hix
    rw [hns] at hin hs
    have hdel : delS t j sv = sv.take i ++ sv.drop (i + 1) := by unfold delS; rw [hix]
    have hos := h.s
    obtain ⟨g, cap, cur, eS, hg1, hg2, hg3, hg4, _⟩ : ∃ g cap cur, vS = .slice (some ⟨g, 0, none⟩) sv.length cap ∧ B ≤ g ∧ w.heap[g]? = some (.cells cur 69 (0, 0)) ∧ sv.length ≤ cap ∧ cap ≤ maxLen ∧ True := by
      rcases hos.2 with ⟨_, h0⟩ | ⟨g, cap, cur, h1, h2, h3, h4, h5, _⟩
      · omega
      · exact ⟨g, cap, cur, h1, h2, h3, h4, h5, trivial⟩
    rw [hns] at eS hg3
    have HRS := Lib.hid (show RSn w (some ⟨g, 0, none⟩) cap sv by
      obtain ⟨A9, c9, h1, _, h3⟩ := RSn.ofOwn hos
      rw [eS] at h1
      cases h1; exact h3)
    rw [hix] at con
    have e1 : ixV (some i) = (i : Int) := rfl
    rw [e1] at con
    have hiw : IntKind.i64.wrap ((i : Int) + 1) = (i : Int) + 1 := by rw [IntKind.wrap_i64]; omega
    unfold maxLen at hg4
    have HDEL := Lib.hid hdel
    have HES := Lib.hid eS
    have hin1 : (i : Int) < (n : Int) := by omega
    have hcap1 : (i : Int) ≤ (cap : Int) := by omega
    have hcap2 : (n : Int) ≤ (cap : Int) := by omega
    clear hi3 hj3 hk3 hl3 h hns hdel hix e1 hos hg1 hg2
    rw [eS] at HP
    clear eS
    go_enter Try.func14, Try.ntmps14
    go_wp2_with fail
    refine con.mono ?_; rintro e w1 ⟨rfl, rfl⟩
    clear con
    go_upto_region 2 with fail
    have hdel := HDEL.out
    by_cases hcap : cap = i + 1
    · have hn1 : n = i + 1 := by omega
      refine region_E 18 (fun w' => Kept (fun _ => False) w w') (by kernel_rfl) ?_ (fun hHeld => ?_)
      · exact (Kept.refl (fun _ => False) _).drew
      have HW := Lib.hid ((Kept.refl (fun _ => False) w).drew)
      generalize w.drew = G at *
      refine anyE_take (i := 0) (oi := ⟨some 15, _, _, _, _, _⟩) (v := ?_) rfl (by kernel_rfl) (by kernel_rfl) (by kernel_rfl) (by kernel_rfl) (fun _ _ _ h => h) (Or.inl ⟨by rfl, ?_⟩) hHeld ?_
      rotate_left
      · (intro wq hSw; go_simp; try with_reducible rfl)
      try simp only [Act.put, List.setIfInBounds_toArray, List.set_cons_zero, List.set_cons_succ]
      refine anyE_take (i := 1) (oi := ⟨some 16, _, _, _, _, _⟩) (v := ?_) rfl (by kernel_rfl) (by kernel_rfl) (by kernel_rfl) (by kernel_rfl) (fun _ _ _ h => h) (Or.inl ⟨by rfl, ?_⟩) hHeld ?_
      rotate_left
      · (intro wq hSw; go_simp; try with_reducible rfl)
      try simp only [Act.put, List.setIfInBounds_toArray, List.set_cons_zero, List.set_cons_succ]
      refine anyE_take (i := 2) (oi := ⟨some 17, _, _, _, _, _⟩) (v := ?_) rfl (by kernel_rfl) (by kernel_rfl) (by kernel_rfl) (by kernel_rfl) (fun _ _ _ h => h) (Or.inl ⟨by rfl, ?_⟩) hHeld ?_
      rotate_left
      · (intro wq hSw; go_simp; try with_reducible rfl)
      try simp only [Act.put, List.setIfInBounds_toArray, List.set_cons_zero, List.set_cons_succ]
      refine anyE_take (i := 3) (oi := ⟨some 18, _, _, _, _, _⟩) (v := ?_) rfl (by kernel_rfl) (by kernel_rfl) (by kernel_rfl) (by kernel_rfl) (fun _ _ _ h => h) (Or.inl ⟨by rfl, ?_⟩) hHeld ?_
      rotate_left
      · (intro wq hSw; go_simp; try with_reducible rfl)
      try simp only [Act.put, List.setIfInBounds_toArray, List.set_cons_zero, List.set_cons_succ]
      refine anyE_take (i := 4) (oi := ⟨some 19, _, _, _, _, _⟩) (v := ?_) rfl (by kernel_rfl) (by kernel_rfl) (by kernel_rfl) (by kernel_rfl) (fun _ _ _ h => h) (Or.inl ⟨by rfl, ?_⟩) hHeld ?_
      rotate_left
      · (intro wq hSw; have hb9 := hSw.blk HP.out (fun h => h); have p2 := hb9.cell (i := 2) rfl; clear hb9; go_simp; try with_reducible rfl)
      try simp only [Act.put, List.setIfInBounds_toArray, List.set_cons_zero, List.set_cons_succ]
      refine anyE_take (i := 5) (oi := ⟨some 20, _, _, _, _, _⟩) (v := ?_) rfl (by kernel_rfl) (by kernel_rfl) (by kernel_rfl) (by kernel_rfl) (fun _ _ _ h => h) (Or.inl ⟨by rfl, ?_⟩) hHeld ?_
      rotate_left
      · (intro wq hSw; go_simp; try with_reducible rfl)
      try simp only [Act.put, List.setIfInBounds_toArray, List.set_cons_zero, List.set_cons_succ]
      refine anyE_take (i := 6) (oi := ⟨some 21, _, _, _, _, _⟩) (v := .slice (some ⟨g, 0, none⟩) i cap) rfl (by kernel_rfl) (by kernel_rfl) (by kernel_rfl) (by kernel_rfl) (fun _ _ _ h => h) (Or.inl ⟨by rfl, ?_⟩) hHeld ?_
      · (intro wq hSw; go_simp; try first | (with_reducible rfl) | (simp; omega) | (intros; omega) | simp [*])
      try simp only [Act.put, List.setIfInBounds_toArray, List.set_cons_zero, List.set_cons_succ]
      refine anyE_take (i := 8) (oi := ⟨some 23, _, _, _, _, _⟩) (v := ?_) rfl (by kernel_rfl) (by kernel_rfl) (by kernel_rfl) (by kernel_rfl) (fun _ _ _ h => h) (Or.inl ⟨by rfl, ?_⟩) hHeld ?_
      rotate_left
      · (intro wq hSw; go_simp; try with_reducible rfl)
      try simp only [Act.put, List.setIfInBounds_toArray, List.set_cons_zero, List.set_cons_succ]
      refine anyE_take (i := 9) (oi := ⟨some 24, _, _, _, _, _⟩) (v := ?_) rfl (by kernel_rfl) (by kernel_rfl) (by kernel_rfl) (by kernel_rfl) (fun _ _ _ h => h) (Or.inl ⟨by rfl, ?_⟩) hHeld ?_
      rotate_left
      · (intro wq hSw; go_simp; try with_reducible rfl)
      try simp only [Act.put, List.setIfInBounds_toArray, List.set_cons_zero, List.set_cons_succ]
      refine anyE_take (i := 10) (oi := ⟨some 25, _, _, _, _, _⟩) (v := ?_) rfl (by kernel_rfl) (by kernel_rfl) (by kernel_rfl) (by kernel_rfl) (fun _ _ _ h => h) (Or.inl ⟨by rfl, ?_⟩) hHeld ?_
      rotate_left
      · (intro wq hSw; go_simp; try with_reducible rfl)
      try simp only [Act.put, List.setIfInBounds_toArray, List.set_cons_zero, List.set_cons_succ]
      refine anyE_take (i := 11) (oi := ⟨some 26, _, _, _, _, _⟩) (v := ?_) rfl (by kernel_rfl) (by kernel_rfl) (by kernel_rfl) (by kernel_rfl) (fun _ _ _ h => h) (Or.inl ⟨by rfl, ?_⟩) hHeld ?_
      rotate_left
      · (intro wq hSw; have hb9 := hSw.blk HP.out (fun h => h); have p2 := hb9.cell (i := 2) rfl; clear hb9; go_simp; try with_reducible rfl)
      try simp only [Act.put, List.setIfInBounds_toArray, List.set_cons_zero, List.set_cons_succ]
      refine anyE_take (i := 12) (oi := ⟨some 27, _, _, _, _, _⟩) (v := ?_) rfl (by kernel_rfl) (by kernel_rfl) (by kernel_rfl) (by kernel_rfl) (fun _ _ _ h => h) (Or.inl ⟨by rfl, ?_⟩) hHeld ?_
      rotate_left
      · (intro wq hSw; go_simp; try with_reducible rfl)
      try simp only [Act.put, List.setIfInBounds_toArray, List.set_cons_zero, List.set_cons_succ]
      refine anyE_take (i := 13) (oi := ⟨some 28, _, _, _, _, _⟩) (v := .int .i64 ((i + 1 : Nat) : Int)) rfl (by kernel_rfl) (by kernel_rfl) (by kernel_rfl) (by kernel_rfl) (fun _ _ _ h => h) (Or.inl ⟨by rfl, ?_⟩) hHeld ?_
      · (intro wq hSw; go_simp; try first | (with_reducible rfl) | (simp; omega) | (intros; omega) | simp [*])
      try simp only [Act.put, List.setIfInBounds_toArray, List.set_cons_zero, List.set_cons_succ]
      refine anyE_take (i := 14) (oi := ⟨some 29, _, _, _, _, _⟩) (v := .slice (some ⟨g, 0, none⟩) (n - (i + 1)) (cap - (i + 1))) rfl (by kernel_rfl) (by kernel_rfl) (by kernel_rfl) (by kernel_rfl) (fun _ _ _ h => h) (Or.inl ⟨by rfl, ?_⟩) hHeld ?_
      · (intro wq hSw; go_simp; try first | (with_reducible rfl) | (simp; omega) | (intros; omega) | simp [*])
      try simp only [Act.put, List.setIfInBounds_toArray, List.set_cons_zero, List.set_cons_succ]
      refine anyE_ready (i := 7) (o := ⟨some 22, _, _, _, _, _⟩) (by kernel_rfl) rfl (fun KK hK => ?_)
      refine step_app _ (by rfl) (.const (.slice none 0 0)) (.tmp 21) 28 (by rfl) B 69 iw _ 3 24 Try.underlying28 HI3.out HJ3.out HK3.out HL3.out rfl (by decide) (.slice none 0 0) 0 [] (by rfl) (World.ownsRow_nil _ _ _ _) (some ⟨g, 0, none⟩) i cap (flatN (sv.take i)) (by rfl) (by rw [flatN_length, List.length_take, HNS.out]; omega) (fun e => by cases e) (fun ad hA j u hu => RSn.news ((HRS.out.keptB HW.out).take i) hA hu) (flatN_one _) (by unfold maxLen; omega) (by omega) (by have := HW.out.size; have := HBW.out; omega) ?_
      intro v7 G1 hown7 hgr7 hat7
      have HW1 := Lib.hid (HW.out.grown hgr7 (fun k hk _ => by cases hk))
      have HO7 := Lib.hid (show G1.ownsRow B 69 3 v7 i (flatN (sv.take i)) from by simpa using hown7)
      have HF7 := Lib.hid (show ∀ g, v7.ownBlock = some g → w.heap.size ≤ g from fun g hg => by
        rcases hat7 with h | h
        · rw [h] at hg; cases hg
        · rw [h] at hg; cases hg; exact HW.out.size)
      clear hown7 hgr7 hat7 HW
      refine hK.out _ _ (fun _ => ?_) (fun hHeld2 => ?_)
      · exact HW1.out
      clear hK KK hHeld
      have hHeld := hHeld2 (by decide)
      clear hHeld2
      try simp only [Act.put, List.setIfInBounds_toArray, List.set_cons_zero, List.set_cons_succ]
      refine anyE_ready (i := 15) (o := ⟨some 30, _, _, _, _, _⟩) (by kernel_rfl) rfl (fun KK hK => ?_)
      refine step_app _ (by rfl) (.tmp 22) (.tmp 29) 28 (by rfl) B 69 iw _ 3 24 Try.underlying28 HI3.out HJ3.out HK3.out HL3.out rfl (by decide) v7 i (flatN (sv.take i)) (by rfl) HO7.out (some ⟨g, 0, none⟩) (n - (i + 1)) (cap - (i + 1)) (flatN (sv.drop (i + 1))) (by rfl) (by rw [flatN_length, List.length_drop, HNS.out]) (fun e => by cases e) (fun ad hA j u hu => RSn.news (RSn.dropAt (HRS.out.keptB HW1.out) (i + 1) (by have := HNS.out; omega) (A' := some ⟨g, 0, none⟩) (by rw [if_pos (by omega)])) hA hu) (flatN_one _) (by unfold maxLen; omega) (by omega) (by have := HW1.out.size; have := HBW.out; omega) ?_
      intro v8 w7 hown8 hgr8 hat8
      obtain ⟨nt, hnt⟩ : ∃ nt, i + (n - (i + 1)) = nt := ⟨_, rfl⟩
      rw [hnt] at hown8
      have HNT := Lib.hid hnt
      clear hnt
      obtain ⟨A8, c8, e8⟩ := own_slice hown8
      subst e8
      have HKS := Lib.hid (show Kept (fun _ => False) w w7 from HW1.out.grown hgr8 (fun k hk hlt => absurd (HF7.out k hk) (by omega)))
      have HO8 := Lib.hid (show w7.ownsRow B 69 3 (.slice A8 nt c8) nt (flatN (sv.take i ++ sv.drop (i + 1))) from by rw [flatN_append]; exact hown8)
      have HA8 := Lib.hid (show ∀ g, (Value.slice A8 nt c8).ownBlock = some g → vS.ownBlock = some g ∨ w.heap.size ≤ g from fun g hg => by
        rcases hat8 with h | h
        · exact .inr (HF7.out g (h ▸ hg))
        · rw [h] at hg; cases hg; exact .inr HW1.out.size)
      have hp7 := HKS.out.blk HP.out (fun h => h)
      have p2 := hp7.cell (i := 2) rfl
      have f2 := hp7.frozen 2
      clear hown8 hgr8 hat8 hp7
      refine hK.out _ _ (fun _ => ?_) (fun hHeld2 => ?_)
      · exact HKS.out
      clear hK KK hHeld
      have hHeld := hHeld2 (by decide)
      clear hHeld2
      try simp only [Act.put, List.setIfInBounds_toArray, List.set_cons_zero, List.set_cons_succ]
      refine anyE_ready (i := 16) (o := ⟨some 31, _, _, _, _, _⟩) (by kernel_rfl) rfl (fun KK hK => ?_)
      go_simp
      refine hK.out _ _ (fun _ => ?_) (fun hHeld2 => ?_)
      · exact HKS.out
      clear hK KK hHeld
      have hHeld := hHeld2 (by decide)
      clear hHeld2
      try simp only [Act.put, List.setIfInBounds_toArray, List.set_cons_zero, List.set_cons_succ]
      refine anyE_take (i := 17) (oi := ⟨some 32, _, _, _, _, _⟩) (v := ?_) rfl (by kernel_rfl) (by kernel_rfl) (by kernel_rfl) (by kernel_rfl) (fun _ _ _ h => h) (Or.inl ⟨by rfl, ?_⟩) hHeld ?_
      rotate_left
      · (intro wq hSw; go_simp; try with_reducible rfl)
      try simp only [Act.put, List.setIfInBounds_toArray, List.set_cons_zero, List.set_cons_succ]
      refine anyE_ready (i := 18) (o := ⟨none, _, _, _, _, _⟩) (by kernel_rfl) rfl (fun KK hK => ?_)
      go_simp
      refine hK.out _ _ (fun h => absurd rfl h) (fun _ => ?_)
      clear hK KK hHeld
      refine anyE_done (by kernel_rfl) ?_ _
      have hfin := Wd.snaps HH.out (HKS.out.mono (fun _ h => h.elim)) (sv' := sv.take i ++ sv.drop (i + 1)) (by rw [List.length_append, List.length_take, List.length_drop, HNS.out, show min i n = i by omega, HNT.out]; exact HO8.out) HA8.out
      have HFI := Lib.hid hfin
      clear hfin p2 f2
      obtain ⟨w8, hw8⟩ : ∃ w8, w7.setCell ⟨q, 2, none⟩ (.slice A8 nt c8) = w8 := ⟨_, rfl⟩
      rw [hw8] at HFI ⊢
      clear hw8
      have HWD := Lib.hid HFI.out.1
      obtain ⟨vB2, vS2, vals2, h2⟩ := HWD.out
      have HP2 := Lib.hid h2.p
      have c3 := h2.p.cell (i := 3) rfl
      have f3 := h2.p.frozen 3
      clear h2
      go_wp2_with fail
      go_loopw [7, 8] (fun o i wr => o = .slice none 0 0 ∧ i = .int .i64 0 ∧ w8 = wr) (fun _ _ _ => 0)
      case atStart => exact ⟨rfl, rfl, rfl⟩
      case round =>
        obtain ⟨rfl, rfl, rfl⟩ := hrel
        go_wp2
        go_end0
        refine ⟨by first | rfl | simp, ?_, ?_⟩
        · have hs8 : (w8.setCell ⟨q, 3, none⟩ (.slice none 0 0)).heap.size = w8.heap.size := by simp [World.setCell]
          rw [hdel, hs8]
          exact HWD.out.setC
        · exact HFI.out.2.trans (HWD.out.setCKept) (fun i hi h => h.elim id (fun h => absurd hi (by omega)))
    · refine region_E 18 (fun w' => Kept (fun _ => False) w w') (by kernel_rfl) ?_ (fun hHeld => ?_)
      · exact (Kept.refl (fun _ => False) _).drew
      have HW := Lib.hid ((Kept.refl (fun _ => False) w).drew)
      generalize w.drew = G at *
      refine anyE_take (i := 0) (oi := ⟨some 15, _, _, _, _, _⟩) (v := ?_) rfl (by kernel_rfl) (by kernel_rfl) (by kernel_rfl) (by kernel_rfl) (fun _ _ _ h => h) (Or.inl ⟨by rfl, ?_⟩) hHeld ?_
      rotate_left
      · (intro wq hSw; go_simp; try with_reducible rfl)
      try simp only [Act.put, List.setIfInBounds_toArray, List.set_cons_zero, List.set_cons_succ]
      refine anyE_take (i := 1) (oi := ⟨some 16, _, _, _, _, _⟩) (v := ?_) rfl (by kernel_rfl) (by kernel_rfl) (by kernel_rfl) (by kernel_rfl) (fun _ _ _ h => h) (Or.inl ⟨by rfl, ?_⟩) hHeld ?_
      rotate_left
      · (intro wq hSw; go_simp; try with_reducible rfl)
      try simp only [Act.put, List.setIfInBounds_toArray, List.set_cons_zero, List.set_cons_succ]
      refine anyE_take (i := 2) (oi := ⟨some 17, _, _, _, _, _⟩) (v := ?_) rfl (by kernel_rfl) (by kernel_rfl) (by kernel_rfl) (by kernel_rfl) (fun _ _ _ h => h) (Or.inl ⟨by rfl, ?_⟩) hHeld ?_
      rotate_left
      · (intro wq hSw; go_simp; try with_reducible rfl)
      try simp only [Act.put, List.setIfInBounds_toArray, List.set_cons_zero, List.set_cons_succ]
      refine anyE_take (i := 3) (oi := ⟨some 18, _, _, _, _, _⟩) (v := ?_) rfl (by kernel_rfl) (by kernel_rfl) (by kernel_rfl) (by kernel_rfl) (fun _ _ _ h => h) (Or.inl ⟨by rfl, ?_⟩) hHeld ?_
      rotate_left
      · (intro wq hSw; go_simp; try with_reducible rfl)
      try simp only [Act.put, List.setIfInBounds_toArray, List.set_cons_zero, List.set_cons_succ]
      refine anyE_take (i := 4) (oi := ⟨some 19, _, _, _, _, _⟩) (v := ?_) rfl (by kernel_rfl) (by kernel_rfl) (by kernel_rfl) (by kernel_rfl) (fun _ _ _ h => h) (Or.inl ⟨by rfl, ?_⟩) hHeld ?_
      rotate_left
      · (intro wq hSw; have hb9 := hSw.blk HP.out (fun h => h); have p2 := hb9.cell (i := 2) rfl; clear hb9; go_simp; try with_reducible rfl)
      try simp only [Act.put, List.setIfInBounds_toArray, List.set_cons_zero, List.set_cons_succ]
      refine anyE_take (i := 5) (oi := ⟨some 20, _, _, _, _, _⟩) (v := ?_) rfl (by kernel_rfl) (by kernel_rfl) (by kernel_rfl) (by kernel_rfl) (fun _ _ _ h => h) (Or.inl ⟨by rfl, ?_⟩) hHeld ?_
      rotate_left
      · (intro wq hSw; go_simp; try with_reducible rfl)
      try simp only [Act.put, List.setIfInBounds_toArray, List.set_cons_zero, List.set_cons_succ]
      refine anyE_take (i := 6) (oi := ⟨some 21, _, _, _, _, _⟩) (v := .slice (some ⟨g, 0, none⟩) i cap) rfl (by kernel_rfl) (by kernel_rfl) (by kernel_rfl) (by kernel_rfl) (fun _ _ _ h => h) (Or.inl ⟨by rfl, ?_⟩) hHeld ?_
      · (intro wq hSw; go_simp; try first | (with_reducible rfl) | (simp; omega) | (intros; omega) | simp [*])
      try simp only [Act.put, List.setIfInBounds_toArray, List.set_cons_zero, List.set_cons_succ]
      refine anyE_take (i := 8) (oi := ⟨some 23, _, _, _, _, _⟩) (v := ?_) rfl (by kernel_rfl) (by kernel_rfl) (by kernel_rfl) (by kernel_rfl) (fun _ _ _ h => h) (Or.inl ⟨by rfl, ?_⟩) hHeld ?_
      rotate_left
      · (intro wq hSw; go_simp; try with_reducible rfl)
      try simp only [Act.put, List.setIfInBounds_toArray, List.set_cons_zero, List.set_cons_succ]
      refine anyE_take (i := 9) (oi := ⟨some 24, _, _, _, _, _⟩) (v := ?_) rfl (by kernel_rfl) (by kernel_rfl) (by kernel_rfl) (by kernel_rfl) (fun _ _ _ h => h) (Or.inl ⟨by rfl, ?_⟩) hHeld ?_
      rotate_left
      · (intro wq hSw; go_simp; try with_reducible rfl)
      try simp only [Act.put, List.setIfInBounds_toArray, List.set_cons_zero, List.set_cons_succ]
      refine anyE_take (i := 10) (oi := ⟨some 25, _, _, _, _, _⟩) (v := ?_) rfl (by kernel_rfl) (by kernel_rfl) (by kernel_rfl) (by kernel_rfl) (fun _ _ _ h => h) (Or.inl ⟨by rfl, ?_⟩) hHeld ?_
      rotate_left
      · (intro wq hSw; go_simp; try with_reducible rfl)
      try simp only [Act.put, List.setIfInBounds_toArray, List.set_cons_zero, List.set_cons_succ]
      refine anyE_take (i := 11) (oi := ⟨some 26, _, _, _, _, _⟩) (v := ?_) rfl (by kernel_rfl) (by kernel_rfl) (by kernel_rfl) (by kernel_rfl) (fun _ _ _ h => h) (Or.inl ⟨by rfl, ?_⟩) hHeld ?_
      rotate_left
      · (intro wq hSw; have hb9 := hSw.blk HP.out (fun h => h); have p2 := hb9.cell (i := 2) rfl; clear hb9; go_simp; try with_reducible rfl)
      try simp only [Act.put, List.setIfInBounds_toArray, List.set_cons_zero, List.set_cons_succ]
      refine anyE_take (i := 12) (oi := ⟨some 27, _, _, _, _, _⟩) (v := ?_) rfl (by kernel_rfl) (by kernel_rfl) (by kernel_rfl) (by kernel_rfl) (fun _ _ _ h => h) (Or.inl ⟨by rfl, ?_⟩) hHeld ?_
      rotate_left
      · (intro wq hSw; go_simp; try with_reducible rfl)
      try simp only [Act.put, List.setIfInBounds_toArray, List.set_cons_zero, List.set_cons_succ]
      refine anyE_take (i := 13) (oi := ⟨some 28, _, _, _, _, _⟩) (v := .int .i64 ((i + 1 : Nat) : Int)) rfl (by kernel_rfl) (by kernel_rfl) (by kernel_rfl) (by kernel_rfl) (fun _ _ _ h => h) (Or.inl ⟨by rfl, ?_⟩) hHeld ?_
      · (intro wq hSw; go_simp; try first | (with_reducible rfl) | (simp; omega) | (intros; omega) | simp [*])
      try simp only [Act.put, List.setIfInBounds_toArray, List.set_cons_zero, List.set_cons_succ]
      refine anyE_take (i := 14) (oi := ⟨some 29, _, _, _, _, _⟩) (v := .slice (some ⟨g, (i + 1) * 3, none⟩) (n - (i + 1)) (cap - (i + 1))) rfl (by kernel_rfl) (by kernel_rfl) (by kernel_rfl) (by kernel_rfl) (fun _ _ _ h => h) (Or.inl ⟨by rfl, ?_⟩) hHeld ?_
      · (intro wq hSw; go_simp; try first | (with_reducible rfl) | (simp; omega) | (intros; omega) | simp [*])
      try simp only [Act.put, List.setIfInBounds_toArray, List.set_cons_zero, List.set_cons_succ]
      refine anyE_ready (i := 7) (o := ⟨some 22, _, _, _, _, _⟩) (by kernel_rfl) rfl (fun KK hK => ?_)
      refine step_app _ (by rfl) (.const (.slice none 0 0)) (.tmp 21) 28 (by rfl) B 69 iw _ 3 24 Try.underlying28 HI3.out HJ3.out HK3.out HL3.out rfl (by decide) (.slice none 0 0) 0 [] (by rfl) (World.ownsRow_nil _ _ _ _) (some ⟨g, 0, none⟩) i cap (flatN (sv.take i)) (by rfl) (by rw [flatN_length, List.length_take, HNS.out]; omega) (fun e => by cases e) (fun ad hA j u hu => RSn.news ((HRS.out.keptB HW.out).take i) hA hu) (flatN_one _) (by unfold maxLen; omega) (by omega) (by have := HW.out.size; have := HBW.out; omega) ?_
      intro v7 G1 hown7 hgr7 hat7
      have HW1 := Lib.hid (HW.out.grown hgr7 (fun k hk _ => by cases hk))
      have HO7 := Lib.hid (show G1.ownsRow B 69 3 v7 i (flatN (sv.take i)) from by simpa using hown7)
      have HF7 := Lib.hid (show ∀ g, v7.ownBlock = some g → w.heap.size ≤ g from fun g hg => by
        rcases hat7 with h | h
        · rw [h] at hg; cases hg
        · rw [h] at hg; cases hg; exact HW.out.size)
      clear hown7 hgr7 hat7 HW
      refine hK.out _ _ (fun _ => ?_) (fun hHeld2 => ?_)
      · exact HW1.out
      clear hK KK hHeld
      have hHeld := hHeld2 (by decide)
      clear hHeld2
      try simp only [Act.put, List.setIfInBounds_toArray, List.set_cons_zero, List.set_cons_succ]
      refine anyE_ready (i := 15) (o := ⟨some 30, _, _, _, _, _⟩) (by kernel_rfl) rfl (fun KK hK => ?_)
      refine step_app _ (by rfl) (.tmp 22) (.tmp 29) 28 (by rfl) B 69 iw _ 3 24 Try.underlying28 HI3.out HJ3.out HK3.out HL3.out rfl (by decide) v7 i (flatN (sv.take i)) (by rfl) HO7.out (some ⟨g, (i + 1) * 3, none⟩) (n - (i + 1)) (cap - (i + 1)) (flatN (sv.drop (i + 1))) (by rfl) (by rw [flatN_length, List.length_drop, HNS.out]) (fun e => by cases e) (fun ad hA j u hu => RSn.news (RSn.dropAt (HRS.out.keptB HW1.out) (i + 1) (by have := HNS.out; omega) (A' := some ⟨g, (i + 1) * 3, none⟩) (by rw [if_neg (by omega)]; simp [Addr.add])) hA hu) (flatN_one _) (by unfold maxLen; omega) (by omega) (by have := HW1.out.size; have := HBW.out; omega) ?_
      intro v8 w7 hown8 hgr8 hat8
      obtain ⟨nt, hnt⟩ : ∃ nt, i + (n - (i + 1)) = nt := ⟨_, rfl⟩
      rw [hnt] at hown8
      have HNT := Lib.hid hnt
      clear hnt
      obtain ⟨A8, c8, e8⟩ := own_slice hown8
      subst e8
      have HKS := Lib.hid (show Kept (fun _ => False) w w7 from HW1.out.grown hgr8 (fun k hk hlt => absurd (HF7.out k hk) (by omega)))
      have HO8 := Lib.hid (show w7.ownsRow B 69 3 (.slice A8 nt c8) nt (flatN (sv.take i ++ sv.drop (i + 1))) from by rw [flatN_append]; exact hown8)
      have HA8 := Lib.hid (show ∀ g, (Value.slice A8 nt c8).ownBlock = some g → vS.ownBlock = some g ∨ w.heap.size ≤ g from fun g hg => by
        rcases hat8 with h | h
        · exact .inr (HF7.out g (h ▸ hg))
        · rw [h] at hg; cases hg; exact .inr HW1.out.size)
      have hp7 := HKS.out.blk HP.out (fun h => h)
      have p2 := hp7.cell (i := 2) rfl
      have f2 := hp7.frozen 2
      clear hown8 hgr8 hat8 hp7
      refine hK.out _ _ (fun _ => ?_) (fun hHeld2 => ?_)
      · exact HKS.out
      clear hK KK hHeld
      have hHeld := hHeld2 (by decide)
      clear hHeld2
      try simp only [Act.put, List.setIfInBounds_toArray, List.set_cons_zero, List.set_cons_succ]
      refine anyE_ready (i := 16) (o := ⟨some 31, _, _, _, _, _⟩) (by kernel_rfl) rfl (fun KK hK => ?_)
      go_simp
      refine hK.out _ _ (fun _ => ?_) (fun hHeld2 => ?_)
      · exact HKS.out
      clear hK KK hHeld
      have hHeld := hHeld2 (by decide)
      clear hHeld2
      try simp only [Act.put, List.setIfInBounds_toArray, List.set_cons_zero, List.set_cons_succ]
      refine anyE_take (i := 17) (oi := ⟨some 32, _, _, _, _, _⟩) (v := ?_) rfl (by kernel_rfl) (by kernel_rfl) (by kernel_rfl) (by kernel_rfl) (fun _ _ _ h => h) (Or.inl ⟨by rfl, ?_⟩) hHeld ?_
      rotate_left
      · (intro wq hSw; go_simp; try with_reducible rfl)
      try simp only [Act.put, List.setIfInBounds_toArray, List.set_cons_zero, List.set_cons_succ]
      refine anyE_ready (i := 18) (o := ⟨none, _, _, _, _, _⟩) (by kernel_rfl) rfl (fun KK hK => ?_)
      go_simp
      refine hK.out _ _ (fun h => absurd rfl h) (fun _ => ?_)
      clear hK KK hHeld
      refine anyE_done (by kernel_rfl) ?_ _
      have hfin := Wd.snaps HH.out (HKS.out.mono (fun _ h => h.elim)) (sv' := sv.take i ++ sv.drop (i + 1)) (by rw [List.length_append, List.length_take, List.length_drop, HNS.out, show min i n = i by omega, HNT.out]; exact HO8.out) HA8.out
      have HFI := Lib.hid hfin
      clear hfin p2 f2
      obtain ⟨w8, hw8⟩ : ∃ w8, w7.setCell ⟨q, 2, none⟩ (.slice A8 nt c8) = w8 := ⟨_, rfl⟩
      rw [hw8] at HFI ⊢
      clear hw8
      have HWD := Lib.hid HFI.out.1
      obtain ⟨vB2, vS2, vals2, h2⟩ := HWD.out
      have HP2 := Lib.hid h2.p
      have c3 := h2.p.cell (i := 3) rfl
      have f3 := h2.p.frozen 3
      clear h2
      go_wp2_with fail
      go_loopw [7, 8] (fun o i wr => o = .slice none 0 0 ∧ i = .int .i64 0 ∧ w8 = wr) (fun _ _ _ => 0)
      case atStart => exact ⟨rfl, rfl, rfl⟩
      case round =>
        obtain ⟨rfl, rfl, rfl⟩ := hrel
        go_wp2
        go_end0
        refine ⟨by first | rfl | simp, ?_, ?_⟩
        · have hs8 : (w8.setCell ⟨q, 3, none⟩ (.slice none 0 0)).heap.size = w8.heap.size := by simp [World.setCell]
          rw [hdel, hs8]
          exact HWD.out.setC
        · exact HFI.out.2.trans (HWD.out.setCKept) (fun i hi h => h.elim id (fun h => absurd hi (by omega)))

set_option maxRecDepth 100000 in
set_option maxHeartbeats 4000000 in
theorem wopen_any {q B : Nat} {Z : Nat → Prop} {bs : List (List Wri)} {fl : Nat} {sv : List Sp} (w0 : World) (h : WdS w0 q B Z bs fl sv) (hT : bs.length ≤ 100) (hs : sv.length ≤ 1000) (t j : Int) :
    Calls Try.prog 12 #[.pointer (some ⟨q, 0, none⟩), .int .i64 t, .int .i64 j] w0 fun e w' => e = .returned (.int .u64 (bs.length : Int)) ∧ WdS w' q B (fun i => Z i ∨ (w0.heap.size ≤ i ∧ i < w'.heap.size)) bs fl (delS t j sv ++ [(t, j, bs.length)]) ∧ Kept Z w0 w' := by
  obtain ⟨iw, hi3, hj3, hk3, hl3⟩ := info_parts Try.info69
  have HI3 := Lib.hid hi3
  have HJ3 := Lib.hid hj3
  have HK3 := Lib.hid hk3
  have HL3 := Lib.hid hl3
  have con := wrelease_any w0 h hs t j
  have HZB := Lib.hid (show B ≤ w0.heap.size by obtain ⟨_, _, _, hh⟩ := h; have := hh.z q hh.zq; omega)
  have HZW := Lib.hid (show ∀ i, Z i → i < w0.heap.size from fun i hi => (h.lt hi).2)
  obtain ⟨sv', hsv⟩ : ∃ sv', delS t j sv = sv' := ⟨_, rfl⟩
  have hs1 : sv'.length ≤ 1000 := by rw [← hsv]; exact Nat.le_trans (delS_len t j sv) hs
  rw [hsv] at con ⊢
  obtain ⟨T, hTT⟩ : ∃ T, bs.length = T := ⟨_, rfl⟩
  have HTT := Lib.hid hTT
  rw [hTT] at hT ⊢
  clear hi3 hj3 hk3 hl3 h hsv hs hTT
  go_enter Try.func12, Try.ntmps12
  go_wp2_with fail
  refine con.mono ?_; rintro e w ⟨rfl, hd, hk⟩
  clear con
  have HK0 := Lib.hid hk
  have HD := Lib.hid hd
  obtain ⟨Z0, hZ0⟩ : ∃ Z0 : Nat → Prop, (fun i => Z i ∨ (w0.heap.size ≤ i ∧ i < w.heap.size)) = Z0 := ⟨_, rfl⟩
  have HZ0 := Lib.hid hZ0
  rw [hZ0] at hd
  clear hk hZ0 HD
  obtain ⟨vB, vS, vals, h⟩ := hd
  have HH := Lib.hid h
  have HP := Lib.hid h.p
  have HNQ := Lib.hid (own_blk h.s h.p (by decide))
  have HBW := Lib.hid (show B ≤ w.heap.size by have := h.z q h.zq; omega)
  obtain ⟨ns, hns⟩ : ∃ ns, sv'.length = ns := ⟨_, rfl⟩
  have HOS := Lib.hid (show w.ownsRow B 69 3 vS ns (flatN sv') from hns ▸ h.s)
  have HNS := Lib.hid hns
  rw [hns] at hs1
  clear h hns
  go_upto_region 2 with fail
  refine region_E 11 (fun w' => Kept (fun i => vS.ownBlock = some i) w w') (by kernel_rfl) ?_ (fun hHeld => ?_)
  · exact ((Kept.refl (fun _ => False) _).drew).mono (fun _ h => h.elim)
  have HW := Lib.hid ((Kept.refl (fun _ => False) w).drew)
  generalize w.drew = G at *
  refine anyE_take (i := 0) (oi := ⟨some 12, _, _, _, _, _⟩) (v := ?_) rfl (by kernel_rfl) (by kernel_rfl) (by kernel_rfl) (by kernel_rfl) (fun _ _ _ h => h) (Or.inl ⟨by rfl, ?_⟩) hHeld ?_
  rotate_left
  · (intro wq hSw; go_simp; try with_reducible rfl)
  try simp only [Act.put, List.setIfInBounds_toArray, List.set_cons_zero, List.set_cons_succ]
  refine anyE_take (i := 1) (oi := ⟨some 13, _, _, _, _, _⟩) (v := ?_) rfl (by kernel_rfl) (by kernel_rfl) (by kernel_rfl) (by kernel_rfl) (fun _ _ _ h => h) (Or.inl ⟨by rfl, ?_⟩) hHeld ?_
  rotate_left
  · (intro wq hSw; go_simp; try with_reducible rfl)
  try simp only [Act.put, List.setIfInBounds_toArray, List.set_cons_zero, List.set_cons_succ]
  refine anyE_take (i := 2) (oi := ⟨some 14, _, _, _, _, _⟩) (v := ?_) rfl (by kernel_rfl) (by kernel_rfl) (by kernel_rfl) (by kernel_rfl) (fun _ _ _ h => h) (Or.inl ⟨by rfl, ?_⟩) hHeld ?_
  rotate_left
  · (intro wq hSw; go_simp; try with_reducible rfl)
  try simp only [Act.put, List.setIfInBounds_toArray, List.set_cons_zero, List.set_cons_succ]
  refine anyE_take (i := 3) (oi := ⟨some 15, _, _, _, _, _⟩) (v := ?_) rfl (by kernel_rfl) (by kernel_rfl) (by kernel_rfl) (by kernel_rfl) (fun _ _ _ h => h) (Or.inl ⟨by rfl, ?_⟩) hHeld ?_
  rotate_left
  · (intro wq hSw; have hb9 := hSw.blk HP.out HNQ.out; have p2 := hb9.cell (i := 2) rfl; clear hb9; go_simp; try with_reducible rfl)
  try simp only [Act.put, List.setIfInBounds_toArray, List.set_cons_zero, List.set_cons_succ]
  refine anyE_take (i := 4) (oi := ⟨some 16, _, _, _, _, _⟩) (v := ?_) rfl (by kernel_rfl) (by kernel_rfl) (by kernel_rfl) (by kernel_rfl) (fun _ _ _ h => h) (Or.inl ⟨by rfl, ?_⟩) hHeld ?_
  rotate_left
  · (intro wq hSw; go_simp; try with_reducible rfl)
  try simp only [Act.put, List.setIfInBounds_toArray, List.set_cons_zero, List.set_cons_succ]
  refine anyE_take (i := 5) (oi := ⟨some 17, _, _, _, _, _⟩) (v := ?_) rfl (by kernel_rfl) (by kernel_rfl) (by kernel_rfl) (by kernel_rfl) (fun _ _ _ h => h) (Or.inl ⟨by rfl, ?_⟩) hHeld ?_
  rotate_left
  · (intro wq hSw; go_simp; try with_reducible rfl)
  try simp only [Act.put, List.setIfInBounds_toArray, List.set_cons_zero, List.set_cons_succ]
  refine anyE_take (i := 6) (oi := ⟨some 18, _, _, _, _, _⟩) (v := ?_) rfl (by kernel_rfl) (by kernel_rfl) (by kernel_rfl) (by kernel_rfl) (fun _ _ _ h => h) (Or.inl ⟨by rfl, ?_⟩) hHeld ?_
  rotate_left
  · (intro wq hSw; go_simp; try with_reducible rfl)
  try simp only [Act.put, List.setIfInBounds_toArray, List.set_cons_zero, List.set_cons_succ]
  refine anyE_ready (i := 7) (o := ⟨some 19, _, _, _, _, _⟩) (by kernel_rfl) rfl (fun KK hK => ?_)
  go_simp
  go_at_call 15
  refine (wtime_any _ (show WdS G q B Z0 bs fl sv' from ⟨vB, vS, vals, HH.out.keep HW.out (fun _ _ h => h)⟩) (by have := HTT.out; omega)).mono ?_; rintro e G1 ⟨rfl, rfl⟩
  rw [HTT.out]
  refine hK.out _ _ (fun _ => ?_) (fun hHeld2 => ?_)
  · exact HW.out.mono (fun _ h => h.elim)
  clear hK KK hHeld
  have hHeld := hHeld2 (by decide)
  clear hHeld2
  try simp only [Act.put, List.setIfInBounds_toArray, List.set_cons_zero, List.set_cons_succ]
  refine anyE_take (i := 8) (oi := ⟨some 20, _, _, _, _, _⟩) (v := ?_) rfl (by kernel_rfl) (by kernel_rfl) (by kernel_rfl) (by kernel_rfl) (fun _ _ _ h => h) (Or.inl ⟨by rfl, ?_⟩) hHeld ?_
  rotate_left
  · (intro wq hSw; go_simp; try with_reducible rfl)
  try simp only [Act.put, List.setIfInBounds_toArray, List.set_cons_zero, List.set_cons_succ]
  refine anyE_ready (i := 9) (o := ⟨some 21, _, _, _, _, _⟩) (by kernel_rfl) rfl (fun KK hK => ?_)
  go_simp
  have HNb := Lib.hid (show (G.alloc (.cells #[.int .i64 t, .int .i64 j, .int .u64 (T : Int)] 69)).heap[G.heap.size]? = some (.cells #[.int .i64 t, .int .i64 j, .int .u64 (T : Int)] 69 (0, 0)) from Blk.new G [.int .i64 t, .int .i64 j, .int .u64 (T : Int)] 69)
  have hszG : (G.alloc (.cells #[.int .i64 t, .int .i64 j, .int .u64 (T : Int)] 69)).heap.size = G.heap.size + 1 := nblk_alloc _ _
  have HG1 := Lib.hid hszG
  have HW2 := Lib.hid (HW.out.alloc (.cells #[.int .i64 t, .int .i64 j, .int .u64 (T : Int)] 69))
  clear hszG HW
  generalize G.alloc (.cells #[.int .i64 t, .int .i64 j, .int .u64 (T : Int)] 69) = G2 at *
  refine hK.out _ _ (fun _ => ?_) (fun hHeld2 => ?_)
  · exact HW2.out.mono (fun _ h => h.elim)
  clear hK KK hHeld
  have hHeld := hHeld2 (by decide)
  clear hHeld2
  try simp only [Act.put, List.setIfInBounds_toArray, List.set_cons_zero, List.set_cons_succ]
  refine anyE_ready (i := 10) (o := ⟨some 22, _, _, _, _, _⟩) (by kernel_rfl) rfl (fun KK hK => ?_)
  refine step_app _ (by rfl) (.tmp 15) (.tmp 21) 28 (by rfl) B 69 iw _ 3 24 Try.underlying28 HI3.out HJ3.out HK3.out HL3.out rfl (by decide) vS ns (flatN sv') (by rfl) (own_of HOS.out (fun g hg => HW2.out.block g (own_cells HOS.out hg).2.1 (fun h => h))) (some ⟨G.heap.size, 0, none⟩) 1 1 (flatN [(t, j, T)]) (by rfl) rfl (fun e => by cases e) (fun ad hA j u hu => by cases hA; exact World.news_of_block HNb.out j u hu) (flatN_one [(t, j, T)]) (by unfold maxLen; omega) (by omega) (by have := HW2.out.size; have := HBW.out; omega) ?_
  intro v7 w7 hown7 hgr7 hat7
  obtain ⟨A7, c7, e7⟩ := own_slice hown7
  subst e7
  have HKS := Lib.hid ((HW2.out.mono (T := fun i => vS.ownBlock = some i) (fun _ h => h.elim)).grown hgr7 (fun k hk _ => hk))
  have HO7 := Lib.hid (show w7.ownsRow B 69 3 (.slice A7 (ns + 1) c7) (ns + 1) (flatN (sv' ++ [(t, j, T)])) from by rw [flatN_append]; exact hown7)
  have HA7 := Lib.hid (show ∀ g, (Value.slice A7 (ns + 1) c7).ownBlock = some g → vS.ownBlock = some g ∨ w.heap.size ≤ g from fun g hg => by
    rcases hat7 with h | h
    · exact .inl (h ▸ hg)
    · rw [h] at hg; cases hg; exact .inr HW2.out.size)
  clear hown7 hgr7 hat7 HNb HG1
  refine hK.out _ _ (fun _ => ?_) (fun hHeld2 => ?_)
  · exact HKS.out
  clear hK KK hHeld
  have hHeld := hHeld2 (by decide)
  clear hHeld2
  try simp only [Act.put, List.setIfInBounds_toArray, List.set_cons_zero, List.set_cons_succ]
  refine anyE_ready (i := 11) (o := ⟨some 7, _, _, _, _, _⟩) (by kernel_rfl) rfl (fun KK hK => ?_)
  go_simp
  refine hK.out _ _ (fun h => absurd rfl h) (fun _ => ?_)
  clear hK KK hHeld
  try simp only [Act.put, List.setIfInBounds_toArray, List.set_cons_zero, List.set_cons_succ]
  refine anyE_done (by kernel_rfl) ?_ _
  have hp7 := HKS.out.blk HP.out HNQ.out
  have p2 := hp7.cell (i := 2) rfl
  have f2 := hp7.frozen 2
  have hfin := Wd.snaps HH.out HKS.out (sv' := sv' ++ [(t, j, T)]) (by rw [List.length_append, HNS.out]; exact HO7.out) HA7.out
  have HFI := Lib.hid hfin
  clear hfin hp7
  go_wp2_with fail
  refine (wtime_any _ HFI.out.1 (by have := HTT.out; omega)).mono ?_; rintro e w8 ⟨rfl, rfl⟩
  go_wp2
  go_ret
  refine ⟨by first | rfl | simp [HTT.out], HFI.out.1.mono (fun i hi => ?_) (fun i hi => ?_), HK0.out.trans HFI.out.2 (fun i hi h => ?_)⟩
  · have h1 := HK0.out.size
    have h2 := HFI.out.2.size
    rcases hi with hi | hi
    · rw [← HZ0.out] at hi
      rcases hi with hi | hi
      · exact .inl hi
      · exact .inr ⟨hi.1, Nat.lt_of_lt_of_le hi.2 h2⟩
    · exact .inr ⟨Nat.le_trans h1 hi.1, hi.2⟩
  · have h1 := HK0.out.size
    have h2 := HFI.out.2.size
    rcases hi with hi | hi
    · exact HFI.out.1.lt (.inl (by rw [← HZ0.out]; exact .inl hi))
    · refine ⟨?_, hi.2⟩
      have h3 := HH.out.z q HH.out.zq
      have h4 := HZB.out
      omega
  · rw [← HZ0.out] at h
    rcases h with h | h
    · exact h
    · omega
end Go.Proofs.Ytodenkamlbihnaa
