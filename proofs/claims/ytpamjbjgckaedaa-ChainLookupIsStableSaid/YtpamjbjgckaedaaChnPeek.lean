/-
  What Peek of package chain returns for a chain that ends. Condition: a layout within its limits, at most Records versions.
-/
import Derived.Test.YtpamjbjgckaedaaChnSea
import Derived.Deep.AppendLies
namespace Go.Proofs.Ytpamjbjgckaedaa
open Go.RowKit Go.Deep Plain
set_option linter.unusedVariables false

def slLen : Value → Nat
  | .slice _ n _ => n
  | _ => 0
theorem cel_parts {l : List Cel} {i : Int} {n : Int} (h : (cellAt l i).1 = n) : cellAt l i = (n, (cellAt l i).2.1, (cellAt l i).2.2) := by rw [← h]
theorem del_one {M : Int} {d : Bool} (h : M = if d = true then 1 else 0) : ∃ m : Nat, M = (m : Int) ∧ (m == 1) = d := by
  cases d
  · exact ⟨0, by simpa using h, rfl⟩
  · exact ⟨1, by simpa using h, rfl⟩
theorem cfield4 (T S N C R F K : Int) (w : World) : (Instr.field 25 (.agg #[.int .i64 T, .int .i64 S, .int .i64 N, .int .i64 C, .int .i64 R, .int .i64 F, .int .u64 K]) 4).run Try.prog w = .ok (.int .i64 R) w := by kernel_rfl
theorem Below.kept2 {B : Nat} {w w' : World} (h : Below B w w') {S : Nat → Prop} (hS : ∀ i, B ≤ i → S i) : Kept S w w' := Below.kept h (fun i _ hi => hS i hi)
theorem below_drew {B : Nat} {w w' : World} (h : Below B w w') : Below B w w'.drew := h.drew
set_option maxRecDepth 100000 in
set_option maxHeartbeats 4000000 in
theorem chpeek_any (T S N C R F K fa fb fd : Int) (hl : Lim T S N C R F) (hd : Reach3 fa fb fd) (c : Nat) (w : World) (b g : Nat) (l : List Cel) (k : Nat) (hm : Mem w b g l k) (rs : List (Nat × Ve)) (n : Nat) (hn : rs.length = n) (hnR : (n : Int) ≤ R) (hN : (cellAt l (chainAt C fb (c : Int))).1 = (num rs 0 : Int)) (hL : Lnk R fd l rs (num rs 0)) (xs : List Ve) (hxs : rs.map (·.2) = xs) :
    Calls Try.prog 20 #[.agg #[.int .i64 T, .int .i64 S, .int .i64 N, .int .i64 C, .int .i64 R, .int .i64 F, .int .u64 K, .int .i64 fa, .int .i64 fb, .int .i64 fd], .pointer (some ⟨b, 0, none⟩), .int .u64 (c : Int)] w fun e w' => ∃ A c', e = .returned (.slice A n c') ∧ Rv w' A c' xs ∧ Below w.heap.size w w' ∧ (∀ a, A = some a → w.heap.size ≤ a.block) := by
  have hbw : b < w.heap.size := hm.obj.lt
  have hgw : g < w.heap.size := hm.row.lt
  have HL := Lib.hid hL
  have HXS := Lib.hid hxs
  have HNN := Lib.hid hN
  have HLEN := Lib.hid hn
  have hlen := hn
  obtain ⟨ad, had⟩ : ∃ ad, chainAt C fb (c : Int) = ad := ⟨_, rfl⟩
  have hc0 : cellAt l ad = ((num rs 0 : Int), (cellAt l ad).2.1, (cellAt l ad).2.2) := by rw [← had]; exact cel_parts hN
  obtain ⟨i0, hi0, hz0, hz1, hz2⟩ := info_parts Try.info51
  have HI0 := Lib.hid hi0
  have HI1 := Lib.hid hz0
  have HI2 := Lib.hid hz1
  have HI3 := Lib.hid hz2
  have HC0 := Lib.hid hc0
  have hfd0 := field0 ((num rs 0 : Nat) : Int) (cellAt l ad).2.2 (cellAt l ad).2.1
  have HM0 := Lib.hid (hm.alloc (.cells #[.int .i64 T, .int .i64 S, .int .i64 N, .int .i64 C, .int .i64 R, .int .i64 F, .int .u64 K, .int .i64 fa, .int .i64 fb, .int .i64 fd] 27))
  have HX0 := Lib.hid (Blk.new w [.int .i64 T, .int .i64 S, .int .i64 N, .int .i64 C, .int .i64 R, .int .i64 F, .int .u64 K, .int .i64 fa, .int .i64 fb, .int .i64 fd] 27)
  have hsz : (w.alloc (.cells #[.int .i64 T, .int .i64 S, .int .i64 N, .int .i64 C, .int .i64 R, .int .i64 F, .int .u64 K, .int .i64 fa, .int .i64 fb, .int .i64 fd] 27)).heap.size = w.heap.size + 1 := nblk_alloc _ _
  have HB0 := Lib.hid (Below.refl (w.heap.size + 1) (w.alloc (.cells #[.int .i64 T, .int .i64 S, .int .i64 N, .int .i64 C, .int .i64 R, .int .i64 F, .int .u64 K, .int .i64 fa, .int .i64 fb, .int .i64 fd] 27)))
  have hlim := hl.r2
  clear hi0 hz0 hz1 hz2 hL hN hn hc0 hxs
  go_enter Try.func20, Try.ntmps20
  go_wp2_with fail
  have HBW := Lib.hid (rfl : (w.alloc (.cells #[.int .i64 T, .int .i64 S, .int .i64 N, .int .i64 C, .int .i64 R, .int .i64 F, .int .u64 K, .int .i64 fa, .int .i64 fb, .int .i64 fd] 27)) = (w.alloc (.cells #[.int .i64 T, .int .i64 S, .int .i64 N, .int .i64 C, .int .i64 R, .int .i64 F, .int .u64 K, .int .i64 fa, .int .i64 fb, .int .i64 fd] 27)))
  generalize hWe : (w.alloc (.cells #[.int .i64 T, .int .i64 S, .int .i64 N, .int .i64 C, .int .i64 R, .int .i64 F, .int .u64 K, .int .i64 fa, .int .i64 fb, .int .i64 fd] 27)) = W at *
  replace HBW := Lib.hid hWe
  clear hWe
  refine (chain_to T S N C R F K fa fb fd hl hd (c : Int) ad had _).mono ?_; rintro e w1 ⟨rfl, hK1⟩
  have HM1 := Lib.hid (HM0.out.kept hK1 (fun h => h) (fun h => h))
  have HX1 := Lib.hid (hK1.blk HX0.out (fun h => h))
  have HB1 := Lib.hid (HB0.out.trans (hK1.below (B := w.heap.size + 1) (by omega) (fun _ h => h.elim)))
  have hs1 := hK1.size
  clear hK1 HM0 HX0 HB0
  go_wp2_with fail
  refine (peek_any b g l k ad (num rs 0 : Int) _ _ _ HM1.out HC0.out).mono ?_; rintro e w2 ⟨rfl, hK2⟩
  have HM2 := Lib.hid (HM1.out.kept hK2 (fun h => h) (fun h => h))
  have HX2 := Lib.hid (hK2.blk HX1.out (fun h => h))
  have HB2 := Lib.hid (HB1.out.trans (hK2.below (B := w.heap.size + 1) (by omega) (fun _ h => h.elim)))
  have hs2 := hK2.size
  clear hK2 HM1 HX1 HB1
  go_wp2_with fail
  go_loopw [7, 8] (fun v r wr => ∃ j : Nat, j ≤ n ∧ slLen v = j ∧ r = .int .u64 ((num rs j : Nat) : Int) ∧ Mem wr b g l k ∧ Blk wr w.heap.size 27 [.int .i64 T, .int .i64 S, .int .i64 N, .int .i64 C, .int .i64 R, .int .i64 F, .int .u64 K, .int .i64 fa, .int .i64 fb, .int .i64 fd] ∧ Below (w.heap.size + 1) W wr ∧ w.heap.size + 1 ≤ wr.heap.size ∧ wr.ownsRow (w.heap.size + 1) 51 3 v j (flatv (xs.take j))) (fun v r _ => n - slLen v)
  case atStart => exact ⟨0, Nat.zero_le _, rfl, rfl, HM2.out, HX2.out, HB2.out, by omega, World.ownsRow_nil _ _ _ _⟩
  case round =>
    obtain ⟨j, hj, hsl, rfl, hM, hX, hB, hsr, hO⟩ := hrel
    obtain ⟨A, c2, rfl, hlj, hR, hAb⟩ := Rv.own hO
    have HAB := Lib.hid hAb
    clear hAb
    have HMc := Lib.hid hM
    have HXc := Lib.hid hX
    have HBc := Lib.hid hB
    have HOc := Lib.hid hO
    have HR := Lib.hid hR
    clear hM hX hB hO hR hsl
    by_cases hlt : j < n
    · obtain ⟨rec, v, hx⟩ : ∃ rec v, rs[j]? = some (rec, v) := ⟨_, _, List.getElem?_eq_getElem (by omega)⟩
      have hrec := HL.out.recs j rec v hx
      have hnum : num rs j = rec := num_some hx
      have hxv : xs[j]? = some v := by rw [← HXS.out, List.getElem?_map, hx]; rfl
      have hlo := hrec.lo
      have hne : ((rec : Int) != 0) = true := by simp; omega
      have hjR : (j : Int) < R := by omega
      obtain ⟨a0, ha0⟩ : ∃ a, recAt R fd (rec : Int) 0 = a := ⟨_, rfl⟩
      obtain ⟨a1, ha1⟩ : ∃ a, recAt R fd (rec : Int) 1 = a := ⟨_, rfl⟩
      obtain ⟨a2, ha2⟩ : ∃ a, recAt R fd (rec : Int) 2 = a := ⟨_, rfl⟩
      obtain ⟨m, hm1, hm2⟩ := del_one hrec.del
      have HC1 := Lib.hid (show cellAt l a0 = ((v.1 : Int), (cellAt l a0).2.1, (cellAt l a0).2.2) from by rw [← ha0]; exact cel_parts hrec.stamp)
      have HC2 := Lib.hid (show cellAt l a1 = ((cellAt l a1).1, v.2.1, (m : Int)) from by rw [← hm1, ← ha1, ← hrec.val])
      have HC3 := Lib.hid (show cellAt l a2 = ((num rs (j + 1) : Int), (cellAt l a2).2.1, (cellAt l a2).2.2) from by rw [← ha2]; exact cel_parts hrec.next)
      have hfd1 := field0 (v.1 : Int) (cellAt l a0).2.2 (cellAt l a0).2.1
      have hfd3 := field0 ((num rs (j + 1) : Nat) : Int) (cellAt l a2).2.2 (cellAt l a2).2.1
      have HXV := Lib.hid hxv
      rw [hnum]
      have HNUM := Lib.hid hnum
      clear hrec hx hxv hm1 hnum hlo
      have x0 := HXc.out.cell (i := 0) rfl
      have x1 := HXc.out.cell (i := 1) rfl
      have x2 := HXc.out.cell (i := 2) rfl
      have x3 := HXc.out.cell (i := 3) rfl
      have x4 := HXc.out.cell (i := 4) rfl
      have x5 := HXc.out.cell (i := 5) rfl
      have x6 := HXc.out.cell (i := 6) rfl
      have x7 := HXc.out.cell (i := 7) rfl
      have x8 := HXc.out.cell (i := 8) rfl
      have x9 := HXc.out.cell (i := 9) rfl
      go_wp2_with fail
      refine (config_any T S N C R F K fa fb fd _).mono ?_; rintro e w3 ⟨rfl, hK3⟩
      clear x0 x1 x2 x3 x4 x5 x6 x7 x8 x9
      replace HMc := Lib.hid (HMc.out.kept hK3 (fun h => h) (fun h => h))
      replace HXc := Lib.hid (hK3.blk HXc.out (fun h => h))
      have hB3 := hK3.below (B := wr.heap.size) (by omega) (fun _ h => h.elim)
      replace HOc := Lib.hid (own_below HOc.out hB3 (Nat.le_refl _))
      replace HBc := Lib.hid (HBc.out.trans (hB3.mono hsr))
      have hsr3 : w.heap.size + 1 ≤ w3.heap.size := Nat.le_trans hsr hK3.size
      clear hK3 hB3 hsr HR HAB
      have hf4 := cfield4 T S N C R F K
      go_wp2_with fail
      have hsd : w.heap.size + 1 ≤ w3.drew.heap.size := hsr3
      replace HMc := Lib.hid HMc.out.drew
      replace HXc := Lib.hid (HXc.out.of (w' := w3.drew) rfl)
      replace HOc := Lib.hid (own_below HOc.out (below_drew (Below.refl w3.heap.size w3)) (Nat.le_refl _))
      replace HBc := Lib.hid (below_drew HBc.out)
      refine wp_region_held_drew (S := (fun w' => Blk w' w.heap.size 27 [.int .i64 T, .int .i64 S, .int .i64 N, .int .i64 C, .int .i64 R, .int .i64 F, .int .u64 K, .int .i64 fa, .int .i64 fb, .int .i64 fd])) (by kernel_rfl) ?_ (fun hHeld => ?_)
      · exact HXc.out
      generalize w3.drew = G at *
      refine wpAnyH_take (i := 0) (oi := ⟨some 31, _, _, _, _, _⟩) (v := ?_) rfl (by kernel_rfl) (by kernel_rfl) (by kernel_rfl) (fun _ _ _ h => h) (Or.inl ⟨by rfl, ?_⟩) hHeld ?_
      rotate_left
      · (intro wq hSw; go_simp; try with_reducible rfl)
      try simp only [Act.put, List.setIfInBounds_toArray, List.set_cons_zero, List.set_cons_succ]
      refine wpAnyH_take (i := 1) (oi := ⟨some 32, _, _, _, _, _⟩) (v := ?_) rfl (by kernel_rfl) (by kernel_rfl) (by kernel_rfl) (fun _ _ _ h => h) (Or.inl ⟨by rfl, ?_⟩) hHeld ?_
      rotate_left
      · (intro wq hSw; go_simp; try with_reducible rfl)
      try simp only [Act.put, List.setIfInBounds_toArray, List.set_cons_zero, List.set_cons_succ]
      refine wpAnyH_take (i := 2) (oi := ⟨some 33, _, _, _, _, _⟩) (v := ?_) rfl (by kernel_rfl) (by kernel_rfl) (by kernel_rfl) (fun _ _ _ h => h) (Or.inl ⟨by rfl, ?_⟩) hHeld ?_
      rotate_left
      · (intro wq hSw; have hb9 := hSw; have x0 := hb9.cell (i := 0) rfl; have x1 := hb9.cell (i := 1) rfl; have x2 := hb9.cell (i := 2) rfl; have x3 := hb9.cell (i := 3) rfl; have x4 := hb9.cell (i := 4) rfl; have x5 := hb9.cell (i := 5) rfl; have x6 := hb9.cell (i := 6) rfl; have x7 := hb9.cell (i := 7) rfl; have x8 := hb9.cell (i := 8) rfl; have x9 := hb9.cell (i := 9) rfl; clear hb9; go_simp; try with_reducible rfl)
      try simp only [Act.put, List.setIfInBounds_toArray, List.set_cons_zero, List.set_cons_succ]
      refine wpAnyH_take (i := 3) (oi := ⟨some 34, _, _, _, _, _⟩) (v := ?_) rfl (by kernel_rfl) (by kernel_rfl) (by kernel_rfl) (fun _ _ _ h => h) (Or.inl ⟨by rfl, ?_⟩) hHeld ?_
      rotate_left
      · (intro wq hSw; go_simp; try with_reducible rfl)
      try simp only [Act.put, List.setIfInBounds_toArray, List.set_cons_zero, List.set_cons_succ]
      refine wpAnyH_take (i := 7) (oi := ⟨some 38, _, _, _, _, _⟩) (v := ?_) rfl (by kernel_rfl) (by kernel_rfl) (by kernel_rfl) (fun _ _ _ h => h) (Or.inl ⟨by rfl, ?_⟩) hHeld ?_
      rotate_left
      · (intro wq hSw; go_simp; try with_reducible rfl)
      try simp only [Act.put, List.setIfInBounds_toArray, List.set_cons_zero, List.set_cons_succ]
      refine wpAnyH_take (i := 8) (oi := ⟨some 39, _, _, _, _, _⟩) (v := ?_) rfl (by kernel_rfl) (by kernel_rfl) (by kernel_rfl) (fun _ _ _ h => h) (Or.inl ⟨by rfl, ?_⟩) hHeld ?_
      rotate_left
      · (intro wq hSw; have hb9 := hSw; have x0 := hb9.cell (i := 0) rfl; have x1 := hb9.cell (i := 1) rfl; have x2 := hb9.cell (i := 2) rfl; have x3 := hb9.cell (i := 3) rfl; have x4 := hb9.cell (i := 4) rfl; have x5 := hb9.cell (i := 5) rfl; have x6 := hb9.cell (i := 6) rfl; have x7 := hb9.cell (i := 7) rfl; have x8 := hb9.cell (i := 8) rfl; have x9 := hb9.cell (i := 9) rfl; clear hb9; go_simp; try with_reducible rfl)
      try simp only [Act.put, List.setIfInBounds_toArray, List.set_cons_zero, List.set_cons_succ]
      refine wpAnyH_take (i := 9) (oi := ⟨some 40, _, _, _, _, _⟩) (v := ?_) rfl (by kernel_rfl) (by kernel_rfl) (by kernel_rfl) (fun _ _ _ h => h) (Or.inl ⟨by rfl, ?_⟩) hHeld ?_
      rotate_left
      · (intro wq hSw; go_simp; try with_reducible rfl)
      try simp only [Act.put, List.setIfInBounds_toArray, List.set_cons_zero, List.set_cons_succ]
      refine wpAnyH_ready (rs := [4]) (by kernel_rfl) (by simp) ?_
      refine AllReadyH.cons (o := ⟨some 35, _, _, _, _, _⟩) rfl (fun KK hK => ?_) AllReadyH.nil
      go_simp
      go_at_call 51
      refine (stamp_to T S N C R F K fa fb fd hl hd (rec : Int) a0 ha0 _).mono ?_; rintro e wa ⟨rfl, hK⟩
      replace HMc := Lib.hid (HMc.out.kept hK (fun h => h) (fun h => h))
      replace HXc := Lib.hid (hK.blk HXc.out (fun h => h))
      replace HOc := Lib.hid (own_below HOc.out (hK.below (Nat.le_refl _) (fun _ h => h.elim)) (Nat.le_refl _))
      replace HBc := Lib.hid (HBc.out.trans ((hK.below (Nat.le_refl _) (fun _ h => h.elim)).mono hsd))
      replace hsd := Nat.le_trans hsd hK.size
      clear hK
      refine hK.out _ _ ?_ (fun hHeld2 => ?_)
      · exact HXc.out
      clear hK KK hHeld
      have hHeld := hHeld2
      clear hHeld2
      try simp only [Act.put, List.setIfInBounds_toArray, List.set_cons_zero, List.set_cons_succ]
      refine wpAnyH_ready (rs := [5]) (by kernel_rfl) (by simp) ?_
      refine AllReadyH.cons (o := ⟨some 36, _, _, _, _, _⟩) rfl (fun KK hK => ?_) AllReadyH.nil
      go_simp
      go_at_call 48
      refine (peek_any b g l k a0 (v.1 : Int) _ _ _ HMc.out HC1.out).mono ?_; rintro e wb ⟨rfl, hK⟩
      replace HMc := Lib.hid (HMc.out.kept hK (fun h => h) (fun h => h))
      replace HXc := Lib.hid (hK.blk HXc.out (fun h => h))
      replace HOc := Lib.hid (own_below HOc.out (hK.below (Nat.le_refl _) (fun _ h => h.elim)) (Nat.le_refl _))
      replace HBc := Lib.hid (HBc.out.trans ((hK.below (Nat.le_refl _) (fun _ h => h.elim)).mono hsd))
      replace hsd := Nat.le_trans hsd hK.size
      clear hK
      refine hK.out _ _ ?_ (fun hHeld2 => ?_)
      · exact HXc.out
      clear hK KK hHeld
      have hHeld := hHeld2
      clear hHeld2
      try simp only [Act.put, List.setIfInBounds_toArray, List.set_cons_zero, List.set_cons_succ]
      refine wpAnyH_take (i := 6) (oi := ⟨some 37, _, _, _, _, _⟩) (v := ?_) rfl (by kernel_rfl) (by kernel_rfl) (by kernel_rfl) (fun _ _ _ h => h) (Or.inl ⟨by rfl, ?_⟩) hHeld ?_
      rotate_left
      · (intro wq hSw; go_simp; try with_reducible rfl)
      try simp only [Act.put, List.setIfInBounds_toArray, List.set_cons_zero, List.set_cons_succ]
      refine wpAnyH_ready (rs := [10]) (by kernel_rfl) (by simp) ?_
      refine AllReadyH.cons (o := ⟨some 41, _, _, _, _, _⟩) rfl (fun KK hK => ?_) AllReadyH.nil
      go_simp
      go_at_call 46
      refine (val_to T S N C R F K fa fb fd hl hd (rec : Int) a1 ha1 _).mono ?_; rintro e wc ⟨rfl, hK⟩
      replace HMc := Lib.hid (HMc.out.kept hK (fun h => h) (fun h => h))
      replace HXc := Lib.hid (hK.blk HXc.out (fun h => h))
      replace HOc := Lib.hid (own_below HOc.out (hK.below (Nat.le_refl _) (fun _ h => h.elim)) (Nat.le_refl _))
      replace HBc := Lib.hid (HBc.out.trans ((hK.below (Nat.le_refl _) (fun _ h => h.elim)).mono hsd))
      replace hsd := Nat.le_trans hsd hK.size
      clear hK
      refine hK.out _ _ ?_ (fun hHeld2 => ?_)
      · exact HXc.out
      clear hK KK hHeld
      have hHeld := hHeld2
      clear hHeld2
      try simp only [Act.put, List.setIfInBounds_toArray, List.set_cons_zero, List.set_cons_succ]
      refine wpAnyH_ready (rs := [11]) (by kernel_rfl) (by simp) ?_
      refine AllReadyH.cons (o := ⟨some 42, _, _, _, _, _⟩) rfl (fun KK hK => ?_) AllReadyH.nil
      go_simp
      go_at_call 48
      refine (peek_any b g l k a1 _ (m : Int) v.2.1 _ HMc.out HC2.out).mono ?_; rintro e wd ⟨rfl, hK⟩
      replace HMc := Lib.hid (HMc.out.kept hK (fun h => h) (fun h => h))
      replace HXc := Lib.hid (hK.blk HXc.out (fun h => h))
      replace HOc := Lib.hid (own_below HOc.out (hK.below (Nat.le_refl _) (fun _ h => h.elim)) (Nat.le_refl _))
      replace HBc := Lib.hid (HBc.out.trans ((hK.below (Nat.le_refl _) (fun _ h => h.elim)).mono hsd))
      replace hsd := Nat.le_trans hsd hK.size
      clear hK
      refine hK.out _ _ ?_ (fun hHeld2 => ?_)
      · exact HXc.out
      clear hK KK hHeld
      have hHeld := hHeld2
      clear hHeld2
      try simp only [Act.put, List.setIfInBounds_toArray, List.set_cons_zero, List.set_cons_succ]
      refine wpAnyH_ready (rs := [12]) (by kernel_rfl) (by simp) ?_
      refine AllReadyH.cons (o := ⟨some 43, _, _, _, _, _⟩) rfl (fun KK hK => ?_) AllReadyH.nil
      go_simp
      go_at_call 50
      refine (version_any _ v.1 m v.2.1 _ v.2.2 hm2).mono ?_; rintro e we ⟨rfl, hK⟩
      replace HMc := Lib.hid (HMc.out.kept hK (fun h => h) (fun h => h))
      replace HXc := Lib.hid (hK.blk HXc.out (fun h => h))
      replace HOc := Lib.hid (own_below HOc.out (hK.below (Nat.le_refl _) (fun _ h => h.elim)) (Nat.le_refl _))
      replace HBc := Lib.hid (HBc.out.trans ((hK.below (Nat.le_refl _) (fun _ h => h.elim)).mono hsd))
      replace hsd := Nat.le_trans hsd hK.size
      clear hK
      refine hK.out _ _ ?_ (fun hHeld2 => ?_)
      · exact HXc.out
      clear hK KK hHeld
      have hHeld := hHeld2
      clear hHeld2
      try simp only [Act.put, List.setIfInBounds_toArray, List.set_cons_zero, List.set_cons_succ]
      refine wpAnyH_ready (rs := [13]) (by kernel_rfl) (by simp) ?_
      refine AllReadyH.cons (o := ⟨some 44, _, _, _, _, _⟩) rfl (fun KK hK => ?_) AllReadyH.nil
      go_simp
      have HNb := Lib.hid (show (we.alloc (.cells #[.int .u64 (v.1 : Int), .string v.2.1, .bool v.2.2] 51)).heap[we.heap.size]? = some (.cells ⟨flatv [v]⟩ 51 (0, 0)) from Blk.new we (flatv [v]) 51)
      have hBa := (Below.refl we.heap.size we).alloc (Nat.le_refl _) (.cells #[.int .u64 (v.1 : Int), .string v.2.1, .bool v.2.2] 51)
      replace HMc := Lib.hid (HMc.out.alloc (.cells #[.int .u64 (v.1 : Int), .string v.2.1, .bool v.2.2] 51))
      replace HXc := Lib.hid (HXc.out.alloc (.cells #[.int .u64 (v.1 : Int), .string v.2.1, .bool v.2.2] 51))
      replace HOc := Lib.hid (own_below HOc.out hBa (Nat.le_refl _))
      replace HBc := Lib.hid (HBc.out.trans (hBa.mono hsd))
      replace hsd := Nat.le_trans hsd hBa.size
      clear hBa
      generalize we.alloc (.cells #[.int .u64 (v.1 : Int), .string v.2.1, .bool v.2.2] 51) = V at *
      refine hK.out _ _ ?_ (fun hHeld2 => ?_)
      · exact HXc.out
      clear hK KK hHeld
      have hHeld := hHeld2
      clear hHeld2
      try simp only [Act.put, List.setIfInBounds_toArray, List.set_cons_zero, List.set_cons_succ]
      refine wpAnyH_ready (rs := [14]) (by kernel_rfl) (by simp) ?_
      refine AllReadyH.cons (o := ⟨some 45, _, _, _, _, _⟩) rfl (fun KK hK => ?_) AllReadyH.nil
      refine step_append_lies _ (by rfl) (.tmp 31) (.tmp 44) 33 (by rfl) (w.heap.size + 1) 51 i0 _ 3 32 Try.underlying33 HI0.out HI1.out HI2.out HI3.out rfl (by decide) (.slice A j c2) j (flatv (xs.take j)) (by rfl) HOc.out ⟨we.heap.size, 0, none⟩ 1 1 (flatv [v]) (by rfl) (by rfl) (World.news_of_block HNb.out) (flatv_one _) (by omega) (by unfold maxLen; omega) (by omega) hsd _ rfl ?_
      intro g4 cap4 w4 hown4 hgrow4 hat4 hlt4
      have hBg : Below (w.heap.size + 1) V w4 := (Below.refl _ V).grown hgrow4 hsd fun k hk => (HOc.out.lt k hk).1
      replace HMc := Lib.hid (HMc.out.kept (Below.kept2 hBg (S := fun i => w.heap.size + 1 ≤ i) (fun i h => h)) (by have := hbw; omega) (by have := hgw; omega))
      replace HXc := Lib.hid (HXc.out.of (hBg.block _ (by omega)))
      replace HBc := Lib.hid (HBc.out.trans hBg)
      have hO5 : w4.ownsRow (w.heap.size + 1) 51 3 (.slice (some ⟨g4, 0, none⟩) (j + 1) cap4) (j + 1) (flatv (xs.take (j + 1))) := by
        rw [List.take_add_one, HXV.out, flatv_append]; exact hown4
      replace HOc := Lib.hid hO5
      have hsd4 : w.heap.size + 1 ≤ w4.heap.size := Nat.le_trans hsd hBg.size
      clear hO5 hown4 hgrow4 hat4 hlt4 hBg HNb
      refine hK.out _ _ ?_ (fun hHeld2 => ?_)
      · exact HXc.out
      clear hK KK hHeld
      have hHeld := hHeld2
      clear hHeld2
      try simp only [Act.put, List.setIfInBounds_toArray, List.set_cons_zero, List.set_cons_succ]
      refine wpAnyH_take (i := 15) (oi := ⟨some 7, _, _, _, _, _⟩) (v := ?_) rfl (by kernel_rfl) (by kernel_rfl) (by kernel_rfl) (fun _ _ _ h => h) (Or.inl ⟨by rfl, ?_⟩) hHeld ?_
      rotate_left
      · (intro wq hSw; go_simp; try with_reducible rfl)
      try simp only [Act.put, List.setIfInBounds_toArray, List.set_cons_zero, List.set_cons_succ]
      refine wpAnyH_done (by kernel_rfl) ?_ _
      clear hHeld
      have x0 := HXc.out.cell (i := 0) rfl
      have x1 := HXc.out.cell (i := 1) rfl
      have x2 := HXc.out.cell (i := 2) rfl
      have x3 := HXc.out.cell (i := 3) rfl
      have x4 := HXc.out.cell (i := 4) rfl
      have x5 := HXc.out.cell (i := 5) rfl
      have x6 := HXc.out.cell (i := 6) rfl
      have x7 := HXc.out.cell (i := 7) rfl
      have x8 := HXc.out.cell (i := 8) rfl
      have x9 := HXc.out.cell (i := 9) rfl
      go_wp2_with fail
      refine (next_to T S N C R F K fa fb fd hl hd (rec : Int) a2 ha2 _).mono ?_; rintro e w5 ⟨rfl, hK5⟩
      clear x0 x1 x2 x3 x4 x5 x6 x7 x8 x9
      replace HMc := Lib.hid (HMc.out.kept hK5 (fun h => h) (fun h => h))
      replace HXc := Lib.hid (hK5.blk HXc.out (fun h => h))
      replace HOc := Lib.hid (own_below HOc.out (hK5.below (Nat.le_refl _) (fun _ h => h.elim)) (Nat.le_refl _))
      replace HBc := Lib.hid (HBc.out.trans ((hK5.below (Nat.le_refl _) (fun _ h => h.elim)).mono hsd4))
      have hsd5 := Nat.le_trans hsd4 hK5.size
      clear hK5
      go_wp2_with fail
      refine (peek_any b g l k a2 (num rs (j + 1) : Int) _ _ _ HMc.out HC3.out).mono ?_; rintro e w6 ⟨rfl, hK6⟩
      replace HMc := Lib.hid (HMc.out.kept hK6 (fun h => h) (fun h => h))
      replace HXc := Lib.hid (hK6.blk HXc.out (fun h => h))
      replace HOc := Lib.hid (own_below HOc.out (hK6.below (Nat.le_refl _) (fun _ h => h.elim)) (Nat.le_refl _))
      replace HBc := Lib.hid (HBc.out.trans ((hK6.below (Nat.le_refl _) (fun _ h => h.elim)).mono hsd5))
      have hsd6 := Nat.le_trans hsd5 hK6.size
      clear hK6
      go_wp2
      go_roundw
      case rel => exact ⟨j + 1, by omega, rfl, rfl, HMc.out, HXc.out, HBc.out, hsd6, HOc.out⟩
      case measure => show n - (j + 1) < n - j; omega
    · obtain rfl : j = n := by omega
      have hz : num rs j = 0 := num_none (by omega)
      have hxt : xs.take j = xs := List.take_of_length_le (by rw [← HXS.out, List.length_map]; omega)
      rw [hz]
      have HXT := Lib.hid hxt
      clear hxt hz
      go_wp2
      go_ret
      refine ⟨A, c2, rfl, by rw [← HXT.out]; exact HR.out, ?_, fun a ha => by have := HAB.out a ha; omega⟩
      exact (Below.alloc (Below.refl w.heap.size w) (Nat.le_refl _) _).trans (by rw [HBW.out]; exact HBc.out.mono (by omega))

end Go.Proofs.Ytpamjbjgckaedaa
