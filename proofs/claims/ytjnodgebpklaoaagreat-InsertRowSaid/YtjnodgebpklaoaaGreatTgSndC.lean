/-
 What a View's sound says of a node of such a tree. Condition: a fanout of four to six.
-/
import Derived.Test.YtjnodgebpklaoaaGreatTgSndA
import Derived.Test.YtjnodgebpklaoaaGreatLkSndA
namespace Go.Proofs.YtjnodgebpklaoaaGreat
set_option maxHeartbeats 8000000
set_option maxRecDepth 100000
section
open Go.RowKit Go.Deep Plain
set_option linter.unusedVariables false

theorem good_ofG {F H : Nat} {l : List Cel} {kk : Nat} {nd : Nat → Nat → Nat} {mm : Nat → Nat} {lo : Nat → Nat → ByteArray} {pg : Nat → Nat → Pg} (T : TrG F l H kk nd mm lo pg) {ks : List ByteArray} {r : Nat → Nat} {off : Nat → Nat} (hlv : LeavesG ks r (mm 0) (lo 0) (pg 0) off) (hrf : RefsG r ks.length) (hhi : ∀ L', L' < H → ∀ i, i < mm L' → ∀ x ∈ (pg L' i).xs, cov (pg L' i) x.1 = true) {L i : Nat} (hL : L < H) (hi : i < mm L) :
  Good (L : Int) (pg L i).xs.length (pg L i).xs (pg L i).hi (pg L i).la (pg L i).rt (F : Int) := by
 have V := T.lev L hL
 have hnd := V.nd i hi
 have hlen := hnd.len
 refine ⟨⟨by omega, by omega, ?_⟩, ascI_of hnd.asc, fun q x hx => ?_, fun hla => ⟨hnd.wf hla, ?_⟩, fun hla => ⟨?_, fun x hx => ?_⟩⟩
 ·rcases Nat.eq_zero_or_pos L with e | e
  ·exact .inl (by omega)
  ·obtain ⟨L', rfl⟩ : ∃ L', L = L' + 1 := ⟨L - 1, by omega⟩
   obtain ⟨⟨r, h0⟩, -⟩ := T.up L' hL i hi
   exact .inr (List.getElem?_eq_some_iff.1 h0).1
 ·rcases Nat.eq_zero_or_pos L with e | e
  ·subst e
   have h1 := hlv.slot i hi q x hx
   have h2 := (hrf.1 (off i + q) (List.getElem?_eq_some_iff.1 h1.1).1).1
   omega
  ·obtain ⟨L', rfl⟩ : ∃ L', L = L' + 1 := ⟨L - 1, by omega⟩
   obtain ⟨-, hm⟩ := T.up L' hL i hi
   obtain ⟨j, hj, rfl⟩ := hm x (List.mem_of_getElem? hx)
   have := ((T.lev L' (by omega)).num j hj).1
   show nd L' j ≠ 0
   omega
 ·by_cases e : i + 1 < mm L
  ·have := (V.next i e).1; rw [hla] at this; cases this
  ·exact (V.last i (by omega)).2
 ·by_cases e : i + 1 < mm L
  ·rw [(V.next i e).2.1]; have := (V.num (i + 1) e).1; omega
  ·have := (V.last i (by omega)).1; rw [hla] at this; cases this
 ·have := hhi L hL i hi x hx
  unfold cov at this
  rw [hla, Bool.false_or] at this
  exact this
theorem slot_lowG {F H : Nat} {l : List Cel} {kk : Nat} {nd : Nat → Nat → Nat} {mm : Nat → Nat} {lo : Nat → Nat → ByteArray} {pg : Nat → Nat → Pg} (T : TrG F l H kk nd mm lo pg) {ks : List ByteArray} {r : Nat → Nat} {off : Nat → Nat} (hlv : LeavesG ks r (mm 0) (lo 0) (pg 0) off) {L i q : Nat} {x : Sl} (hL : L < H) (hi : i < mm L) (hx : (pg L i).xs[q]? = some x) : kl x.1 (lo L i) = false := by
 rcases Nat.eq_zero_or_pos L with e | e
 ·subst e; exact hlv.low i hi x (List.mem_of_getElem? hx)
 ·obtain ⟨L', rfl⟩ : ∃ L', L = L' + 1 := ⟨L - 1, by omega⟩
  obtain ⟨⟨r, h0⟩, -⟩ := T.up L' hL i hi
  by_cases hq : q = 0
  ·subst hq; rw [h0] at hx; cases hx; exact kl_self _
  ·have := asc_get ((T.lev _ hL).nd i hi).asc (i := 0) (j := q) (by omega) h0 hx
   exact kl_asymm this
theorem vsound_lowG (F : Nat) (h4 : 4 ≤ F) (h6 : F ≤ 6) (g n : Nat) (l : List Cel) (hl : l.length = n) (H : Nat) (kk : Nat) (nd : Nat → Nat → Nat) (mm : Nat → Nat) (lo : Nat → Nat → ByteArray) (pg : Nat → Nat → Pg) (T : TrG F l H kk nd mm lo pg) (h0 : 0 < H) (ks : List ByteArray) (r : Nat → Nat) (off : Nat → Nat) (hlv : LeavesG ks r (mm 0) (lo 0) (pg 0) off) (hrf : RefsG r ks.length) (hz : ∀ L', L' < H → ∀ i, i < mm L' → ∃ wd : Nat, wd % 4 = 0 ∧ cellAt l (nla F (nd L' i)) = ((wd : Int), (⟨#[]⟩ : ByteArray), (0 : Int))) (hhi : ∀ L', L' < H → ∀ i, i < mm L' → ∀ x ∈ (pg L' i).xs, cov (pg L' i) x.1 = true) (i nid : Nat) (hi : i < mm 0) (hnid : nid = nd 0 i) (w : World) (hv : Blk w g 54 (flat3 l)) :
  Calls Tryz.prog 82 #[.agg #[.int .i64 1, .int .i64 2, .int .i64 100, .int .i64 100, .int .i64 200, .int .i64 (F : Int), .int .u64 1000, .slice (some ⟨g, 0, none⟩) n n], .int .u64 (nid : Int), .int .i64 0, .string (lo 0 i), .slice none 0 0, .slice none 0 0] w fun e w' => e = .returned (.bool true) ∧ Kept (fun _ => False) w w' := by
 have hL : 0 < H := h0
 have HNID := Hd hnid
 have V9 := T.lev 0 hL
 have hnd := V9.nd i hi
 have hgood := good_ofG T hlv hrf hhi hL hi
 have hlen := hnd.len
 obtain ⟨wd, hwd4, hwdc⟩ := hz _ hL i hi
 have hwdt : (wd : Int).tmod 4 = 0 := by rw [Int.tmod_eq_emod_of_nonneg (by omega)]; omega
 have HLT := Hd (show cellAt l (nla F nid) = ((wd : Int), (⟨#[]⟩ : ByteArray), (0 : Int)) from by rw [hnid]; exact hwdc)
 clear hwd4 hwdc
 have HHD := Hd (show cellAt l (nodeAt 100 (F : Int) 10 (nid : Int) ((1 : Nat) : Int)) = (((pg 0 i).xs.length : Int), (⟨#[]⟩ : ByteArray), 0) from by
  have h := hnd.holds 0 (by omega)
  rw [← hnid] at h
  have e : pc (pg 0 i) 0 = (((pg 0 i).xs.length : Int), (⟨#[]⟩ : ByteArray), ((pg 0 i).lv : Int)) := rfl
  rw [e, V9.lv i hi] at h
  exact h)
 have HZ := Hd hz
 have HHI := Hd hhi
 have HLV := Hd hlv
 have HNX := Hd (fun h => V9.next i h)
 have HLA := Hd (fun h => V9.last i h)
 obtain ⟨P, hP⟩ : ∃ P, pg 0 i = P := ⟨_, rfl⟩
 rw [hP] at hgood hlen HHD
 obtain ⟨la3, hla3⟩ : ∃ x, P.la = x := ⟨_, rfl⟩
 obtain ⟨hi3, hhi3⟩ : ∃ x, P.hi = x := ⟨_, rfl⟩
 obtain ⟨n3, hn3⟩ : ∃ x, P.xs.length = x := ⟨_, rfl⟩
 obtain ⟨rt3, hrt3⟩ : ∃ x, P.rt = x := ⟨_, rfl⟩
 rw [hla3, hhi3, hn3, hrt3] at hgood
 rw [hn3] at hlen HHD
 have HPP := Hd hP
 have HN3 := Hd hn3
 have HG := Hd hgood
 have HPG := Hd (show ∀ W', Blk W' g 54 (flat3 l) → Calls Tryz.prog 81 #[.agg #[.int .i64 1, .int .i64 2, .int .i64 100, .int .i64 100, .int .i64 200, .int .i64 (F : Int), .int .u64 1000, .slice (some ⟨g, 0, none⟩) n n], .int .u64 (nid : Int)] W' fun e w' => ∃ (A : Option Addr) (c : Nat), e = .returned (.agg #[.int .i64 0, .slice A n3 c, .string hi3, .bool la3, .int .u64 (rt3 : Int)]) ∧ Rs w' A c P.xs ∧ (∀ a, A = some a → W'.heap.size ≤ a.block) ∧ Kept (fun _ => False) W' w' from fun W' hW => by
  refine (tpage_anyG F h4 h6 g n l hl H kk nd mm lo pg T 0 i nid hL hi HNID.out 0 rfl W' hW).mono ?_
  rintro e w' ⟨A, c, rfl, hr, ha, hk⟩
  rw [hP] at hr ⊢
  rw [hhi3, hla3, hn3, hrt3]
  exact ⟨A, c, rfl, hr, ha, hk⟩)
 have HRT := Hd (show la3 = false → i + 1 < mm 0 ∧ rt3 = nd 0 (i + 1) from fun h => by
  by_cases e : i + 1 < mm 0
  ·have := (HNX.out e).2.1; rw [hP, hrt3] at this; exact ⟨e, by omega⟩
  ·have := (HLA.out (by omega)).1; rw [hP, hla3, h] at this; cases this)
 have HNI := Hd hnid
 clear V9 hnd hgood hz hhi hlv hP hla3 hhi3 hn3 hrt3 hnid
 have HV0 := Hd hv
 clear hv
 go_enter Tryz.func82, Tryz.ntmps82
 go_wp2_with fail
 have hal := (Kept.refl (fun _ => False) w).alloc (.cells #[.int .i64 1, .int .i64 2, .int .i64 100, .int .i64 100, .int .i64 200, .int .i64 (F : Int), .int .u64 1000, .slice (some ⟨g, 0, none⟩) n n] 63)
 have HB := Hd (Blk.new w [.int .i64 1, .int .i64 2, .int .i64 100, .int .i64 100, .int .i64 200, .int .i64 (F : Int), .int .u64 1000, .slice (some ⟨g, 0, none⟩) n n] 63)
 have HV := Hd (hal.blk HV0.out (fun h => h))
 have HK := Hd hal
 clear hal
 generalize w.alloc (.cells #[.int .i64 1, .int .i64 2, .int .i64 100, .int .i64 100, .int .i64 200, .int .i64 (F : Int), .int .u64 1000, .slice (some ⟨g, 0, none⟩) n n] 63) = W at *
 generalize hr0 : w.heap.size = r0 at *
 have HR0 := Hd hr0
 clear hr0
 have hb9 := HB.out
 obtain ⟨x0, x1, x2, x3, x4, x5, x6, x7⟩ := hb9.c8
 clear hb9
 refine (HPG.out _ HV.out).mono ?_; rintro e V1 ⟨A3, c3, rfl, hR3, hA3, hK3⟩
 replace HB := Hd (hK3.blk HB.out (fun h => h))
 replace HV := Hd (hK3.blk HV.out (fun h => h))
 replace HK := Hd (HK.out.trans hK3 (fun _ _ h => h))
 have HR3 := Hd hR3
 clear hR3 hA3 hK3 x0 x1 x2 x3 x4 x5 x6 x7
 go_upto_region 2 with fail
 have hal := (Kept.refl (fun _ => False) V1).alloc (.cells #[.int .i64 0, .slice A3 n3 c3, .string hi3, .bool la3, .int .u64 (rt3 : Int)] 38)
 have HSL := Hd (Blk.new V1 [.int .i64 0, .slice A3 n3 c3, .string hi3, .bool la3, .int .u64 (rt3 : Int)] 38)
 replace HB := Hd (hal.blk HB.out (fun h => h))
 replace HV := Hd (hal.blk HV.out (fun h => h))
 replace HK := Hd (HK.out.trans hal (fun _ _ h => h))
 replace HR3 := Hd (HR3.out.keptF hal (fun _ _ h => h))
 clear hal
 generalize V1.heap.size = rq at HSL ⊢
 generalize V1.alloc (.cells #[.int .i64 0, .slice A3 n3 c3, .string hi3, .bool la3, .int .u64 (rt3 : Int)] 38) = V2 at *
 have HCHK := Hd (show ∀ W, Kept (fun _ => False) V2 W → Calls Tryz.prog 130 #[.agg #[.int .i64 0, .slice A3 n3 c3, .string hi3, .bool la3, .int .u64 (rt3 : Int)], .int .i64 (F : Int), .bool false] W fun e w' => e = .returned (.bool true) ∧ Kept (fun _ => False) W w' from fun W hW =>
  (refCheck_any 0 A3 c3 hi3 la3 rt3 P.xs (F : Int) W n3 HN3.out (by omega) (HR3.out.keptF hW (fun _ _ h => h)) true ⟨fun _ => HG.out, fun _ => rfl⟩).mono (fun e w' ⟨he, hb⟩ => ⟨he, bkept hb⟩))
 have f0 := field0 (n3 : Int) 0 ⟨#[]⟩
 have wF : IntKind.u64.wrap (F : Int) = (F : Int) := by rw [IntKind.wrap_u64]; omega
 have hFn : ¬ (F : Int) < (n3 : Int) := by omega
 refine qregion (fun w' => Kept (fun _ => False) V2 w') (by kernel_rfl) (by kernel_rfl) (Kept.refl _ _).drew ?_
 refine tkQ 20 ?_ (fun wq hSw => ?_) ?_
 rotate_left
 ·(have hb9 := hSw.blk HB.out (fun h => h); obtain ⟨x0, x1, x2, x3, x4, x5, x6, x7⟩ := hb9.c8; clear hb9; have hp9 := hSw.blk HSL.out (fun h => h); obtain ⟨s0, s1, s2, s3, s4⟩ := hp9.c5; clear hp9; go_simp; try with_reducible rfl)
 try simp only [aP,aA,aZ,aS]
 refine tkQ 21 ?_ (fun wq hSw => ?_) ?_
 rotate_left
 ·(go_simp; try with_reducible rfl)
 try simp only [aP,aA,aZ,aS]
 refine qcall (o := ⟨some 22, _, _, _, _, _⟩) (v := .int .u64 (wd : Int)) (by rfl) (fun wq hSw => ?_) (fun wq hSw => Calls.mono (vlatch_any F h4 h6 g n l hl nid (nla F nid) rfl (wd : Int) 0 ⟨#[]⟩ _ (hSw.blk HV.out (fun h => h)) HLT.out) ?_) ?_
 ·(go_simp; try with_reducible rfl)
 ·rintro e w9 ⟨rfl, hk⟩; exact ⟨rfl, hSw.trans hk (fun _ _ h => h)⟩
 try simp only [aP,aA,aZ,aS]
 refine tkQ 23 (.int .u64 0) (fun wq hSw => ?_) ?_
 ·(go_simp; try first | (with_reducible rfl) | (simp; omega) | (intros; omega) | simp [*])
 try simp only [aP,aA,aZ,aS]
 refine tkQ 24 (.bool false) (fun wq hSw => ?_) ?_
 ·(go_simp; try first | (with_reducible rfl) | (simp; omega) | (intros; omega) | simp [*])
 try simp only [aP,aA,aZ,aS]
 refine tkQ 25 (.bool false) (fun wq hSw => ?_) ?_
 ·(go_simp; try first | (with_reducible rfl) | (simp; omega) | (intros; omega) | simp [*])
 try simp only [aP,aA,aZ,aS]
 refine tkQ 26 ?_ (fun wq hSw => ?_) ?_
 rotate_left
 ·(go_simp; try with_reducible rfl)
 try simp only [aP,aA,aZ,aS]
 refine tkQ 27 ?_ (fun wq hSw => ?_) ?_
 rotate_left
 ·(have hb9 := hSw.blk HB.out (fun h => h); obtain ⟨x0, x1, x2, x3, x4, x5, x6, x7⟩ := hb9.c8; clear hb9; have hp9 := hSw.blk HSL.out (fun h => h); obtain ⟨s0, s1, s2, s3, s4⟩ := hp9.c5; clear hp9; go_simp; try with_reducible rfl)
 try simp only [aP,aA,aZ,aS]
 refine tkQ 28 ?_ (fun wq hSw => ?_) ?_
 rotate_left
 ·(go_simp; try with_reducible rfl)
 try simp only [aP,aA,aZ,aS]
 refine tkQ 29 (.bool false) (fun wq hSw => ?_) ?_
 ·(go_simp; try first | (with_reducible rfl) | (simp; omega) | (intros; omega) | simp [*])
 try simp only [aP,aA,aZ,aS]
 refine tkQ 30 (.bool false) (fun wq hSw => ?_) ?_
 ·(go_simp; try first | (with_reducible rfl) | (simp; omega) | (intros; omega) | simp [*])
 try simp only [aP,aA,aZ,aS]
 refine tkQ 31 (.bool false) (fun wq hSw => ?_) ?_
 ·(go_simp; try first | (with_reducible rfl) | (simp; omega) | (intros; omega) | simp [*])
 try simp only [aP,aA,aZ,aS]
 refine tkQ 32 ?_ (fun wq hSw => ?_) ?_
 rotate_left
 ·(have hb9 := hSw.blk HB.out (fun h => h); obtain ⟨x0, x1, x2, x3, x4, x5, x6, x7⟩ := hb9.c8; clear hb9; have hp9 := hSw.blk HSL.out (fun h => h); obtain ⟨s0, s1, s2, s3, s4⟩ := hp9.c5; clear hp9; go_simp; try with_reducible rfl)
 try simp only [aP,aA,aZ,aS]
 refine tkQ 33 ?_ (fun wq hSw => ?_) ?_
 rotate_left
 ·(go_simp; try with_reducible rfl)
 try simp only [aP,aA,aZ,aS]
 refine qcall (o := ⟨some 34, _, _, _, _, _⟩) (v := .agg #[.int .u64 (n3 : Int), .string ⟨#[]⟩, .int .u64 0]) (by rfl) (fun wq hSw => ?_) (fun wq hSw => Calls.mono (vpart_any F h4 h6 g n l hl nid 1 (by omega) _ rfl (n3 : Int) 0 ⟨#[]⟩ _ (hSw.blk HV.out (fun h => h)) HHD.out) ?_) ?_
 ·(go_simp; try with_reducible rfl)
 ·rintro e w9 ⟨rfl, hk⟩; exact ⟨rfl, hSw.trans hk (fun _ _ h => h)⟩
 try simp only [aP,aA,aZ,aS]
 refine tkQ 35 ?_ (fun wq hSw => ?_) ?_
 rotate_left
 ·(go_simp; try with_reducible rfl)
 try simp only [aP,aA,aZ,aS]
 refine tkQ 36 ?_ (fun wq hSw => ?_) ?_
 rotate_left
 ·(go_simp; try with_reducible rfl)
 try simp only [aP,aA,aZ,aS]
 refine tkQ 37 ?_ (fun wq hSw => ?_) ?_
 rotate_left
 ·(go_simp; try with_reducible rfl)
 try simp only [aP,aA,aZ,aS]
 refine tkQ 38 ?_ (fun wq hSw => ?_) ?_
 rotate_left
 ·(have hb9 := hSw.blk HB.out (fun h => h); obtain ⟨x0, x1, x2, x3, x4, x5, x6, x7⟩ := hb9.c8; clear hb9; have hp9 := hSw.blk HSL.out (fun h => h); obtain ⟨s0, s1, s2, s3, s4⟩ := hp9.c5; clear hp9; go_simp; try with_reducible rfl)
 try simp only [aP,aA,aZ,aS]
 refine tkQ 39 (.int .u64 (F : Int)) (fun wq hSw => ?_) ?_
 ·(go_simp; try first | (with_reducible rfl) | (simp; omega) | (intros; omega) | simp [*])
 try simp only [aP,aA,aZ,aS]
 refine tkQ 40 (.bool false) (fun wq hSw => ?_) ?_
 ·(go_simp; try first | (with_reducible rfl) | (simp; omega) | (intros; omega) | simp [*])
 try simp only [aP,aA,aZ,aS]
 refine tkQ 41 (.bool false) (fun wq hSw => ?_) ?_
 ·(go_simp; try first | (with_reducible rfl) | (simp; omega) | (intros; omega) | simp [*])
 try simp only [aP,aA,aZ,aS]
 refine tkQ 42 (.bool false) (fun wq hSw => ?_) ?_
 ·(go_simp; try first | (with_reducible rfl) | (simp; omega) | (intros; omega) | simp [*])
 try simp only [aP,aA,aZ,aS]
 refine tkQ 43 ?_ (fun wq hSw => ?_) ?_
 rotate_left
 ·(have hb9 := hSw.blk HB.out (fun h => h); obtain ⟨x0, x1, x2, x3, x4, x5, x6, x7⟩ := hb9.c8; clear hb9; have hp9 := hSw.blk HSL.out (fun h => h); obtain ⟨s0, s1, s2, s3, s4⟩ := hp9.c5; clear hp9; go_simp; try with_reducible rfl)
 try simp only [aP,aA,aZ,aS]
 refine tkQ 44 ?_ (fun wq hSw => ?_) ?_
 rotate_left
 ·(go_simp; try with_reducible rfl)
 try simp only [aP,aA,aZ,aS]
 refine tkQ 45 ?_ (fun wq hSw => ?_) ?_
 rotate_left
 ·(go_simp; try with_reducible rfl)
 try simp only [aP,aA,aZ,aS]
 refine tkQ 46 ?_ (fun wq hSw => ?_) ?_
 rotate_left
 ·(have hb9 := hSw.blk HB.out (fun h => h); obtain ⟨x0, x1, x2, x3, x4, x5, x6, x7⟩ := hb9.c8; clear hb9; have hp9 := hSw.blk HSL.out (fun h => h); obtain ⟨s0, s1, s2, s3, s4⟩ := hp9.c5; clear hp9; go_simp; try with_reducible rfl)
 try simp only [aP,aA,aZ,aS]
 refine qcall (o := ⟨some 47, _, _, _, _, _⟩) (v := .bool true) (by rfl) (fun wq hSw => ?_) (fun wq hSw => Calls.mono (HCHK.out _ hSw) ?_) ?_
 ·(go_simp; try with_reducible rfl)
 ·rintro e w9 ⟨rfl, hk⟩; exact ⟨rfl, hSw.trans hk (fun _ _ h => h)⟩
 try simp only [aP,aA,aZ,aS]
 refine tkQ 48 (.bool false) (fun wq hSw => ?_) ?_
 ·(go_simp; try first | (with_reducible rfl) | (simp; omega) | (intros; omega) | simp [*])
 try simp only [aP,aA,aZ,aS]
 refine tkQ 49 (.bool false) (fun wq hSw => ?_) ?_
 ·(go_simp; try first | (with_reducible rfl) | (simp; omega) | (intros; omega) | simp [*])
 try simp only [aP,aA,aZ,aS]
 refine wpQuiet_nil ?_
 intro wz hHeld
 replace HB := Hd (hHeld.blk HB.out (fun h => h))
 replace HV := Hd (hHeld.blk HV.out (fun h => h))
 replace HSL := Hd (hHeld.blk HSL.out (fun h => h))
 replace HK := Hd (HK.out.trans hHeld (fun _ _ h => h))
 replace HR3 := Hd (HR3.out.keptF hHeld (fun _ _ h => h))
 clear hHeld f0 wF hFn HCHK HLT HHD HPG
 rename World => V3
 go_wp2_with fail
 go_loopw [14] (fun iv wr => ∃ s : Nat, s ≤ n3 ∧ iv = .int .i64 (s : Int) ∧ Kept (fun _ => False) V3 wr) (fun iv _ => n3 - (intOf iv).toNat)
 case atStart => exact ⟨0, Nat.zero_le _, rfl, Kept.refl _ _⟩
 case round =>
  rename World => V4
  obtain ⟨s, hs, rfl, hK4⟩ := hrel
  have HK4 := Hd hK4
  have HB4 := Hd (hK4.blk HB.out (fun h => h))
  have HV4 := Hd (hK4.blk HV.out (fun h => h))
  have HS4 := Hd (hK4.blk HSL.out (fun h => h))
  have HR4 := Hd (HR3.out.keptF hK4 (fun _ _ h => h))
  clear hK4
  have hs9 := HS4.out
  obtain ⟨s0, s1, s2, s3, s4⟩ := hs9.c5
  clear hs9
  by_cases hsn : s < n3
  ·have hsnI : (s : Int) < (n3 : Int) := by omega
   obtain ⟨x, hx⟩ : ∃ x, P.xs[s]? = some x := ⟨_, List.getElem?_eq_getElem (by have := HN3.out; omega)⟩
   obtain ⟨g3, o3, rfl, hg3, hc3⟩ := HR4.out.at (by have := HN3.out; omega)
   obtain ⟨y0, y1⟩ := hc3 s x hx
   have HY0 := Hd y0
   have HY1 := Hd y1
   have hlo := slot_lowG T HLV.out hL hi (by rw [HPP.out]; exact hx)
   have hless : Op.bytesLess x.1.toList (lo 0 i).toList = false := by rw [bytesLess_ltB]; exact hlo
   clear hc3 hlo
   go_upto_region 7 with fail
   go_cut [81] from 57 to 81 (fun v wx => v = .bool false ∧ wx = V4)
   case first =>
    go_wp2
    go_meet
    exact ⟨rfl, rfl⟩
   case rest =>
    obtain ⟨rfl, rfl⟩ := hcut
    rename World => V4
    go_wp2_with fail
    go_loopw [15, 16] (fun bv kv wr => bv = .bool true ∧ kv = .int .i64 0 ∧ wr = V4) (fun _ _ _ => 0)
    case atStart => exact ⟨rfl, rfl, rfl⟩
    case round =>
     obtain ⟨rfl, rfl, rfl⟩ := hrel
     go_wp2
     go_roundw
     case rel => exact ⟨s + 1, by omega, by go_num, HK4.out⟩
     case measure => simp [intOf]; omega
  ·have hsnI : ¬ (s : Int) < (n3 : Int) := by omega
   clear hs
   cases la3 with
   | true =>
    go_wp2
    go_ret
    refine ⟨rfl, ?_⟩
    have := HK.out.trans HK4.out (fun _ _ h => h)
    exact this
   | false =>
    obtain ⟨hin, hrt⟩ := HRT.out rfl
    have HRTE := Hd hrt
    clear hrt
    have hb9 := HB4.out
    obtain ⟨x0, x1, x2, x3, x4, x5, x6, x7⟩ := hb9.c8
    clear hb9
    go_wp2_with fail
    refine (tnode_anyG F h4 h6 g n l hl H kk nd mm lo pg T 0 (i + 1) rt3 hL hin HRTE.out _ HV4.out).mono ?_; rintro e w9 ⟨rfl, hK9⟩
    have HK9 := Hd (HK.out.trans (HK4.out.trans hK9 (fun _ _ h => h)) (fun _ _ h => h))
    clear hK9
    go_wp2
    go_ret
    refine ⟨rfl, ?_⟩
    have := HK9.out
    exact this

theorem vsound_zeroG (F : Nat) (h4 : 4 ≤ F) (h6 : F ≤ 6) (g n : Nat) (l : List Cel) (hl : l.length = n) (H : Nat) (kk : Nat) (nd : Nat → Nat → Nat) (mm : Nat → Nat) (lo : Nat → Nat → ByteArray) (pg : Nat → Nat → Pg) (T : TrG F l H kk nd mm lo pg) (lv : Nat) (h0 : lv = 0) (hlv : lv < H) (ks : List ByteArray) (r : Nat → Nat) (off : Nat → Nat) (hle : LeavesG ks r (mm 0) (lo 0) (pg 0) off) (hrf : RefsG r ks.length) (hz : ∀ L', L' < H → ∀ i, i < mm L' → ∃ wd : Nat, wd % 4 = 0 ∧ cellAt l (nla F (nd L' i)) = ((wd : Int), (⟨#[]⟩ : ByteArray), (0 : Int))) (hhi : ∀ L', L' < H → ∀ i, i < mm L' → ∀ x ∈ (pg L' i).xs, cov (pg L' i) x.1 = true) (i nid : Nat) (hi : i < mm lv) (hnid : nid = nd lv i) (w : World) (hv : Blk w g 54 (flat3 l)) :
  Calls Tryz.prog 82 #[.agg #[.int .i64 1, .int .i64 2, .int .i64 100, .int .i64 100, .int .i64 200, .int .i64 (F : Int), .int .u64 1000, .slice (some ⟨g, 0, none⟩) n n], .int .u64 (nid : Int), .int .i64 (lv : Int), .string (lo lv i), .slice none 0 0, .slice none 0 0] w fun e w' => e = .returned (.bool true) ∧ Kept (fun _ => False) w w' := by
 subst h0
 exact vsound_lowG F h4 h6 g n l hl H kk nd mm lo pg T hlv ks r off hle hrf hz hhi i nid hi hnid w hv
theorem vsound_upG (F : Nat) (h4 : 4 ≤ F) (h6 : F ≤ 6) (g n : Nat) (l : List Cel) (hl : l.length = n) (H : Nat) (kk : Nat) (nd : Nat → Nat → Nat) (mm : Nat → Nat) (lo : Nat → Nat → ByteArray) (pg : Nat → Nat → Pg) (T : TrG F l H kk nd mm lo pg) (ks : List ByteArray) (r : Nat → Nat) (off : Nat → Nat) (hlv : LeavesG ks r (mm 0) (lo 0) (pg 0) off) (hrf : RefsG r ks.length) (hz : ∀ L', L' < H → ∀ i, i < mm L' → ∃ wd : Nat, wd % 4 = 0 ∧ cellAt l (nla F (nd L' i)) = ((wd : Int), (⟨#[]⟩ : ByteArray), (0 : Int))) (hhi : ∀ L', L' < H → ∀ i, i < mm L' → ∀ x ∈ (pg L' i).xs, cov (pg L' i) x.1 = true) (L1 L i nid : Nat) (hLe : L = L1 + 1) (hL : L < H) (hi : i < mm L) (hnid : nid = nd L i) (mB : Nat) (hmB : mm L1 = mB) (gB oB cB gW oW cW : Nat) (w : World) (hv : Blk w g 54 (flat3 l)) (hgB : gB < w.heap.size) (hbc : ∀ k, k < mB → w.cell? ⟨gB, oB + k, none⟩ = some (.int .u64 ((nd L1 k : Nat) : Int))) (hgW : gW < w.heap.size) (hwc : ∀ k, k < mB → w.cell? ⟨gW, oW + k, none⟩ = some (.string (lo L1 k))) :
  Calls Tryz.prog 82 #[.agg #[.int .i64 1, .int .i64 2, .int .i64 100, .int .i64 100, .int .i64 200, .int .i64 (F : Int), .int .u64 1000, .slice (some ⟨g, 0, none⟩) n n], .int .u64 (nid : Int), .int .i64 (L : Int), .string (lo L i), .slice (some ⟨gB, oB, none⟩) mB cB, .slice (some ⟨gW, oW, none⟩) mB cW] w fun e w' => e = .returned (.bool true) ∧ Kept (fun _ => False) w w' := by
 have HLE := Hd hLe
 have HBC := Hd hbc
 have HWC := Hd hwc
 have HMB := Hd hmB
 have HGB := Hd hgB
 have HGW := Hd hgW
 have hL100 : L ≤ 100 := by have := T.H100; omega
 clear hLe hbc hwc hmB hgB hgW
 have HNID := Hd hnid
 have V9 := T.lev L hL
 have hnd := V9.nd i hi
 have hgood := good_ofG T hlv hrf hhi hL hi
 have hlen := hnd.len
 obtain ⟨wd, hwd4, hwdc⟩ := hz _ hL i hi
 have hwdt : (wd : Int).tmod 4 = 0 := by rw [Int.tmod_eq_emod_of_nonneg (by omega)]; omega
 have HLT := Hd (show cellAt l (nla F nid) = ((wd : Int), (⟨#[]⟩ : ByteArray), (0 : Int)) from by rw [hnid]; exact hwdc)
 clear hwd4 hwdc
 have HHD := Hd (show cellAt l (nodeAt 100 (F : Int) 10 (nid : Int) ((1 : Nat) : Int)) = (((pg L i).xs.length : Int), (⟨#[]⟩ : ByteArray), (L : Int)) from by
  have h := hnd.holds 0 (by omega)
  rw [← hnid] at h
  have e : pc (pg L i) 0 = (((pg L i).xs.length : Int), (⟨#[]⟩ : ByteArray), ((pg L i).lv : Int)) := rfl
  rw [e, V9.lv i hi] at h
  exact h)
 have HZ := Hd hz
 have HHI := Hd hhi
 have HLV := Hd hlv
 have HNX := Hd (fun h => V9.next i h)
 have HLA := Hd (fun h => V9.last i h)
 obtain ⟨P, hP⟩ : ∃ P, pg L i = P := ⟨_, rfl⟩
 rw [hP] at hgood hlen HHD
 obtain ⟨la3, hla3⟩ : ∃ x, P.la = x := ⟨_, rfl⟩
 obtain ⟨hi3, hhi3⟩ : ∃ x, P.hi = x := ⟨_, rfl⟩
 obtain ⟨n3, hn3⟩ : ∃ x, P.xs.length = x := ⟨_, rfl⟩
 obtain ⟨rt3, hrt3⟩ : ∃ x, P.rt = x := ⟨_, rfl⟩
 rw [hla3, hhi3, hn3, hrt3] at hgood
 rw [hn3] at hlen HHD
 have HPP := Hd hP
 have HN3 := Hd hn3
 have HG := Hd hgood
 have HPG := Hd (show ∀ W', Blk W' g 54 (flat3 l) → Calls Tryz.prog 81 #[.agg #[.int .i64 1, .int .i64 2, .int .i64 100, .int .i64 100, .int .i64 200, .int .i64 (F : Int), .int .u64 1000, .slice (some ⟨g, 0, none⟩) n n], .int .u64 (nid : Int)] W' fun e w' => ∃ (A : Option Addr) (c : Nat), e = .returned (.agg #[.int .i64 (L : Int), .slice A n3 c, .string hi3, .bool la3, .int .u64 (rt3 : Int)]) ∧ Rs w' A c P.xs ∧ (∀ a, A = some a → W'.heap.size ≤ a.block) ∧ Kept (fun _ => False) W' w' from fun W' hW => by
  refine (tpage_anyG F h4 h6 g n l hl H kk nd mm lo pg T L i nid hL hi HNID.out L rfl W' hW).mono ?_
  rintro e w' ⟨A, c, rfl, hr, ha, hk⟩
  rw [hP] at hr ⊢
  rw [hhi3, hla3, hn3, hrt3]
  exact ⟨A, c, rfl, hr, ha, hk⟩)
 have HRT := Hd (show la3 = false → i + 1 < mm L ∧ rt3 = nd L (i + 1) from fun h => by
  by_cases e : i + 1 < mm L
  ·have := (HNX.out e).2.1; rw [hP, hrt3] at this; exact ⟨e, by omega⟩
  ·have := (HLA.out (by omega)).1; rw [hP, hla3, h] at this; cases this)
 have HNI := Hd hnid
 clear V9 hnd hgood hz hhi hlv hP hla3 hhi3 hn3 hrt3 hnid
 have HV0 := Hd hv
 clear hv
 go_enter Tryz.func82, Tryz.ntmps82
 go_wp2_with fail
 have hal := (Kept.refl (fun _ => False) w).alloc (.cells #[.int .i64 1, .int .i64 2, .int .i64 100, .int .i64 100, .int .i64 200, .int .i64 (F : Int), .int .u64 1000, .slice (some ⟨g, 0, none⟩) n n] 63)
 have HB := Hd (Blk.new w [.int .i64 1, .int .i64 2, .int .i64 100, .int .i64 100, .int .i64 200, .int .i64 (F : Int), .int .u64 1000, .slice (some ⟨g, 0, none⟩) n n] 63)
 have HV := Hd (hal.blk HV0.out (fun h => h))
 have HK := Hd hal
 clear hal
 generalize w.alloc (.cells #[.int .i64 1, .int .i64 2, .int .i64 100, .int .i64 100, .int .i64 200, .int .i64 (F : Int), .int .u64 1000, .slice (some ⟨g, 0, none⟩) n n] 63) = W at *
 generalize hr0 : w.heap.size = r0 at *
 have HR0 := Hd hr0
 clear hr0
 have hb9 := HB.out
 obtain ⟨x0, x1, x2, x3, x4, x5, x6, x7⟩ := hb9.c8
 clear hb9
 refine (HPG.out _ HV.out).mono ?_; rintro e V1 ⟨A3, c3, rfl, hR3, hA3, hK3⟩
 replace HB := Hd (hK3.blk HB.out (fun h => h))
 replace HV := Hd (hK3.blk HV.out (fun h => h))
 replace HK := Hd (HK.out.trans hK3 (fun _ _ h => h))
 have HR3 := Hd hR3
 clear hR3 hA3 hK3 x0 x1 x2 x3 x4 x5 x6 x7
 go_upto_region 2 with fail
 have hal := (Kept.refl (fun _ => False) V1).alloc (.cells #[.int .i64 (L : Int), .slice A3 n3 c3, .string hi3, .bool la3, .int .u64 (rt3 : Int)] 38)
 have HSL := Hd (Blk.new V1 [.int .i64 (L : Int), .slice A3 n3 c3, .string hi3, .bool la3, .int .u64 (rt3 : Int)] 38)
 replace HB := Hd (hal.blk HB.out (fun h => h))
 replace HV := Hd (hal.blk HV.out (fun h => h))
 replace HK := Hd (HK.out.trans hal (fun _ _ h => h))
 replace HR3 := Hd (HR3.out.keptF hal (fun _ _ h => h))
 clear hal
 generalize V1.heap.size = rq at HSL ⊢
 generalize V1.alloc (.cells #[.int .i64 (L : Int), .slice A3 n3 c3, .string hi3, .bool la3, .int .u64 (rt3 : Int)] 38) = V2 at *
 have HCHK := Hd (show ∀ W, Kept (fun _ => False) V2 W → Calls Tryz.prog 130 #[.agg #[.int .i64 (L : Int), .slice A3 n3 c3, .string hi3, .bool la3, .int .u64 (rt3 : Int)], .int .i64 (F : Int), .bool false] W fun e w' => e = .returned (.bool true) ∧ Kept (fun _ => False) W w' from fun W hW =>
  (refCheck_any (L : Int) A3 c3 hi3 la3 rt3 P.xs (F : Int) W n3 HN3.out (by omega) (HR3.out.keptF hW (fun _ _ h => h)) true ⟨fun _ => HG.out, fun _ => rfl⟩).mono (fun e w' ⟨he, hb⟩ => ⟨he, bkept hb⟩))
 have f0 := field0 (n3 : Int) (L : Int) ⟨#[]⟩
 have wF : IntKind.u64.wrap (F : Int) = (F : Int) := by rw [IntKind.wrap_u64]; omega
 have hFn : ¬ (F : Int) < (n3 : Int) := by omega
 refine qregion (fun w' => Kept (fun _ => False) V2 w') (by kernel_rfl) (by kernel_rfl) (Kept.refl _ _).drew ?_
 refine tkQ 20 ?_ (fun wq hSw => ?_) ?_
 rotate_left
 ·(have hb9 := hSw.blk HB.out (fun h => h); obtain ⟨x0, x1, x2, x3, x4, x5, x6, x7⟩ := hb9.c8; clear hb9; have hp9 := hSw.blk HSL.out (fun h => h); obtain ⟨s0, s1, s2, s3, s4⟩ := hp9.c5; clear hp9; go_simp; try with_reducible rfl)
 try simp only [aP,aA,aZ,aS]
 refine tkQ 21 ?_ (fun wq hSw => ?_) ?_
 rotate_left
 ·(go_simp; try with_reducible rfl)
 try simp only [aP,aA,aZ,aS]
 refine qcall (o := ⟨some 22, _, _, _, _, _⟩) (v := .int .u64 (wd : Int)) (by rfl) (fun wq hSw => ?_) (fun wq hSw => Calls.mono (vlatch_any F h4 h6 g n l hl nid (nla F nid) rfl (wd : Int) 0 ⟨#[]⟩ _ (hSw.blk HV.out (fun h => h)) HLT.out) ?_) ?_
 ·(go_simp; try with_reducible rfl)
 ·rintro e w9 ⟨rfl, hk⟩; exact ⟨rfl, hSw.trans hk (fun _ _ h => h)⟩
 try simp only [aP,aA,aZ,aS]
 refine tkQ 23 (.int .u64 0) (fun wq hSw => ?_) ?_
 ·(go_simp; try first | (with_reducible rfl) | (simp; omega) | (intros; omega) | simp [*])
 try simp only [aP,aA,aZ,aS]
 refine tkQ 24 (.bool false) (fun wq hSw => ?_) ?_
 ·(go_simp; try first | (with_reducible rfl) | (simp; omega) | (intros; omega) | simp [*])
 try simp only [aP,aA,aZ,aS]
 refine tkQ 25 (.bool false) (fun wq hSw => ?_) ?_
 ·(go_simp; try first | (with_reducible rfl) | (simp; omega) | (intros; omega) | simp [*])
 try simp only [aP,aA,aZ,aS]
 refine tkQ 26 ?_ (fun wq hSw => ?_) ?_
 rotate_left
 ·(go_simp; try with_reducible rfl)
 try simp only [aP,aA,aZ,aS]
 refine tkQ 27 ?_ (fun wq hSw => ?_) ?_
 rotate_left
 ·(have hb9 := hSw.blk HB.out (fun h => h); obtain ⟨x0, x1, x2, x3, x4, x5, x6, x7⟩ := hb9.c8; clear hb9; have hp9 := hSw.blk HSL.out (fun h => h); obtain ⟨s0, s1, s2, s3, s4⟩ := hp9.c5; clear hp9; go_simp; try with_reducible rfl)
 try simp only [aP,aA,aZ,aS]
 refine tkQ 28 ?_ (fun wq hSw => ?_) ?_
 rotate_left
 ·(go_simp; try with_reducible rfl)
 try simp only [aP,aA,aZ,aS]
 refine tkQ 29 (.bool false) (fun wq hSw => ?_) ?_
 ·(go_simp; try first | (with_reducible rfl) | (simp; omega) | (intros; omega) | simp [*])
 try simp only [aP,aA,aZ,aS]
 refine tkQ 30 (.bool false) (fun wq hSw => ?_) ?_
 ·(go_simp; try first | (with_reducible rfl) | (simp; omega) | (intros; omega) | simp [*])
 try simp only [aP,aA,aZ,aS]
 refine tkQ 31 (.bool false) (fun wq hSw => ?_) ?_
 ·(go_simp; try first | (with_reducible rfl) | (simp; omega) | (intros; omega) | simp [*])
 try simp only [aP,aA,aZ,aS]
 refine tkQ 32 ?_ (fun wq hSw => ?_) ?_
 rotate_left
 ·(have hb9 := hSw.blk HB.out (fun h => h); obtain ⟨x0, x1, x2, x3, x4, x5, x6, x7⟩ := hb9.c8; clear hb9; have hp9 := hSw.blk HSL.out (fun h => h); obtain ⟨s0, s1, s2, s3, s4⟩ := hp9.c5; clear hp9; go_simp; try with_reducible rfl)
 try simp only [aP,aA,aZ,aS]
 refine tkQ 33 ?_ (fun wq hSw => ?_) ?_
 rotate_left
 ·(go_simp; try with_reducible rfl)
 try simp only [aP,aA,aZ,aS]
 refine qcall (o := ⟨some 34, _, _, _, _, _⟩) (v := .agg #[.int .u64 (n3 : Int), .string ⟨#[]⟩, .int .u64 (L : Int)]) (by rfl) (fun wq hSw => ?_) (fun wq hSw => Calls.mono (vpart_any F h4 h6 g n l hl nid 1 (by omega) _ rfl (n3 : Int) (L : Int) ⟨#[]⟩ _ (hSw.blk HV.out (fun h => h)) HHD.out) ?_) ?_
 ·(go_simp; try with_reducible rfl)
 ·rintro e w9 ⟨rfl, hk⟩; exact ⟨rfl, hSw.trans hk (fun _ _ h => h)⟩
 try simp only [aP,aA,aZ,aS]
 refine tkQ 35 ?_ (fun wq hSw => ?_) ?_
 rotate_left
 ·(go_simp; try with_reducible rfl)
 try simp only [aP,aA,aZ,aS]
 refine tkQ 36 ?_ (fun wq hSw => ?_) ?_
 rotate_left
 ·(go_simp; try with_reducible rfl)
 try simp only [aP,aA,aZ,aS]
 refine tkQ 37 ?_ (fun wq hSw => ?_) ?_
 rotate_left
 ·(go_simp; try with_reducible rfl)
 try simp only [aP,aA,aZ,aS]
 refine tkQ 38 ?_ (fun wq hSw => ?_) ?_
 rotate_left
 ·(have hb9 := hSw.blk HB.out (fun h => h); obtain ⟨x0, x1, x2, x3, x4, x5, x6, x7⟩ := hb9.c8; clear hb9; have hp9 := hSw.blk HSL.out (fun h => h); obtain ⟨s0, s1, s2, s3, s4⟩ := hp9.c5; clear hp9; go_simp; try with_reducible rfl)
 try simp only [aP,aA,aZ,aS]
 refine tkQ 39 (.int .u64 (F : Int)) (fun wq hSw => ?_) ?_
 ·(go_simp; try first | (with_reducible rfl) | (simp; omega) | (intros; omega) | simp [*])
 try simp only [aP,aA,aZ,aS]
 refine tkQ 40 (.bool false) (fun wq hSw => ?_) ?_
 ·(go_simp; try first | (with_reducible rfl) | (simp; omega) | (intros; omega) | simp [*])
 try simp only [aP,aA,aZ,aS]
 refine tkQ 41 (.bool false) (fun wq hSw => ?_) ?_
 ·(go_simp; try first | (with_reducible rfl) | (simp; omega) | (intros; omega) | simp [*])
 try simp only [aP,aA,aZ,aS]
 refine tkQ 42 (.bool false) (fun wq hSw => ?_) ?_
 ·(go_simp; try first | (with_reducible rfl) | (simp; omega) | (intros; omega) | simp [*])
 try simp only [aP,aA,aZ,aS]
 refine tkQ 43 ?_ (fun wq hSw => ?_) ?_
 rotate_left
 ·(have hb9 := hSw.blk HB.out (fun h => h); obtain ⟨x0, x1, x2, x3, x4, x5, x6, x7⟩ := hb9.c8; clear hb9; have hp9 := hSw.blk HSL.out (fun h => h); obtain ⟨s0, s1, s2, s3, s4⟩ := hp9.c5; clear hp9; go_simp; try with_reducible rfl)
 try simp only [aP,aA,aZ,aS]
 refine tkQ 44 ?_ (fun wq hSw => ?_) ?_
 rotate_left
 ·(go_simp; try with_reducible rfl)
 try simp only [aP,aA,aZ,aS]
 refine tkQ 45 ?_ (fun wq hSw => ?_) ?_
 rotate_left
 ·(go_simp; try with_reducible rfl)
 try simp only [aP,aA,aZ,aS]
 refine tkQ 46 ?_ (fun wq hSw => ?_) ?_
 rotate_left
 ·(have hb9 := hSw.blk HB.out (fun h => h); obtain ⟨x0, x1, x2, x3, x4, x5, x6, x7⟩ := hb9.c8; clear hb9; have hp9 := hSw.blk HSL.out (fun h => h); obtain ⟨s0, s1, s2, s3, s4⟩ := hp9.c5; clear hp9; go_simp; try with_reducible rfl)
 try simp only [aP,aA,aZ,aS]
 refine qcall (o := ⟨some 47, _, _, _, _, _⟩) (v := .bool true) (by rfl) (fun wq hSw => ?_) (fun wq hSw => Calls.mono (HCHK.out _ hSw) ?_) ?_
 ·(go_simp; try with_reducible rfl)
 ·rintro e w9 ⟨rfl, hk⟩; exact ⟨rfl, hSw.trans hk (fun _ _ h => h)⟩
 try simp only [aP,aA,aZ,aS]
 refine tkQ 48 (.bool false) (fun wq hSw => ?_) ?_
 ·(go_simp; try first | (with_reducible rfl) | (simp; omega) | (intros; omega) | simp [*])
 try simp only [aP,aA,aZ,aS]
 refine tkQ 49 (.bool false) (fun wq hSw => ?_) ?_
 ·(go_simp; try first | (with_reducible rfl) | (simp; omega) | (intros; omega) | simp [*])
 try simp only [aP,aA,aZ,aS]
 refine wpQuiet_nil ?_
 intro wz hHeld
 replace HB := Hd (hHeld.blk HB.out (fun h => h))
 replace HV := Hd (hHeld.blk HV.out (fun h => h))
 replace HSL := Hd (hHeld.blk HSL.out (fun h => h))
 replace HK := Hd (HK.out.trans hHeld (fun _ _ h => h))
 replace HR3 := Hd (HR3.out.keptF hHeld (fun _ _ h => h))
 clear hHeld f0 wF hFn HCHK HLT HHD HPG
 rename World => V3
 go_wp2_with fail
 go_loopw [14] (fun iv wr => ∃ s : Nat, s ≤ n3 ∧ iv = .int .i64 (s : Int) ∧ Kept (fun _ => False) V3 wr) (fun iv _ => n3 - (intOf iv).toNat)
 case atStart => exact ⟨0, Nat.zero_le _, rfl, Kept.refl _ _⟩
 case round =>
  rename World => V4
  obtain ⟨s, hs, rfl, hK4⟩ := hrel
  have HK4 := Hd hK4
  have HB4 := Hd (hK4.blk HB.out (fun h => h))
  have HV4 := Hd (hK4.blk HV.out (fun h => h))
  have HS4 := Hd (hK4.blk HSL.out (fun h => h))
  have HR4 := Hd (HR3.out.keptF hK4 (fun _ _ h => h))
  clear hK4
  have hs9 := HS4.out
  obtain ⟨s0, s1, s2, s3, s4⟩ := hs9.c5
  clear hs9
  by_cases hsn : s < n3
  ·have hsnI : (s : Int) < (n3 : Int) := by omega
   obtain ⟨x, hx⟩ : ∃ x, P.xs[s]? = some x := ⟨_, List.getElem?_eq_getElem (by have := HN3.out; omega)⟩
   obtain ⟨g3, o3, rfl, hg3, hc3⟩ := HR4.out.at (by have := HN3.out; omega)
   obtain ⟨y0, y1⟩ := hc3 s x hx
   have HY0 := Hd y0
   have HY1 := Hd y1
   have hlo := slot_lowG T HLV.out hL hi (by rw [HPP.out]; exact hx)
   have hless : Op.bytesLess x.1.toList (lo L i).toList = false := by rw [bytesLess_ltB]; exact hlo
   have hup := T.up L1 (by have := HLE.out; omega) i (by rw [← HLE.out]; exact hi)
   rw [← HLE.out, HPP.out] at hup
   obtain ⟨⟨r0, h00⟩, hmem⟩ := hup
   obtain ⟨j0, hj0, hxe⟩ := hmem x (List.mem_of_getElem? hx)
   have hz00 := hc3 0 _ h00
   have z0 := hz00.1
   simp only [Nat.zero_mul, Nat.add_zero] at z0
   have HJ0 := Hd hj0
   have HXE := Hd hxe
   have hs0key : s = 0 → x.1 = lo L i := fun e => by subst e; rw [h00] at hx; cases hx; rfl
   have HS0K := Hd hs0key
   have hLp : (0 : Int) < (L : Int) := by have := HLE.out; omega
   have hn0 : (0 : Int) < (n3 : Int) := by omega
   clear hc3 hlo hmem hz00 hxe hj0 h00 hs0key
   go_upto_region 7 with fail
   go_cut [81] from 57 to 81 (fun v wx => v = .bool false ∧ wx = V4)
   case first =>
    by_cases he : s = 0
    ·have e1 : ((s : Int) == 0) = true := by simp [he]
     clear he
     go_wp2
     go_meet
     exact ⟨rfl, rfl⟩
    ·have e1 : ((s : Int) == 0) = false := by simp [he]
     go_wp2
     go_meet
     exact ⟨rfl, rfl⟩
   case rest =>
    obtain ⟨rfl, rfl⟩ := hcut
    rename World => V4
    have hmB1000 : mB ≤ 1000 := by have := HMB.out; have := (T.lev L1 (by have := HLE.out; omega)).top; omega
    have hLz : ((L : Int) == 0) = false := by simp; omega
    clear z0 y0 y1 hless
    go_wp2_with fail
    go_loopw [15, 16] (fun bv kv wr => ∃ k : Nat, k ≤ mB ∧ kv = .int .i64 (k : Int) ∧ bv = .bool (decide (j0 < k)) ∧ Kept (fun _ => False) V4 wr) (fun _ kv _ => mB - (intOf kv).toNat)
    case atStart => exact ⟨0, Nat.zero_le _, rfl, rfl, Kept.refl _ _⟩
    case round =>
     rename World => V5
     obtain ⟨k, hk, rfl, rfl, hK5⟩ := hrel
     have HK5 := Hd hK5
     have HS5 := Hd (hK5.blk HS4.out (fun h => h))
     have hg5 : g3 < V5.heap.size := Nat.lt_of_lt_of_le hg3 hK5.size
     by_cases hkm : k < mB
     ·have hkmI : (k : Int) < (mB : Int) := by omega
      have HKW := Hd (HK.out.trans (HK4.out.trans hK5 (fun _ _ h => h)) (fun _ _ h => h))
      obtain ⟨nk, hnk⟩ : ∃ nk, nd L1 k = nk := ⟨_, rfl⟩
      obtain ⟨lk, hlk⟩ : ∃ lk, lo L1 k = lk := ⟨_, rfl⟩
      have hbk := HBC.out k hkm
      rw [hnk] at hbk
      have hwk := HWC.out k hkm
      rw [hlk] at hwk
      have hgBw : gB < w.heap.size := by have := HR0.out; have := HGB.out; omega
      have hgWw : gW < w.heap.size := by have := HR0.out; have := HGW.out; omega
      have HBk := Hd ((HKW.out.cell (p := ⟨gB, oB + k, none⟩) hgBw (fun h => h)).trans hbk)
      have HWk := Hd ((HKW.out.cell (p := ⟨gW, oW + k, none⟩) hgWw (fun h => h)).trans hwk)
      replace HY0 := Hd ((hK5.cell (p := ⟨g3, o3 + s * 2, none⟩) hg3 (fun h => h)).trans HY0.out)
      replace HY1 := Hd ((hK5.cell (p := ⟨g3, o3 + s * 2 + 1, none⟩) hg3 (fun h => h)).trans HY1.out)
      have hgB5 : gB < V5.heap.size := Nat.lt_of_lt_of_le hgBw HKW.out.size
      clear hgBw
      have hgW5 : gW < V5.heap.size := Nat.lt_of_lt_of_le hgWw HKW.out.size
      clear hgWw
      have HNK := Hd hnk
      have HLK := Hd hlk
      clear hK5 hbk hwk hnk hlk
      rcases Nat.lt_trichotomy j0 k with h | h | h
      ·have d0 : decide (j0 < k) = true := decide_eq_true h
       rw [d0]
       have HJK := Hd h
       clear d0 h
       go_upto_region 13 with fail
       refine qregion (fun w' => Kept (fun _ => False) V5 w') (by kernel_rfl) (by kernel_rfl) (Kept.refl _ _).drew ?_
       refine tkQ 90 (.bool true) (fun wq hSw => ?_) ?_
       ·(go_simp; try first | (with_reducible rfl) | (simp; omega) | (intros; omega) | simp [*])
       try simp only [aP,aA,aZ,aS]
       refine tkQ 91 (.bool true) (fun wq hSw => ?_) ?_
       ·(go_simp; try first | (with_reducible rfl) | (simp; omega) | (intros; omega) | simp [*])
       try simp only [aP,aA,aZ,aS]
       go_big_quiet_skip
       try simp only [aP,aA,aZ,aS]
       go_big_quiet_skip
       try simp only [aP,aA,aZ,aS]
       go_big_quiet_skip
       try simp only [aP,aA,aZ,aS]
       go_big_quiet_skip
       try simp only [aP,aA,aZ,aS]
       go_big_quiet_skip
       try simp only [aP,aA,aZ,aS]
       go_big_quiet_skip
       try simp only [aP,aA,aZ,aS]
       go_big_quiet_skip
       try simp only [aP,aA,aZ,aS]
       go_big_quiet_skip
       try simp only [aP,aA,aZ,aS]
       go_big_quiet_skip
       try simp only [aP,aA,aZ,aS]
       go_big_quiet_skip
       try simp only [aP,aA,aZ,aS]
       go_big_quiet_skip
       try simp only [aP,aA,aZ,aS]
       go_big_quiet_skip
       try simp only [aP,aA,aZ,aS]
       go_big_quiet_skip
       try simp only [aP,aA,aZ,aS]
       go_big_quiet_skip
       try simp only [aP,aA,aZ,aS]
       go_big_quiet_skip
       try simp only [aP,aA,aZ,aS]
       go_big_quiet_skip
       try simp only [aP,aA,aZ,aS]
       go_big_quiet_skip
       try simp only [aP,aA,aZ,aS]
       go_big_quiet_skip
       try simp only [aP,aA,aZ,aS]
       go_big_quiet_skip
       try simp only [aP,aA,aZ,aS]
       go_big_quiet_skip
       try simp only [aP,aA,aZ,aS]
       go_big_quiet_skip
       try simp only [aP,aA,aZ,aS]
       go_big_quiet_skip
       try simp only [aP,aA,aZ,aS]
       go_big_quiet_skip
       try simp only [aP,aA,aZ,aS]
       go_big_quiet_skip
       try simp only [aP,aA,aZ,aS]
       refine tkQ 116 (.bool true) (fun wq hSw => ?_) ?_
       ·(go_simp; try first | (with_reducible rfl) | (simp; omega) | (intros; omega) | simp [*])
       try simp only [aP,aA,aZ,aS]
       refine tkQ 15 ?_ (fun wq hSw => ?_) ?_
       rotate_left
       ·(go_simp; try with_reducible rfl)
       try simp only [aP,aA,aZ,aS]
       refine wpQuiet_nil ?_
       intro wz hHeld
       replace HK5 := Hd (HK5.out.trans hHeld (fun _ _ h => h))
       clear hHeld
       go_wp2
       go_roundw
       case rel => exact ⟨k + 1, by omega, by go_num, by rw [decide_eq_true (show j0 < k + 1 by have := HJK.out; omega)], HK5.out⟩
       case measure => simp [intOf]; omega
      ·have d0 : decide (j0 < k) = false := decide_eq_false (by omega)
       rw [d0]
       have hxr : (x.2 : Int) = (nk : Int) := by rw [HXE.out]; show ((nd L1 j0 : Nat) : Int) = _; rw [h, HNK.out]
       have hxk : x.1 = lk := by rw [HXE.out]; show lo L1 j0 = lk; rw [h]; exact HLK.out
       rw [hxr] at HY1
       rw [hxk] at HY0
       have HJK := Hd h
       clear d0 h hxr hxk
       go_upto_region 13 with fail
       refine qregion (fun w' => Kept (fun _ => False) V5 w') (by kernel_rfl) (by kernel_rfl) (Kept.refl _ _).drew ?_
       refine tkQ 90 (.bool false) (fun wq hSw => ?_) ?_
       ·(go_simp; try first | (with_reducible rfl) | (simp; omega) | (intros; omega) | simp [*])
       try simp only [aP,aA,aZ,aS]
       refine tkQ 91 (.bool false) (fun wq hSw => ?_) ?_
       ·(go_simp; try first | (with_reducible rfl) | (simp; omega) | (intros; omega) | simp [*])
       try simp only [aP,aA,aZ,aS]
       refine tkQ 92 ?_ (fun wq hSw => ?_) ?_
       rotate_left
       ·(go_simp; try with_reducible rfl)
       try simp only [aP,aA,aZ,aS]
       refine tkQ 93 ?_ (fun wq hSw => ?_) ?_
       rotate_left
       ·(go_simp; try with_reducible rfl)
       try simp only [aP,aA,aZ,aS]
       refine tkQ 94 ?_ (fun wq hSw => ?_) ?_
       rotate_left
       ·(go_simp; try with_reducible rfl)
       try simp only [aP,aA,aZ,aS]
       refine tkQ 95 ?_ (fun wq hSw => ?_) ?_
       rotate_left
       ·(have hp9 := hSw.blk HS5.out (fun h => h); obtain ⟨s0, s1, s2, s3, s4⟩ := hp9.c5; clear hp9; have y0 := (hSw.cell (p := ⟨g3, o3 + s * 2, none⟩) hg5 (fun h => h)).trans HY0.out; have y1 := (hSw.cell (p := ⟨g3, o3 + s * 2 + 1, none⟩) hg5 (fun h => h)).trans HY1.out; have bb := (hSw.cell (p := ⟨gB, oB + k, none⟩) hgB5 (fun h => h)).trans HBk.out; have ll := (hSw.cell (p := ⟨gW, oW + k, none⟩) hgW5 (fun h => h)).trans HWk.out; go_simp; try with_reducible rfl)
       try simp only [aP,aA,aZ,aS]
       refine tkQ 96 ?_ (fun wq hSw => ?_) ?_
       rotate_left
       ·(go_simp; try with_reducible rfl)
       try simp only [aP,aA,aZ,aS]
       refine tkQ 97 ?_ (fun wq hSw => ?_) ?_
       rotate_left
       ·(have hp9 := hSw.blk HS5.out (fun h => h); obtain ⟨s0, s1, s2, s3, s4⟩ := hp9.c5; clear hp9; have y0 := (hSw.cell (p := ⟨g3, o3 + s * 2, none⟩) hg5 (fun h => h)).trans HY0.out; have y1 := (hSw.cell (p := ⟨g3, o3 + s * 2 + 1, none⟩) hg5 (fun h => h)).trans HY1.out; have bb := (hSw.cell (p := ⟨gB, oB + k, none⟩) hgB5 (fun h => h)).trans HBk.out; have ll := (hSw.cell (p := ⟨gW, oW + k, none⟩) hgW5 (fun h => h)).trans HWk.out; go_simp; try with_reducible rfl)
       try simp only [aP,aA,aZ,aS]
       refine tkQ 98 ?_ (fun wq hSw => ?_) ?_
       rotate_left
       ·(go_simp; try with_reducible rfl)
       try simp only [aP,aA,aZ,aS]
       refine tkQ 99 ?_ (fun wq hSw => ?_) ?_
       rotate_left
       ·(go_simp; try with_reducible rfl)
       try simp only [aP,aA,aZ,aS]
       refine tkQ 100 ?_ (fun wq hSw => ?_) ?_
       rotate_left
       ·(go_simp; try with_reducible rfl)
       try simp only [aP,aA,aZ,aS]
       refine tkQ 101 ?_ (fun wq hSw => ?_) ?_
       rotate_left
       ·(have hp9 := hSw.blk HS5.out (fun h => h); obtain ⟨s0, s1, s2, s3, s4⟩ := hp9.c5; clear hp9; have y0 := (hSw.cell (p := ⟨g3, o3 + s * 2, none⟩) hg5 (fun h => h)).trans HY0.out; have y1 := (hSw.cell (p := ⟨g3, o3 + s * 2 + 1, none⟩) hg5 (fun h => h)).trans HY1.out; have bb := (hSw.cell (p := ⟨gB, oB + k, none⟩) hgB5 (fun h => h)).trans HBk.out; have ll := (hSw.cell (p := ⟨gW, oW + k, none⟩) hgW5 (fun h => h)).trans HWk.out; go_simp; try with_reducible rfl)
       try simp only [aP,aA,aZ,aS]
       refine tkQ 102 (.bool true) (fun wq hSw => ?_) ?_
       ·(go_simp; try first | (with_reducible rfl) | (simp; omega) | (intros; omega) | simp [*])
       try simp only [aP,aA,aZ,aS]
       refine tkQ 103 (.bool true) (fun wq hSw => ?_) ?_
       ·(go_simp; try first | (with_reducible rfl) | (simp; omega) | (intros; omega) | simp [*])
       try simp only [aP,aA,aZ,aS]
       refine tkQ 104 ?_ (fun wq hSw => ?_) ?_
       rotate_left
       ·(go_simp; try with_reducible rfl)
       try simp only [aP,aA,aZ,aS]
       refine tkQ 105 ?_ (fun wq hSw => ?_) ?_
       rotate_left
       ·(go_simp; try with_reducible rfl)
       try simp only [aP,aA,aZ,aS]
       refine tkQ 106 ?_ (fun wq hSw => ?_) ?_
       rotate_left
       ·(go_simp; try with_reducible rfl)
       try simp only [aP,aA,aZ,aS]
       refine tkQ 107 ?_ (fun wq hSw => ?_) ?_
       rotate_left
       ·(have hp9 := hSw.blk HS5.out (fun h => h); obtain ⟨s0, s1, s2, s3, s4⟩ := hp9.c5; clear hp9; have y0 := (hSw.cell (p := ⟨g3, o3 + s * 2, none⟩) hg5 (fun h => h)).trans HY0.out; have y1 := (hSw.cell (p := ⟨g3, o3 + s * 2 + 1, none⟩) hg5 (fun h => h)).trans HY1.out; have bb := (hSw.cell (p := ⟨gB, oB + k, none⟩) hgB5 (fun h => h)).trans HBk.out; have ll := (hSw.cell (p := ⟨gW, oW + k, none⟩) hgW5 (fun h => h)).trans HWk.out; go_simp; try with_reducible rfl)
       try simp only [aP,aA,aZ,aS]
       refine tkQ 108 ?_ (fun wq hSw => ?_) ?_
       rotate_left
       ·(go_simp; try with_reducible rfl)
       try simp only [aP,aA,aZ,aS]
       refine tkQ 109 ?_ (fun wq hSw => ?_) ?_
       rotate_left
       ·(have hp9 := hSw.blk HS5.out (fun h => h); obtain ⟨s0, s1, s2, s3, s4⟩ := hp9.c5; clear hp9; have y0 := (hSw.cell (p := ⟨g3, o3 + s * 2, none⟩) hg5 (fun h => h)).trans HY0.out; have y1 := (hSw.cell (p := ⟨g3, o3 + s * 2 + 1, none⟩) hg5 (fun h => h)).trans HY1.out; have bb := (hSw.cell (p := ⟨gB, oB + k, none⟩) hgB5 (fun h => h)).trans HBk.out; have ll := (hSw.cell (p := ⟨gW, oW + k, none⟩) hgW5 (fun h => h)).trans HWk.out; go_simp; try with_reducible rfl)
       try simp only [aP,aA,aZ,aS]
       refine tkQ 110 ?_ (fun wq hSw => ?_) ?_
       rotate_left
       ·(go_simp; try with_reducible rfl)
       try simp only [aP,aA,aZ,aS]
       refine tkQ 111 ?_ (fun wq hSw => ?_) ?_
       rotate_left
       ·(go_simp; try with_reducible rfl)
       try simp only [aP,aA,aZ,aS]
       refine tkQ 112 ?_ (fun wq hSw => ?_) ?_
       rotate_left
       ·(go_simp; try with_reducible rfl)
       try simp only [aP,aA,aZ,aS]
       refine tkQ 113 ?_ (fun wq hSw => ?_) ?_
       rotate_left
       ·(have hp9 := hSw.blk HS5.out (fun h => h); obtain ⟨s0, s1, s2, s3, s4⟩ := hp9.c5; clear hp9; have y0 := (hSw.cell (p := ⟨g3, o3 + s * 2, none⟩) hg5 (fun h => h)).trans HY0.out; have y1 := (hSw.cell (p := ⟨g3, o3 + s * 2 + 1, none⟩) hg5 (fun h => h)).trans HY1.out; have bb := (hSw.cell (p := ⟨gB, oB + k, none⟩) hgB5 (fun h => h)).trans HBk.out; have ll := (hSw.cell (p := ⟨gW, oW + k, none⟩) hgW5 (fun h => h)).trans HWk.out; go_simp; try with_reducible rfl)
       try simp only [aP,aA,aZ,aS]
       refine tkQ 114 (.bool true) (fun wq hSw => ?_) ?_
       ·(go_simp; try first | (with_reducible rfl) | (simp; omega) | (intros; omega) | simp [*])
       try simp only [aP,aA,aZ,aS]
       refine tkQ 115 (.bool true) (fun wq hSw => ?_) ?_
       ·(go_simp; try first | (with_reducible rfl) | (simp; omega) | (intros; omega) | simp [*])
       try simp only [aP,aA,aZ,aS]
       refine tkQ 116 (.bool true) (fun wq hSw => ?_) ?_
       ·(go_simp; try first | (with_reducible rfl) | (simp; omega) | (intros; omega) | simp [*])
       try simp only [aP,aA,aZ,aS]
       refine tkQ 15 ?_ (fun wq hSw => ?_) ?_
       rotate_left
       ·(go_simp; try with_reducible rfl)
       try simp only [aP,aA,aZ,aS]
       refine wpQuiet_nil ?_
       intro wz hHeld
       replace HK5 := Hd (HK5.out.trans hHeld (fun _ _ h => h))
       clear hHeld
       go_wp2
       go_roundw
       case rel => exact ⟨k + 1, by omega, by go_num, by rw [decide_eq_true (show j0 < k + 1 by have := HJK.out; omega)], HK5.out⟩
       case measure => simp [intOf]; omega
      ·have d0 : decide (j0 < k) = false := decide_eq_false (by omega)
       rw [d0]
       have hne : ((nk : Int) == (x.2 : Int)) = false := beq_false_of_ne (by rw [HXE.out]; show (nk : Int) ≠ ((nd L1 j0 : Nat) : Int); intro e; have h2 : nk = nd L1 j0 := (by omega); rw [← HNK.out] at h2; have h3 := (T.lev L1 (by have := HLE.out; omega)).inj k j0 (by have := HMB.out; omega) HJ0.out h2; omega)
       have HJK := Hd h
       clear d0 h
       go_upto_region 13 with fail
       refine qregion (fun w' => Kept (fun _ => False) V5 w') (by kernel_rfl) (by kernel_rfl) (Kept.refl _ _).drew ?_
       refine tkQ 90 (.bool false) (fun wq hSw => ?_) ?_
       ·(go_simp; try first | (with_reducible rfl) | (simp; omega) | (intros; omega) | simp [*])
       try simp only [aP,aA,aZ,aS]
       refine tkQ 91 (.bool false) (fun wq hSw => ?_) ?_
       ·(go_simp; try first | (with_reducible rfl) | (simp; omega) | (intros; omega) | simp [*])
       try simp only [aP,aA,aZ,aS]
       refine tkQ 92 ?_ (fun wq hSw => ?_) ?_
       rotate_left
       ·(go_simp; try with_reducible rfl)
       try simp only [aP,aA,aZ,aS]
       refine tkQ 93 ?_ (fun wq hSw => ?_) ?_
       rotate_left
       ·(go_simp; try with_reducible rfl)
       try simp only [aP,aA,aZ,aS]
       refine tkQ 94 ?_ (fun wq hSw => ?_) ?_
       rotate_left
       ·(go_simp; try with_reducible rfl)
       try simp only [aP,aA,aZ,aS]
       refine tkQ 95 ?_ (fun wq hSw => ?_) ?_
       rotate_left
       ·(have hp9 := hSw.blk HS5.out (fun h => h); obtain ⟨s0, s1, s2, s3, s4⟩ := hp9.c5; clear hp9; have y0 := (hSw.cell (p := ⟨g3, o3 + s * 2, none⟩) hg5 (fun h => h)).trans HY0.out; have y1 := (hSw.cell (p := ⟨g3, o3 + s * 2 + 1, none⟩) hg5 (fun h => h)).trans HY1.out; have bb := (hSw.cell (p := ⟨gB, oB + k, none⟩) hgB5 (fun h => h)).trans HBk.out; have ll := (hSw.cell (p := ⟨gW, oW + k, none⟩) hgW5 (fun h => h)).trans HWk.out; go_simp; try with_reducible rfl)
       try simp only [aP,aA,aZ,aS]
       refine tkQ 96 ?_ (fun wq hSw => ?_) ?_
       rotate_left
       ·(go_simp; try with_reducible rfl)
       try simp only [aP,aA,aZ,aS]
       refine tkQ 97 ?_ (fun wq hSw => ?_) ?_
       rotate_left
       ·(have hp9 := hSw.blk HS5.out (fun h => h); obtain ⟨s0, s1, s2, s3, s4⟩ := hp9.c5; clear hp9; have y0 := (hSw.cell (p := ⟨g3, o3 + s * 2, none⟩) hg5 (fun h => h)).trans HY0.out; have y1 := (hSw.cell (p := ⟨g3, o3 + s * 2 + 1, none⟩) hg5 (fun h => h)).trans HY1.out; have bb := (hSw.cell (p := ⟨gB, oB + k, none⟩) hgB5 (fun h => h)).trans HBk.out; have ll := (hSw.cell (p := ⟨gW, oW + k, none⟩) hgW5 (fun h => h)).trans HWk.out; go_simp; try with_reducible rfl)
       try simp only [aP,aA,aZ,aS]
       refine tkQ 98 ?_ (fun wq hSw => ?_) ?_
       rotate_left
       ·(go_simp; try with_reducible rfl)
       try simp only [aP,aA,aZ,aS]
       refine tkQ 99 ?_ (fun wq hSw => ?_) ?_
       rotate_left
       ·(go_simp; try with_reducible rfl)
       try simp only [aP,aA,aZ,aS]
       refine tkQ 100 ?_ (fun wq hSw => ?_) ?_
       rotate_left
       ·(go_simp; try with_reducible rfl)
       try simp only [aP,aA,aZ,aS]
       refine tkQ 101 ?_ (fun wq hSw => ?_) ?_
       rotate_left
       ·(have hp9 := hSw.blk HS5.out (fun h => h); obtain ⟨s0, s1, s2, s3, s4⟩ := hp9.c5; clear hp9; have y0 := (hSw.cell (p := ⟨g3, o3 + s * 2, none⟩) hg5 (fun h => h)).trans HY0.out; have y1 := (hSw.cell (p := ⟨g3, o3 + s * 2 + 1, none⟩) hg5 (fun h => h)).trans HY1.out; have bb := (hSw.cell (p := ⟨gB, oB + k, none⟩) hgB5 (fun h => h)).trans HBk.out; have ll := (hSw.cell (p := ⟨gW, oW + k, none⟩) hgW5 (fun h => h)).trans HWk.out; go_simp; try with_reducible rfl)
       try simp only [aP,aA,aZ,aS]
       refine tkQ 102 (.bool false) (fun wq hSw => ?_) ?_
       ·(go_simp; try first | (with_reducible rfl) | (simp; omega) | (intros; omega) | simp [*])
       try simp only [aP,aA,aZ,aS]
       refine tkQ 103 (.bool false) (fun wq hSw => ?_) ?_
       ·(go_simp; try first | (with_reducible rfl) | (simp; omega) | (intros; omega) | simp [*])
       try simp only [aP,aA,aZ,aS]
       go_big_quiet_skip
       try simp only [aP,aA,aZ,aS]
       go_big_quiet_skip
       try simp only [aP,aA,aZ,aS]
       go_big_quiet_skip
       try simp only [aP,aA,aZ,aS]
       go_big_quiet_skip
       try simp only [aP,aA,aZ,aS]
       go_big_quiet_skip
       try simp only [aP,aA,aZ,aS]
       go_big_quiet_skip
       try simp only [aP,aA,aZ,aS]
       go_big_quiet_skip
       try simp only [aP,aA,aZ,aS]
       go_big_quiet_skip
       try simp only [aP,aA,aZ,aS]
       go_big_quiet_skip
       try simp only [aP,aA,aZ,aS]
       go_big_quiet_skip
       try simp only [aP,aA,aZ,aS]
       go_big_quiet_skip
       try simp only [aP,aA,aZ,aS]
       refine tkQ 115 (.bool false) (fun wq hSw => ?_) ?_
       ·(go_simp; try first | (with_reducible rfl) | (simp; omega) | (intros; omega) | simp [*])
       try simp only [aP,aA,aZ,aS]
       refine tkQ 116 (.bool false) (fun wq hSw => ?_) ?_
       ·(go_simp; try first | (with_reducible rfl) | (simp; omega) | (intros; omega) | simp [*])
       try simp only [aP,aA,aZ,aS]
       refine tkQ 15 ?_ (fun wq hSw => ?_) ?_
       rotate_left
       ·(go_simp; try with_reducible rfl)
       try simp only [aP,aA,aZ,aS]
       refine wpQuiet_nil ?_
       intro wz hHeld
       replace HK5 := Hd (HK5.out.trans hHeld (fun _ _ h => h))
       clear hHeld
       go_wp2
       go_roundw
       case rel => exact ⟨k + 1, by omega, by go_num, by rw [decide_eq_false (show ¬ j0 < k + 1 by have := HJK.out; omega)], HK5.out⟩
       case measure => simp [intOf]; omega
     ·have hkmI : ¬ (k : Int) < (mB : Int) := by omega
      have d0 : decide (j0 < k) = true := decide_eq_true (by have := HJ0.out; have := HMB.out; omega)
      rw [d0]
      replace HK4 := Hd (HK4.out.trans HK5.out (fun _ _ h => h))
      clear d0 hK5
      go_wp2
      go_roundw
      case rel => exact ⟨s + 1, by omega, by go_num, HK4.out⟩
      case measure => simp [intOf]; omega
  ·have hsnI : ¬ (s : Int) < (n3 : Int) := by omega
   clear hs
   cases la3 with
   | true =>
    go_wp2
    go_ret
    refine ⟨rfl, ?_⟩
    have := HK.out.trans HK4.out (fun _ _ h => h)
    exact this
   | false =>
    obtain ⟨hin, hrt⟩ := HRT.out rfl
    have HRTE := Hd hrt
    clear hrt
    have hb9 := HB4.out
    obtain ⟨x0, x1, x2, x3, x4, x5, x6, x7⟩ := hb9.c8
    clear hb9
    go_wp2_with fail
    refine (tnode_anyG F h4 h6 g n l hl H kk nd mm lo pg T L (i + 1) rt3 hL hin HRTE.out _ HV4.out).mono ?_; rintro e w9 ⟨rfl, hK9⟩
    have HK9 := Hd (HK.out.trans (HK4.out.trans hK9 (fun _ _ h => h)) (fun _ _ h => h))
    clear hK9
    go_wp2
    go_ret
    refine ⟨rfl, ?_⟩
    have := HK9.out
    exact this

end
end Go.Proofs.YtjnodgebpklaoaaGreat
