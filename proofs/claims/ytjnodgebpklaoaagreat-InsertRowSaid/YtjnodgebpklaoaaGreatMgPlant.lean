/-
 What the kit's Plant, View and Height answer. Condition: the kit's small configurations.
-/
import Derived.Test.YtjnodgebpklaoaaGreatLkView
import Derived.Test.YtjnodgebpklaoaaGreatLkTree
import Derived.Test.YtjnodgebpklaoaaGreatLkPage
import Derived.Test.YtjnodgebpklaoaaGreatLkKeys
import Derived.Test.YtjnodgebpklaoaaGreatLkFind
namespace Go.Proofs.YtjnodgebpklaoaaGreat
set_option maxHeartbeats 8000000
set_option maxRecDepth 100000
section
open Go.RowKit Go.Deep Plain
set_option linter.unusedVariables false

section
variable {w : World} {ops : Array Oper} {rest : List Oper} {o : Oper} {a : Act} {Q : Exit → Act → World → Prop}
end
def Kr (w : World) (A : Option Addr) (ks : List ByteArray) : Prop := 0 < ks.length → ∃ g off, A = some ⟨g, off, none⟩ ∧ g < w.heap.size ∧ ∀ (i : Nat) (k : ByteArray), ks[i]? = some k → w.cell? ⟨g, off + i, none⟩ = some (.string k)
theorem Kr.kept {w w' : World} {A : Option Addr} {ks : List ByteArray} {Y : Nat → Prop} (h : Kr w A ks) (hk : Kept Y w w') (hY : ∀ a, A = some a → ¬ Y a.block) : Kr w' A ks := fun hp => by
 obtain ⟨g, off, e, hg, hc⟩ := h hp
 exact ⟨g, off, e, Nat.lt_of_lt_of_le hg hk.size, fun i k hi => (hk.cell (p := ⟨g, off + i, none⟩) hg (show ¬ Y g from hY _ e)).trans (hc i k hi)⟩
set_option linter.unusedVariables false

theorem Rs.keptP {Y : Nat → Prop} {w w' : World} {A : Option Addr} {c : Nat} {xs : List Sl} (h : Rs w A c xs) (hk : Kept Y w w') (hA : 0 < xs.length → ∀ a, A = some a → ¬ Y a.block) : Rs w' A c xs :=
 ⟨h.le, h.max, h.none', fun hp => by
  obtain ⟨g, off, e, hg, hc⟩ := h.some' hp
  exact ⟨g, off, e, Nat.lt_of_lt_of_le hg hk.size, fun j u hu => (hk.cell (p := ⟨g, off + j, none⟩) hg (show ¬ Y g from hA hp _ e)).trans (hc j u hu)⟩⟩
theorem kput_to (F nid : Nat) (h4 : 4 ≤ F) (h6 : F ≤ 6) (hn1 : 1 ≤ nid) (hn2 : nid ≤ 100) (lv : Nat) (A : Option Addr) (c : Nat) (hi : ByteArray) (la : Bool) (rt : Nat) (xs : List Sl) (n : Nat) (hn : xs.length = n) (hw : la = true → hi = ⟨#[]⟩) (hlen : n ≤ F) (hlv : lv < 9223372036854775808) (b g : Nat) (l : List Cel) (k : Nat) (w : World) (hm : Mem w b g l k) (hR : Rs w A c xs) (hA : ∀ a, A = some a → ¬ Own b g a.block) :
  Calls Tryz.prog 46 #[.agg #[.int .i64 1, .int .i64 2, .int .i64 100, .int .i64 100, .int .i64 200, .int .i64 (F : Int), .int .u64 1000], .pointer (some ⟨b, 0, none⟩), .int .u64 (nid : Int), .agg #[.int .i64 (lv : Int), .slice A n c, .string hi, .bool la, .int .u64 (rt : Int)]] w fun e w' => e = .returned (.tuple #[]) ∧ Mem w' b g (app l (pst (nad F nid) (⟨lv, hi, la, rt, xs⟩ : Pg))) k ∧ Kept (Own b g) w w' := by
 subst hn; exact kput_any F nid h4 h6 hn1 hn2 ⟨lv, hi, la, rt, xs⟩ hw hlen hlv A c b g l k w hm hR hA
def slLen : Value → Nat
 | .slice _ n _ => n
 | _ => 0
end

section
open Go.RowKit Go.Deep Plain
set_option linter.unusedVariables false

theorem cells_at (b g : Nat) (l : List Cel) (k : Nat) (w : World) (gv : Nat) (hgv : w.heap.size = gv) (h : Mem w b g l k) (hl : l.length ≤ 1099511627776) :
  Calls Tryz.prog 75 #[.pointer (some ⟨b, 0, none⟩)] w fun e w' => e = .returned (.slice (some ⟨gv, 0, none⟩) l.length l.length) ∧ Blk w' gv 54 (flat3 l) ∧ Kept (fun _ => False) w w' := by
 subst hgv; exact kitCells_any b g l k w h hl
theorem view_any (F : Nat) (b g : Nat) (l : List Cel) (k n : Nat) (hl : l.length = n) (hn : n ≤ 1048576) (w : World) (hm : Mem w b g l k) :
  Calls Tryz.prog 27 #[.agg #[.int .i64 1, .int .i64 2, .int .i64 100, .int .i64 100, .int .i64 200, .int .i64 (F : Int), .int .u64 1000], .pointer (some ⟨b, 0, none⟩)] w fun e w' => ∃ gv, e = .returned (.agg #[.int .i64 1, .int .i64 2, .int .i64 100, .int .i64 100, .int .i64 200, .int .i64 (F : Int), .int .u64 1000, .slice (some ⟨gv, 0, none⟩) n n]) ∧ Blk w' gv 54 (flat3 l) ∧ w.heap.size ≤ gv ∧ Kept (fun _ => False) w w' := by
 have HM := Hd hm
 have HL := Hd hl
 clear hm hl
 go_enter Tryz.func27, Tryz.ntmps27
 go_wp2_with fail
 have hal := ((Kept.refl (fun _ => False) w).alloc (.cells #[.int .i64 1, .int .i64 2, .int .i64 100, .int .i64 100, .int .i64 200, .int .i64 (F : Int), .int .u64 1000] 25)).alloc (.cells #[.int .i64 0, .int .i64 0, .int .i64 0, .int .i64 0, .int .i64 0, .int .i64 0, .int .u64 0, .slice none 0 0] 63)
 have HB := Hd ((Blk.new w [.int .i64 1, .int .i64 2, .int .i64 100, .int .i64 100, .int .i64 200, .int .i64 (F : Int), .int .u64 1000] 25).alloc (.cells #[.int .i64 0, .int .i64 0, .int .i64 0, .int .i64 0, .int .i64 0, .int .i64 0, .int .u64 0, .slice none 0 0] 63))
 have hNN := Blk.new (w.alloc (.cells #[.int .i64 1, .int .i64 2, .int .i64 100, .int .i64 100, .int .i64 200, .int .i64 (F : Int), .int .u64 1000] 25)) [.int .i64 0, .int .i64 0, .int .i64 0, .int .i64 0, .int .i64 0, .int .i64 0, .int .u64 0, .slice none 0 0] 63
 have hsz1 : (w.alloc (.cells #[.int .i64 1, .int .i64 2, .int .i64 100, .int .i64 100, .int .i64 200, .int .i64 (F : Int), .int .u64 1000] 25)).heap.size = w.heap.size + 1 := nblk_alloc _ _
 rw [hsz1] at hNN
 have HN := Hd hNN
 have HM2 := Hd (HM.out.kept hal (fun h => h) (fun h => h))
 have HK := Hd hal
 clear hal hNN hsz1 HM
 generalize (w.alloc (.cells #[.int .i64 1, .int .i64 2, .int .i64 100, .int .i64 100, .int .i64 200, .int .i64 (F : Int), .int .u64 1000] 25)).alloc (.cells #[.int .i64 0, .int .i64 0, .int .i64 0, .int .i64 0, .int .i64 0, .int .i64 0, .int .u64 0, .slice none 0 0] 63) = W at *
 generalize hr1 : w.heap.size + 1 = r1 at *
 generalize hr0 : w.heap.size = r0 at *
 have HR := Hd (show r1 = r0 + 1 by omega)
 have HR0 := Hd hr0
 clear hr0 hr1
 replace HM2 := Hd (HM2.out.drew)
 replace HN := Hd (HN.out.of (w' := W.drew) rfl)
 replace HB := Hd (HB.out.of (w' := W.drew) rfl)
 replace HK := Hd HK.out.drew
 refine wp_region_held_drew (S := (fun w' => Blk w' r0 25 [.int .i64 1, .int .i64 2, .int .i64 100, .int .i64 100, .int .i64 200, .int .i64 (F : Int), .int .u64 1000])) (by kernel_rfl) ?_ (fun hHeld => ?_)
 ·exact HB.out
 have HN0 := Hd (show r1 < W.drew.heap.size from HN.out.lt)
 generalize W.drew = G at *
 obtain ⟨gv, hgv⟩ : ∃ gv, G.heap.size = gv := ⟨_, rfl⟩
 replace HN0 := Hd (show r1 < gv by have := HN0.out; omega)
 refine tkH 0 5 ?_ rfl ?_ hHeld ?_
 rotate_left
 ·(intro wq hSw; have hb9 := hSw; obtain ⟨x0, x1, x2, x3, x4, x5, x6⟩ := hb9.c7; clear hb9; go_simp; try with_reducible rfl)
 try simp only [aP,aA,aZ,aS]
 refine tkH 1 6 ?_ rfl ?_ hHeld ?_
 rotate_left
 ·(intro wq hSw; go_simp; try with_reducible rfl)
 try simp only [aP,aA,aZ,aS]
 refine wpAnyH_ready (rs := [2]) (by kernel_rfl) (by simp) ?_
 refine AllReadyH.cons (o := ⟨some 7, _, _, _, _, _⟩) rfl (fun KK hK => ?_) AllReadyH.nil
 go_simp
 go_at_call 75
 refine Calls.mono (cells_at b g l k G gv hgv HM2.out (by have := HL.out; omega)) ?_; rintro e G2 ⟨rfl, hBv, hKv⟩
 rw [HL.out]
 have HBv := Hd hBv
 replace HN := Hd (hKv.blk HN.out (fun h => h))
 replace HB := Hd (hKv.blk HB.out (fun h => h))
 have HGV := Hd (show r1 < gv by have := HN0.out; omega)
 replace HK := Hd (HK.out.trans hKv (fun _ _ h => h))
 clear hBv hKv
 refine hK.out _ _ ?_ (fun hHeld2 => ?_)
 ·exact HB.out
 clear hK KK hHeld
 have hHeld := hHeld2
 clear hHeld2
 try simp only [aP,aA,aZ,aS]
 refine tkH 3 8 ?_ rfl ?_ hHeld ?_
 rotate_left
 ·(intro wq hSw; go_simp; try with_reducible rfl)
 try simp only [aP,aA,aZ,aS]
 refine wpAnyH_ready (rs := [4]) (by kernel_rfl) (by simp) ?_
 refine AllReadyH.cons (o := ⟨none, _, _, _, _, _⟩) rfl (fun KK hK => ?_) AllReadyH.nil
 have h9 := HN.out
 obtain ⟨s0, s1, s2, s3, s4, s5, s6, s7⟩ := h9.c8
 have z0 := h9.frozen 0
 have z1 := h9.frozen 1
 have z2 := h9.frozen 2
 have z3 := h9.frozen 3
 have z4 := h9.frozen 4
 have z5 := h9.frozen 5
 have z6 := h9.frozen 6
 have z7 := h9.frozen 7
 clear h9
 go_simp
 replace HBv := Hd (((((((((HBv.out).other (a := ⟨r1, 0, none⟩) (by have := HGV.out; show gv ≠ r1; omega) (.int .i64 1)).other (a := ⟨r1, 1, none⟩) (by have := HGV.out; show gv ≠ r1; omega) (.int .i64 2)).other (a := ⟨r1, 2, none⟩) (by have := HGV.out; show gv ≠ r1; omega) (.int .i64 100)).other (a := ⟨r1, 3, none⟩) (by have := HGV.out; show gv ≠ r1; omega) (.int .i64 100)).other (a := ⟨r1, 4, none⟩) (by have := HGV.out; show gv ≠ r1; omega) (.int .i64 200)).other (a := ⟨r1, 5, none⟩) (by have := HGV.out; show gv ≠ r1; omega) (.int .i64 (F : Int))).other (a := ⟨r1, 6, none⟩) (by have := HGV.out; show gv ≠ r1; omega) (.int .u64 1000)).other (a := ⟨r1, 7, none⟩) (by have := HGV.out; show gv ≠ r1; omega) (.slice (some ⟨gv, 0, none⟩) n n))
 replace HN := Hd (((((((((HN.out).set 0 (.int .i64 1)).set 1 (.int .i64 2)).set 2 (.int .i64 100)).set 3 (.int .i64 100)).set 4 (.int .i64 200)).set 5 (.int .i64 (F : Int))).set 6 (.int .u64 1000)).set 7 (.slice (some ⟨gv, 0, none⟩) n n))
 replace HB := Hd (((((((((HB.out).other (a := ⟨r1, 0, none⟩) (by have := HR.out; show r0 ≠ r1; omega) (.int .i64 1)).other (a := ⟨r1, 1, none⟩) (by have := HR.out; show r0 ≠ r1; omega) (.int .i64 2)).other (a := ⟨r1, 2, none⟩) (by have := HR.out; show r0 ≠ r1; omega) (.int .i64 100)).other (a := ⟨r1, 3, none⟩) (by have := HR.out; show r0 ≠ r1; omega) (.int .i64 100)).other (a := ⟨r1, 4, none⟩) (by have := HR.out; show r0 ≠ r1; omega) (.int .i64 200)).other (a := ⟨r1, 5, none⟩) (by have := HR.out; show r0 ≠ r1; omega) (.int .i64 (F : Int))).other (a := ⟨r1, 6, none⟩) (by have := HR.out; show r0 ≠ r1; omega) (.int .u64 1000)).other (a := ⟨r1, 7, none⟩) (by have := HR.out; show r0 ≠ r1; omega) (.slice (some ⟨gv, 0, none⟩) n n))
 replace HK := Hd (((((((((HK.out).setNew (b := r1) (by rw [HR.out, HR0.out]; omega) 0 (.int .i64 1)).setNew (b := r1) (by rw [HR.out, HR0.out]; omega) 1 (.int .i64 2)).setNew (b := r1) (by rw [HR.out, HR0.out]; omega) 2 (.int .i64 100)).setNew (b := r1) (by rw [HR.out, HR0.out]; omega) 3 (.int .i64 100)).setNew (b := r1) (by rw [HR.out, HR0.out]; omega) 4 (.int .i64 200)).setNew (b := r1) (by rw [HR.out, HR0.out]; omega) 5 (.int .i64 (F : Int))).setNew (b := r1) (by rw [HR.out, HR0.out]; omega) 6 (.int .u64 1000)).setNew (b := r1) (by rw [HR.out, HR0.out]; omega) 7 (.slice (some ⟨gv, 0, none⟩) n n))
 clear s0 z0 s1 z1 s2 z2 s3 z3 s4 z4 s5 z5 s6 z6 s7 z7
 refine hK.out _ _ ?_ (fun hHeld2 => ?_)
 ·exact HB.out
 clear hK KK hHeld
 have hHeld := hHeld2
 clear hHeld2
 try simp only [aP,aA,aZ,aS]
 refine wpAnyH_done (by kernel_rfl) ?_ _
 clear hHeld
 clear hgv
 obtain ⟨q0, q1, q2, q3, q4, q5, q6, q7⟩ := HN.out.c8
 go_wp2
 refine bodyPost_ret (v := .agg #[.int .i64 1, .int .i64 2, .int .i64 100, .int .i64 100, .int .i64 200, .int .i64 (F : Int), .int .u64 1000, .slice (some ⟨gv, 0, none⟩) n n]) ?_ rfl ?_
 ·simp [results, Tryz.results27, go_sem, q0, q1, q2, q3, q4, q5, q6, q7]
 exact ⟨gv, rfl, HBv.out, by have := HGV.out; have := HR.out; have := HR0.out; omega, HK.out⟩

theorem pfield0 (lv : Int) (A : Option Addr) (n c : Nat) (hi : ByteArray) (la : Bool) (rt : Int) (w : World) : (Instr.field 38 (.agg #[.int .i64 lv, .slice A n c, .string hi, .bool la, .int .u64 rt]) 0).run Tryz.prog w = .ok (.int .i64 lv) w := by kernel_rfl
theorem height_any (F : Nat) (h4 : 4 ≤ F) (h6 : F ≤ 6) (g n : Nat) (l : List Cel) (hl : l.length = n) (rt : Nat) (M0 : Int) (K0 : ByteArray) (h1 : 1 ≤ rt) (h2 : rt ≤ 100) (P : Pg) (hH : Holds (nad F rt) l P) (hw : Wf P) (hF : P.xs.length ≤ F) (hlv : P.lv ≤ 1000) (w : World) (hv : Blk w g 54 (flat3 l)) (hc : cellAt l 0 = ((rt : Int), K0, M0)) :
  Calls Tryz.prog 30 #[.agg #[.int .i64 1, .int .i64 2, .int .i64 100, .int .i64 100, .int .i64 200, .int .i64 (F : Int), .int .u64 1000, .slice (some ⟨g, 0, none⟩) n n]] w fun e w' => e = .returned (.int .i64 ((P.lv : Int) + 1)) ∧ Kept (fun _ => False) w w' := by
 have HV0 := Hd hv
 have HC := Hd hc
 have HH := Hd hH
 have HW := Hd hw
 have hfd := field0 (rt : Int) M0 K0
 have hwr : IntKind.i64.wrap ((P.lv : Int) + 1) = (P.lv : Int) + 1 := by rw [IntKind.wrap_i64]; omega
 clear hv hc hH hw
 go_enter Tryz.func30, Tryz.ntmps30
 go_wp2_with fail
 have hal := (Kept.refl (fun _ => False) w).alloc (.cells #[.int .i64 1, .int .i64 2, .int .i64 100, .int .i64 100, .int .i64 200, .int .i64 (F : Int), .int .u64 1000, .slice (some ⟨g, 0, none⟩) n n] 63)
 have HB := Hd (Blk.new w [.int .i64 1, .int .i64 2, .int .i64 100, .int .i64 100, .int .i64 200, .int .i64 (F : Int), .int .u64 1000, .slice (some ⟨g, 0, none⟩) n n] 63)
 have HV := Hd (hal.blk HV0.out (fun h => h))
 have HK := Hd hal
 clear hal HV0
 generalize w.heap.size = r0 at HB ⊢
 generalize w.alloc (.cells #[.int .i64 1, .int .i64 2, .int .i64 100, .int .i64 100, .int .i64 200, .int .i64 (F : Int), .int .u64 1000, .slice (some ⟨g, 0, none⟩) n n] 63) = W at *
 replace HV := Hd (HV.out.of (w' := W.drew) rfl)
 replace HB := Hd (HB.out.of (w' := W.drew) rfl)
 replace HK := Hd HK.out.drew
 refine wp_region_held_drew (S := (fun w' => Blk w' r0 63 [.int .i64 1, .int .i64 2, .int .i64 100, .int .i64 100, .int .i64 200, .int .i64 (F : Int), .int .u64 1000, .slice (some ⟨g, 0, none⟩) n n])) (by kernel_rfl) ?_ (fun hHeld => ?_)
 ·exact HB.out
 generalize W.drew = G0 at *
 refine tkH 0 3 ?_ rfl ?_ hHeld ?_
 rotate_left
 ·(intro wq hSw; have hb9 := hSw; obtain ⟨x0, x1, x2, x3, x4, x5, x6, x7⟩ := hb9.c8; clear hb9; go_simp; try with_reducible rfl)
 try simp only [aP,aA,aZ,aS]
 refine tkH 1 4 ?_ rfl ?_ hHeld ?_
 rotate_left
 ·(intro wq hSw; have hb9 := hSw; obtain ⟨x0, x1, x2, x3, x4, x5, x6, x7⟩ := hb9.c8; clear hb9; go_simp; try with_reducible rfl)
 try simp only [aP,aA,aZ,aS]
 refine wpAnyH_ready (rs := [2]) (by kernel_rfl) (by simp) ?_
 refine AllReadyH.cons (o := ⟨some 5, _, _, _, _, _⟩) rfl (fun KK hK => ?_) AllReadyH.nil
 go_simp
 go_at_call 77
 refine (vat_any F h4 h6 g n l hl 0 (rt : Int) M0 K0 _ HV.out HC.out).mono ?_; rintro e G ⟨rfl, hB⟩
 replace HV := Hd (hB.blk HV.out (fun h => h))
 replace HB := Hd (hB.blk HB.out (fun h => h))
 replace HK := Hd (HK.out.trans hB (fun _ _ h => h))
 clear hB
 refine hK.out _ _ ?_ (fun hHeld2 => ?_)
 ·exact HB.out
 clear hK KK hHeld
 have hHeld := hHeld2
 clear hHeld2
 try simp only [aP,aA,aZ,aS]
 refine tkH 3 6 (.int .u64 (rt : Int)) rfl ?_ hHeld ?_
 ·(intro wq hSw; go_simp; try first | (with_reducible rfl) | (simp; omega) | (intros; omega) | simp [*])
 try simp only [aP,aA,aZ,aS]
 refine wpAnyH_ready (rs := [4]) (by kernel_rfl) (by simp) ?_
 refine AllReadyH.cons (o := ⟨some 7, _, _, _, _, _⟩) rfl (fun KK hK => ?_) AllReadyH.nil
 go_simp
 go_at_call 81
 refine (vpage_any F h4 h6 g n l hl rt h1 h2 P HH.out HW.out hF (by omega) _ HV.out).mono ?_; rintro e G3 ⟨A9, c9, rfl, -, -, hB⟩
 have hpf := pfield0 (P.lv : Int) A9 P.xs.length c9 P.hi P.la (P.rt : Int)
 replace HV := Hd (hB.blk HV.out (fun h => h))
 replace HB := Hd (hB.blk HB.out (fun h => h))
 replace HK := Hd (HK.out.trans hB (fun _ _ h => h))
 clear hB
 refine hK.out _ _ ?_ (fun hHeld2 => ?_)
 ·exact HB.out
 clear hK KK hHeld
 have hHeld := hHeld2
 clear hHeld2
 try simp only [aP,aA,aZ,aS]
 refine tkH 5 8 (.int .i64 (P.lv : Int)) rfl ?_ hHeld ?_
 ·(intro wq hSw; go_simp; try first | (with_reducible rfl) | (simp; omega) | (intros; omega) | simp [*])
 try simp only [aP,aA,aZ,aS]
 refine tkH 6 9 (.int .i64 ((P.lv : Int) + 1)) rfl ?_ hHeld ?_
 ·(intro wq hSw; go_simp; try first | (with_reducible rfl) | (simp; omega) | (intros; omega) | simp [*])
 try simp only [aP,aA,aZ,aS]
 refine tkH 7 2 ?_ rfl ?_ hHeld ?_
 rotate_left
 ·(intro wq hSw; go_simp; try with_reducible rfl)
 try simp only [aP,aA,aZ,aS]
 refine wpAnyH_done (by kernel_rfl) ?_ _
 clear hHeld
 go_wp2
 go_ret
 exact ⟨rfl, HK.out⟩
end
end Go.Proofs.YtjnodgebpklaoaaGreat
namespace Go.Proofs.YtjnodgebpklaoaaGreat
section
open Go.RowKit Go.Deep Plain
set_option linter.unusedVariables false

theorem infoU64 : (Tryz.prog.info? 23).map (fun i => (i.zero, i.size, i.bytes)) = some (some (.int .u64 0), 1, 8) := by kernel_rfl
theorem pfield4 (lv : Int) (A : Option Addr) (n c : Nat) (hi : ByteArray) (la : Bool) (rt : Int) (w : World) : (Instr.field 38 (.agg #[.int .i64 lv, .slice A n c, .string hi, .bool la, .int .u64 rt]) 4).run Tryz.prog w = .ok (.int .u64 rt) w := by kernel_rfl
def wds (ps : List Nat) : List Value := ps.map fun (p : Nat) => Value.int .u64 (p : Int)
theorem wds_at {ps : List Nat} {i p : Nat} (h : ps[i]? = some p) : (wds ps)[i]? = some (.int .u64 (p : Int)) := by unfold wds; rw [List.getElem?_map, h]; rfl
def Wr (w : World) (A : Option Addr) (base : Nat) (ps : List Nat) : Prop := 0 < ps.length → ∃ g off, A = some ⟨g, off, none⟩ ∧ g < w.heap.size ∧ base ≤ g ∧ ∀ (i p : Nat), ps[i]? = some p → w.cell? ⟨g, off + i, none⟩ = some (.int .u64 (p : Int))
theorem words_read {w : World} {base n : Nat} {v : Value} {ps : List Nat} (h : w.ownsRow base 23 1 v n (wds ps)) : ∃ A c, v = .slice A n c ∧ Wr w A base ps := by
 have hl : ps.length = n := by have := h.1; unfold wds at this; rw [List.length_map] at this; omega
 rcases h.2 with ⟨rfl, rfl⟩ | ⟨g, cap, cur, rfl, hb, hg, hc, hm, rest⟩
 ·exact ⟨none, 0, rfl, fun hp => by omega⟩
 ·refine ⟨_, cap, rfl, fun _ => ⟨g, 0, rfl, (Array.getElem?_eq_some_iff.1 hg).1, hb, fun i p hi => ?_⟩⟩
  have := World.ownsRow.cells h (g := g) rfl i _ (wds_at hi)
  rw [Addr.add_lit] at this
  exact this
end
end Go.Proofs.YtjnodgebpklaoaaGreat
namespace Go.Proofs.YtjnodgebpklaoaaGreat
section
open Go.RowKit Go.Deep Plain
set_option linter.unusedVariables false

theorem root_of {F : Nat} (h4 : 4 ≤ F) (h6 : F ≤ 6) : cellAt (startCells 1 2 100 100 200 (F : Int)) 0 = (((1 : Nat) : Int), (⟨#[]⟩ : ByteArray), (0 : Int)) := by
 have hlen := startCells_length 1 2 100 100 200 (F : Int) (limF h4 h6)
 have hall : allCells 1 2 100 100 200 (F : Int) = 10 + (100 * (F : Int) + 400) + 100 + 600 := by
  unfold allCells firstRecord firstChain firstNode; omega
 have he : nodeAt 100 (F : Int) (firstNode 1 2) 1 2 = nad F 1 1 := rfl
 have hlo : nad F 1 1 = 12 := by rw [nad_eq (by omega) (by omega) (by omega), nla_eq (by omega) (by omega)]; omega
 have hr : ((List.replicate (allCells 1 2 100 100 200 (F : Int)).toNat cel0).length : Int) = allCells 1 2 100 100 200 (F : Int) := by rw [List.length_replicate]; omega
 unfold startCells
 rw [he, cellAt_other (by omega), cellAt_other (by omega), cellAt_same ⟨by omega, by omega⟩]; rfl
end

section
open Go.RowKit Go.Deep Plain
set_option linter.unusedVariables false

theorem Rdv.keptN {w w' : World} {B : Nat} {v : Value} {n : Nat} {xs : List Value} (h : Rdv w B v n xs) (hk : Kept (fun _ => False) w w') (hB : B ≤ w.heap.size) : Rdv w' w'.heap.size v n xs := by
 obtain ⟨A, c, e, h1, h2, h3⟩ := h
 refine ⟨A, c, e, h1, h2, fun hp => ?_⟩
 obtain ⟨g, off, e2, hg, hc⟩ := h3 hp
 have := hk.size
 exact ⟨g, off, e2, by omega, fun j u hu => (hk.cell (p := ⟨g, off + j, none⟩) (show g < _ by omega) (fun h => h)).trans (hc j u hu)⟩
theorem keys_read {w : World} {base n : Nat} {v : Value} {l : List PlainE.Ent} (h : w.ownsRow base 9 1 v n (PlainE.keyCells l)) : ∃ A c, v = .slice A (l.map (·.1)).length c ∧ Kr w A (l.map (·.1)) ∧ ∀ a, A = some a → base ≤ a.block ∧ a.block < w.heap.size := by
 have hl : (l.map (·.1)).length = n := by have := h.1; unfold PlainE.keyCells at this; rw [List.length_map] at this ⊢; omega
 rcases h.2 with ⟨rfl, rfl⟩ | ⟨g, cap, cur, rfl, hb, hg, hc, hm, rest⟩
 ·exact ⟨none, 0, by rw [hl], fun hp => by omega, fun a h => by cases h⟩
 ·have hgl := (Array.getElem?_eq_some_iff.1 hg).1
  refine ⟨_, cap, by rw [hl], fun _ => ⟨g, 0, rfl, hgl, fun i k hi => ?_⟩, fun a ha => by cases ha; exact ⟨hb, hgl⟩⟩
  have := World.ownsRow.cells h (g := g) rfl i (.string k) (by
   unfold PlainE.keyCells; rw [List.getElem?_map] at hi ⊢
   cases hx : l[i]? with
   | none => rw [hx] at hi; cases hi
   | some x => rw [hx] at hi; cases hi; rfl)
  rw [Addr.add_lit] at this
  exact this
end

section
open Go.RowKit Go.Deep Plain
set_option linter.unusedVariables false

end
end Go.Proofs.YtjnodgebpklaoaaGreat
namespace Go.Proofs.YtjnodgebpklaoaaGreat
open Go.RowKit Go.Deep Plain
set_option linter.unusedVariables false

theorem vlatch_any (F : Nat) (h4 : 4 ≤ F) (h6 : F ≤ 6) (g n : Nat) (l : List Cel) (hl : l.length = n) (nid : Nat) (a : Int) (hla : nodeAt 100 (F : Int) 10 (nid : Int) ((0 : Nat) : Int) = a) (N M : Int) (K : ByteArray) (w : World) (hv : Blk w g 54 (flat3 l)) (hc : cellAt l a = (N, K, M)) :
  Calls Tryz.prog 129 #[.agg #[.int .i64 1, .int .i64 2, .int .i64 100, .int .i64 100, .int .i64 200, .int .i64 (F : Int), .int .u64 1000, .slice (some ⟨g, 0, none⟩) n n], .int .u64 (nid : Int)] w fun e w' => e = .returned (.int .u64 N) ∧ Kept (fun _ => False) w w' := by
 have HV0 := Hd hv
 have HC := Hd hc
 clear hv hc
 go_enter Tryz.func129, Tryz.ntmps129
 go_wp2_with fail
 have hal := (Kept.refl (fun _ => False) w).alloc (.cells #[.int .i64 1, .int .i64 2, .int .i64 100, .int .i64 100, .int .i64 200, .int .i64 (F : Int), .int .u64 1000, .slice (some ⟨g, 0, none⟩) n n] 63)
 have HV := Hd (hal.blk HV0.out (fun h => h))
 have HK := Hd hal
 clear hal HV0
 generalize w.alloc (.cells #[.int .i64 1, .int .i64 2, .int .i64 100, .int .i64 100, .int .i64 200, .int .i64 (F : Int), .int .u64 1000, .slice (some ⟨g, 0, none⟩) n n] 63) = W at *
 have hrf := hla
 refine (vpart_any F h4 h6 g n l hl nid 0 (by omega) a hla N M K _ HV.out HC.out).mono ?_; rintro e w2 ⟨rfl, hK2⟩
 have f0 := field0 N M K
 have HK2 := Hd (HK.out.trans hK2 (fun _ _ h => h))
 clear hK2
 go_wp2
 go_ret
 exact ⟨rfl, HK2.out⟩

end Go.Proofs.YtjnodgebpklaoaaGreat
