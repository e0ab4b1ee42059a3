/-
 Package insert: split. Condition: a layout within its limits.
-/
import Derived.Test.YtjnodgebpklaoaaGreatInMac
import Derived.Test.YtjnodgebpklaoaaGreatInSpl
namespace Go.Proofs.YtjnodgebpklaoaaGreat
set_option maxHeartbeats 8000000
set_option maxRecDepth 100000
open Go.RowKit Go.Deep Plain
set_option linter.unusedVariables false

section
open Go.RowKit Go.Deep Plain
set_option linter.unusedVariables false

def npg (P : Pg) (key : ByteArray) (ref : Nat) : Pg := ⟨P.lv, P.hi, P.la, P.rt, ins (key, ref) P.xs⟩
def lpg (X : Pg) (m : Nat) (sp : ByteArray) (num : Nat) : Pg := ⟨X.lv, sp, false, num, X.xs.take m⟩
def rpg (X : Pg) (m : Nat) : Pg := ⟨X.lv, X.hi, X.la, X.rt, X.xs.drop m⟩
theorem npg_length (P : Pg) (key : ByteArray) (ref : Nat) : (npg P key ref).xs.length = P.xs.length + 1 := ins_length _ _
theorem lpg_length {X : Pg} {m : Nat} {sp : ByteArray} {num : Nat} (h : m ≤ X.xs.length) : (lpg X m sp num).xs.length = m := by show (X.xs.take m).length = m; rw [List.length_take]; omega
theorem rpg_length (X : Pg) (m : Nat) : (rpg X m).xs.length = X.xs.length - m := List.length_drop
theorem cfield5 (N : Int) (F : Nat) (w : World) : (Instr.field 25 (.agg #[.int .i64 1, .int .i64 2, .int .i64 N, .int .i64 100, .int .i64 200, .int .i64 (F : Int), .int .u64 1000]) 5).run Tryz.prog w = .ok (.int .i64 (F : Int)) w := by kernel_rfl
theorem cfield2 (N : Int) (F : Nat) (w : World) : (Instr.field 25 (.agg #[.int .i64 1, .int .i64 2, .int .i64 N, .int .i64 100, .int .i64 200, .int .i64 (F : Int), .int .u64 1000]) 2).run Tryz.prog w = .ok (.int .i64 N) w := by kernel_rfl
theorem pinsert_pg (P : Pg) (A : Option Addr) (c : Nat) (key : ByteArray) (ref : Nat) (w : World) (h40 : P.xs.length ≤ 1000) (hR : Rs w A c P.xs) (ha : Asc P.xs) (hk : has key P.xs = false) :
  Calls Tryz.prog 58 #[.agg #[.int .i64 (P.lv : Int), .slice A P.xs.length c, .string P.hi, .bool P.la, .int .u64 (P.rt : Int)], .string key, .int .u64 (ref : Int)] w fun e w' => ∃ A' c', e = .returned (.tuple #[.agg #[.int .i64 ((npg P key ref).lv : Int), .slice A' (npg P key ref).xs.length c', .string (npg P key ref).hi, .bool (npg P key ref).la, .int .u64 ((npg P key ref).rt : Int)], .bool true]) ∧ Rs w' A' c' (npg P key ref).xs ∧ (∀ a, A' = some a → w.heap.size ≤ a.block) ∧ Kept (fun _ => False) w w' := by
 refine (insert_yes (P.lv : Int) A c P.hi P.la P.rt P.xs key ref w P.xs.length rfl (by omega) hR ha hk (by omega)).mono ?_
 rintro e w' ⟨A', c', rfl, hO, hB⟩
 obtain ⟨A2, c2, he, -, hR2, hA2⟩ := Rs.own hO
 cases he
 rw [npg_length]
 exact ⟨A', c', rfl, hR2, hA2, Below.kept hB (fun i hi h => by omega)⟩

theorem psplit_pg (X : Pg) (A : Option Addr) (c : Nat) (num m : Nat) (sp : ByteArray) (w : World) (h2 : 2 ≤ X.xs.length) (h40 : X.xs.length ≤ 1000) (hm : m = X.xs.length - X.xs.length / 2) (hR : Rs w A c X.xs) (hsz : ∀ x ∈ X.xs, x.1.size ≤ 1000) (hsp : Sepr X.lv X.xs m sp) :
  Calls Tryz.prog 114 #[.agg #[.int .i64 (X.lv : Int), .slice A X.xs.length c, .string X.hi, .bool X.la, .int .u64 (X.rt : Int)], .int .u64 (num : Int)] w fun e w' => ∃ A1 c1 A2 c2, e = .returned (.tuple #[.agg #[.int .i64 ((lpg X m sp num).lv : Int), .slice A1 (lpg X m sp num).xs.length c1, .string (lpg X m sp num).hi, .bool (lpg X m sp num).la, .int .u64 ((lpg X m sp num).rt : Int)], .agg #[.int .i64 ((rpg X m).lv : Int), .slice A2 (rpg X m).xs.length c2, .string (rpg X m).hi, .bool (rpg X m).la, .int .u64 ((rpg X m).rt : Int)], .string sp, .bool true]) ∧ Rs w' A1 c1 (lpg X m sp num).xs ∧ Rs w' A2 c2 (rpg X m).xs ∧ (∀ a, A1 = some a → w.heap.size ≤ a.block) ∧ (∀ a, A2 = some a → w.heap.size ≤ a.block) ∧ Kept (fun _ => False) w w' := by
 refine (psplit_any X.lv A c X.hi X.la X.rt num X.xs X.xs.length m sp w rfl h2 h40 hm hR hsz hsp).mono ?_
 rintro e w' ⟨A1, c1, A2, c2, rfl, h1, h2', h3, h4, h5⟩
 rw [lpg_length (by omega), rpg_length]
 exact ⟨A1, c1, A2, c2, rfl, h1, h2', h3, h4, h5⟩

theorem isplit_no (N : Int) (F : Nat) (fb fd : Int) (hl : Lim 1 2 N 100 200 (F : Int)) (hd : Reach3 10 fb fd) (i id wd : Nat) (P X : Pg) (A : Option Addr) (c : Nat) (A2 : Option Addr) (c2 : Nat) (ph : Int) (q : Nat) (fr wp : Value) (sp0 : ByteArray) (Nv lim : Nat) (K : ByteArray) (M : Int) (w : World) (h : Blk w i 104 (insv N F fb fd id wd P A c X A2 c2 ph (.pointer (some ⟨q, 0, none⟩)) fr wp sp0)) (hq : Blk w q 152 (macv 4 Nv K M true lim false true)) :
  Calls Tryz.prog 64 #[.pointer (some ⟨i, 0, none⟩)] w fun e w' => e = .returned (.tuple #[]) ∧ Blk w' i 104 (insv N F fb fd id wd P A c X A2 c2 4 (.pointer (some ⟨q, 0, none⟩)) fr wp sp0) ∧ Kept (fun k => k = i) w w' := by
 have HI := Hd h
 have HQ := Hd hq
 have x23 := h.k 23 rfl
 clear h hq
 go_enter Tryz.func64, Tryz.ntmps64
 go_wp2_with fail
 refine (number_no q 152 4 Nv K M true true lim _ HQ.out).mono ?_; rintro e w1 ⟨rfl, rfl⟩
 have x22 := HI.out.k 22 rfl
 have z22 := HI.out.frozen 22
 go_wp2
 try simp only [Exit.inBlock, Exit.then]
 refine bodyPost_ret (results_none rfl _ _ _) rfl ?_
 exact ⟨rfl, HI.out.set 22 (.int .i64 4), (Kept.refl (fun k => k = i) w).setCell (a := ⟨i, 22, none⟩) (fun _ => rfl) _⟩

theorem isplit_yes (N : Int) (F : Nat) (fb fd : Int) (hl : Lim 1 2 N 100 200 (F : Int)) (hd : Reach3 10 fb fd) (i id wd : Nat) (P X : Pg) (A : Option Addr) (c : Nat) (A2 : Option Addr) (c2 : Nat) (ph : Int) (q : Nat) (fr wp : Value) (sp0 : ByteArray) (Nv lim m num : Nat) (K : ByteArray) (M : Int) (sp : ByteArray) (w : World) (h : Blk w i 104 (insv N F fb fd id wd P A c X A2 c2 ph (.pointer (some ⟨q, 0, none⟩)) fr wp sp0)) (hq : Blk w q 152 (macv 4 Nv K M false lim true true)) (hqi : q ≠ i) (hN : Nv < 18446744073709551615) (hnum : Nv + 1 = num) (h2 : 2 ≤ X.xs.length) (hX : X.xs.length ≤ 1000) (hXl : X.lv < 9223372036854775808) (hm : m = X.xs.length - X.xs.length / 2) (hR2 : Rs w A2 c2 X.xs) (hsz : ∀ x ∈ X.xs, x.1.size ≤ 1000) (hsp : Sepr X.lv X.xs m sp) :
  Calls Tryz.prog 64 #[.pointer (some ⟨i, 0, none⟩)] w fun e w' => e = .returned (.tuple #[]) ∧ ∃ (r : Nat) (Zf : Nat → Prop) (A3 : Option Addr) (c3 : Nat), Blk w' i 104 (insv N F fb fd id wd P A c (lpg X m sp num) A3 c3 1 (.pointer (some ⟨q, 0, none⟩)) (.pointer (some ⟨r, 0, none⟩)) wp sp) ∧ Rs w' A3 c3 (lpg X m sp num).xs ∧ (∀ a, A3 = some a → w.heap.size ≤ a.block) ∧ (∀ a, A3 = some a → 0 < (lpg X m sp num).xs.length → ¬ Zf a.block) ∧ Stm Zf w' r 165 (pst (adr N F 10 num) (rpg X m) ++ [(nodeAt N (F : Int) 10 (num : Int) 0, ((1 : Int), (⟨#[]⟩ : ByteArray), (0 : Int)))]) 0 num 1 (rpg X m) ∧ (∀ k, Zf k → w.heap.size ≤ k) ∧ Kept (fun k => k = i) w w' := by
 have HI := Hd h
 have HQ := Hd hq
 have HR2 := Hd hR2
 have HSP := Hd hsp
 have HSZ := Hd hsz
 have hil := h.lt
 have HM := Hd hm
 clear hm
 have x23 := h.k 23 rfl
 clear h hq hR2 hsp hsz
 go_enter Tryz.func64, Tryz.ntmps64
 go_wp2_with fail
 refine (number_yes q 152 4 Nv K M false true lim _ HQ.out hN).mono ?_; rintro e w1 ⟨rfl, rfl⟩
 rw [hnum]
 clear x23
 go_upto_region 3 with fail
 have hb9 := HI.out
 have x17 := hb9.k 17 rfl; have x18 := hb9.k 18 rfl; have x19 := hb9.k 19 rfl; have x20 := hb9.k 20 rfl; have x21 := hb9.k 21 rfl
 clear hb9
 go_wp2_with fail
 refine (psplit_pg X A2 c2 num m sp _ h2 hX HM.out HR2.out HSZ.out HSP.out).mono ?_; rintro e V1 ⟨A3, c3, A4, c4, rfl, hR3, hR4, hA3, hA4, hK⟩
 have HA3 := Hd hA3
 have HA4 := Hd hA4
 replace HI := Hd (hK.blk HI.out (fun h => h))
 have HK := Hd (hK.mono (T := fun k => k = i) (fun _ h => h.elim))
 have HWS := Hd hK.size
 clear hA3 hA4 x17 x18 x19 x20 x21
 go_upto_region 4 with fail
 have hal := ((Kept.refl (fun _ => False) V1).alloc (.cells #[.int .i64 ((lpg X m sp num).lv : Int), .slice A3 (lpg X m sp num).xs.length c3, .string (lpg X m sp num).hi, .bool (lpg X m sp num).la, .int .u64 ((lpg X m sp num).rt : Int)] 38)).alloc (.cells #[.int .i64 ((rpg X m).lv : Int), .slice A4 (rpg X m).xs.length c4, .string (rpg X m).hi, .bool (rpg X m).la, .int .u64 ((rpg X m).rt : Int)] 38)
 have hz1 : (V1.alloc (.cells #[.int .i64 ((lpg X m sp num).lv : Int), .slice A3 (lpg X m sp num).xs.length c3, .string (lpg X m sp num).hi, .bool (lpg X m sp num).la, .int .u64 ((lpg X m sp num).rt : Int)] 38)).heap.size = V1.heap.size + 1 := nblk_alloc _ _
 have H4 := Hd ((Blk.new V1 [.int .i64 ((lpg X m sp num).lv : Int), .slice A3 (lpg X m sp num).xs.length c3, .string (lpg X m sp num).hi, .bool (lpg X m sp num).la, .int .u64 ((lpg X m sp num).rt : Int)] 38).alloc (.cells #[.int .i64 ((rpg X m).lv : Int), .slice A4 (rpg X m).xs.length c4, .string (rpg X m).hi, .bool (rpg X m).la, .int .u64 ((rpg X m).rt : Int)] 38))
 have H5 := Hd (show Blk ((V1.alloc (.cells #[.int .i64 ((lpg X m sp num).lv : Int), .slice A3 (lpg X m sp num).xs.length c3, .string (lpg X m sp num).hi, .bool (lpg X m sp num).la, .int .u64 ((lpg X m sp num).rt : Int)] 38)).alloc (.cells #[.int .i64 ((rpg X m).lv : Int), .slice A4 (rpg X m).xs.length c4, .string (rpg X m).hi, .bool (rpg X m).la, .int .u64 ((rpg X m).rt : Int)] 38)) (V1.heap.size + 1) 38 [.int .i64 ((rpg X m).lv : Int), .slice A4 (rpg X m).xs.length c4, .string (rpg X m).hi, .bool (rpg X m).la, .int .u64 ((rpg X m).rt : Int)] from by
  have h := Blk.new (V1.alloc (.cells #[.int .i64 ((lpg X m sp num).lv : Int), .slice A3 (lpg X m sp num).xs.length c3, .string (lpg X m sp num).hi, .bool (lpg X m sp num).la, .int .u64 ((lpg X m sp num).rt : Int)] 38)) [.int .i64 ((rpg X m).lv : Int), .slice A4 (rpg X m).xs.length c4, .string (rpg X m).hi, .bool (rpg X m).la, .int .u64 ((rpg X m).rt : Int)] 38
  rw [hz1] at h
  exact h)
 replace HI := Hd (hal.blk HI.out (fun h => h))
 have HR3 := Hd (hR3.keptF hal (fun _ _ h => h))
 have HR4 := Hd (hR4.keptF hal (fun _ _ h => h))
 replace HK := Hd (HK.out.trans hal (fun _ _ h => h.elim))
 have HNI := Hd (show i < V1.heap.size from by have := HWS.out; omega)
 clear hal hz1 hR3 hR4 hK
 generalize V1.heap.size = r4 at *
 generalize (V1.alloc (.cells #[.int .i64 ((lpg X m sp num).lv : Int), .slice A3 (lpg X m sp num).xs.length c3, .string (lpg X m sp num).hi, .bool (lpg X m sp num).la, .int .u64 ((lpg X m sp num).rt : Int)] 38)).alloc (.cells #[.int .i64 ((rpg X m).lv : Int), .slice A4 (rpg X m).xs.length c4, .string (rpg X m).hi, .bool (rpg X m).la, .int .u64 ((rpg X m).rt : Int)] 38) = V2 at *
 have hb9 := HI.out
 have s17 := hb9.k 17 rfl; have z17 := hb9.frozen 17; have s18 := hb9.k 18 rfl; have z18 := hb9.frozen 18; have s19 := hb9.k 19 rfl; have z19 := hb9.frozen 19; have s20 := hb9.k 20 rfl; have z20 := hb9.frozen 20; have s21 := hb9.k 21 rfl; have z21 := hb9.frozen 21; have s26 := hb9.k 26 rfl; have z26 := hb9.frozen 26
 clear hb9
 have hb9 := H4.out
 obtain ⟨x0, x1, x2, x3, x4⟩ := hb9.c5
 clear hb9
 go_upto_region 5 with fail
 have hks := (((((((Kept.refl (fun k => k = i) V2)).setCell (a := ⟨i, 17, none⟩) (fun _ => rfl) (.int .i64 ((lpg X m sp num).lv : Int))).setCell (a := ⟨i, 18, none⟩) (fun _ => rfl) (.slice A3 (lpg X m sp num).xs.length c3)).setCell (a := ⟨i, 19, none⟩) (fun _ => rfl) (.string (lpg X m sp num).hi)).setCell (a := ⟨i, 20, none⟩) (fun _ => rfl) (.bool (lpg X m sp num).la)).setCell (a := ⟨i, 21, none⟩) (fun _ => rfl) (.int .u64 ((lpg X m sp num).rt : Int))).setCell (a := ⟨i, 26, none⟩) (fun _ => rfl) (.string sp)
 have hi3 := ((((((HI.out).set 17 (.int .i64 ((lpg X m sp num).lv : Int))).set 18 (.slice A3 (lpg X m sp num).xs.length c3)).set 19 (.string (lpg X m sp num).hi)).set 20 (.bool (lpg X m sp num).la)).set 21 (.int .u64 ((lpg X m sp num).rt : Int))).set 26 (.string sp)
 replace HR3 := Hd (HR3.out.keptF hks (fun a ha h => by have h1 := HA3.out a ha; have h3 : a.block = i := h; omega))
 replace HR4 := Hd (HR4.out.keptF hks (fun a ha h => by have h1 := HA4.out a ha; have h3 : a.block = i := h; omega))
 replace H5 := Hd (hks.blk H5.out (fun h => by have := HNI.out; omega))
 replace HK := Hd (HK.out.trans hks (fun _ _ h => h))
 clear hks s17 s18 s19 s20 s21 s26 z17 z18 z19 z20 z21 z26 x0 x1 x2 x3 x4 HI
 generalize ((((((V2).setCell ⟨i, 17, none⟩ (.int .i64 ((lpg X m sp num).lv : Int))).setCell ⟨i, 18, none⟩ (.slice A3 (lpg X m sp num).xs.length c3)).setCell ⟨i, 19, none⟩ (.string (lpg X m sp num).hi)).setCell ⟨i, 20, none⟩ (.bool (lpg X m sp num).la)).setCell ⟨i, 21, none⟩ (.int .u64 ((lpg X m sp num).rt : Int))).setCell ⟨i, 26, none⟩ (.string sp) = V3 at *
 have HI := Hd (show Blk V3 i 104 (insv N F fb fd id wd P A c (lpg X m sp num) A3 c3 ph (.pointer (some ⟨q, 0, none⟩)) fr wp sp) from hi3)
 have HA3B := Hd (show ∀ a, A3 = some a → 0 < (lpg X m sp num).xs.length → a.block < V3.heap.size from fun a ha hp => by
  obtain ⟨g9, o9, e9, h9, -⟩ := HR3.out.at hp
  rw [e9] at ha; cases ha; exact h9)
 clear hi3
 refine wp_region_held_drew (S := (fun w' => Kept (fun k => k = i) V3 w' ∧ ∃ (ph' : Int) (fr' : Value), Blk w' i 104 (insv N F fb fd id wd P A c (lpg X m sp num) A3 c3 ph' (.pointer (some ⟨q, 0, none⟩)) fr' wp sp))) (by kernel_rfl) ?_ (fun hHeld => ?_)
 ·exact ⟨(Kept.refl _ _).drew, ph, fr, ((Kept.refl (fun _ => False) V3).drew).blk HI.out (fun h => h)⟩
 have HW := Hd ((Kept.refl (fun k => k = i) V3).drew)
 have hdr := (Kept.refl (fun _ => False) V3).drew
 replace HI := Hd (hdr.blk HI.out (fun h => h))
 replace HR4 := Hd (HR4.out.keptF hdr (fun _ _ h => h))
 clear hdr
 generalize V3.drew = G at *
 refine tkH 0 40 ?_ rfl ?_ hHeld ?_
 rotate_left
 ·(intro wq hSw; go_simp; try with_reducible rfl)
 try simp only [aP,aA,aZ,aS]
 refine tkH 1 41 ?_ rfl ?_ hHeld ?_
 rotate_left
 ·(intro wq hSw; go_simp; try with_reducible rfl)
 try simp only [aP,aA,aZ,aS]
 refine tkH 2 42 ?_ rfl ?_ hHeld ?_
 rotate_left
 ·(intro wq hSw; go_simp; try with_reducible rfl)
 try simp only [aP,aA,aZ,aS]
 refine tkH 3 43 ?_ rfl ?_ hHeld ?_
 rotate_left
 ·(intro wq hSw; go_simp; try with_reducible rfl)
 try simp only [aP,aA,aZ,aS]
 refine tkH 4 44 ?_ rfl ?_ hHeld ?_
 rotate_left
 ·(intro wq hSw; go_simp; try with_reducible rfl)
 try simp only [aP,aA,aZ,aS]
 refine tkH 5 45 ?_ rfl ?_ hHeld ?_
 rotate_left
 ·(intro wq hSw; obtain ⟨ph9, fr9, hb9⟩ := hSw.2; obtain ⟨x0, x1, x2, x3, x4, x5, x6, x7, x8, x9⟩ := hb9.c10; clear hb9; have hb9 := hSw.1.blk H5.out (fun h => by have := HNI.out; omega); obtain ⟨y0, y1, y2, y3, y4⟩ := hb9.c5; clear hb9; go_simp; try with_reducible rfl)
 try simp only [aP,aA,aZ,aS]
 refine tkH 6 46 ?_ rfl ?_ hHeld ?_
 rotate_left
 ·(intro wq hSw; go_simp; try with_reducible rfl)
 try simp only [aP,aA,aZ,aS]
 refine tkH 7 47 ?_ rfl ?_ hHeld ?_
 rotate_left
 ·(intro wq hSw; obtain ⟨ph9, fr9, hb9⟩ := hSw.2; obtain ⟨x0, x1, x2, x3, x4, x5, x6, x7, x8, x9⟩ := hb9.c10; clear hb9; have hb9 := hSw.1.blk H5.out (fun h => by have := HNI.out; omega); obtain ⟨y0, y1, y2, y3, y4⟩ := hb9.c5; clear hb9; go_simp; try with_reducible rfl)
 try simp only [aP,aA,aZ,aS]
 refine wpAnyH_ready (rs := [8]) (by kernel_rfl) (by simp) ?_
 refine AllReadyH.cons (o := ⟨some 48, _, _, _, _, _⟩) rfl (fun KK hK => ?_) AllReadyH.nil
 go_simp
 go_at_call 115
 refine (newFresh_any 1 2 N 100 200 F 1000 10 fb fd hl hd num X.lv A4 c4 X.hi X.la X.rt (X.xs.drop m) _ (rpg X m).xs.length rfl (by rw [rpg_length]; omega) hXl HR4.out).mono ?_; rintro e G1 ⟨r, Zf, rfl, hS, hZ, hK⟩
 have HS := Hd (show Stm Zf G1 r 165 (pst (adr N F 10 num) (rpg X m) ++ [(nodeAt N (F : Int) 10 (num : Int) 0, ((1 : Int), (⟨#[]⟩ : ByteArray), (0 : Int)))]) 0 num 1 (rpg X m) from hS)
 have HZ := Hd (show ∀ k, Zf k → V3.heap.size ≤ k from fun k hk => Nat.le_trans HW.out.size (hZ k hk))
 have HIL := Hd (show ∀ k, Zf k → k ≠ i from fun k hk e => by have h1 := hZ k hk; have h2 := HI.out.lt; omega)
 replace HI := Hd (hK.blk HI.out (fun h => h))
 replace HW := Hd (HW.out.trans hK (fun _ _ h => h.elim))
 clear hS hZ hK HR4
 rename World => G
 refine hK.out _ _ ?_ (fun hHeld2 => ?_)
 ·exact ⟨HW.out, ph, fr, HI.out⟩
 clear hK KK hHeld
 have hHeld := hHeld2
 clear hHeld2
 try simp only [aP,aA,aZ,aS]
 refine tkH 9 49 ?_ rfl ?_ hHeld ?_
 rotate_left
 ·(intro wq hSw; go_simp; try with_reducible rfl)
 try simp only [aP,aA,aZ,aS]
 refine tkH 10 50 ?_ rfl ?_ hHeld ?_
 rotate_left
 ·(intro wq hSw; go_simp; try with_reducible rfl)
 try simp only [aP,aA,aZ,aS]
 refine wpAnyH_ready (rs := [11]) (by kernel_rfl) (by simp) ?_
 refine AllReadyH.cons (o := ⟨none, _, _, _, _, _⟩) rfl (fun KK hK => ?_) AllReadyH.nil
 have hs9 := HI.out
 have s9 := hs9.k 24 rfl
 have z9 := hs9.frozen 24
 clear hs9
 go_simp
 have hks := (Kept.refl (fun k => k = i) G).setCell (a := ⟨i, 24, none⟩) (fun _ => rfl) (.pointer (some ⟨r, 0, none⟩))
 replace HI := Hd (show Blk (G.setCell ⟨i, 24, none⟩ (.pointer (some ⟨r, 0, none⟩))) i 104 (insv N F fb fd id wd P A c (lpg X m sp num) A3 c3 ph (.pointer (some ⟨q, 0, none⟩)) (.pointer (some ⟨r, 0, none⟩)) wp sp) from HI.out.set 24 (.pointer (some ⟨r, 0, none⟩)))
 replace HW := Hd (HW.out.trans hks (fun _ _ h => h))
 replace HS := Hd (HS.out.kept hks (fun k hk h => HIL.out k hk h))
 clear s9 z9 hks
 generalize G.setCell ⟨i, 24, none⟩ (.pointer (some ⟨r, 0, none⟩)) = G at *
 refine hK.out _ _ ?_ (fun hHeld2 => ?_)
 ·exact ⟨HW.out, ph, _, HI.out⟩
 clear hK KK hHeld
 have hHeld := hHeld2
 clear hHeld2
 try simp only [aP,aA,aZ,aS]
 refine tkH 12 51 ?_ rfl ?_ hHeld ?_
 rotate_left
 ·(intro wq hSw; go_simp; try with_reducible rfl)
 try simp only [aP,aA,aZ,aS]
 refine tkH 13 52 ?_ rfl ?_ hHeld ?_
 rotate_left
 ·(intro wq hSw; go_simp; try with_reducible rfl)
 try simp only [aP,aA,aZ,aS]
 refine wpAnyH_ready (rs := [14]) (by kernel_rfl) (by simp) ?_
 refine AllReadyH.cons (o := ⟨none, _, _, _, _, _⟩) rfl (fun KK hK => ?_) AllReadyH.nil
 have hs9 := HI.out
 have s9 := hs9.k 22 rfl
 have z9 := hs9.frozen 22
 clear hs9
 go_simp
 have hks := (Kept.refl (fun k => k = i) G).setCell (a := ⟨i, 22, none⟩) (fun _ => rfl) (.int .i64 1)
 replace HI := Hd (show Blk (G.setCell ⟨i, 22, none⟩ (.int .i64 1)) i 104 (insv N F fb fd id wd P A c (lpg X m sp num) A3 c3 1 (.pointer (some ⟨q, 0, none⟩)) (.pointer (some ⟨r, 0, none⟩)) wp sp) from HI.out.set 22 (.int .i64 1))
 replace HW := Hd (HW.out.trans hks (fun _ _ h => h))
 replace HS := Hd (HS.out.kept hks (fun k hk h => HIL.out k hk h))
 clear s9 z9 hks
 generalize G.setCell ⟨i, 22, none⟩ (.int .i64 1) = G at *
 refine hK.out _ _ ?_ (fun hHeld2 => ?_)
 ·exact ⟨HW.out, 1, _, HI.out⟩
 clear hK KK hHeld
 have hHeld := hHeld2
 clear hHeld2
 try simp only [aP,aA,aZ,aS]
 refine wpAnyH_done (by kernel_rfl) ?_ _
 clear hHeld
 have hkz := HW.out
 have HR3z := Hd (HR3.out.keptF hkz (fun a ha h => by have h1 := HA3.out a ha; have h3 : a.block = i := h; omega))
 have HKz := Hd (HK.out.trans hkz (fun _ _ h => h))
 have HZz := Hd (show ∀ k, Zf k → w.heap.size ≤ k from fun k hk => Nat.le_trans HK.out.size (HZ.out k hk))
 have HDJ := Hd (show ∀ a, A3 = some a → 0 < (lpg X m sp num).xs.length → ¬ Zf a.block from fun a ha hp hz => by have h1 := HA3B.out a ha hp; have h2 := HZ.out _ hz; omega)
 clear hkz
 go_wp2
 go_end0
 exact ⟨rfl, r, Zf, A3, c3, HI.out, HR3z.out, HA3.out, HDJ.out, HS.out, HZz.out, HKz.out⟩

end
end Go.Proofs.YtjnodgebpklaoaaGreat
