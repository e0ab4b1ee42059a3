/-
 Package leaflock: a Lock's step phase by phase, with what the machine inside does as a hypothesis; NewLock and Held. Condition: the kit's small configurations.
-/
import Derived.Test.YtjnodgebpklaoaaGreatLkFind
import Derived.Test.YtjnodgebpklaoaaGreatLkLatch
namespace Go.Proofs.YtjnodgebpklaoaaGreat
set_option maxHeartbeats 8000000
set_option maxRecDepth 100000
open Go.RowKit Go.Deep Plain
set_option linter.unusedVariables false

def lkv (F : Nat) (fb fd : Int) (key : ByteArray) (ph : Int) (fp : Value) (nid : Nat) (ap op rp : Value) : List Value :=
 [.int .i64 1, .int .i64 2, .int .i64 100, .int .i64 100, .int .i64 200, .int .i64 (F : Int), .int .u64 1000, .int .i64 10, .int .i64 fb, .int .i64 fd, .string key, .int .i64 ph, fp, .int .u64 (nid : Int), ap, op, rp]
theorem nla_out {F n : Nat} (h : n = 0 ∨ 100 < n) : nla F n = -1 := by
 unfold nla nodeAt; rw [if_neg (by omega)]
theorem nla_in {F n : Nat} (h1 : 1 ≤ n) (h2 : n ≤ 100) : 0 ≤ nla F n := by
 rw [nla_eq h1 h2]
 have h : 0 ≤ ((n : Int) - 1) * (F : Int) := Int.mul_nonneg (by omega) (by omega)
 omega
theorem newLock_any (F : Nat) (fb fd : Int) (key : ByteArray) (lvl : Nat) (w : World) :
  Calls Tryz.prog 11 #[.agg #[.int .i64 1, .int .i64 2, .int .i64 100, .int .i64 100, .int .i64 200, .int .i64 (F : Int), .int .u64 1000, .int .i64 10, .int .i64 fb, .int .i64 fd], .string key, .int .i64 (lvl : Int)] w fun e w' => ∃ x xf, e = .returned (.pointer (some ⟨x, 0, none⟩)) ∧ w.heap.size ≤ x ∧ w.heap.size ≤ xf ∧ xf ≠ x ∧ Blk w' x 95 (lkv F fb fd key 0 (.pointer (some ⟨xf, 0, none⟩)) 0 (.pointer none) (.pointer none) (.pointer none)) ∧ Blk w' xf 116 (wkv F fb fd 0 (.pointer none) 0 (tlF key lvl ⟨#[]⟩)) ∧ Kept (fun _ => False) w w' := by
 go_enter Tryz.func11, Tryz.ntmps11
 go_upto_region 1 with fail
 have hal := (Kept.refl (fun _ => False) w).alloc (.cells #[.int .i64 1, .int .i64 2, .int .i64 100, .int .i64 100, .int .i64 200, .int .i64 (F : Int), .int .u64 1000, .int .i64 10, .int .i64 fb, .int .i64 fd] 28)
 have HK1 := Hd hal
 have HL := Hd (Blk.new w [.int .i64 1, .int .i64 2, .int .i64 100, .int .i64 100, .int .i64 200, .int .i64 (F : Int), .int .u64 1000, .int .i64 10, .int .i64 fb, .int .i64 fd] 28)
 have hsz : w.heap.size < (w.alloc (.cells #[.int .i64 1, .int .i64 2, .int .i64 100, .int .i64 100, .int .i64 200, .int .i64 (F : Int), .int .u64 1000, .int .i64 10, .int .i64 fb, .int .i64 fd] 28)).heap.size := by rw [nblk_alloc]; omega
 clear hal
 generalize w.alloc (.cells #[.int .i64 1, .int .i64 2, .int .i64 100, .int .i64 100, .int .i64 200, .int .i64 (F : Int), .int .u64 1000, .int .i64 10, .int .i64 fb, .int .i64 fd] 28) = W at *
 generalize hr0 : w.heap.size = r0 at *
 have HR0 := Hd hr0
 clear hr0
 refine wp_region_held_drew (S := (fun w' => Kept (fun _ => False) W w')) (by kernel_rfl) ?_ (fun hHeld => ?_)
 ·exact (Kept.refl _ _).drew
 have HW := Hd ((Kept.refl (fun _ => False) W).drew)
 generalize W.drew = G at *
 refine tkH 0 7 ?_ rfl ?_ hHeld ?_
 rotate_left
 ·(intro wq hSw; have hb9 := hSw.blk HL.out (fun h => h); obtain ⟨x0, x1, x2, x3, x4, x5, x6, x7, x8, x9⟩ := hb9.c10; clear hb9; go_simp; try with_reducible rfl)
 try simp only [aP,aA,aZ,aS]
 refine tkH 1 8 ?_ rfl ?_ hHeld ?_
 rotate_left
 ·(intro wq hSw; go_simp; try with_reducible rfl)
 try simp only [aP,aA,aZ,aS]
 refine tkH 2 9 ?_ rfl ?_ hHeld ?_
 rotate_left
 ·(intro wq hSw; have hb9 := hSw.blk HL.out (fun h => h); obtain ⟨x0, x1, x2, x3, x4, x5, x6, x7, x8, x9⟩ := hb9.c10; clear hb9; go_simp; try with_reducible rfl)
 try simp only [aP,aA,aZ,aS]
 refine tkH 3 10 ?_ rfl ?_ hHeld ?_
 rotate_left
 ·(intro wq hSw; go_simp; try with_reducible rfl)
 try simp only [aP,aA,aZ,aS]
 refine tkH 4 11 ?_ rfl ?_ hHeld ?_
 rotate_left
 ·(intro wq hSw; go_simp; try with_reducible rfl)
 try simp only [aP,aA,aZ,aS]
 refine wpAnyH_ready (rs := [5]) (by kernel_rfl) (by simp) ?_
 refine AllReadyH.cons (o := ⟨some 12, _, _, _, _, _⟩) rfl (fun KK hK => ?_) AllReadyH.nil
 go_simp
 go_at_call 24
 refine (newFind_any F fb fd key lvl _).mono ?_; rintro e w2 ⟨xf, rfl, hxf, hBf, hK2⟩
 have hxf0 : r0 < xf := Nat.lt_of_lt_of_le hsz (Nat.le_trans HW.out.size hxf)
 replace HW := Hd (HW.out.trans hK2 (fun _ _ h => h))
 have HBF := Hd hBf
 clear hK2 hBf hxf
 refine hK.out _ _ ?_ (fun hHeld2 => ?_)
 ·exact HW.out
 clear hK KK hHeld
 have hHeld := hHeld2
 clear hHeld2
 try simp only [aP,aA,aZ,aS]
 refine tkH 6 13 ?_ rfl ?_ hHeld ?_
 rotate_left
 ·(intro wq hSw; go_simp; try with_reducible rfl)
 try simp only [aP,aA,aZ,aS]
 refine wpAnyH_ready (rs := [7]) (by kernel_rfl) (by simp) ?_
 refine AllReadyH.cons (o := ⟨some 14, _, _, _, _, _⟩) rfl (fun KK hK => ?_) AllReadyH.nil
 go_simp
 have HX := Hd (Blk.new w2 (lkv F fb fd key 0 (.pointer (some ⟨xf, 0, none⟩)) 0 (.pointer none) (.pointer none) (.pointer none)) 95)
 have hal2 := (Kept.refl (fun _ => False) w2).alloc (.cells ⟨lkv F fb fd key 0 (.pointer (some ⟨xf, 0, none⟩)) 0 (.pointer none) (.pointer none) (.pointer none)⟩ 95)
 replace HW := Hd (HW.out.trans hal2 (fun _ _ h => h))
 have hxl := HBF.out.lt
 replace HBF := Hd (hal2.blk HBF.out (fun h => h))
 clear hal2
 refine hK.out _ _ ?_ (fun hHeld2 => ?_)
 ·exact HW.out
 clear hK KK hHeld
 have hHeld := hHeld2
 clear hHeld2
 try simp only [aP,aA,aZ,aS]
 refine tkH 8 6 ?_ rfl ?_ hHeld ?_
 rotate_left
 ·(intro wq hSw; go_simp; try with_reducible rfl)
 try simp only [aP,aA,aZ,aS]
 refine wpAnyH_done (by kernel_rfl) ?_ _
 clear hHeld
 go_wp2
 go_ret
 have hr9 := HR0.out
 have hs9 := HK1.out.size
 refine ⟨_, xf, rfl, by omega, by omega, by omega, HX.out, HBF.out, ?_⟩
 have := HK1.out.trans HW.out (fun _ _ h => h)
 exact this

theorem lgoTo_yes (F : Nat) (h4 : 4 ≤ F) (h6 : F ≤ 6) (fb fd : Int) (hd : Reach3 10 fb fd) (key : ByteArray) (x : Nat) (ph : Int) (fp : Value) (nid : Nat) (ap op rp : Value) (w : World) (h : Blk w x 95 (lkv F fb fd key ph (fp) nid (ap) (op) (rp))) (n : Nat) (hn1 : 1 ≤ n) (hn2 : n ≤ 100) :
  Calls Tryz.prog 48 #[.pointer (some ⟨x, 0, none⟩), .int .u64 (n : Int)] w fun e w' => ∃ q, e = .returned (.tuple #[]) ∧ Blk w' x 95 (lkv F fb fd key 1 (fp) n (.pointer (some ⟨q, 0, none⟩)) (op) (rp)) ∧ AcqB w' q (nla F n) 0 ⟨#[]⟩ 0 false false ∧ w.heap.size ≤ q ∧ Kept (fun i => i = x) w w' := by
 obtain ⟨x0, x1, x2, x3, x4, x5, x6, x7, x8, x9⟩ := h.c10
 have HB := Hd h
 have hxl := h.lt
 clear h
 obtain ⟨a, ha⟩ : ∃ a, nla F n = a := ⟨_, rfl⟩
 have ha0 : ¬ a < 0 := by rw [← ha]; have := nla_in (F := F) hn1 hn2; omega
 go_enter Tryz.func48, Tryz.ntmps48
 go_wp2_with fail
 refine (latch_to 1 2 100 100 200 F 1000 10 fb fd (limF h4 h6) hd (n : Int) a ha _).mono ?_; rintro e w1 ⟨rfl, hK1⟩
 have HB1 := Hd (hK1.blk HB.out (fun h => h))
 have HK1 := Hd (hK1.mono (T := fun i => i = x) (fun _ h => h.elim))
 have HS1 := Hd hK1.size
 clear hK1 HB x0 x1 x2 x3 x4 x5 x6 x7 x8 x9
 have hb1 := HB1.out
 have y11 := hb1.k 11 rfl
 have y13 := hb1.k 13 rfl
 have y14 := hb1.k 14 rfl
 have z11 := hb1.frozen 11
 have z13 := hb1.frozen 13
 have z14 := hb1.frozen 14
 clear hb1
 have HA := Hd ha
 clear ha
 go_wp2_with fail
 refine (newAcquire_any a _).mono ?_; rintro e w2 ⟨rfl, hw2⟩
 have hal := (Kept.refl (fun _ => False) w1).alloc (.cells ⟨acqv a 0 ⟨#[]⟩ 0 false false⟩ 140)
 have hNB : AcqB (w1.alloc (.cells ⟨acqv a 0 ⟨#[]⟩ 0 false false⟩ 140)) w1.heap.size a 0 ⟨#[]⟩ 0 false false := Blk.new w1 (acqv a 0 ⟨#[]⟩ 0 false false) 140
 rw [hw2] at hal hNB
 generalize hq : w1.heap.size = q at *
 have HB2 := Hd (hal.blk HB1.out (fun h => h))
 have hxq : x ≠ q := by have := HB1.out.lt; omega
 have HK2 := Hd (HK1.out.trans (hal.mono (T := fun i => i = x) (fun _ h => h.elim)) (fun _ _ h => h))
 have HNB := Hd hNB
 have HSQ := Hd hq
 clear hal hNB hw2 HB1 HK1 hq y11 y13 y14 z11 z13 z14
 have hb1 := HB2.out
 have y11 := hb1.k 11 rfl
 have y13 := hb1.k 13 rfl
 have y14 := hb1.k 14 rfl
 have z11 := hb1.frozen 11
 have z13 := hb1.frozen 13
 have z14 := hb1.frozen 14
 clear hb1
 have HT := Hd (((HB2.out.set 13 (.int .u64 (n : Int))).set 14 (.pointer (some ⟨q, 0, none⟩))).set 11 (.int .i64 1))
 have hK3 := (((Kept.refl (fun i => i = x) w2).setCell (a := ⟨x, 13, none⟩) (fun _ => rfl) (.int .u64 (n : Int))).setCell (a := ⟨x, 14, none⟩) (fun _ => rfl) (.pointer (some ⟨q, 0, none⟩))).setCell (a := ⟨x, 11, none⟩) (fun _ => rfl) (.int .i64 1)
 have HQ := Hd (hK3.blk HNB.out (fun e => hxq e.symm))
 have HK3 := Hd (HK2.out.trans hK3 (fun _ _ h => h))
 clear hK3
 go_wp2
 go_end0
 exact ⟨q, rfl, HT.out, by have := HQ.out; rwa [← HA.out] at this, by have := HSQ.out; have := HS1.out; omega, HK3.out⟩

theorem lgoTo_no (F : Nat) (h4 : 4 ≤ F) (h6 : F ≤ 6) (fb fd : Int) (hd : Reach3 10 fb fd) (key : ByteArray) (x : Nat) (ph : Int) (fp : Value) (nid : Nat) (ap op rp : Value) (w : World) (h : Blk w x 95 (lkv F fb fd key ph (fp) nid (ap) (op) (rp))) (n : Nat) (hn0 : n = 0 ∨ 100 < n) :
  Calls Tryz.prog 48 #[.pointer (some ⟨x, 0, none⟩), .int .u64 (n : Int)] w fun e w' => e = .returned (.tuple #[]) ∧ Blk w' x 95 (lkv F fb fd key 5 (fp) nid (ap) (op) (rp)) ∧ Kept (fun i => i = x) w w' := by
 obtain ⟨x0, x1, x2, x3, x4, x5, x6, x7, x8, x9⟩ := h.c10
 have HB := Hd h
 have hxl := h.lt
 clear h
 have ha := nla_out (F := F) hn0
 go_enter Tryz.func48, Tryz.ntmps48
 go_wp2_with fail
 refine (latch_to 1 2 100 100 200 F 1000 10 fb fd (limF h4 h6) hd (n : Int) (-1) ha _).mono ?_; rintro e w1 ⟨rfl, hK1⟩
 have HB1 := Hd (hK1.blk HB.out (fun h => h))
 have HK1 := Hd (hK1.mono (T := fun i => i = x) (fun _ h => h.elim))
 have HS1 := Hd hK1.size
 clear hK1 HB x0 x1 x2 x3 x4 x5 x6 x7 x8 x9
 have hb1 := HB1.out
 have y11 := hb1.k 11 rfl
 have z11 := hb1.frozen 11
 clear hb1
 go_wp2
 (try simp only [Exit.inBlock, Exit.then]); refine bodyPost_ret (results_none rfl _ _ _) rfl ?_
 exact ⟨rfl, HB1.out.set 11 (.int .i64 5), HK1.out.setCell (a := ⟨x, 11, none⟩) (fun _ => rfl) (.int .i64 5)⟩

theorem lk_find_go (F : Nat) (fb fd : Int) (key : ByteArray) (x q b nid : Nat) (ap op rp : Value) (w : World) (h : Blk w x 95 (lkv F fb fd key 0 (.pointer (some ⟨q, 0, none⟩)) nid (ap) (op) (rp))) (Q : World → Prop) (hS : Calls Tryz.prog 25 #[.pointer (some ⟨q, 0, none⟩), .pointer (some ⟨b, 0, none⟩)] w fun e w' => e = .returned (.bool false) ∧ Q w') (hQ : ∀ w', Q w' → Blk w' x 95 (lkv F fb fd key 0 (.pointer (some ⟨q, 0, none⟩)) nid (ap) (op) (rp))) :
  Calls Tryz.prog 12 #[.pointer (some ⟨x, 0, none⟩), .pointer (some ⟨b, 0, none⟩)] w fun e w' => e = .returned (.bool false) ∧ Q w' := by
 have x11 := h.k 11 rfl
 have x12 := h.k 12 rfl
 have HS := Hd hS
 have HQ := Hd hQ
 clear h hS hQ
 go_enter Tryz.func12, Tryz.ntmps12
 go_wp2_with fail
 refine HS.out.mono ?_; rintro e w1 ⟨rfl, hq1⟩
 have y11 := (HQ.out w1 hq1).k 11 rfl
 have HQ1 := Hd hq1
 clear hq1 x11 x12
 go_wp2
 go_ret
 exact ⟨rfl, HQ1.out⟩

theorem lk_acq_go (F : Nat) (fb fd : Int) (key : ByteArray) (x q b nid : Nat) (fp op rp : Value) (w : World) (h : Blk w x 95 (lkv F fb fd key 1 (fp) nid (.pointer (some ⟨q, 0, none⟩)) (op) (rp))) (Q : World → Prop) (hS : Calls Tryz.prog 49 #[.pointer (some ⟨q, 0, none⟩), .pointer (some ⟨b, 0, none⟩)] w fun e w' => e = .returned (.bool false) ∧ Q w') (hQ : ∀ w', Q w' → Blk w' x 95 (lkv F fb fd key 1 (fp) nid (.pointer (some ⟨q, 0, none⟩)) (op) (rp))) :
  Calls Tryz.prog 12 #[.pointer (some ⟨x, 0, none⟩), .pointer (some ⟨b, 0, none⟩)] w fun e w' => e = .returned (.bool false) ∧ Q w' := by
 have x11 := h.k 11 rfl
 have x14 := h.k 14 rfl
 have HS := Hd hS
 have HQ := Hd hQ
 clear h hS hQ
 go_enter Tryz.func12, Tryz.ntmps12
 go_wp2_with fail
 refine HS.out.mono ?_; rintro e w1 ⟨rfl, hq1⟩
 have y11 := (HQ.out w1 hq1).k 11 rfl
 have HQ1 := Hd hq1
 clear hq1 x11 x14
 go_wp2
 go_ret
 exact ⟨rfl, HQ1.out⟩

theorem lk_own_go (F : Nat) (fb fd : Int) (key : ByteArray) (x q b nid : Nat) (fp ap rp : Value) (w : World) (h : Blk w x 95 (lkv F fb fd key 2 (fp) nid (ap) (.pointer (some ⟨q, 0, none⟩)) (rp))) (Q : World → Prop) (hS : Calls Tryz.prog 51 #[.pointer (some ⟨q, 0, none⟩), .pointer (some ⟨b, 0, none⟩)] w fun e w' => e = .returned (.bool false) ∧ Q w') (hQ : ∀ w', Q w' → Blk w' x 95 (lkv F fb fd key 2 (fp) nid (ap) (.pointer (some ⟨q, 0, none⟩)) (rp))) :
  Calls Tryz.prog 12 #[.pointer (some ⟨x, 0, none⟩), .pointer (some ⟨b, 0, none⟩)] w fun e w' => e = .returned (.bool false) ∧ Q w' := by
 have x11 := h.k 11 rfl
 have x15 := h.k 15 rfl
 have HS := Hd hS
 have HQ := Hd hQ
 clear h hS hQ
 go_enter Tryz.func12, Tryz.ntmps12
 go_wp2_with fail
 refine HS.out.mono ?_; rintro e w1 ⟨rfl, hq1⟩
 have y11 := (HQ.out w1 hq1).k 11 rfl
 have HQ1 := Hd hq1
 clear hq1 x11 x15
 go_wp2
 go_ret
 exact ⟨rfl, HQ1.out⟩

theorem lk_find_yes (F : Nat) (h4 : 4 ≤ F) (h6 : F ≤ 6) (fb fd : Int) (hd : Reach3 10 fb fd) (key : ByteArray) (x : Nat) (q b nid : Nat) (ap op rp : Value) (t : Nat) (ht1 : 1 ≤ t) (ht2 : t ≤ 100) (w : World) (h : Blk w x 95 (lkv F fb fd key 0 (.pointer (some ⟨q, 0, none⟩)) nid (ap) (op) (rp))) (Q : World → Prop) (hS : Calls Tryz.prog 25 #[.pointer (some ⟨q, 0, none⟩), .pointer (some ⟨b, 0, none⟩)] w fun e w' => e = .returned (.bool true) ∧ Q w') (hQ : ∀ w', Q w' → Blk w' x 95 (lkv F fb fd key 0 (.pointer (some ⟨q, 0, none⟩)) nid (ap) (op) (rp))) (hN : ∀ w1, Q w1 → Calls Tryz.prog 26 #[.pointer (some ⟨q, 0, none⟩)] w1 fun e w' => ∃ (lv : Nat) (A : Option Addr) (n c : Nat) (hi : ByteArray) (la : Bool) (rt : Nat), e = .returned (.tuple #[.int .u64 (t : Int), .agg #[.int .i64 (lv : Int), .slice A n c, .string hi, .bool la, .int .u64 (rt : Int)]]) ∧ Kept (fun _ => False) w1 w') :
  Calls Tryz.prog 12 #[.pointer (some ⟨x, 0, none⟩), .pointer (some ⟨b, 0, none⟩)] w fun e w' => e = .returned (.bool false) ∧ ∃ w1 q2, Q w1 ∧ Blk w' x 95 (lkv F fb fd key 1 (.pointer (some ⟨q, 0, none⟩)) t (.pointer (some ⟨q2, 0, none⟩)) (op) (rp)) ∧ AcqB w' q2 (nla F t) 0 ⟨#[]⟩ 0 false false ∧ w1.heap.size ≤ q2 ∧ Kept (fun i => i = x) w1 w' := by
 have x11 := h.k 11 rfl
 have x12 := h.k 12 rfl
 have HS := Hd hS
 have HQ := Hd hQ
 have HN := Hd hN
 clear h hS hQ hN
 go_enter Tryz.func12, Tryz.ntmps12
 go_wp2_with fail
 refine HS.out.mono ?_; rintro e w1 ⟨rfl, hq1⟩
 have HB1 := Hd (HQ.out w1 hq1)
 have HN1 := Hd (HN.out w1 hq1)
 have HQ1 := Hd hq1
 clear hq1 x11 x12 HQ HN
 have x12 := HB1.out.k 12 rfl
 go_wp2_with fail
 refine HN1.out.mono ?_; rintro e w2 ⟨lv, A, n, c, hi, la, rt, rfl, hK2⟩
 have HB2 := Hd (hK2.blk HB1.out (fun h => h))
 have HK2 := Hd hK2
 clear hK2 x12 HB1
 go_wp2_with fail
 have hal := (Kept.refl (fun _ => False) w2).alloc (.cells #[.int .i64 (lv : Int), .slice A n c, .string hi, .bool la, .int .u64 (rt : Int)] 38)
 have HB3 := Hd (hal.blk HB2.out (fun h => h))
 have HK3 := Hd ((HK2.out.trans hal (fun _ _ h => h)).mono (T := fun i => i = x) (fun _ h => h.elim))
 clear hal HB2 HK2
 generalize w2.alloc (.cells #[.int .i64 (lv : Int), .slice A n c, .string hi, .bool la, .int .u64 (rt : Int)] 38) = W at *
 refine (lgoTo_yes F h4 h6 fb fd hd key x 0 (.pointer (some ⟨q, 0, none⟩)) nid ap op rp W HB3.out t ht1 ht2).mono ?_; rintro e w4 ⟨q2, rfl, hB4, hA4, hq4, hK4⟩
 have HB4 := Hd hB4
 have HA4 := Hd hA4
 have HK4 := Hd (HK3.out.trans hK4 (fun _ _ h => h))
 have HQ4 := Hd (Nat.le_trans HK3.out.size hq4)
 clear hB4 hA4 hq4 hK4 HB3 HK3
 have y11 := HB4.out.k 11 rfl
 go_wp2
 go_ret
 exact ⟨rfl, w1, q2, HQ1.out, HB4.out, HA4.out, HQ4.out, HK4.out⟩

theorem lk_find_no (F : Nat) (h4 : 4 ≤ F) (h6 : F ≤ 6) (fb fd : Int) (hd : Reach3 10 fb fd) (key : ByteArray) (x : Nat) (q b nid : Nat) (ap op rp : Value) (t : Nat) (ht0 : t = 0 ∨ 100 < t) (w : World) (h : Blk w x 95 (lkv F fb fd key 0 (.pointer (some ⟨q, 0, none⟩)) nid (ap) (op) (rp))) (Q : World → Prop) (hS : Calls Tryz.prog 25 #[.pointer (some ⟨q, 0, none⟩), .pointer (some ⟨b, 0, none⟩)] w fun e w' => e = .returned (.bool true) ∧ Q w') (hQ : ∀ w', Q w' → Blk w' x 95 (lkv F fb fd key 0 (.pointer (some ⟨q, 0, none⟩)) nid (ap) (op) (rp))) (hN : ∀ w1, Q w1 → Calls Tryz.prog 26 #[.pointer (some ⟨q, 0, none⟩)] w1 fun e w' => ∃ (lv : Nat) (A : Option Addr) (n c : Nat) (hi : ByteArray) (la : Bool) (rt : Nat), e = .returned (.tuple #[.int .u64 (t : Int), .agg #[.int .i64 (lv : Int), .slice A n c, .string hi, .bool la, .int .u64 (rt : Int)]]) ∧ Kept (fun _ => False) w1 w') :
  Calls Tryz.prog 12 #[.pointer (some ⟨x, 0, none⟩), .pointer (some ⟨b, 0, none⟩)] w fun e w' => e = .returned (.bool true) ∧ ∃ w1, Q w1 ∧ Blk w' x 95 (lkv F fb fd key 5 (.pointer (some ⟨q, 0, none⟩)) nid (ap) (op) (rp)) ∧ Kept (fun i => i = x) w1 w' := by
 have x11 := h.k 11 rfl
 have x12 := h.k 12 rfl
 have HS := Hd hS
 have HQ := Hd hQ
 have HN := Hd hN
 clear h hS hQ hN
 go_enter Tryz.func12, Tryz.ntmps12
 go_wp2_with fail
 refine HS.out.mono ?_; rintro e w1 ⟨rfl, hq1⟩
 have HB1 := Hd (HQ.out w1 hq1)
 have HN1 := Hd (HN.out w1 hq1)
 have HQ1 := Hd hq1
 clear hq1 x11 x12 HQ HN
 have x12 := HB1.out.k 12 rfl
 go_wp2_with fail
 refine HN1.out.mono ?_; rintro e w2 ⟨lv, A, n, c, hi, la, rt, rfl, hK2⟩
 have HB2 := Hd (hK2.blk HB1.out (fun h => h))
 have HK2 := Hd hK2
 clear hK2 x12 HB1
 go_wp2_with fail
 have hal := (Kept.refl (fun _ => False) w2).alloc (.cells #[.int .i64 (lv : Int), .slice A n c, .string hi, .bool la, .int .u64 (rt : Int)] 38)
 have HB3 := Hd (hal.blk HB2.out (fun h => h))
 have HK3 := Hd ((HK2.out.trans hal (fun _ _ h => h)).mono (T := fun i => i = x) (fun _ h => h.elim))
 clear hal HB2 HK2
 generalize w2.alloc (.cells #[.int .i64 (lv : Int), .slice A n c, .string hi, .bool la, .int .u64 (rt : Int)] 38) = W at *
 refine (lgoTo_no F h4 h6 fb fd hd key x 0 (.pointer (some ⟨q, 0, none⟩)) nid ap op rp W HB3.out t ht0).mono ?_; rintro e w4 ⟨rfl, hB4, hK4⟩
 have HB4 := Hd hB4
 have HK4 := Hd (HK3.out.trans hK4 (fun _ _ h => h))
 clear hB4 hK4 HB3 HK3
 have y11 := HB4.out.k 11 rfl
 go_wp2
 go_ret
 exact ⟨rfl, w1, HQ1.out, HB4.out, HK4.out⟩

theorem lread_any (F : Nat) (h4 : 4 ≤ F) (h6 : F ≤ 6) (fb fd : Int) (hd : Reach3 10 fb fd) (key : ByteArray) (x : Nat) (ph : Int) (fp : Value) (nid q : Nat) (op rp : Value) (i : Int) (N : Nat) (K : ByteArray) (M : Int) (fr : Bool) (hN : N < 18446744073709551616) (w : World) (h : Blk w x 95 (lkv F fb fd key ph (fp) nid (.pointer (some ⟨q, 0, none⟩)) (op) (rp))) (hA : AcqB w q i N K M fr true) :
  Calls Tryz.prog 50 #[.pointer (some ⟨x, 0, none⟩)] w fun e w' => ∃ q2, e = .returned (.tuple #[]) ∧ Blk w' x 95 (lkv F fb fd key 2 (fp) nid (.pointer (some ⟨q, 0, none⟩)) (.pointer (some ⟨q2, 0, none⟩)) (rp)) ∧ Con (fun i => i = q2) w' 1 2 100 100 200 F 1000 10 fb fd q2 145 nid cs0 [.int .u64 (lockW N : Int), .bool false] ∧ w.heap.size ≤ q2 ∧ Kept (fun i => i = x) w w' := by
 have HB := Hd h
 have HA := Hd hA
 have hxl := h.lt
 clear h hA
 go_enter Tryz.func50, Tryz.ntmps50
 go_upto_region 0 with fail
 refine wp_region_held_drew (S := (fun w' => ∃ (ph9 : Int) (op9 : Value), Blk w' x 95 (lkv F fb fd key ph9 fp nid (.pointer (some ⟨q, 0, none⟩)) op9 rp))) (by kernel_rfl) ?_ (fun hHeld => ?_)
 ·exact ⟨_, _, HB.out.of (w' := w.drew) rfl⟩
 have HBc := Hd (HB.out.of (w' := w.drew) rfl)
 have HAc := Hd (HA.out.of (w' := w.drew) rfl)
 have HKc := Hd ((Kept.refl (fun i => i = x) w).drew)
 have HSZ := Hd (show w.heap.size ≤ w.drew.heap.size from Nat.le_refl _)
 generalize w.drew = G at *
 refine tkH 0 2 ?_ rfl ?_ hHeld ?_
 rotate_left
 ·(intro wq hSw; go_simp; try with_reducible rfl)
 try simp only [aP,aA,aZ,aS]
 refine tkH 1 3 ?_ rfl ?_ hHeld ?_
 rotate_left
 ·(intro wq hSw; go_simp; try with_reducible rfl)
 try simp only [aP,aA,aZ,aS]
 refine tkH 2 4 ?_ rfl ?_ hHeld ?_
 rotate_left
 ·(intro wq hSw; go_simp; try with_reducible rfl)
 try simp only [aP,aA,aZ,aS]
 refine tkH 3 5 ?_ rfl ?_ hHeld ?_
 rotate_left
 ·(intro wq hSw; go_simp; try with_reducible rfl)
 try simp only [aP,aA,aZ,aS]
 refine tkH 4 6 ?_ rfl ?_ hHeld ?_
 rotate_left
 ·(intro wq hSw; go_simp; try with_reducible rfl)
 try simp only [aP,aA,aZ,aS]
 refine tkH 5 7 ?_ rfl ?_ hHeld ?_
 rotate_left
 ·(intro wq hSw; obtain ⟨ph9, op9, hb9⟩ := hSw; obtain ⟨x0, x1, x2, x3, x4, x5, x6, x7, x8, x9⟩ := hb9.c10; have x13 := hb9.k 13 rfl; have x14 := hb9.k 14 rfl; clear hb9; go_simp; try with_reducible rfl)
 try simp only [aP,aA,aZ,aS]
 refine tkH 6 8 ?_ rfl ?_ hHeld ?_
 rotate_left
 ·(intro wq hSw; go_simp; try with_reducible rfl)
 try simp only [aP,aA,aZ,aS]
 refine tkH 7 9 ?_ rfl ?_ hHeld ?_
 rotate_left
 ·(intro wq hSw; go_simp; try with_reducible rfl)
 try simp only [aP,aA,aZ,aS]
 refine tkH 8 10 ?_ rfl ?_ hHeld ?_
 rotate_left
 ·(intro wq hSw; go_simp; try with_reducible rfl)
 try simp only [aP,aA,aZ,aS]
 refine tkH 9 11 ?_ rfl ?_ hHeld ?_
 rotate_left
 ·(intro wq hSw; obtain ⟨ph9, op9, hb9⟩ := hSw; obtain ⟨x0, x1, x2, x3, x4, x5, x6, x7, x8, x9⟩ := hb9.c10; have x13 := hb9.k 13 rfl; have x14 := hb9.k 14 rfl; clear hb9; go_simp; try with_reducible rfl)
 try simp only [aP,aA,aZ,aS]
 refine tkH 10 12 ?_ rfl ?_ hHeld ?_
 rotate_left
 ·(intro wq hSw; go_simp; try with_reducible rfl)
 try simp only [aP,aA,aZ,aS]
 refine tkH 11 13 ?_ rfl ?_ hHeld ?_
 rotate_left
 ·(intro wq hSw; go_simp; try with_reducible rfl)
 try simp only [aP,aA,aZ,aS]
 refine tkH 12 14 ?_ rfl ?_ hHeld ?_
 rotate_left
 ·(intro wq hSw; go_simp; try with_reducible rfl)
 try simp only [aP,aA,aZ,aS]
 refine tkH 13 15 ?_ rfl ?_ hHeld ?_
 rotate_left
 ·(intro wq hSw; obtain ⟨ph9, op9, hb9⟩ := hSw; obtain ⟨x0, x1, x2, x3, x4, x5, x6, x7, x8, x9⟩ := hb9.c10; have x13 := hb9.k 13 rfl; have x14 := hb9.k 14 rfl; clear hb9; go_simp; try with_reducible rfl)
 try simp only [aP,aA,aZ,aS]
 refine wpAnyH_ready (rs := [14]) (by kernel_rfl) (by simp) ?_
 refine AllReadyH.cons (o := ⟨some 16, _, _, _, _, _⟩) rfl (fun KK hK => ?_) AllReadyH.nil
 go_simp
 go_at_call 103
 refine (word_yes q i N K M fr _ HAc.out hN).mono ?_; rintro e w2 ⟨rfl, rfl⟩
 refine hK.out _ _ ?_ (fun hHeld2 => ?_)
 ·exact ⟨_, _, HBc.out⟩
 clear hK KK hHeld
 have hHeld := hHeld2
 clear hHeld2
 try simp only [aP,aA,aZ,aS]
 refine wpAnyH_ready (rs := [15]) (by kernel_rfl) (by simp) ?_
 refine AllReadyH.cons (o := ⟨some 17, _, _, _, _, _⟩) rfl (fun KK hK => ?_) AllReadyH.nil
 go_simp
 go_at_call 102
 refine (newOwn_any 1 2 100 100 200 F 1000 10 fb fd (limF h4 h6) hd nid (lockW N) _).mono ?_; rintro e w3 ⟨q2, rfl, hC3, hq3, hK3⟩
 have hxG := HBc.out.lt
 replace HBc := Hd (hK3.blk HBc.out (fun h => h))
 replace HKc := Hd (HKc.out.trans hK3 (fun _ _ h => h.elim))
 have HC := Hd hC3
 have HQ2 := Hd (Nat.le_trans HSZ.out hq3)
 have HXQ := Hd (show x ≠ q2 by omega)
 clear hK3 hC3 hq3 hxG
 have hb2 := HBc.out
 have y15 := hb2.k 15 rfl
 have z15 := hb2.frozen 15
 clear hb2
 refine hK.out _ _ ?_ (fun hHeld2 => ?_)
 ·exact ⟨_, _, HBc.out⟩
 clear hK KK hHeld
 have hHeld := hHeld2
 clear hHeld2
 try simp only [aP,aA,aZ,aS]
 refine tkH 16 18 ?_ rfl ?_ hHeld ?_
 rotate_left
 ·(intro wq hSw; go_simp; try with_reducible rfl)
 try simp only [aP,aA,aZ,aS]
 refine tkH 17 19 ?_ rfl ?_ hHeld ?_
 rotate_left
 ·(intro wq hSw; go_simp; try with_reducible rfl)
 try simp only [aP,aA,aZ,aS]
 refine wpAnyH_ready (rs := [18]) (by kernel_rfl) (by simp) ?_
 refine AllReadyH.cons (o := ⟨none, _, _, _, _, _⟩) rfl (fun KK hK => ?_) AllReadyH.nil
 go_simp
 replace HBc := Hd (HBc.out.set 15 (.pointer (some ⟨q2, 0, none⟩)))
 have hK4 := (Kept.refl (fun i => i = x) w3).setCell (a := ⟨x, 15, none⟩) (fun _ => rfl) (.pointer (some ⟨q2, 0, none⟩))
 replace HKc := Hd (HKc.out.trans hK4 (fun _ _ h => h))
 replace HC := Hd (HC.out.kept hK4 (fun i hi e => HXQ.out (e.symm.trans hi)))
 clear hK4 y15 z15
 generalize w3.setCell ⟨x, 15, none⟩ (.pointer (some ⟨q2, 0, none⟩)) = w4 at *
 have hb2 := HBc.out
 have y11 := hb2.k 11 rfl
 have z11 := hb2.frozen 11
 clear hb2
 refine hK.out _ _ ?_ (fun hHeld2 => ?_)
 ·exact ⟨_, _, HBc.out⟩
 clear hK KK hHeld
 have hHeld := hHeld2
 clear hHeld2
 try simp only [aP,aA,aZ,aS]
 refine tkH 19 20 ?_ rfl ?_ hHeld ?_
 rotate_left
 ·(intro wq hSw; go_simp; try with_reducible rfl)
 try simp only [aP,aA,aZ,aS]
 refine tkH 20 21 ?_ rfl ?_ hHeld ?_
 rotate_left
 ·(intro wq hSw; go_simp; try with_reducible rfl)
 try simp only [aP,aA,aZ,aS]
 refine wpAnyH_ready (rs := [21]) (by kernel_rfl) (by simp) ?_
 refine AllReadyH.cons (o := ⟨none, _, _, _, _, _⟩) rfl (fun KK hK => ?_) AllReadyH.nil
 go_simp
 replace HBc := Hd (HBc.out.set 11 (.int .i64 2))
 have hK4 := (Kept.refl (fun i => i = x) w4).setCell (a := ⟨x, 11, none⟩) (fun _ => rfl) (.int .i64 2)
 replace HKc := Hd (HKc.out.trans hK4 (fun _ _ h => h))
 replace HC := Hd (HC.out.kept hK4 (fun i hi e => HXQ.out (e.symm.trans hi)))
 clear hK4 y11 z11
 generalize w4.setCell ⟨x, 11, none⟩ (.int .i64 2) = w5 at *
 refine hK.out _ _ ?_ (fun hHeld2 => ?_)
 ·exact ⟨_, _, HBc.out⟩
 clear hK KK hHeld
 have hHeld := hHeld2
 clear hHeld2
 try simp only [aP,aA,aZ,aS]
 refine wpAnyH_done (by kernel_rfl) ?_ _
 clear hHeld
 go_wp2
 go_end0
 exact ⟨q2, rfl, HBc.out, HC.out, HQ2.out, HKc.out⟩

theorem lk_acq_end (F : Nat) (h4 : 4 ≤ F) (h6 : F ≤ 6) (fb fd : Int) (hd : Reach3 10 fb fd) (key : ByteArray) (x : Nat) (q b nid : Nat) (fp op rp : Value) (i : Int) (N : Nat) (K : ByteArray) (M : Int) (fr : Bool) (hN : N < 18446744073709551616) (w : World) (h : Blk w x 95 (lkv F fb fd key 1 (fp) nid (.pointer (some ⟨q, 0, none⟩)) (op) (rp))) (Q : World → Prop) (hS : Calls Tryz.prog 49 #[.pointer (some ⟨q, 0, none⟩), .pointer (some ⟨b, 0, none⟩)] w fun e w' => e = .returned (.bool true) ∧ Q w') (hQ : ∀ w', Q w' → Blk w' x 95 (lkv F fb fd key 1 (fp) nid (.pointer (some ⟨q, 0, none⟩)) (op) (rp)) ∧ AcqB w' q i N K M fr true) :
  Calls Tryz.prog 12 #[.pointer (some ⟨x, 0, none⟩), .pointer (some ⟨b, 0, none⟩)] w fun e w' => e = .returned (.bool false) ∧ ∃ w1 q2, Q w1 ∧ Blk w' x 95 (lkv F fb fd key 2 (fp) nid (.pointer (some ⟨q, 0, none⟩)) (.pointer (some ⟨q2, 0, none⟩)) (rp)) ∧ Con (fun i => i = q2) w' 1 2 100 100 200 F 1000 10 fb fd q2 145 nid cs0 [.int .u64 (lockW N : Int), .bool false] ∧ w1.heap.size ≤ q2 ∧ Kept (fun i => i = x) w1 w' := by
 have x11 := h.k 11 rfl
 have x14 := h.k 14 rfl
 have HS := Hd hS
 have HQ := Hd hQ
 clear h hS hQ
 go_enter Tryz.func12, Tryz.ntmps12
 go_wp2_with fail
 refine HS.out.mono ?_; rintro e w1 ⟨rfl, hq1⟩
 have HB1 := Hd (HQ.out w1 hq1)
 have HQ1 := Hd hq1
 clear hq1 x11 x14 HQ
 go_wp2_with fail
 refine (lread_any F h4 h6 fb fd hd key x 1 fp nid q op rp i N K M fr hN w1 HB1.out.1 HB1.out.2).mono ?_; rintro e w2 ⟨q2, rfl, hB2, hC2, hq2, hK2⟩
 have y11 := hB2.k 11 rfl
 have HB2 := Hd hB2
 have HC2 := Hd hC2
 have HQ2 := Hd hq2
 have HK2 := Hd hK2
 clear hB2 hC2 hq2 hK2 HB1
 go_wp2
 go_ret
 exact ⟨rfl, w1, q2, HQ1.out, HB2.out, HC2.out, HQ2.out, HK2.out⟩

theorem lcheck_yes (Z : Nat → Prop) (F : Nat) (h4 : 4 ≤ F) (h6 : F ≤ 6) (fb fd : Int) (hd : Reach3 10 fb fd) (key : ByteArray) (x : Nat) (ph : Int) (fp : Value) (nid q : Nat) (ap rp : Value) (s : Cs) (wd : Nat) (w : World) (h : Blk w x 95 (lkv F fb fd key ph (fp) nid (ap) (.pointer (some ⟨q, 0, none⟩)) (rp))) (hC : Con Z w 1 2 100 100 200 F 1000 10 fb fd q 145 nid s [.int .u64 (wd : Int), .bool true]) (h40 : s.xs.length ≤ 1099511627776) (hcov : (s.la || ltB key.toList s.hi.toList) = true) :
  Calls Tryz.prog 52 #[.pointer (some ⟨x, 0, none⟩)] w fun e w' => e = .returned (.tuple #[]) ∧ Blk w' x 95 (lkv F fb fd key 4 (fp) nid (ap) (.pointer (some ⟨q, 0, none⟩)) (rp)) ∧ Kept (fun i => i = x) w w' := by
 have x15 := h.k 15 rfl
 have HB := Hd h
 have HC := Hd hC
 clear h hC
 go_enter Tryz.func52, Tryz.ntmps52
 go_wp2_with fail
 refine (oheld_any Z 1 2 100 100 200 F 1000 10 fb fd q nid s wd _ HC.out h40).mono ?_; rintro e w1 ⟨A, c, rfl, hR, hA, hK1⟩
 have HB1 := Hd (hK1.blk HB.out (fun h => h))
 have HK1 := Hd hK1
 clear hR hA hK1 HB x15
 go_upto_region 1 with fail
 have hal := (Kept.refl (fun _ => False) w1).alloc (.cells #[.int .u64 (nid : Int), .int .u64 (wd : Int), .int .i64 (s.lv : Int), .slice A s.xs.length c, .string s.hi, .bool s.la, .int .u64 (s.rt : Int)] 40)
 have HHB := Hd (Blk.new w1 [.int .u64 (nid : Int), .int .u64 (wd : Int), .int .i64 (s.lv : Int), .slice A s.xs.length c, .string s.hi, .bool s.la, .int .u64 (s.rt : Int)] 40)
 have HB2 := Hd (hal.blk HB1.out (fun h => h))
 have hxl := HB1.out.lt
 have HK2 := Hd (HK1.out.trans hal (fun _ _ h => h))
 clear hal HB1 HK1
 generalize w1.alloc (.cells #[.int .u64 (nid : Int), .int .u64 (wd : Int), .int .i64 (s.lv : Int), .slice A s.xs.length c, .string s.hi, .bool s.la, .int .u64 (s.rt : Int)] 40) = W at *
 generalize w1.heap.size = r1 at *
 refine qregion (fun w' => Kept (fun _ => False) W w') (by kernel_rfl) (by kernel_rfl) (Kept.refl _ _).drew ?_
 refine tkQ 8 ?_ (fun wq hSw => ?_) ?_
 rotate_left
 ·(go_simp; try with_reducible rfl)
 try simp only [aP,aA,aZ,aS]
 refine tkQ 9 ?_ (fun wq hSw => ?_) ?_
 rotate_left
 ·(go_simp; try with_reducible rfl)
 try simp only [aP,aA,aZ,aS]
 refine tkQ 10 ?_ (fun wq hSw => ?_) ?_
 rotate_left
 ·(go_simp; try with_reducible rfl)
 try simp only [aP,aA,aZ,aS]
 refine tkQ 11 ?_ (fun wq hSw => ?_) ?_
 rotate_left
 ·(have hb9 := hSw.blk HB2.out (fun h => h); have x10 := hb9.k 10 rfl; have hh9 := hSw.blk HHB.out (fun h => h); have y4 := hh9.k 4 rfl; have y5 := hh9.k 5 rfl; clear hb9 hh9; go_simp; try with_reducible rfl)
 try simp only [aP,aA,aZ,aS]
 refine tkQ 12 ?_ (fun wq hSw => ?_) ?_
 rotate_left
 ·(go_simp; try with_reducible rfl)
 try simp only [aP,aA,aZ,aS]
 refine tkQ 13 ?_ (fun wq hSw => ?_) ?_
 rotate_left
 ·(go_simp; try with_reducible rfl)
 try simp only [aP,aA,aZ,aS]
 refine tkQ 14 ?_ (fun wq hSw => ?_) ?_
 rotate_left
 ·(have hb9 := hSw.blk HB2.out (fun h => h); have x10 := hb9.k 10 rfl; have hh9 := hSw.blk HHB.out (fun h => h); have y4 := hh9.k 4 rfl; have y5 := hh9.k 5 rfl; clear hb9 hh9; go_simp; try with_reducible rfl)
 try simp only [aP,aA,aZ,aS]
 refine tkQ 15 ?_ (fun wq hSw => ?_) ?_
 rotate_left
 ·(go_simp; try with_reducible rfl)
 try simp only [aP,aA,aZ,aS]
 refine tkQ 16 ?_ (fun wq hSw => ?_) ?_
 rotate_left
 ·(go_simp; try with_reducible rfl)
 try simp only [aP,aA,aZ,aS]
 refine tkQ 17 ?_ (fun wq hSw => ?_) ?_
 rotate_left
 ·(have hb9 := hSw.blk HB2.out (fun h => h); have x10 := hb9.k 10 rfl; have hh9 := hSw.blk HHB.out (fun h => h); have y4 := hh9.k 4 rfl; have y5 := hh9.k 5 rfl; clear hb9 hh9; go_simp; try with_reducible rfl)
 try simp only [aP,aA,aZ,aS]
 refine qcall (o := ⟨some 18, _, _, _, _, _⟩) (v := .bool true) (by rfl) (fun wq hSw => ?_) (fun wq hSw => Calls.mono (within_of key s.hi s.la true _ hcov) ?_) ?_
 ·(go_simp; try with_reducible rfl)
 ·rintro e w9 ⟨rfl, rfl⟩; exact ⟨rfl, hSw⟩
 try simp only [aP,aA,aZ,aS]
 refine wpQuiet_nil ?_
 intro wz hHeld
 have HB3 := Hd (hHeld.blk HB2.out (fun h => h))
 have HH3 := Hd (hHeld.blk HHB.out (fun h => h))
 have HK3 := Hd ((HK2.out.trans hHeld (fun _ _ h => h)).mono (T := fun i => i = x) (fun _ h => h.elim))
 clear hHeld HB2 HHB HK2
 have hb3 := HB3.out
 have y11 := hb3.k 11 rfl
 have z11 := hb3.frozen 11
 clear hb3
 go_wp2
 (try simp only [Exit.inBlock, Exit.then]); refine bodyPost_ret (results_none rfl _ _ _) rfl ?_
 exact ⟨rfl, HB3.out.set 11 (.int .i64 4), HK3.out.setCell (a := ⟨x, 11, none⟩) (fun _ => rfl) (.int .i64 4)⟩

theorem lk_own_yes (F : Nat) (h4 : 4 ≤ F) (h6 : F ≤ 6) (fb fd : Int) (hd : Reach3 10 fb fd) (key : ByteArray) (x : Nat) (q b nid : Nat) (fp ap rp : Value) (s : Cs) (wd : Nat) (h40 : s.xs.length ≤ 1099511627776) (hcov : (s.la || ltB key.toList s.hi.toList) = true) (w : World) (h : Blk w x 95 (lkv F fb fd key 2 (fp) nid (ap) (.pointer (some ⟨q, 0, none⟩)) (rp))) (Q : World → Prop) (hS : Calls Tryz.prog 51 #[.pointer (some ⟨q, 0, none⟩), .pointer (some ⟨b, 0, none⟩)] w fun e w' => e = .returned (.bool true) ∧ Q w') (hQ : ∀ w', Q w' → Blk w' x 95 (lkv F fb fd key 2 (fp) nid (ap) (.pointer (some ⟨q, 0, none⟩)) (rp)) ∧ ∃ Z, Con Z w' 1 2 100 100 200 F 1000 10 fb fd q 145 nid s [.int .u64 (wd : Int), .bool true]) :
  Calls Tryz.prog 12 #[.pointer (some ⟨x, 0, none⟩), .pointer (some ⟨b, 0, none⟩)] w fun e w' => e = .returned (.bool true) ∧ ∃ w1, Q w1 ∧ Blk w' x 95 (lkv F fb fd key 4 (fp) nid (ap) (.pointer (some ⟨q, 0, none⟩)) (rp)) ∧ Kept (fun i => i = x) w1 w' := by
 have x11 := h.k 11 rfl
 have x15 := h.k 15 rfl
 have HS := Hd hS
 have HQ := Hd hQ
 clear h hS hQ
 go_enter Tryz.func12, Tryz.ntmps12
 go_wp2_with fail
 refine HS.out.mono ?_; rintro e w1 ⟨rfl, hq1⟩
 obtain ⟨hB1, Z, hC1⟩ := HQ.out w1 hq1
 have HB1 := Hd hB1
 have HC1 := Hd hC1
 have HQ1 := Hd hq1
 clear hq1 x11 x15 HQ hB1 hC1
 go_wp2_with fail
 refine (lcheck_yes Z F h4 h6 fb fd hd key x 2 fp nid q ap rp s wd w1 HB1.out HC1.out h40 hcov).mono ?_; rintro e w2 ⟨rfl, hB2, hK2⟩
 have y11 := hB2.k 11 rfl
 have HB2 := Hd hB2
 have HK2 := Hd hK2
 clear hB2 hK2 HB1 HC1
 go_wp2
 go_ret
 exact ⟨rfl, w1, HQ1.out, HB2.out, HK2.out⟩

theorem lcheck_no (Z : Nat → Prop) (F : Nat) (h4 : 4 ≤ F) (h6 : F ≤ 6) (fb fd : Int) (hd : Reach3 10 fb fd) (key : ByteArray) (x : Nat) (ph : Int) (fp : Value) (nid q : Nat) (ap rp : Value) (s : Cs) (wd : Nat) (w : World) (h : Blk w x 95 (lkv F fb fd key ph (fp) nid (ap) (.pointer (some ⟨q, 0, none⟩)) (rp))) (hC : Con Z w 1 2 100 100 200 F 1000 10 fb fd q 145 nid s [.int .u64 (wd : Int), .bool true]) (h40 : s.xs.length ≤ 1099511627776) (hcov : (s.la || ltB key.toList s.hi.toList) = false) :
  Calls Tryz.prog 52 #[.pointer (some ⟨x, 0, none⟩)] w fun e w' => ∃ q2, e = .returned (.tuple #[]) ∧ Blk w' x 95 (lkv F fb fd key 3 (fp) nid (ap) (.pointer (some ⟨q, 0, none⟩)) (.pointer (some ⟨q2, 0, none⟩))) ∧ RelB w' q2 (nla F nid) wd false ∧ w.heap.size ≤ q2 ∧ Kept (fun i => i = x) w w' := by
 have x15 := h.k 15 rfl
 have HB := Hd h
 have HC := Hd hC
 clear h hC
 go_enter Tryz.func52, Tryz.ntmps52
 go_wp2_with fail
 refine (oheld_any Z 1 2 100 100 200 F 1000 10 fb fd q nid s wd _ HC.out h40).mono ?_; rintro e w1 ⟨A, c, rfl, hR, hA, hK1⟩
 have HB1 := Hd (hK1.blk HB.out (fun h => h))
 have HK1 := Hd hK1
 clear hR hA hK1 HB x15
 go_upto_region 1 with fail
 have hal := (Kept.refl (fun _ => False) w1).alloc (.cells #[.int .u64 (nid : Int), .int .u64 (wd : Int), .int .i64 (s.lv : Int), .slice A s.xs.length c, .string s.hi, .bool s.la, .int .u64 (s.rt : Int)] 40)
 have HHB := Hd (Blk.new w1 [.int .u64 (nid : Int), .int .u64 (wd : Int), .int .i64 (s.lv : Int), .slice A s.xs.length c, .string s.hi, .bool s.la, .int .u64 (s.rt : Int)] 40)
 have HB2 := Hd (hal.blk HB1.out (fun h => h))
 have hxl := HB1.out.lt
 have HK2 := Hd (HK1.out.trans hal (fun _ _ h => h))
 clear hal HB1 HK1
 generalize w1.alloc (.cells #[.int .u64 (nid : Int), .int .u64 (wd : Int), .int .i64 (s.lv : Int), .slice A s.xs.length c, .string s.hi, .bool s.la, .int .u64 (s.rt : Int)] 40) = W at *
 generalize w1.heap.size = r1 at *
 refine qregion (fun w' => Kept (fun _ => False) W w') (by kernel_rfl) (by kernel_rfl) (Kept.refl _ _).drew ?_
 refine tkQ 8 ?_ (fun wq hSw => ?_) ?_
 rotate_left
 ·(go_simp; try with_reducible rfl)
 try simp only [aP,aA,aZ,aS]
 refine tkQ 9 ?_ (fun wq hSw => ?_) ?_
 rotate_left
 ·(go_simp; try with_reducible rfl)
 try simp only [aP,aA,aZ,aS]
 refine tkQ 10 ?_ (fun wq hSw => ?_) ?_
 rotate_left
 ·(go_simp; try with_reducible rfl)
 try simp only [aP,aA,aZ,aS]
 refine tkQ 11 ?_ (fun wq hSw => ?_) ?_
 rotate_left
 ·(have hb9 := hSw.blk HB2.out (fun h => h); have x10 := hb9.k 10 rfl; have hh9 := hSw.blk HHB.out (fun h => h); have y4 := hh9.k 4 rfl; have y5 := hh9.k 5 rfl; clear hb9 hh9; go_simp; try with_reducible rfl)
 try simp only [aP,aA,aZ,aS]
 refine tkQ 12 ?_ (fun wq hSw => ?_) ?_
 rotate_left
 ·(go_simp; try with_reducible rfl)
 try simp only [aP,aA,aZ,aS]
 refine tkQ 13 ?_ (fun wq hSw => ?_) ?_
 rotate_left
 ·(go_simp; try with_reducible rfl)
 try simp only [aP,aA,aZ,aS]
 refine tkQ 14 ?_ (fun wq hSw => ?_) ?_
 rotate_left
 ·(have hb9 := hSw.blk HB2.out (fun h => h); have x10 := hb9.k 10 rfl; have hh9 := hSw.blk HHB.out (fun h => h); have y4 := hh9.k 4 rfl; have y5 := hh9.k 5 rfl; clear hb9 hh9; go_simp; try with_reducible rfl)
 try simp only [aP,aA,aZ,aS]
 refine tkQ 15 ?_ (fun wq hSw => ?_) ?_
 rotate_left
 ·(go_simp; try with_reducible rfl)
 try simp only [aP,aA,aZ,aS]
 refine tkQ 16 ?_ (fun wq hSw => ?_) ?_
 rotate_left
 ·(go_simp; try with_reducible rfl)
 try simp only [aP,aA,aZ,aS]
 refine tkQ 17 ?_ (fun wq hSw => ?_) ?_
 rotate_left
 ·(have hb9 := hSw.blk HB2.out (fun h => h); have x10 := hb9.k 10 rfl; have hh9 := hSw.blk HHB.out (fun h => h); have y4 := hh9.k 4 rfl; have y5 := hh9.k 5 rfl; clear hb9 hh9; go_simp; try with_reducible rfl)
 try simp only [aP,aA,aZ,aS]
 refine qcall (o := ⟨some 18, _, _, _, _, _⟩) (v := .bool false) (by rfl) (fun wq hSw => ?_) (fun wq hSw => Calls.mono (within_of key s.hi s.la false _ hcov) ?_) ?_
 ·(go_simp; try with_reducible rfl)
 ·rintro e w9 ⟨rfl, rfl⟩; exact ⟨rfl, hSw⟩
 try simp only [aP,aA,aZ,aS]
 refine wpQuiet_nil ?_
 intro wz hHeld
 have HB3 := Hd (hHeld.blk HB2.out (fun h => h))
 have HH3 := Hd (hHeld.blk HHB.out (fun h => h))
 have HK3 := Hd ((HK2.out.trans hHeld (fun _ _ h => h)).mono (T := fun i => i = x) (fun _ h => h.elim))
 clear hHeld HB2 HHB HK2
 have HRX := Hd (show r1 ≠ x by omega)
 go_upto_region 3 with fail
 refine wp_region_held_drew (S := (fun w' => (∃ (ph9 : Int) (rp9 : Value), Blk w' x 95 (lkv F fb fd key ph9 fp nid ap (.pointer (some ⟨q, 0, none⟩)) rp9)) ∧ Blk w' r1 40 [.int .u64 (nid : Int), .int .u64 (wd : Int), .int .i64 (s.lv : Int), .slice A s.xs.length c, .string s.hi, .bool s.la, .int .u64 (s.rt : Int)])) (by kernel_rfl) ?_ (fun hHeld => ?_)
 ·exact ⟨⟨_, _, HB3.out.of (w' := wz.drew) rfl⟩, HH3.out.of (w' := wz.drew) rfl⟩
 have HBc := Hd (HB3.out.of (w' := wz.drew) rfl)
 have HHc := Hd (HH3.out.of (w' := wz.drew) rfl)
 have HKc := Hd (HK3.out.drew)
 generalize wz.drew = G at *
 refine tkH 0 22 ?_ rfl ?_ hHeld ?_
 rotate_left
 ·(intro wq hSw; go_simp; try with_reducible rfl)
 try simp only [aP,aA,aZ,aS]
 refine tkH 1 23 ?_ rfl ?_ hHeld ?_
 rotate_left
 ·(intro wq hSw; go_simp; try with_reducible rfl)
 try simp only [aP,aA,aZ,aS]
 refine tkH 2 24 ?_ rfl ?_ hHeld ?_
 rotate_left
 ·(intro wq hSw; go_simp; try with_reducible rfl)
 try simp only [aP,aA,aZ,aS]
 refine tkH 3 25 ?_ rfl ?_ hHeld ?_
 rotate_left
 ·(intro wq hSw; go_simp; try with_reducible rfl)
 try simp only [aP,aA,aZ,aS]
 refine tkH 4 26 ?_ rfl ?_ hHeld ?_
 rotate_left
 ·(intro wq hSw; go_simp; try with_reducible rfl)
 try simp only [aP,aA,aZ,aS]
 refine tkH 5 27 ?_ rfl ?_ hHeld ?_
 rotate_left
 ·(intro wq hSw; obtain ⟨⟨ph9, rp9, hb9⟩, hh9⟩ := hSw; obtain ⟨x0, x1, x2, x3, x4, x5, x6, x7, x8, x9⟩ := hb9.c10; have y0 := hh9.k 0 rfl; have y1 := hh9.k 1 rfl; clear hb9 hh9; go_simp; try with_reducible rfl)
 try simp only [aP,aA,aZ,aS]
 refine tkH 6 28 ?_ rfl ?_ hHeld ?_
 rotate_left
 ·(intro wq hSw; go_simp; try with_reducible rfl)
 try simp only [aP,aA,aZ,aS]
 refine tkH 7 29 ?_ rfl ?_ hHeld ?_
 rotate_left
 ·(intro wq hSw; obtain ⟨⟨ph9, rp9, hb9⟩, hh9⟩ := hSw; obtain ⟨x0, x1, x2, x3, x4, x5, x6, x7, x8, x9⟩ := hb9.c10; have y0 := hh9.k 0 rfl; have y1 := hh9.k 1 rfl; clear hb9 hh9; go_simp; try with_reducible rfl)
 try simp only [aP,aA,aZ,aS]
 refine tkH 9 31 ?_ rfl ?_ hHeld ?_
 rotate_left
 ·(intro wq hSw; go_simp; try with_reducible rfl)
 try simp only [aP,aA,aZ,aS]
 refine tkH 10 32 ?_ rfl ?_ hHeld ?_
 rotate_left
 ·(intro wq hSw; obtain ⟨⟨ph9, rp9, hb9⟩, hh9⟩ := hSw; obtain ⟨x0, x1, x2, x3, x4, x5, x6, x7, x8, x9⟩ := hb9.c10; have y0 := hh9.k 0 rfl; have y1 := hh9.k 1 rfl; clear hb9 hh9; go_simp; try with_reducible rfl)
 try simp only [aP,aA,aZ,aS]
 refine wpAnyH_ready (rs := [8]) (by kernel_rfl) (by simp) ?_
 refine AllReadyH.cons (o := ⟨some 30, _, _, _, _, _⟩) rfl (fun KK hK => ?_) AllReadyH.nil
 go_simp
 go_at_call 98
 refine (latch_to 1 2 100 100 200 F 1000 10 fb fd (limF h4 h6) hd (nid : Int) (nla F nid) rfl _).mono ?_; rintro e w4 ⟨rfl, hK4⟩
 replace HBc := Hd (hK4.blk HBc.out (fun h => h))
 replace HHc := Hd (hK4.blk HHc.out (fun h => h))
 replace HKc := Hd (HKc.out.trans hK4 (fun _ _ h => h.elim))
 clear hK4
 refine hK.out _ _ ?_ (fun hHeld2 => ?_)
 ·exact ⟨⟨_, _, HBc.out⟩, HHc.out⟩
 clear hK KK hHeld
 have hHeld := hHeld2
 clear hHeld2
 try simp only [aP,aA,aZ,aS]
 refine wpAnyH_ready (rs := [11]) (by kernel_rfl) (by simp) ?_
 refine AllReadyH.cons (o := ⟨some 33, _, _, _, _, _⟩) rfl (fun KK hK => ?_) AllReadyH.nil
 go_simp
 go_at_call 15
 refine (newRelease_any (nla F nid) wd _).mono ?_; rintro e w5 ⟨rfl, hw5⟩
 have hal := (Kept.refl (fun _ => False) w4).alloc (.cells ⟨relv (nla F nid) wd false⟩ 98)
 have hNB : RelB (w4.alloc (.cells ⟨relv (nla F nid) wd false⟩ 98)) w4.heap.size (nla F nid) wd false := Blk.new w4 (relv (nla F nid) wd false) 98
 rw [hw5] at hal hNB
 have HQ2 := Hd HKc.out.size
 have HXQ := Hd (show x ≠ w4.heap.size by have := HBc.out.lt; omega)
 have HHQ := Hd (show r1 ≠ x from by have := HRX.out; exact this)
 generalize w4.heap.size = q2 at *
 replace HBc := Hd (hal.blk HBc.out (fun h => h))
 replace HHc := Hd (hal.blk HHc.out (fun h => h))
 replace HKc := Hd (HKc.out.trans hal (fun _ _ h => h.elim))
 have HN := Hd hNB
 clear hal hNB hw5
 have hb2 := HBc.out
 have y16 := hb2.k 16 rfl
 have z16 := hb2.frozen 16
 clear hb2
 refine hK.out _ _ ?_ (fun hHeld2 => ?_)
 ·exact ⟨⟨_, _, HBc.out⟩, HHc.out⟩
 clear hK KK hHeld
 have hHeld := hHeld2
 clear hHeld2
 try simp only [aP,aA,aZ,aS]
 refine tkH 12 34 ?_ rfl ?_ hHeld ?_
 rotate_left
 ·(intro wq hSw; go_simp; try with_reducible rfl)
 try simp only [aP,aA,aZ,aS]
 refine tkH 13 35 ?_ rfl ?_ hHeld ?_
 rotate_left
 ·(intro wq hSw; go_simp; try with_reducible rfl)
 try simp only [aP,aA,aZ,aS]
 refine wpAnyH_ready (rs := [14]) (by kernel_rfl) (by simp) ?_
 refine AllReadyH.cons (o := ⟨none, _, _, _, _, _⟩) rfl (fun KK hK => ?_) AllReadyH.nil
 go_simp
 replace HBc := Hd (HBc.out.set 16 (.pointer (some ⟨q2, 0, none⟩)))
 have hK4 := (Kept.refl (fun i => i = x) w5).setCell (a := ⟨x, 16, none⟩) (fun _ => rfl) (.pointer (some ⟨q2, 0, none⟩))
 replace HKc := Hd (HKc.out.trans hK4 (fun _ _ h => h))
 replace HN := Hd (hK4.blk HN.out (fun e => HXQ.out e.symm))
 replace HHc := Hd (hK4.blk HHc.out HHQ.out)
 clear hK4 y16 z16
 generalize w5.setCell ⟨x, 16, none⟩ (.pointer (some ⟨q2, 0, none⟩)) = w6 at *
 have hb2 := HBc.out
 have y11 := hb2.k 11 rfl
 have z11 := hb2.frozen 11
 clear hb2
 refine hK.out _ _ ?_ (fun hHeld2 => ?_)
 ·exact ⟨⟨_, _, HBc.out⟩, HHc.out⟩
 clear hK KK hHeld
 have hHeld := hHeld2
 clear hHeld2
 try simp only [aP,aA,aZ,aS]
 refine tkH 15 36 ?_ rfl ?_ hHeld ?_
 rotate_left
 ·(intro wq hSw; go_simp; try with_reducible rfl)
 try simp only [aP,aA,aZ,aS]
 refine tkH 16 37 ?_ rfl ?_ hHeld ?_
 rotate_left
 ·(intro wq hSw; go_simp; try with_reducible rfl)
 try simp only [aP,aA,aZ,aS]
 refine wpAnyH_ready (rs := [17]) (by kernel_rfl) (by simp) ?_
 refine AllReadyH.cons (o := ⟨none, _, _, _, _, _⟩) rfl (fun KK hK => ?_) AllReadyH.nil
 go_simp
 replace HBc := Hd (HBc.out.set 11 (.int .i64 3))
 have hK4 := (Kept.refl (fun i => i = x) w6).setCell (a := ⟨x, 11, none⟩) (fun _ => rfl) (.int .i64 3)
 replace HKc := Hd (HKc.out.trans hK4 (fun _ _ h => h))
 replace HN := Hd (hK4.blk HN.out (fun e => HXQ.out e.symm))
 replace HHc := Hd (hK4.blk HHc.out HHQ.out)
 clear hK4 y11 z11
 generalize w6.setCell ⟨x, 11, none⟩ (.int .i64 3) = w7 at *
 refine hK.out _ _ ?_ (fun hHeld2 => ?_)
 ·exact ⟨⟨_, _, HBc.out⟩, HHc.out⟩
 clear hK KK hHeld
 have hHeld := hHeld2
 clear hHeld2
 try simp only [aP,aA,aZ,aS]
 refine wpAnyH_done (by kernel_rfl) ?_ _
 clear hHeld
 go_wp2
 go_end0
 exact ⟨q2, rfl, HBc.out, HN.out, HQ2.out, HKc.out⟩

theorem lk_own_no (F : Nat) (h4 : 4 ≤ F) (h6 : F ≤ 6) (fb fd : Int) (hd : Reach3 10 fb fd) (key : ByteArray) (x : Nat) (q b nid : Nat) (fp ap rp : Value) (s : Cs) (wd : Nat) (h40 : s.xs.length ≤ 1099511627776) (hcov : (s.la || ltB key.toList s.hi.toList) = false) (w : World) (h : Blk w x 95 (lkv F fb fd key 2 (fp) nid (ap) (.pointer (some ⟨q, 0, none⟩)) (rp))) (Q : World → Prop) (hS : Calls Tryz.prog 51 #[.pointer (some ⟨q, 0, none⟩), .pointer (some ⟨b, 0, none⟩)] w fun e w' => e = .returned (.bool true) ∧ Q w') (hQ : ∀ w', Q w' → Blk w' x 95 (lkv F fb fd key 2 (fp) nid (ap) (.pointer (some ⟨q, 0, none⟩)) (rp)) ∧ ∃ Z, Con Z w' 1 2 100 100 200 F 1000 10 fb fd q 145 nid s [.int .u64 (wd : Int), .bool true]) :
  Calls Tryz.prog 12 #[.pointer (some ⟨x, 0, none⟩), .pointer (some ⟨b, 0, none⟩)] w fun e w' => e = .returned (.bool false) ∧ ∃ w1 q2, Q w1 ∧ Blk w' x 95 (lkv F fb fd key 3 (fp) nid (ap) (.pointer (some ⟨q, 0, none⟩)) (.pointer (some ⟨q2, 0, none⟩))) ∧ RelB w' q2 (nla F nid) wd false ∧ w1.heap.size ≤ q2 ∧ Kept (fun i => i = x) w1 w' := by
 have x11 := h.k 11 rfl
 have x15 := h.k 15 rfl
 have HS := Hd hS
 have HQ := Hd hQ
 clear h hS hQ
 go_enter Tryz.func12, Tryz.ntmps12
 go_wp2_with fail
 refine HS.out.mono ?_; rintro e w1 ⟨rfl, hq1⟩
 obtain ⟨hB1, Z, hC1⟩ := HQ.out w1 hq1
 have HB1 := Hd hB1
 have HC1 := Hd hC1
 have HQ1 := Hd hq1
 clear hq1 x11 x15 HQ hB1 hC1
 go_wp2_with fail
 refine (lcheck_no Z F h4 h6 fb fd hd key x 2 fp nid q ap rp s wd w1 HB1.out HC1.out h40 hcov).mono ?_; rintro e w2 ⟨q2, rfl, hB2, hR2, hq2, hK2⟩
 have y11 := hB2.k 11 rfl
 have HB2 := Hd hB2
 have HR2 := Hd hR2
 have HQ2 := Hd hq2
 have HK2 := Hd hK2
 clear hB2 hR2 hq2 hK2 HB1 HC1
 go_wp2
 go_ret
 exact ⟨rfl, w1, q2, HQ1.out, HB2.out, HR2.out, HQ2.out, HK2.out⟩

theorem hfieldP (i wd lv : Int) (A : Option Addr) (n c : Nat) (hi : ByteArray) (la : Bool) (rt : Int) (w : World) : (Instr.field 40 (.agg #[.int .u64 i, .int .u64 wd, .int .i64 lv, .slice A n c, .string hi, .bool la, .int .u64 rt]) 2).run Tryz.prog w = .ok (.agg #[.int .i64 lv, .slice A n c, .string hi, .bool la, .int .u64 rt]) w := by kernel_rfl
theorem pfieldR (lv : Int) (A : Option Addr) (n c : Nat) (hi : ByteArray) (la : Bool) (rt : Int) (w : World) : (Instr.field 38 (.agg #[.int .i64 lv, .slice A n c, .string hi, .bool la, .int .u64 rt]) 4).run Tryz.prog w = .ok (.int .u64 rt) w := by kernel_rfl
theorem lk_rel_yes (F : Nat) (h4 : 4 ≤ F) (h6 : F ≤ 6) (fb fd : Int) (hd : Reach3 10 fb fd) (key : ByteArray) (x : Nat) (q r b nid : Nat) (fp ap : Value) (s : Cs) (wd : Nat) (h40 : s.xs.length ≤ 1099511627776) (hr1 : 1 ≤ s.rt) (hr2 : s.rt ≤ 100) (w : World) (h : Blk w x 95 (lkv F fb fd key 3 (fp) nid (ap) (.pointer (some ⟨q, 0, none⟩)) (.pointer (some ⟨r, 0, none⟩)))) (Q : World → Prop) (hS : Calls Tryz.prog 17 #[.pointer (some ⟨r, 0, none⟩), .pointer (some ⟨b, 0, none⟩)] w fun e w' => e = .returned (.bool true) ∧ Q w') (hQ : ∀ w', Q w' → Blk w' x 95 (lkv F fb fd key 3 (fp) nid (ap) (.pointer (some ⟨q, 0, none⟩)) (.pointer (some ⟨r, 0, none⟩))) ∧ ∃ Z, Con Z w' 1 2 100 100 200 F 1000 10 fb fd q 145 nid s [.int .u64 (wd : Int), .bool true]) :
  Calls Tryz.prog 12 #[.pointer (some ⟨x, 0, none⟩), .pointer (some ⟨b, 0, none⟩)] w fun e w' => e = .returned (.bool false) ∧ ∃ w1 q2, Q w1 ∧ Blk w' x 95 (lkv F fb fd key 1 (fp) s.rt (.pointer (some ⟨q2, 0, none⟩)) (.pointer (some ⟨q, 0, none⟩)) (.pointer (some ⟨r, 0, none⟩))) ∧ AcqB w' q2 (nla F s.rt) 0 ⟨#[]⟩ 0 false false ∧ w1.heap.size ≤ q2 ∧ Kept (fun i => i = x) w1 w' := by
 have x11 := h.k 11 rfl
 have x16 := h.k 16 rfl
 have HS := Hd hS
 have HQ := Hd hQ
 clear h hS hQ
 have p1 := hfieldP (nid : Int) (wd : Int) (s.lv : Int)
 have p2 := pfieldR (s.lv : Int)
 go_enter Tryz.func12, Tryz.ntmps12
 go_wp2_with fail
 refine HS.out.mono ?_; rintro e w1 ⟨rfl, hq1⟩
 obtain ⟨hB1, Z, hC1⟩ := HQ.out w1 hq1
 have HB1 := Hd hB1
 have HC1 := Hd hC1
 have HQ1 := Hd hq1
 clear hq1 x11 x16 HQ hB1 hC1
 have x15 := HB1.out.k 15 rfl
 go_wp2_with fail
 refine (oheld_any Z 1 2 100 100 200 F 1000 10 fb fd q nid s wd _ HC1.out h40).mono ?_; rintro e w2 ⟨A, c, rfl, -, -, hK2⟩
 have HB2 := Hd (hK2.blk HB1.out (fun h => h))
 have HK2 := Hd (hK2.mono (T := fun i => i = x) (fun _ h => h.elim))
 clear hK2 HB1 HC1 x15
 go_wp2_with fail
 refine (lgoTo_yes F h4 h6 fb fd hd key x 3 fp nid ap (.pointer (some ⟨q, 0, none⟩)) (.pointer (some ⟨r, 0, none⟩)) _ HB2.out s.rt hr1 hr2).mono ?_; rintro e w4 ⟨q2, rfl, hB4, hA4, hq4, hK4⟩
 have HB4 := Hd hB4
 have HA4 := Hd hA4
 have HQ4 := Hd (Nat.le_trans HK2.out.size hq4)
 have HK4 := Hd (HK2.out.trans hK4 (fun _ _ h => h))
 clear hB4 hA4 hq4 hK4 HB2 HK2
 have y11 := HB4.out.k 11 rfl
 go_wp2
 go_ret
 exact ⟨rfl, w1, q2, HQ1.out, HB4.out, HA4.out, HQ4.out, HK4.out⟩

theorem lk_rel_no (F : Nat) (h4 : 4 ≤ F) (h6 : F ≤ 6) (fb fd : Int) (hd : Reach3 10 fb fd) (key : ByteArray) (x : Nat) (q r b nid : Nat) (fp ap : Value) (s : Cs) (wd : Nat) (h40 : s.xs.length ≤ 1099511627776) (hr0 : s.rt = 0 ∨ 100 < s.rt) (w : World) (h : Blk w x 95 (lkv F fb fd key 3 (fp) nid (ap) (.pointer (some ⟨q, 0, none⟩)) (.pointer (some ⟨r, 0, none⟩)))) (Q : World → Prop) (hS : Calls Tryz.prog 17 #[.pointer (some ⟨r, 0, none⟩), .pointer (some ⟨b, 0, none⟩)] w fun e w' => e = .returned (.bool true) ∧ Q w') (hQ : ∀ w', Q w' → Blk w' x 95 (lkv F fb fd key 3 (fp) nid (ap) (.pointer (some ⟨q, 0, none⟩)) (.pointer (some ⟨r, 0, none⟩))) ∧ ∃ Z, Con Z w' 1 2 100 100 200 F 1000 10 fb fd q 145 nid s [.int .u64 (wd : Int), .bool true]) :
  Calls Tryz.prog 12 #[.pointer (some ⟨x, 0, none⟩), .pointer (some ⟨b, 0, none⟩)] w fun e w' => e = .returned (.bool true) ∧ ∃ w1, Q w1 ∧ Blk w' x 95 (lkv F fb fd key 5 (fp) nid (ap) (.pointer (some ⟨q, 0, none⟩)) (.pointer (some ⟨r, 0, none⟩))) ∧ Kept (fun i => i = x) w1 w' := by
 have x11 := h.k 11 rfl
 have x16 := h.k 16 rfl
 have HS := Hd hS
 have HQ := Hd hQ
 clear h hS hQ
 have p1 := hfieldP (nid : Int) (wd : Int) (s.lv : Int)
 have p2 := pfieldR (s.lv : Int)
 go_enter Tryz.func12, Tryz.ntmps12
 go_wp2_with fail
 refine HS.out.mono ?_; rintro e w1 ⟨rfl, hq1⟩
 obtain ⟨hB1, Z, hC1⟩ := HQ.out w1 hq1
 have HB1 := Hd hB1
 have HC1 := Hd hC1
 have HQ1 := Hd hq1
 clear hq1 x11 x16 HQ hB1 hC1
 have x15 := HB1.out.k 15 rfl
 go_wp2_with fail
 refine (oheld_any Z 1 2 100 100 200 F 1000 10 fb fd q nid s wd _ HC1.out h40).mono ?_; rintro e w2 ⟨A, c, rfl, -, -, hK2⟩
 have HB2 := Hd (hK2.blk HB1.out (fun h => h))
 have HK2 := Hd (hK2.mono (T := fun i => i = x) (fun _ h => h.elim))
 clear hK2 HB1 HC1 x15
 go_wp2_with fail
 refine (lgoTo_no F h4 h6 fb fd hd key x 3 fp nid ap (.pointer (some ⟨q, 0, none⟩)) (.pointer (some ⟨r, 0, none⟩)) _ HB2.out s.rt hr0).mono ?_; rintro e w4 ⟨rfl, hB4, hK4⟩
 have HB4 := Hd hB4
 have HK4 := Hd (HK2.out.trans hK4 (fun _ _ h => h))
 clear hB4 hK4 HB2 HK2
 have y11 := HB4.out.k 11 rfl
 go_wp2
 go_ret
 exact ⟨rfl, w1, HQ1.out, HB4.out, HK4.out⟩

theorem lk_done_4 (F : Nat) (fb fd : Int) (key : ByteArray) (x b nid : Nat) (fp ap op rp : Value) (w : World) (h : Blk w x 95 (lkv F fb fd key 4 (fp) nid (ap) (op) (rp))) :
  Calls Tryz.prog 12 #[.pointer (some ⟨x, 0, none⟩), .pointer (some ⟨b, 0, none⟩)] w fun e w' => e = .returned (.bool true) ∧ w = w' := by
 have x11 := h.k 11 rfl
 clear h
 go_enter Tryz.func12, Tryz.ntmps12
 go_wp2
 go_ret
 exact ⟨rfl, rfl⟩

theorem lk_done_5 (F : Nat) (fb fd : Int) (key : ByteArray) (x b nid : Nat) (fp ap op rp : Value) (w : World) (h : Blk w x 95 (lkv F fb fd key 5 (fp) nid (ap) (op) (rp))) :
  Calls Tryz.prog 12 #[.pointer (some ⟨x, 0, none⟩), .pointer (some ⟨b, 0, none⟩)] w fun e w' => e = .returned (.bool true) ∧ w = w' := by
 have x11 := h.k 11 rfl
 clear h
 go_enter Tryz.func12, Tryz.ntmps12
 go_wp2
 go_ret
 exact ⟨rfl, rfl⟩

theorem lheld_yes (Z : Nat → Prop) (F : Nat) (fb fd : Int) (key : ByteArray) (x q nid : Nat) (fp ap rp : Value) (s : Cs) (wd : Nat) (h40 : s.xs.length ≤ 1099511627776) (w : World) (h : Blk w x 95 (lkv F fb fd key 4 (fp) nid (ap) (.pointer (some ⟨q, 0, none⟩)) (rp))) (hC : Con Z w 1 2 100 100 200 F 1000 10 fb fd q 145 nid s [.int .u64 (wd : Int), .bool true]) :
  Calls Tryz.prog 13 #[.pointer (some ⟨x, 0, none⟩)] w fun e w' => ∃ A c, e = .returned (.agg #[.int .u64 (nid : Int), .int .u64 (wd : Int), .int .i64 (s.lv : Int), .slice A s.xs.length c, .string s.hi, .bool s.la, .int .u64 (s.rt : Int)]) ∧ Rs w' A c s.xs ∧ (∀ a, A = some a → w.heap.size ≤ a.block) ∧ Kept (fun _ => False) w w' := by
 have y11 := (h.alloc (.cells #[.int .u64 0, .int .u64 0, .int .i64 0, .slice none 0 0, .string ⟨#[]⟩, .bool false, .int .u64 0] 40)).k 11 rfl
 have y15 := (h.alloc (.cells #[.int .u64 0, .int .u64 0, .int .i64 0, .slice none 0 0, .string ⟨#[]⟩, .bool false, .int .u64 0] 40)).k 15 rfl
 have HB := Hd h
 have HC := Hd hC
 clear h hC
 go_enter Tryz.func13, Tryz.ntmps13
 go_wp2_with fail
 have hal := (Kept.refl (fun _ => False) w).alloc (.cells #[.int .u64 0, .int .u64 0, .int .i64 0, .slice none 0 0, .string ⟨#[]⟩, .bool false, .int .u64 0] 40)
 have HK1 := Hd hal
 have HNB := Hd (Blk.new w [.int .u64 0, .int .u64 0, .int .i64 0, .slice none 0 0, .string ⟨#[]⟩, .bool false, .int .u64 0] 40)
 replace HC := Hd (HC.out.kept hal (fun _ _ h => h))
 clear hal y11 y15
 have hsz : w.heap.size < (w.alloc (.cells #[.int .u64 0, .int .u64 0, .int .i64 0, .slice none 0 0, .string ⟨#[]⟩, .bool false, .int .u64 0] 40)).heap.size := by rw [nblk_alloc]; omega
 generalize hr0 : w.heap.size = r0 at *
 have HR0 := Hd hr0
 clear hr0
 generalize w.alloc (.cells #[.int .u64 0, .int .u64 0, .int .i64 0, .slice none 0 0, .string ⟨#[]⟩, .bool false, .int .u64 0] 40) = W at *
 refine (oheld_any Z 1 2 100 100 200 F 1000 10 fb fd q nid s wd _ HC.out h40).mono ?_; rintro e w2 ⟨A, c, rfl, hRs, hA, hK2⟩
 have hb2 := hK2.blk HNB.out (fun h => h)
 obtain ⟨x0, x1, x2, x3, x4, x5, x6⟩ := hb2.c7
 have z0 := hb2.frozen 0
 have z1 := hb2.frozen 1
 have z2 := hb2.frozen 2
 have z3 := hb2.frozen 3
 have z4 := hb2.frozen 4
 have z5 := hb2.frozen 5
 have z6 := hb2.frozen 6
 have hB5 := (((((((hb2).set 0 (.int .u64 (nid : Int))).set 1 (.int .u64 (wd : Int))).set 2 (.int .i64 (s.lv : Int))).set 3 (.slice A s.xs.length c)).set 4 (.string s.hi)).set 5 (.bool s.la)).set 6 (.int .u64 (s.rt : Int))
 have hK5 := (((((((Kept.refl (fun i => i = r0) w2).setCell (a := ⟨r0, 0, none⟩) (fun _ => rfl) (.int .u64 (nid : Int))).setCell (a := ⟨r0, 1, none⟩) (fun _ => rfl) (.int .u64 (wd : Int))).setCell (a := ⟨r0, 2, none⟩) (fun _ => rfl) (.int .i64 (s.lv : Int))).setCell (a := ⟨r0, 3, none⟩) (fun _ => rfl) (.slice A s.xs.length c)).setCell (a := ⟨r0, 4, none⟩) (fun _ => rfl) (.string s.hi)).setCell (a := ⟨r0, 5, none⟩) (fun _ => rfl) (.bool s.la)).setCell (a := ⟨r0, 6, none⟩) (fun _ => rfl) (.int .u64 (s.rt : Int))
 have HRs := Hd (hRs.keptF hK5 (fun a ha e => by have := hA a ha; omega))
 have HKK := Hd (((HK1.out.trans hK2 (fun _ _ h => h)).mono (T := fun i => i = r0) (fun _ h => h.elim)).trans hK5 (fun _ _ h => h))
 have HA := Hd hA
 have HB5 := Hd hB5
 clear hB5 hK5 hRs hA hK2 hb2 HNB HK1 HC
 go_wp2
 have hq := HB5.out
 obtain ⟨q0, q1, q2, q3, q4, q5, q6⟩ := hq.c7
 refine bodyPost_ret (v := .agg #[.int .u64 (nid : Int), .int .u64 (wd : Int), .int .i64 (s.lv : Int), .slice A s.xs.length c, .string s.hi, .bool s.la, .int .u64 (s.rt : Int)]) ?_ rfl ?_
 ·simp [results, Tryz.results13, go_sem, q0, q1, q2, q3, q4, q5, q6]
 refine ⟨A, c, rfl, HRs.out, fun a ha => by have := HA.out a ha; have := HR0.out; omega, ?_⟩
 exact ⟨HKK.out.os, HKK.out.tape, HKK.out.output, HKK.out.size, fun i hi _ => HKK.out.block i hi (fun e => by have := HR0.out; omega)⟩

end Go.Proofs.YtjnodgebpklaoaaGreat
