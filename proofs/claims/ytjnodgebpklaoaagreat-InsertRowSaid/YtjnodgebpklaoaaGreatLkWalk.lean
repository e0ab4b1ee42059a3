/-
 The walk from node to node of package descent. Condition: the kit's small configurations; fewer than 2^63 accesses.
-/
import Derived.Test.YtjnodgebpklaoaaGreatLkRead
import Derived.Test.YtjnodgebpklaoaaGreatLkPag
import Derived.Test.YtjnodgebpklaoaaGreatLkKeys
import Derived.Test.YtjnodgebpklaoaaGreatLkPlain
namespace Go.Proofs.YtjnodgebpklaoaaGreat
set_option maxHeartbeats 8000000
set_option maxRecDepth 100000
section
open Go.RowKit Go.Deep Plain
set_option linter.unusedVariables false

def wkv (F : Nat) (fb fd : Int) (nid : Nat) (rp : Value) (ph : Int) (tl : List Value) : List Value :=
 .int .i64 1 :: .int .i64 2 :: .int .i64 100 :: .int .i64 100 :: .int .i64 200 :: .int .i64 (F : Int) :: .int .u64 1000 :: .int .i64 10 :: .int .i64 fb :: .int .i64 fd :: .int .u64 (nid : Int) :: rp :: .int .i64 ph :: tl
theorem fail_any (F : Nat) (fb fd : Int) (x : Nat) (ty : TypeId) (nid : Nat) (rp : Value) (ph : Int) (tl : List Value) (w : World) (h : Blk w x ty (wkv F fb fd nid (rp) ph tl)) :
  Calls Tryz.prog 121 #[.pointer (some ⟨x, 0, none⟩)] w fun e w' => e = .returned (.tuple #[]) ∧ Blk w' x ty (wkv F fb fd nid (rp) 3 tl) ∧ Kept (fun i => i = x) w w' := by
 have x12 := h.k 12 rfl
 have z12 := h.frozen 12
 have HB := Hd h
 clear h
 go_enter Tryz.func121, Tryz.ntmps121
 go_wp2
 go_end0
 exact ⟨rfl, HB.out.set 12 (.int .i64 3), (Kept.refl (fun i => i = x) w).setCell (a := ⟨x, 12, none⟩) (fun _ => rfl) _⟩

theorem arrive_any (F : Nat) (fb fd : Int) (x : Nat) (ty : TypeId) (nid : Nat) (rp : Value) (ph : Int) (tl : List Value) (w : World) (h : Blk w x ty (wkv F fb fd nid (rp) ph tl)) :
  Calls Tryz.prog 123 #[.pointer (some ⟨x, 0, none⟩)] w fun e w' => e = .returned (.tuple #[]) ∧ Blk w' x ty (wkv F fb fd nid (rp) 2 tl) ∧ Kept (fun i => i = x) w w' := by
 have x12 := h.k 12 rfl
 have z12 := h.frozen 12
 have HB := Hd h
 clear h
 go_enter Tryz.func123, Tryz.ntmps123
 go_wp2
 go_end0
 exact ⟨rfl, HB.out.set 12 (.int .i64 2), (Kept.refl (fun i => i = x) w).setCell (a := ⟨x, 12, none⟩) (fun _ => rfl) _⟩

theorem ended_1 (F : Nat) (fb fd : Int) (x : Nat) (ty : TypeId) (nid : Nat) (rp : Value) (tl : List Value) (w : World) (h : Blk w x ty (wkv F fb fd nid (rp) 1 tl)) :
  Calls Tryz.prog 73 #[.pointer (some ⟨x, 0, none⟩)] w fun e w' => e = .returned (.bool false) ∧ w = w' := by
 have x12 := h.k 12 rfl
 clear h
 go_enter Tryz.func73, Tryz.ntmps73
 go_wp2
 go_ret
 exact ⟨rfl, rfl⟩

theorem ended_2 (F : Nat) (fb fd : Int) (x : Nat) (ty : TypeId) (nid : Nat) (rp : Value) (tl : List Value) (w : World) (h : Blk w x ty (wkv F fb fd nid (rp) 2 tl)) :
  Calls Tryz.prog 73 #[.pointer (some ⟨x, 0, none⟩)] w fun e w' => e = .returned (.bool true) ∧ w = w' := by
 have x12 := h.k 12 rfl
 clear h
 go_enter Tryz.func73, Tryz.ntmps73
 go_wp2
 go_ret
 exact ⟨rfl, rfl⟩

theorem ended_3 (F : Nat) (fb fd : Int) (x : Nat) (ty : TypeId) (nid : Nat) (rp : Value) (tl : List Value) (w : World) (h : Blk w x ty (wkv F fb fd nid (rp) 3 tl)) :
  Calls Tryz.prog 73 #[.pointer (some ⟨x, 0, none⟩)] w fun e w' => e = .returned (.bool true) ∧ w = w' := by
 have x12 := h.k 12 rfl
 clear h
 go_enter Tryz.func73, Tryz.ntmps73
 go_wp2
 go_ret
 exact ⟨rfl, rfl⟩

theorem goTo_some (F : Nat) (h4 : 4 ≤ F) (h6 : F ≤ 6) (fb fd : Int) (hd : Reach3 10 fb fd) (x : Nat) (ty : TypeId) (nid : Nat) (rp : Value) (ph : Int) (tl : List Value) (w : World) (h : Blk w x ty (wkv F fb fd nid (rp) ph tl)) (n : Nat) (hn0 : n ≠ 0) :
  Calls Tryz.prog 118 #[.pointer (some ⟨x, 0, none⟩), .int .u64 (n : Int)] w fun e w' => ∃ q, e = .returned (.tuple #[]) ∧ Blk w' x ty (wkv F fb fd n (.pointer (some ⟨q, 0, none⟩)) 1 tl) ∧ Con (fun i => i = q) w' 1 2 100 100 200 F 1000 10 fb fd q 207 n cs0 [.int .u64 0, .int .i64 0] ∧ w.heap.size ≤ q ∧ Kept (fun i => i = x) w w' := by
 have p0 : ((n : Int) == 0) = false := by simp; omega
 obtain ⟨x0, x1, x2, x3, x4, x5, x6, x7, x8, x9⟩ := h.c10
 have HB := Hd h
 clear h
 go_enter Tryz.func118, Tryz.ntmps118
 go_wp2_with fail
 refine (newRead_any 1 2 100 100 200 F 1000 10 fb fd (limF h4 h6) hd n _).mono ?_; rintro e w1 ⟨q, rfl, hC1, hq1, hK1⟩
 have HB1 := Hd (hK1.blk HB.out (fun h => h))
 have hxl := HB.out.lt
 have hb1 := HB1.out
 have y10 := hb1.k 10 rfl
 have y11 := hb1.k 11 rfl
 have y12 := hb1.k 12 rfl
 have z10 := hb1.frozen 10
 have z11 := hb1.frozen 11
 have z12 := hb1.frozen 12
 have HT := Hd (((hb1.set 10 (.int .u64 (n : Int))).set 11 (.pointer (some ⟨q, 0, none⟩))).set 12 (.int .i64 1))
 have hK2 := (((Kept.refl (fun i => i = x) w1).setCell (a := ⟨x, 10, none⟩) (fun _ => rfl) (.int .u64 (n : Int))).setCell (a := ⟨x, 11, none⟩) (fun _ => rfl) (.pointer (some ⟨q, 0, none⟩))).setCell (a := ⟨x, 12, none⟩) (fun _ => rfl) (.int .i64 1)
 have HC2 := Hd (hC1.kept hK2 (fun i hi e => by omega))
 have HK2 := Hd ((hK1.mono (T := fun i => i = x) (fun _ h => h.elim)).trans hK2 (fun _ _ h => h))
 have HQ := Hd hq1
 clear hb1 hC1 hq1 hK1 hK2 hxl HB HB1 x0 x1 x2 x3 x4 x5 x6 x7 x8 x9
 go_wp2
 go_end0
 exact ⟨q, rfl, HT.out, HC2.out, HQ.out, HK2.out⟩

theorem wpage_any (Z : Nat → Prop) (F : Nat) (fb fd : Int) (x : Nat) (ty : TypeId) (nid q : Nat) (ph : Int) (tl : List Value) (w : World) (h : Blk w x ty (wkv F fb fd nid (.pointer (some ⟨q, 0, none⟩)) ph tl)) (y : Rst) (hr : Con Z w 1 2 100 100 200 F 1000 10 fb fd q 207 nid y.s (rtl y)) (hph : y.ph = 3) (h40 : y.s.xs.length ≤ 1099511627776) :
  Calls Tryz.prog 72 #[.pointer (some ⟨x, 0, none⟩)] w fun e w' => ∃ A c, e = .returned (.agg #[.int .i64 (y.s.lv : Int), .slice A y.s.xs.length c, .string y.s.hi, .bool y.s.la, .int .u64 (y.s.rt : Int)]) ∧ Rs w' A c y.s.xs ∧ (∀ a, A = some a → w.heap.size ≤ a.block) ∧ Kept (fun _ => False) w w' := by
 have x11 := h.k 11 rfl
 have HR := Hd hr
 have HX := Hd h
 have y11 := (h.alloc (.cells #[.int .i64 0, .slice none 0 0, .string ⟨#[]⟩, .bool false, .int .u64 0] 38)).k 11 rfl
 clear h hr x11
 go_enter Tryz.func72, Tryz.ntmps72
 go_wp2_with fail
 clear y11
 have hal := (Kept.refl (fun _ => False) w).alloc (.cells #[.int .i64 0, .slice none 0 0, .string ⟨#[]⟩, .bool false, .int .u64 0] 38)
 have HK1 := Hd hal
 have HNB := Hd (Blk.new w [.int .i64 0, .slice none 0 0, .string ⟨#[]⟩, .bool false, .int .u64 0] 38)
 have HR1 := Hd (HR.out.kept hal (fun _ _ h => h))
 replace HX := Hd (hal.blk HX.out (fun h => h))
 clear hal HR
 have hsz : w.heap.size < (w.alloc (.cells #[.int .i64 0, .slice none 0 0, .string ⟨#[]⟩, .bool false, .int .u64 0] 38)).heap.size := by rw [nblk_alloc]; omega
 generalize hr0 : w.heap.size = r0 at *
 have HR0 := Hd hr0
 clear hr0
 generalize w.alloc (.cells #[.int .i64 0, .slice none 0 0, .string ⟨#[]⟩, .bool false, .int .u64 0] 38) = W at *
 refine (rpage_any Z 1 2 100 100 200 F 1000 10 fb fd q nid y W HR1.out hph h40).mono ?_; rintro e w2 ⟨A, c, rfl, hRs, hA, hK2⟩
 have hb2 := hK2.blk HNB.out (fun h => h)
 have z0 := hb2.frozen 0
 have z1 := hb2.frozen 1
 have z2 := hb2.frozen 2
 have z3 := hb2.frozen 3
 have z4 := hb2.frozen 4
 obtain ⟨x0, x1, x2, x3, x4⟩ := hb2.c5
 have hB5 := (((((hb2.set 0 (.int .i64 (y.s.lv : Int))).set 1 (.slice A y.s.xs.length c)).set 2 (.string y.s.hi)).set 3 (.bool y.s.la)).set 4 (.int .u64 (y.s.rt : Int)))
 have hK5 := (((((Kept.refl (fun i => i = r0) w2).setCell (a := ⟨r0, 0, none⟩) (fun _ => rfl) (.int .i64 (y.s.lv : Int))).setCell (a := ⟨r0, 1, none⟩) (fun _ => rfl) (.slice A y.s.xs.length c)).setCell (a := ⟨r0, 2, none⟩) (fun _ => rfl) (.string y.s.hi)).setCell (a := ⟨r0, 3, none⟩) (fun _ => rfl) (.bool y.s.la)).setCell (a := ⟨r0, 4, none⟩) (fun _ => rfl) (.int .u64 (y.s.rt : Int))
 have HRs := Hd (hRs.keptF hK5 (fun a ha e => by have := hA a ha; omega))
 have HKK := Hd (((HK1.out.trans hK2 (fun _ _ h => h)).mono (T := fun i => i = r0) (fun _ h => h.elim)).trans hK5 (fun _ _ h => h))
 have HA := Hd hA
 have HB5 := Hd hB5
 clear hB5 hK5 hRs hA hK2 hb2 HNB HK1 HR1
 go_wp2
 obtain ⟨q0, q1, q2, q3, q4⟩ := HB5.out.c5
 refine bodyPost_ret (v := .agg #[.int .i64 (y.s.lv : Int), .slice A y.s.xs.length c, .string y.s.hi, .bool y.s.la, .int .u64 (y.s.rt : Int)]) ?_ rfl ?_
 ·simp [results, Tryz.results72, go_sem, q0, q1, q2, q3, q4]
 refine ⟨A, c, rfl, HRs.out, fun a ha => by have := HA.out a ha; have := HR0.out; omega, ?_⟩
 exact ⟨HKK.out.os, HKK.out.tape, HKK.out.output, HKK.out.size, fun i hi _ => HKK.out.block i hi (fun e => by have := HR0.out; omega)⟩

theorem wstep_root (F : Nat) (h4 : 4 ≤ F) (h6 : F ≤ 6) (fb fd : Int) (hd : Reach3 10 fb fd) (x : Nat) (ty : TypeId) (nid : Nat) (rp : Value) (tl : List Value) (w : World) (h : Blk w x ty (wkv F fb fd nid (rp) 0 tl)) (b g : Nat) (l : List Cel) (k : Nat) (hm : Mem w b g l k) (hk : k < 9223372036854775808) (hxb : x ≠ b) (hxg : x ≠ g) (n : Nat) (hn0 : n ≠ 0) (mM : Int) (kK : ByteArray) (hc : cellAt l 0 = ((n : Int), kK, mM)) :
  Calls Tryz.prog 70 #[.pointer (some ⟨x, 0, none⟩), .pointer (some ⟨b, 0, none⟩)] w fun e w' => ∃ q, e = .returned (.bool false) ∧ Mem w' b g l (k + 1) ∧ Blk w' x ty (wkv F fb fd n (.pointer (some ⟨q, 0, none⟩)) 1 tl) ∧ Con (fun i => i = q) w' 1 2 100 100 200 F 1000 10 fb fd q 207 n cs0 [.int .u64 0, .int .i64 0] ∧ w.heap.size ≤ q ∧ Kept (fun i => i = x ∨ i = b ∨ i = g) w w' := by
 obtain ⟨x0, x1, x2, x3, x4, x5, x6, x7, x8, x9⟩ := h.c10
 have x12 := h.k 12 rfl
 have HB := Hd h
 have HM := Hd hm
 have HC := Hd hc
 have hfd := field0 (n : Int) mM kK
 clear h hm hc
 go_enter Tryz.func70, Tryz.ntmps70
 go_wp2_with fail
 refine (root_any 1 2 100 100 200 (F : Int) 1000 10 fb fd _).mono ?_; rintro e w1 ⟨rfl, hK1⟩
 replace HB := Hd (hK1.blk HB.out (fun h => h))
 replace HM := Hd (HM.out.kept hK1 (fun h => h) (fun h => h))
 have HK1 := Hd hK1
 clear hK1
 go_wp2_with fail
 refine (load_any b g l k 0 (n : Int) mM kK _ HM.out hk HC.out).mono ?_; rintro e w2 ⟨rfl, hM2, hK2⟩
 have hB2 := hK2.blk HB.out (fun e => by rcases e with e | e <;> omega)
 have HM2 := Hd hM2
 have HK2 := Hd ((HK1.out.mono (T := Own b g) (fun _ h => h.elim)).trans hK2 (fun _ _ h => h))
 have HB2 := Hd hB2
 have hxl := HB.out.lt
 clear hM2 hK2 hB2 HM HC HK1 x0 x1 x2 x3 x4 x5 x6 x7 x8 x9 x12 HB
 go_wp2_with fail
 refine (goTo_some F h4 h6 fb fd hd x ty nid rp 0 tl _ HB2.out n hn0).mono ?_; rintro e w3 ⟨q, rfl, hB3, hC3, hq3, hK3⟩
 have HM3 := Hd (HM2.out.kept hK3 (fun e => hxb e.symm) (fun e => hxg e.symm))
 have HB3 := Hd hB3
 have HC3 := Hd hC3
 have HQ := Hd (Nat.le_trans HK2.out.size hq3)
 have HK3 := Hd ((HK2.out.mono (T := fun i => i = x ∨ i = b ∨ i = g) (fun i e => .inr e)).trans hK3 (fun _ _ h => .inl h))
 clear hB3 hC3 hq3 hK3 HM2 HK2 HB2
 go_wp2
 go_ret
 exact ⟨q, rfl, HM3.out, HB3.out, HC3.out, HQ.out, HK3.out⟩

theorem wstep_read (F : Nat) (fb fd : Int) (x : Nat) (ty : TypeId) (nid q b : Nat) (tl : List Value) (w : World) (h : Blk w x ty (wkv F fb fd nid (.pointer (some ⟨q, 0, none⟩)) 1 tl)) (r : Bool) (Q : World → Prop) (hS : Calls Tryz.prog 120 #[.pointer (some ⟨q, 0, none⟩), .pointer (some ⟨b, 0, none⟩)] w fun e w' => e = .returned (.bool r) ∧ Q w') :
  Calls Tryz.prog 70 #[.pointer (some ⟨x, 0, none⟩), .pointer (some ⟨b, 0, none⟩)] w fun e w' => e = .returned (.bool r) ∧ Q w' := by
 have x11 := h.k 11 rfl
 have x12 := h.k 12 rfl
 have HS := Hd hS
 clear h hS
 go_enter Tryz.func70, Tryz.ntmps70
 go_wp2_with fail
 refine HS.out.mono ?_; rintro e w1 ⟨rfl, hQ⟩
 have HQ := Hd hQ
 clear hQ
 go_wp2
 go_ret
 exact ⟨rfl, HQ.out⟩

end

section
open Go.RowKit Go.Deep Plain
set_option linter.unusedVariables false

theorem within_of (key hi : ByteArray) (la r : Bool) (w : World) (h : (la || ltB key.toList hi.toList) = r) :
  Calls Tryz.prog 105 #[.string key, .string ⟨#[]⟩, .string hi, .bool la] w fun e w' => e = .returned (.bool r) ∧ w = w' := by
 have := within_any key ⟨#[]⟩ hi la w
 have e0 : ltB key.toList (⟨#[]⟩ : ByteArray).toList = false := by rw [Lib.toList_data ⟨#[]⟩]; exact ltB_nil _
 rw [e0, h, Bool.not_false, Bool.true_and] at this
 exact this
theorem wnode_got (Z : Nat → Prop) (F : Nat) (fb fd : Int) (x : Nat) (ty : TypeId) (nid q : Nat) (tl : List Value) (w : World) (h : Blk w x ty (wkv F fb fd nid (.pointer (some ⟨q, 0, none⟩)) 2 tl)) (y : Rst) (hr : Con Z w 1 2 100 100 200 F 1000 10 fb fd q 207 nid y.s (rtl y)) (hph : y.ph = 3) (h40 : y.s.xs.length ≤ 1099511627776) :
  Calls Tryz.prog 74 #[.pointer (some ⟨x, 0, none⟩)] w fun e w' => ∃ A c, e = .returned (.tuple #[.int .u64 (nid : Int), .agg #[.int .i64 (y.s.lv : Int), .slice A y.s.xs.length c, .string y.s.hi, .bool y.s.la, .int .u64 (y.s.rt : Int)]]) ∧ Rs w' A c y.s.xs ∧ (∀ a, A = some a → w.heap.size ≤ a.block) ∧ Kept (fun _ => False) w w' := by
 have y10 := (h.alloc (.cells #[.int .i64 0, .slice none 0 0, .string ⟨#[]⟩, .bool false, .int .u64 0] 38)).k 10 rfl
 have y12 := (h.alloc (.cells #[.int .i64 0, .slice none 0 0, .string ⟨#[]⟩, .bool false, .int .u64 0] 38)).k 12 rfl
 have hx0 : x < w.heap.size := h.lt
 have HX := Hd h
 have HR := Hd hr
 clear h hr
 go_enter Tryz.func74, Tryz.ntmps74
 go_wp2_with fail
 clear y10 y12
 have hal := (Kept.refl (fun _ => False) w).alloc (.cells #[.int .i64 0, .slice none 0 0, .string ⟨#[]⟩, .bool false, .int .u64 0] 38)
 have HK1 := Hd hal
 have HNB := Hd (Blk.new w [.int .i64 0, .slice none 0 0, .string ⟨#[]⟩, .bool false, .int .u64 0] 38)
 replace HX := Hd (hal.blk HX.out (fun h => h))
 replace HR := Hd (HR.out.kept hal (fun _ _ h => h))
 clear hal
 have hxl := HX.out.lt
 have hsz : w.heap.size < (w.alloc (.cells #[.int .i64 0, .slice none 0 0, .string ⟨#[]⟩, .bool false, .int .u64 0] 38)).heap.size := by rw [nblk_alloc]; omega
 have hxw : x < w.heap.size := hx0
 clear hx0
 generalize hr0 : w.heap.size = r0 at *
 have HR0 := Hd hr0
 clear hr0
 have HNE := Hd (show x ≠ r0 by omega)
 clear hxl hxw
 generalize w.alloc (.cells #[.int .i64 0, .slice none 0 0, .string ⟨#[]⟩, .bool false, .int .u64 0] 38) = W at *
 have HXc := Hd (HX.out.of (w' := W.drew) rfl)
 have HKc := Hd ((Kept.refl (fun i => i = r0) W).drew)
 have HNc := Hd (HNB.out.of (w' := W.drew) rfl)
 have HRc := Hd (HR.out.kept (Kept.refl (fun _ => False) W).drew (fun _ _ h => h))
 have HW0 := Hd (show r0 < W.drew.heap.size from hsz)
 clear HX HR HNB hsz
 refine wp_region_held_drew (S := (fun w' => w'.cell? ⟨x, 10, none⟩ = some (.int .u64 (nid : Int)))) (by kernel_rfl) ?_ (fun hHeld => ?_)
 ·exact HXc.out.k 10 rfl
 generalize W.drew = G at *
 refine tkH 0 10 ?_ rfl ?_ hHeld ?_
 rotate_left
 ·(intro wq hSw; go_simp; try with_reducible rfl)
 try simp only [aP,aA,aZ,aS]
 refine tkH 1 11 ?_ rfl ?_ hHeld ?_
 rotate_left
 ·(intro wq hSw; go_simp; try with_reducible rfl)
 try simp only [aP,aA,aZ,aS]
 refine tkH 2 12 ?_ rfl ?_ hHeld ?_
 rotate_left
 ·(intro wq hSw; go_simp; try with_reducible rfl)
 try simp only [aP,aA,aZ,aS]
 refine tkH 3 13 ?_ rfl ?_ hHeld ?_
 rotate_left
 ·(intro wq hSw; have x10 := hSw; go_simp; try with_reducible rfl)
 try simp only [aP,aA,aZ,aS]
 refine tkH 4 14 ?_ rfl ?_ hHeld ?_
 rotate_left
 ·(intro wq hSw; go_simp; try with_reducible rfl)
 try simp only [aP,aA,aZ,aS]
 refine wpAnyH_ready (rs := [5]) (by kernel_rfl) (by simp) ?_
 refine AllReadyH.cons (o := ⟨some 15, _, _, _, _, _⟩) rfl (fun KK hK => ?_) AllReadyH.nil
 go_simp
 go_at_call 72
 refine (wpage_any Z F fb fd x ty nid q 2 tl _ HXc.out y HRc.out hph h40).mono ?_; rintro e w2 ⟨A, c, rfl, hRs, hA, hK2⟩
 replace HXc := Hd (hK2.blk HXc.out (fun h => h))
 replace HNc := Hd (hK2.blk HNc.out (fun h => h))
 replace HKc := Hd (HKc.out.trans hK2 (fun _ _ h => h.elim))
 have HRs := Hd hRs
 have HA := Hd hA
 have hb2 := HNc.out
 obtain ⟨x0, x1, x2, x3, x4⟩ := hb2.c5
 have z0 := hb2.frozen 0
 have z1 := hb2.frozen 1
 have z2 := hb2.frozen 2
 have z3 := hb2.frozen 3
 have z4 := hb2.frozen 4
 clear hRs hA hK2 hb2
 refine hK.out _ _ ?_ (fun hHeld2 => ?_)
 ·exact HXc.out.k 10 rfl
 clear hK KK hHeld
 have hHeld := hHeld2
 clear hHeld2
 try simp only [aP,aA,aZ,aS]
 refine tkH 6 2 ?_ rfl ?_ hHeld ?_
 rotate_left
 ·(intro wq hSw; go_simp; try with_reducible rfl)
 try simp only [aP,aA,aZ,aS]
 refine wpAnyH_ready (rs := [7]) (by kernel_rfl) (by simp) ?_
 refine AllReadyH.cons (o := ⟨none, _, _, _, _, _⟩) rfl (fun KK hK => ?_) AllReadyH.nil
 go_simp
 replace HKc := Hd ((((((HKc.out).setCell (a := ⟨r0, 0, none⟩) (fun _ => rfl) (.int .i64 (y.s.lv : Int))).setCell (a := ⟨r0, 1, none⟩) (fun _ => rfl) (.slice A y.s.xs.length c)).setCell (a := ⟨r0, 2, none⟩) (fun _ => rfl) (.string y.s.hi)).setCell (a := ⟨r0, 3, none⟩) (fun _ => rfl) (.bool y.s.la)).setCell (a := ⟨r0, 4, none⟩) (fun _ => rfl) (.int .u64 (y.s.rt : Int)))
 replace HXc := Hd ((((((HXc.out).other (a := ⟨r0, 0, none⟩) (by have := HNE.out; show x ≠ r0; omega) (.int .i64 (y.s.lv : Int))).other (a := ⟨r0, 1, none⟩) (by have := HNE.out; show x ≠ r0; omega) (.slice A y.s.xs.length c)).other (a := ⟨r0, 2, none⟩) (by have := HNE.out; show x ≠ r0; omega) (.string y.s.hi)).other (a := ⟨r0, 3, none⟩) (by have := HNE.out; show x ≠ r0; omega) (.bool y.s.la)).other (a := ⟨r0, 4, none⟩) (by have := HNE.out; show x ≠ r0; omega) (.int .u64 (y.s.rt : Int)))
 have hK5 := (((((Kept.refl (fun i => i = r0) w2).setCell (a := ⟨r0, 0, none⟩) (fun _ => rfl) (.int .i64 (y.s.lv : Int))).setCell (a := ⟨r0, 1, none⟩) (fun _ => rfl) (.slice A y.s.xs.length c)).setCell (a := ⟨r0, 2, none⟩) (fun _ => rfl) (.string y.s.hi)).setCell (a := ⟨r0, 3, none⟩) (fun _ => rfl) (.bool y.s.la)).setCell (a := ⟨r0, 4, none⟩) (fun _ => rfl) (.int .u64 (y.s.rt : Int))
 replace HRs := Hd (HRs.out.keptF hK5 (fun a ha e => by have := HA.out a ha; have := HNE.out; have := HW0.out; omega))
 replace HNc := Hd ((((((HNc.out).set 0 (.int .i64 (y.s.lv : Int))).set 1 (.slice A y.s.xs.length c)).set 2 (.string y.s.hi)).set 3 (.bool y.s.la)).set 4 (.int .u64 (y.s.rt : Int)))
 clear hK5
 refine hK.out _ _ ?_ (fun hHeld2 => ?_)
 ·exact HXc.out.k 10 rfl
 clear hK KK hHeld
 have hHeld := hHeld2
 clear hHeld2
 try simp only [aP,aA,aZ,aS]
 refine wpAnyH_done (by kernel_rfl) ?_ _
 clear hHeld
 clear x0 x1 x2 x3 x4
 obtain ⟨q0, q1, q2, q3, q4⟩ := HNc.out.c5
 go_wp2
 refine bodyPost_ret (v := .tuple #[.int .u64 (nid : Int), .agg #[.int .i64 (y.s.lv : Int), .slice A y.s.xs.length c, .string y.s.hi, .bool y.s.la, .int .u64 (y.s.rt : Int)]]) ?_ rfl ?_
 ·simp [results, Tryz.results74, go_sem, q0, q1, q2, q3, q4]
 refine ⟨A, c, rfl, HRs.out, fun a ha => by have := HA.out a ha; have := HW0.out; have := HR0.out; omega, ?_⟩
 have hKK := (HK1.out.mono (T := fun i => i = r0) (fun _ h => h.elim)).trans HKc.out (fun _ _ h => h)
 exact ⟨hKK.os, hKK.tape, hKK.output, hKK.size, fun i hi _ => hKK.block i hi (fun e => by have := HR0.out; omega)⟩

theorem wnode_failed (F : Nat) (fb fd : Int) (x : Nat) (ty : TypeId) (nid : Nat) (rp : Value) (tl : List Value) (w : World) (h : Blk w x ty (wkv F fb fd nid (rp) 3 tl)) :
  Calls Tryz.prog 74 #[.pointer (some ⟨x, 0, none⟩)] w fun e w' => e = .returned (.tuple #[.int .u64 0, .agg #[.int .i64 0, .slice none 0 0, .string ⟨#[]⟩, .bool false, .int .u64 0]]) ∧ Kept (fun _ => False) w w' := by
 have y12 := (h.alloc (.cells #[.int .i64 0, .slice none 0 0, .string ⟨#[]⟩, .bool false, .int .u64 0] 38)).k 12 rfl
 clear h
 go_enter Tryz.func74, Tryz.ntmps74
 go_wp2
 have hNB := Blk.new w [.int .i64 0, .slice none 0 0, .string ⟨#[]⟩, .bool false, .int .u64 0] 38
 obtain ⟨q0, q1, q2, q3, q4⟩ := hNB.c5
 clear hNB
 refine bodyPost_ret (v := .tuple #[.int .u64 0, .agg #[.int .i64 0, .slice none 0 0, .string ⟨#[]⟩, .bool false, .int .u64 0]]) ?_ rfl ⟨rfl, ?_⟩
 ·simp [results, Tryz.results74, go_sem, q0, q1, q2, q3, q4]
 ·exact (Kept.refl _ _).alloc _

theorem fturn_low (F : Nat) (h4 : 4 ≤ F) (h6 : F ≤ 6) (fb fd : Int) (hd : Reach3 10 fb fd) (x nid : Nat) (rp : Value) (ph : Int) (key : ByteArray) (lvl : Nat) (w : World) (h : Blk w x 116 (wkv F fb fd nid (rp) ph [.string key, .int .i64 (lvl : Int)])) (lv : Nat) (A : Option Addr) (c : Nat) (hi : ByteArray) (la : Bool) (rt : Nat) (xs : List Sl) (n : Nat) (hn : xs.length = n) (h40 : n ≤ 1099511627776) (hR : Rs w A c xs) (ha : Asc xs) (hlt : lv < lvl) :
  Calls Tryz.prog 71 #[.pointer (some ⟨x, 0, none⟩), .agg #[.int .i64 (lv : Int), .slice A n c, .string hi, .bool la, .int .u64 (rt : Int)]] w fun e w' => e = .returned (.tuple #[]) ∧ Blk w' x 116 (wkv F fb fd nid (rp) 3 [.string key, .int .i64 (lvl : Int)]) ∧ Kept (fun i => i = x) w w' := by
 have p1 : decide ((lv : Int) < (lvl : Int)) = true := decide_eq_true (by omega)
 have p1' : (lv : Int) < (lvl : Int) := by omega
 have HX := Hd h
 have HR := Hd hR
 have HA := Hd ha
 clear h hR ha
 go_enter Tryz.func71, Tryz.ntmps71
 go_wp2_with fail
 have hal := (Kept.refl (fun _ => False) w).alloc (.cells #[.int .i64 (lv : Int), .slice A n c, .string hi, .bool la, .int .u64 (rt : Int)] 38)
 have HK := Hd hal
 have HP := Hd (Blk.new w [.int .i64 (lv : Int), .slice A n c, .string hi, .bool la, .int .u64 (rt : Int)] 38)
 replace HX := Hd (hal.blk HX.out (fun h => h))
 replace HR := Hd (HR.out.keptF hal (fun _ _ h => h))
 clear hal
 generalize hr0 : w.heap.size = r0 at HP ⊢
 have HR0 := Hd hr0
 clear hr0
 generalize w.alloc (.cells #[.int .i64 (lv : Int), .slice A n c, .string hi, .bool la, .int .u64 (rt : Int)] 38) = W at *
 have HW := Hd (Kept.refl (fun _ => False) W)
 refine qregion (fun w' => Kept (fun _ => False) W w') (by kernel_rfl) (by kernel_rfl) HW.out.drew ?_
 refine tkQ 11 ?_ (fun wq hSw => ?_) ?_
 rotate_left
 ·(go_simp; try with_reducible rfl)
 try simp only [aP,aA,aZ,aS]
 refine tkQ 12 ?_ (fun wq hSw => ?_) ?_
 rotate_left
 ·(have hx9 := hSw.blk HX.out (fun h => h); have x14 := hx9.k 14 rfl; have hp9 := hSw.blk HP.out (fun h => h); have y0 := hp9.k 0 rfl; clear hx9 hp9; go_simp; try with_reducible rfl)
 try simp only [aP,aA,aZ,aS]
 refine tkQ 13 ?_ (fun wq hSw => ?_) ?_
 rotate_left
 ·(go_simp; try with_reducible rfl)
 try simp only [aP,aA,aZ,aS]
 refine tkQ 14 ?_ (fun wq hSw => ?_) ?_
 rotate_left
 ·(go_simp; try with_reducible rfl)
 try simp only [aP,aA,aZ,aS]
 refine tkQ 15 ?_ (fun wq hSw => ?_) ?_
 rotate_left
 ·(go_simp; try with_reducible rfl)
 try simp only [aP,aA,aZ,aS]
 refine tkQ 16 ?_ (fun wq hSw => ?_) ?_
 rotate_left
 ·(have hx9 := hSw.blk HX.out (fun h => h); have x14 := hx9.k 14 rfl; have hp9 := hSw.blk HP.out (fun h => h); have y0 := hp9.k 0 rfl; clear hx9 hp9; go_simp; try with_reducible rfl)
 try simp only [aP,aA,aZ,aS]
 refine tkQ 17 (.bool true) (fun wq hSw => ?_) ?_
 ·(go_simp; try first | (with_reducible rfl) | (simp; omega) | (intros; omega) | simp [*])
 try simp only [aP,aA,aZ,aS]
 refine tkQ 18 (.bool true) (fun wq hSw => ?_) ?_
 ·(go_simp; try first | (with_reducible rfl) | (simp; omega) | (intros; omega) | simp [*])
 try simp only [aP,aA,aZ,aS]
 go_big_quiet_skip
 try simp only [aP,aA,aZ,aS]
 go_big_quiet_skip
 try simp only [aP,aA,aZ,aS]
 go_big_quiet_skip
 try simp only [aP,aA,aZ,aS]
 go_big_quiet_skip
 try simp only [aP,aA,aZ,aS]
 go_big_quiet_skip
 try simp only [aP,aA,aZ,aS]
 refine tkQ 24 (.bool true) (fun wq hSw => ?_) ?_
 ·(go_simp; try first | (with_reducible rfl) | (simp; omega) | (intros; omega) | simp [*])
 try simp only [aP,aA,aZ,aS]
 refine tkQ 10 (.bool true) (fun wq hSw => ?_) ?_
 ·(go_simp; try first | (with_reducible rfl) | (simp; omega) | (intros; omega) | simp [*])
 try simp only [aP,aA,aZ,aS]
 refine wpQuiet_nil ?_
 intro wz hHeld
 replace HW := Hd hHeld
 clear hHeld
 go_wp2_with fail
 refine (fail_any F fb fd x 116 nid rp ph [.string key, .int .i64 (lvl : Int)] _ (HW.out.blk HX.out (fun h => h))).mono ?_; rintro e w3 ⟨rfl, hB3, hK3⟩
 have HB3 := Hd hB3
 have HK3 := Hd (((HK.out.trans HW.out (fun _ _ h => h)).mono (T := fun i => i = x) (fun _ h => h.elim)).trans hK3 (fun _ _ h => h))
 clear hB3 hK3
 go_wp2
 go_end0
 exact ⟨rfl, HB3.out, HK3.out⟩

theorem fturn_right (F : Nat) (h4 : 4 ≤ F) (h6 : F ≤ 6) (fb fd : Int) (hd : Reach3 10 fb fd) (x nid : Nat) (rp : Value) (ph : Int) (key : ByteArray) (lvl : Nat) (w : World) (h : Blk w x 116 (wkv F fb fd nid (rp) ph [.string key, .int .i64 (lvl : Int)])) (lv : Nat) (A : Option Addr) (c : Nat) (hi : ByteArray) (la : Bool) (rt : Nat) (xs : List Sl) (n : Nat) (hn : xs.length = n) (h40 : n ≤ 1099511627776) (hR : Rs w A c xs) (ha : Asc xs) (hle : lvl ≤ lv) (hwi : (la || ltB key.toList hi.toList) = false) (hn0 : rt ≠ 0) :
  Calls Tryz.prog 71 #[.pointer (some ⟨x, 0, none⟩), .agg #[.int .i64 (lv : Int), .slice A n c, .string hi, .bool la, .int .u64 (rt : Int)]] w fun e w' => ∃ q, e = .returned (.tuple #[]) ∧ Blk w' x 116 (wkv F fb fd rt (.pointer (some ⟨q, 0, none⟩)) 1 [.string key, .int .i64 (lvl : Int)]) ∧ Con (fun i => i = q) w' 1 2 100 100 200 F 1000 10 fb fd q 207 rt cs0 [.int .u64 0, .int .i64 0] ∧ w.heap.size ≤ q ∧ Kept (fun i => i = x) w w' := by
 have p1 : decide ((lv : Int) < (lvl : Int)) = false := decide_eq_false (by omega)
 have p1' : ¬ (lv : Int) < (lvl : Int) := by omega
 have p2 : decide ((lvl : Int) < 0) = false := decide_eq_false (by omega)
 have HX := Hd h
 have HR := Hd hR
 have HA := Hd ha
 clear h hR ha
 go_enter Tryz.func71, Tryz.ntmps71
 go_wp2_with fail
 have hal := (Kept.refl (fun _ => False) w).alloc (.cells #[.int .i64 (lv : Int), .slice A n c, .string hi, .bool la, .int .u64 (rt : Int)] 38)
 have HK := Hd hal
 have HP := Hd (Blk.new w [.int .i64 (lv : Int), .slice A n c, .string hi, .bool la, .int .u64 (rt : Int)] 38)
 replace HX := Hd (hal.blk HX.out (fun h => h))
 replace HR := Hd (HR.out.keptF hal (fun _ _ h => h))
 clear hal
 generalize hr0 : w.heap.size = r0 at HP ⊢
 have HR0 := Hd hr0
 clear hr0
 generalize w.alloc (.cells #[.int .i64 (lv : Int), .slice A n c, .string hi, .bool la, .int .u64 (rt : Int)] 38) = W at *
 have HW := Hd (Kept.refl (fun _ => False) W)
 refine qregion (fun w' => Kept (fun _ => False) W w') (by kernel_rfl) (by kernel_rfl) HW.out.drew ?_
 refine tkQ 11 ?_ (fun wq hSw => ?_) ?_
 rotate_left
 ·(go_simp; try with_reducible rfl)
 try simp only [aP,aA,aZ,aS]
 refine tkQ 12 ?_ (fun wq hSw => ?_) ?_
 rotate_left
 ·(have hx9 := hSw.blk HX.out (fun h => h); have x14 := hx9.k 14 rfl; have hp9 := hSw.blk HP.out (fun h => h); have y0 := hp9.k 0 rfl; clear hx9 hp9; go_simp; try with_reducible rfl)
 try simp only [aP,aA,aZ,aS]
 refine tkQ 13 ?_ (fun wq hSw => ?_) ?_
 rotate_left
 ·(go_simp; try with_reducible rfl)
 try simp only [aP,aA,aZ,aS]
 refine tkQ 14 ?_ (fun wq hSw => ?_) ?_
 rotate_left
 ·(go_simp; try with_reducible rfl)
 try simp only [aP,aA,aZ,aS]
 refine tkQ 15 ?_ (fun wq hSw => ?_) ?_
 rotate_left
 ·(go_simp; try with_reducible rfl)
 try simp only [aP,aA,aZ,aS]
 refine tkQ 16 ?_ (fun wq hSw => ?_) ?_
 rotate_left
 ·(have hx9 := hSw.blk HX.out (fun h => h); have x14 := hx9.k 14 rfl; have hp9 := hSw.blk HP.out (fun h => h); have y0 := hp9.k 0 rfl; clear hx9 hp9; go_simp; try with_reducible rfl)
 try simp only [aP,aA,aZ,aS]
 refine tkQ 17 (.bool false) (fun wq hSw => ?_) ?_
 ·(go_simp; try first | (with_reducible rfl) | (simp; omega) | (intros; omega) | simp [*])
 try simp only [aP,aA,aZ,aS]
 refine tkQ 18 (.bool false) (fun wq hSw => ?_) ?_
 ·(go_simp; try first | (with_reducible rfl) | (simp; omega) | (intros; omega) | simp [*])
 try simp only [aP,aA,aZ,aS]
 refine tkQ 19 ?_ (fun wq hSw => ?_) ?_
 rotate_left
 ·(go_simp; try with_reducible rfl)
 try simp only [aP,aA,aZ,aS]
 refine tkQ 20 ?_ (fun wq hSw => ?_) ?_
 rotate_left
 ·(go_simp; try with_reducible rfl)
 try simp only [aP,aA,aZ,aS]
 refine tkQ 21 ?_ (fun wq hSw => ?_) ?_
 rotate_left
 ·(go_simp; try with_reducible rfl)
 try simp only [aP,aA,aZ,aS]
 refine tkQ 22 ?_ (fun wq hSw => ?_) ?_
 rotate_left
 ·(have hx9 := hSw.blk HX.out (fun h => h); have x14 := hx9.k 14 rfl; have hp9 := hSw.blk HP.out (fun h => h); have y0 := hp9.k 0 rfl; clear hx9 hp9; go_simp; try with_reducible rfl)
 try simp only [aP,aA,aZ,aS]
 refine tkQ 23 (.bool false) (fun wq hSw => ?_) ?_
 ·(go_simp; try first | (with_reducible rfl) | (simp; omega) | (intros; omega) | simp [*])
 try simp only [aP,aA,aZ,aS]
 refine tkQ 24 (.bool false) (fun wq hSw => ?_) ?_
 ·(go_simp; try first | (with_reducible rfl) | (simp; omega) | (intros; omega) | simp [*])
 try simp only [aP,aA,aZ,aS]
 refine tkQ 10 (.bool false) (fun wq hSw => ?_) ?_
 ·(go_simp; try first | (with_reducible rfl) | (simp; omega) | (intros; omega) | simp [*])
 try simp only [aP,aA,aZ,aS]
 refine wpQuiet_nil ?_
 intro wz hHeld
 replace HW := Hd hHeld
 clear hHeld
 go_wp2_with fail
 refine qregion (fun w' => Kept (fun _ => False) W w') (by kernel_rfl) (by kernel_rfl) HW.out.drew ?_
 refine tkQ 30 ?_ (fun wq hSw => ?_) ?_
 rotate_left
 ·(go_simp; try with_reducible rfl)
 try simp only [aP,aA,aZ,aS]
 refine tkQ 31 ?_ (fun wq hSw => ?_) ?_
 rotate_left
 ·(go_simp; try with_reducible rfl)
 try simp only [aP,aA,aZ,aS]
 refine tkQ 32 ?_ (fun wq hSw => ?_) ?_
 rotate_left
 ·(go_simp; try with_reducible rfl)
 try simp only [aP,aA,aZ,aS]
 refine tkQ 33 ?_ (fun wq hSw => ?_) ?_
 rotate_left
 ·(have hx9 := hSw.blk HX.out (fun h => h); have x13 := hx9.k 13 rfl; have hp9 := hSw.blk HP.out (fun h => h); have y2 := hp9.k 2 rfl; have y3 := hp9.k 3 rfl; clear hx9 hp9; go_simp; try with_reducible rfl)
 try simp only [aP,aA,aZ,aS]
 refine tkQ 34 ?_ (fun wq hSw => ?_) ?_
 rotate_left
 ·(go_simp; try with_reducible rfl)
 try simp only [aP,aA,aZ,aS]
 refine tkQ 35 ?_ (fun wq hSw => ?_) ?_
 rotate_left
 ·(have hx9 := hSw.blk HX.out (fun h => h); have x13 := hx9.k 13 rfl; have hp9 := hSw.blk HP.out (fun h => h); have y2 := hp9.k 2 rfl; have y3 := hp9.k 3 rfl; clear hx9 hp9; go_simp; try with_reducible rfl)
 try simp only [aP,aA,aZ,aS]
 refine tkQ 36 ?_ (fun wq hSw => ?_) ?_
 rotate_left
 ·(go_simp; try with_reducible rfl)
 try simp only [aP,aA,aZ,aS]
 refine tkQ 37 ?_ (fun wq hSw => ?_) ?_
 rotate_left
 ·(have hx9 := hSw.blk HX.out (fun h => h); have x13 := hx9.k 13 rfl; have hp9 := hSw.blk HP.out (fun h => h); have y2 := hp9.k 2 rfl; have y3 := hp9.k 3 rfl; clear hx9 hp9; go_simp; try with_reducible rfl)
 try simp only [aP,aA,aZ,aS]
 refine qcall (o := ⟨some 38, _, _, _, _, _⟩) (v := .bool false) (by rfl) (fun wq hSw => ?_) (fun wq hSw => Calls.mono (within_of key hi la false _ hwi) ?_) ?_
 ·(go_simp; try with_reducible rfl)
 ·rintro e w9 ⟨rfl, rfl⟩; exact ⟨rfl, hSw⟩
 try simp only [aP,aA,aZ,aS]
 refine tkQ 39 (.bool true) (fun wq hSw => ?_) ?_
 ·(go_simp; try first | (with_reducible rfl) | (simp; omega) | (intros; omega) | simp [*])
 try simp only [aP,aA,aZ,aS]
 refine tkQ 29 (.bool true) (fun wq hSw => ?_) ?_
 ·(go_simp; try first | (with_reducible rfl) | (simp; omega) | (intros; omega) | simp [*])
 try simp only [aP,aA,aZ,aS]
 refine wpQuiet_nil ?_
 intro wz hHeld
 replace HW := Hd hHeld
 clear hHeld
 go_wp2_with fail
 refine qtail 5 (fun w' => Kept (fun _ => False) W w') (by kernel_rfl) (by kernel_rfl) HW.out.drew ?_
 simp only [List.take_succ_cons, List.take_zero, List.drop_succ_cons, List.drop_zero]
 refine tkQ 40 ?_ (fun wq hSw => ?_) ?_
 rotate_left
 ·(go_simp; try with_reducible rfl)
 try simp only [aP,aA,aZ,aS]
 refine tkQ 41 ?_ (fun wq hSw => ?_) ?_
 rotate_left
 ·(go_simp; try with_reducible rfl)
 try simp only [aP,aA,aZ,aS]
 refine tkQ 42 ?_ (fun wq hSw => ?_) ?_
 rotate_left
 ·(go_simp; try with_reducible rfl)
 try simp only [aP,aA,aZ,aS]
 refine tkQ 43 ?_ (fun wq hSw => ?_) ?_
 rotate_left
 ·(go_simp; try with_reducible rfl)
 try simp only [aP,aA,aZ,aS]
 refine tkQ 44 ?_ (fun wq hSw => ?_) ?_
 rotate_left
 ·(have hx9 := hSw.blk HX.out (fun h => h); have hp9 := hSw.blk HP.out (fun h => h); have y4 := hp9.k 4 rfl; clear hx9 hp9; go_simp; try with_reducible rfl)
 try simp only [aP,aA,aZ,aS]
 refine wpQuiet_nil ?_
 intro wz hHeld
 replace HW := Hd hHeld
 clear hHeld
 go_wp2_with fail
 refine (goTo_some F h4 h6 fb fd hd x 116 nid rp ph [.string key, .int .i64 (lvl : Int)] _ (HW.out.blk HX.out (fun h => h)) rt hn0).mono ?_; rintro e w3 ⟨q, rfl, hB3, hC3, hq3, hK3⟩
 have HB3 := Hd hB3
 have HC3 := Hd hC3
 have HQ := Hd (Nat.le_trans (Nat.le_trans HK.out.size HW.out.size) hq3)
 have HK3 := Hd (((HK.out.trans HW.out (fun _ _ h => h)).mono (T := fun i => i = x) (fun _ h => h.elim)).trans hK3 (fun _ _ h => h))
 clear hB3 hC3 hq3 hK3
 go_wp2
 go_end0
 exact ⟨q, rfl, HB3.out, HC3.out, HQ.out, HK3.out⟩

theorem fturn_down (F : Nat) (h4 : 4 ≤ F) (h6 : F ≤ 6) (fb fd : Int) (hd : Reach3 10 fb fd) (x nid : Nat) (rp : Value) (ph : Int) (key : ByteArray) (lvl : Nat) (w : World) (h : Blk w x 116 (wkv F fb fd nid (rp) ph [.string key, .int .i64 (lvl : Int)])) (lv : Nat) (A : Option Addr) (c : Nat) (hi : ByteArray) (la : Bool) (rt : Nat) (xs : List Sl) (n : Nat) (hn : xs.length = n) (h40 : n ≤ 1099511627776) (hR : Rs w A c xs) (ha : Asc xs) (hlt : lvl < lv) (hwi : (la || ltB key.toList hi.toList) = true) (s : ByteArray) (r : Nat) (bb : Bool) (hnr : near (before xs (if has key xs = true then cnt key xs + 1 else cnt key xs)) = (s, r, bb)) (hn0 : r ≠ 0) :
  Calls Tryz.prog 71 #[.pointer (some ⟨x, 0, none⟩), .agg #[.int .i64 (lv : Int), .slice A n c, .string hi, .bool la, .int .u64 (rt : Int)]] w fun e w' => ∃ q, e = .returned (.tuple #[]) ∧ Blk w' x 116 (wkv F fb fd r (.pointer (some ⟨q, 0, none⟩)) 1 [.string key, .int .i64 (lvl : Int)]) ∧ Con (fun i => i = q) w' 1 2 100 100 200 F 1000 10 fb fd q 207 r cs0 [.int .u64 0, .int .i64 0] ∧ w.heap.size ≤ q ∧ Kept (fun i => i = x) w w' := by
 have p1 : decide ((lv : Int) < (lvl : Int)) = false := decide_eq_false (by omega)
 have p1' : ¬ (lv : Int) < (lvl : Int) := by omega
 have p2 : decide ((lvl : Int) < 0) = false := decide_eq_false (by omega)
 have p3 : decide ((lvl : Int) < (lv : Int)) = true := decide_eq_true (by omega)
 have HX := Hd h
 have HR := Hd hR
 have HA := Hd ha
 clear h hR ha
 go_enter Tryz.func71, Tryz.ntmps71
 go_wp2_with fail
 have hal := (Kept.refl (fun _ => False) w).alloc (.cells #[.int .i64 (lv : Int), .slice A n c, .string hi, .bool la, .int .u64 (rt : Int)] 38)
 have HK := Hd hal
 have HP := Hd (Blk.new w [.int .i64 (lv : Int), .slice A n c, .string hi, .bool la, .int .u64 (rt : Int)] 38)
 replace HX := Hd (hal.blk HX.out (fun h => h))
 replace HR := Hd (HR.out.keptF hal (fun _ _ h => h))
 clear hal
 generalize hr0 : w.heap.size = r0 at HP ⊢
 have HR0 := Hd hr0
 clear hr0
 generalize w.alloc (.cells #[.int .i64 (lv : Int), .slice A n c, .string hi, .bool la, .int .u64 (rt : Int)] 38) = W at *
 have HW := Hd (Kept.refl (fun _ => False) W)
 refine qregion (fun w' => Kept (fun _ => False) W w') (by kernel_rfl) (by kernel_rfl) HW.out.drew ?_
 refine tkQ 11 ?_ (fun wq hSw => ?_) ?_
 rotate_left
 ·(go_simp; try with_reducible rfl)
 try simp only [aP,aA,aZ,aS]
 refine tkQ 12 ?_ (fun wq hSw => ?_) ?_
 rotate_left
 ·(have hx9 := hSw.blk HX.out (fun h => h); have x14 := hx9.k 14 rfl; have hp9 := hSw.blk HP.out (fun h => h); have y0 := hp9.k 0 rfl; clear hx9 hp9; go_simp; try with_reducible rfl)
 try simp only [aP,aA,aZ,aS]
 refine tkQ 13 ?_ (fun wq hSw => ?_) ?_
 rotate_left
 ·(go_simp; try with_reducible rfl)
 try simp only [aP,aA,aZ,aS]
 refine tkQ 14 ?_ (fun wq hSw => ?_) ?_
 rotate_left
 ·(go_simp; try with_reducible rfl)
 try simp only [aP,aA,aZ,aS]
 refine tkQ 15 ?_ (fun wq hSw => ?_) ?_
 rotate_left
 ·(go_simp; try with_reducible rfl)
 try simp only [aP,aA,aZ,aS]
 refine tkQ 16 ?_ (fun wq hSw => ?_) ?_
 rotate_left
 ·(have hx9 := hSw.blk HX.out (fun h => h); have x14 := hx9.k 14 rfl; have hp9 := hSw.blk HP.out (fun h => h); have y0 := hp9.k 0 rfl; clear hx9 hp9; go_simp; try with_reducible rfl)
 try simp only [aP,aA,aZ,aS]
 refine tkQ 17 (.bool false) (fun wq hSw => ?_) ?_
 ·(go_simp; try first | (with_reducible rfl) | (simp; omega) | (intros; omega) | simp [*])
 try simp only [aP,aA,aZ,aS]
 refine tkQ 18 (.bool false) (fun wq hSw => ?_) ?_
 ·(go_simp; try first | (with_reducible rfl) | (simp; omega) | (intros; omega) | simp [*])
 try simp only [aP,aA,aZ,aS]
 refine tkQ 19 ?_ (fun wq hSw => ?_) ?_
 rotate_left
 ·(go_simp; try with_reducible rfl)
 try simp only [aP,aA,aZ,aS]
 refine tkQ 20 ?_ (fun wq hSw => ?_) ?_
 rotate_left
 ·(go_simp; try with_reducible rfl)
 try simp only [aP,aA,aZ,aS]
 refine tkQ 21 ?_ (fun wq hSw => ?_) ?_
 rotate_left
 ·(go_simp; try with_reducible rfl)
 try simp only [aP,aA,aZ,aS]
 refine tkQ 22 ?_ (fun wq hSw => ?_) ?_
 rotate_left
 ·(have hx9 := hSw.blk HX.out (fun h => h); have x14 := hx9.k 14 rfl; have hp9 := hSw.blk HP.out (fun h => h); have y0 := hp9.k 0 rfl; clear hx9 hp9; go_simp; try with_reducible rfl)
 try simp only [aP,aA,aZ,aS]
 refine tkQ 23 (.bool false) (fun wq hSw => ?_) ?_
 ·(go_simp; try first | (with_reducible rfl) | (simp; omega) | (intros; omega) | simp [*])
 try simp only [aP,aA,aZ,aS]
 refine tkQ 24 (.bool false) (fun wq hSw => ?_) ?_
 ·(go_simp; try first | (with_reducible rfl) | (simp; omega) | (intros; omega) | simp [*])
 try simp only [aP,aA,aZ,aS]
 refine tkQ 10 (.bool false) (fun wq hSw => ?_) ?_
 ·(go_simp; try first | (with_reducible rfl) | (simp; omega) | (intros; omega) | simp [*])
 try simp only [aP,aA,aZ,aS]
 refine wpQuiet_nil ?_
 intro wz hHeld
 replace HW := Hd hHeld
 clear hHeld
 go_wp2_with fail
 refine qregion (fun w' => Kept (fun _ => False) W w') (by kernel_rfl) (by kernel_rfl) HW.out.drew ?_
 refine tkQ 30 ?_ (fun wq hSw => ?_) ?_
 rotate_left
 ·(go_simp; try with_reducible rfl)
 try simp only [aP,aA,aZ,aS]
 refine tkQ 31 ?_ (fun wq hSw => ?_) ?_
 rotate_left
 ·(go_simp; try with_reducible rfl)
 try simp only [aP,aA,aZ,aS]
 refine tkQ 32 ?_ (fun wq hSw => ?_) ?_
 rotate_left
 ·(go_simp; try with_reducible rfl)
 try simp only [aP,aA,aZ,aS]
 refine tkQ 33 ?_ (fun wq hSw => ?_) ?_
 rotate_left
 ·(have hx9 := hSw.blk HX.out (fun h => h); have x13 := hx9.k 13 rfl; have hp9 := hSw.blk HP.out (fun h => h); have y2 := hp9.k 2 rfl; have y3 := hp9.k 3 rfl; clear hx9 hp9; go_simp; try with_reducible rfl)
 try simp only [aP,aA,aZ,aS]
 refine tkQ 34 ?_ (fun wq hSw => ?_) ?_
 rotate_left
 ·(go_simp; try with_reducible rfl)
 try simp only [aP,aA,aZ,aS]
 refine tkQ 35 ?_ (fun wq hSw => ?_) ?_
 rotate_left
 ·(have hx9 := hSw.blk HX.out (fun h => h); have x13 := hx9.k 13 rfl; have hp9 := hSw.blk HP.out (fun h => h); have y2 := hp9.k 2 rfl; have y3 := hp9.k 3 rfl; clear hx9 hp9; go_simp; try with_reducible rfl)
 try simp only [aP,aA,aZ,aS]
 refine tkQ 36 ?_ (fun wq hSw => ?_) ?_
 rotate_left
 ·(go_simp; try with_reducible rfl)
 try simp only [aP,aA,aZ,aS]
 refine tkQ 37 ?_ (fun wq hSw => ?_) ?_
 rotate_left
 ·(have hx9 := hSw.blk HX.out (fun h => h); have x13 := hx9.k 13 rfl; have hp9 := hSw.blk HP.out (fun h => h); have y2 := hp9.k 2 rfl; have y3 := hp9.k 3 rfl; clear hx9 hp9; go_simp; try with_reducible rfl)
 try simp only [aP,aA,aZ,aS]
 refine qcall (o := ⟨some 38, _, _, _, _, _⟩) (v := .bool true) (by rfl) (fun wq hSw => ?_) (fun wq hSw => Calls.mono (within_of key hi la true _ hwi) ?_) ?_
 ·(go_simp; try with_reducible rfl)
 ·rintro e w9 ⟨rfl, rfl⟩; exact ⟨rfl, hSw⟩
 try simp only [aP,aA,aZ,aS]
 refine tkQ 39 (.bool false) (fun wq hSw => ?_) ?_
 ·(go_simp; try first | (with_reducible rfl) | (simp; omega) | (intros; omega) | simp [*])
 try simp only [aP,aA,aZ,aS]
 refine tkQ 29 (.bool false) (fun wq hSw => ?_) ?_
 ·(go_simp; try first | (with_reducible rfl) | (simp; omega) | (intros; omega) | simp [*])
 try simp only [aP,aA,aZ,aS]
 refine wpQuiet_nil ?_
 intro wz hHeld
 replace HW := Hd hHeld
 clear hHeld
 go_wp2_with fail
 refine qregion (fun w' => Kept (fun _ => False) W w') (by kernel_rfl) (by kernel_rfl) HW.out.drew ?_
 refine tkQ 47 ?_ (fun wq hSw => ?_) ?_
 rotate_left
 ·(go_simp; try with_reducible rfl)
 try simp only [aP,aA,aZ,aS]
 refine tkQ 48 ?_ (fun wq hSw => ?_) ?_
 rotate_left
 ·(have hx9 := hSw.blk HX.out (fun h => h); have x14 := hx9.k 14 rfl; have hp9 := hSw.blk HP.out (fun h => h); have y0 := hp9.k 0 rfl; clear hx9 hp9; go_simp; try with_reducible rfl)
 try simp only [aP,aA,aZ,aS]
 refine tkQ 49 ?_ (fun wq hSw => ?_) ?_
 rotate_left
 ·(go_simp; try with_reducible rfl)
 try simp only [aP,aA,aZ,aS]
 refine tkQ 50 ?_ (fun wq hSw => ?_) ?_
 rotate_left
 ·(go_simp; try with_reducible rfl)
 try simp only [aP,aA,aZ,aS]
 refine tkQ 51 ?_ (fun wq hSw => ?_) ?_
 rotate_left
 ·(go_simp; try with_reducible rfl)
 try simp only [aP,aA,aZ,aS]
 refine tkQ 52 ?_ (fun wq hSw => ?_) ?_
 rotate_left
 ·(have hx9 := hSw.blk HX.out (fun h => h); have x14 := hx9.k 14 rfl; have hp9 := hSw.blk HP.out (fun h => h); have y0 := hp9.k 0 rfl; clear hx9 hp9; go_simp; try with_reducible rfl)
 try simp only [aP,aA,aZ,aS]
 refine tkQ 53 (.bool true) (fun wq hSw => ?_) ?_
 ·(go_simp; try first | (with_reducible rfl) | (simp; omega) | (intros; omega) | simp [*])
 try simp only [aP,aA,aZ,aS]
 refine tkQ 46 (.bool true) (fun wq hSw => ?_) ?_
 ·(go_simp; try first | (with_reducible rfl) | (simp; omega) | (intros; omega) | simp [*])
 try simp only [aP,aA,aZ,aS]
 refine wpQuiet_nil ?_
 intro wz hHeld
 replace HW := Hd hHeld
 clear hHeld
 go_wp2_with fail
 refine wp_region_held_drew (S := (fun w' => Kept (fun _ => False) W w')) (by kernel_rfl) ?_ (fun hHeld => ?_)
 ·exact HW.out.drew
 replace HW := Hd HW.out.drew
 generalize wz.drew = G at *
 refine tkH 0 55 ?_ rfl ?_ hHeld ?_
 rotate_left
 ·(intro wq hSw; have hx9 := hSw.blk HX.out (fun h => h); have x13 := hx9.k 13 rfl; have hp9 := hSw.blk HP.out (fun h => h); obtain ⟨y0, y1, y2, y3, y4⟩ := hp9.c5; clear hx9 hp9; go_simp; try with_reducible rfl)
 try simp only [aP,aA,aZ,aS]
 refine tkH 1 56 ?_ rfl ?_ hHeld ?_
 rotate_left
 ·(intro wq hSw; go_simp; try with_reducible rfl)
 try simp only [aP,aA,aZ,aS]
 refine tkH 2 57 ?_ rfl ?_ hHeld ?_
 rotate_left
 ·(intro wq hSw; go_simp; try with_reducible rfl)
 try simp only [aP,aA,aZ,aS]
 refine tkH 3 58 ?_ rfl ?_ hHeld ?_
 rotate_left
 ·(intro wq hSw; go_simp; try with_reducible rfl)
 try simp only [aP,aA,aZ,aS]
 refine tkH 4 59 ?_ rfl ?_ hHeld ?_
 rotate_left
 ·(intro wq hSw; have hx9 := hSw.blk HX.out (fun h => h); have x13 := hx9.k 13 rfl; have hp9 := hSw.blk HP.out (fun h => h); obtain ⟨y0, y1, y2, y3, y4⟩ := hp9.c5; clear hx9 hp9; go_simp; try with_reducible rfl)
 try simp only [aP,aA,aZ,aS]
 refine wpAnyH_ready (rs := [5, 9]) (by kernel_rfl) (by simp) ?_
 refine AllReadyH.cons (o := ⟨some 60, _, _, _, _, _⟩) rfl (fun KK hK => ?_) (AllReadyH.cons (o := ⟨some 4, _, _, _, _, _⟩) rfl (fun KK hK => ?_) (AllReadyH.nil))
 ·go_simp
  go_at_call 122
  refine (child_any (lv : Int) A c hi la rt xs key _ n hn h40 (HR.out.keptF HW.out (fun _ _ h => h)) HA.out s r bb hnr).mono ?_; rintro e G ⟨rfl, hB⟩
  replace HW := Hd (HW.out.trans (bkept hB) (fun _ _ h => h))
  try replace HSL := Hd ((bkept hB).blk HSL.out (fun h => h))
  clear hB
  refine hK.out _ _ ?_ (fun hHeld2 => ?_)
  ·exact HW.out
  clear hK KK hHeld
  have hHeld := hHeld2
  clear hHeld2
  try simp only [aP,aA,aZ,aS]
  refine tkH 6 54 ?_ rfl ?_ hHeld ?_
  rotate_left
  ·(intro wq hSw; go_simp; try with_reducible rfl)
  try simp only [aP,aA,aZ,aS]
  refine tkH 7 61 ?_ rfl ?_ hHeld ?_
  rotate_left
  ·(intro wq hSw; go_simp; try with_reducible rfl)
  try simp only [aP,aA,aZ,aS]
  refine tkH 8 62 ?_ rfl ?_ hHeld ?_
  rotate_left
  ·(intro wq hSw; go_simp; try with_reducible rfl)
  try simp only [aP,aA,aZ,aS]
  refine wpAnyH_ready (rs := [9]) (by kernel_rfl) (by simp) ?_
  refine AllReadyH.cons (o := ⟨some 4, _, _, _, _, _⟩) rfl (fun KK hK => ?_) (AllReadyH.nil)
  go_simp
  have hr1 : W.heap.size ≤ G.heap.size := HW.out.size
  replace HW := Hd (HW.out.alloc (.cells #[.string ⟨#[]⟩, .int .u64 0] 60))
  have HSL := Hd (Blk.new G [.string ⟨#[]⟩, .int .u64 0] 60)
  generalize G.heap.size = r1 at *
  have HR1 := Hd hr1
  clear hr1
  generalize G.alloc (.cells #[.string ⟨#[]⟩, .int .u64 0] 60) = G at *
  refine hK.out _ _ ?_ (fun hHeld2 => ?_)
  ·exact HW.out
  clear hK KK hHeld
  have hHeld := hHeld2
  clear hHeld2
  try simp only [aP,aA,aZ,aS]
  refine wpAnyH_ready (rs := [10]) (by kernel_rfl) (by simp) ?_
  refine AllReadyH.cons (o := ⟨none, _, _, _, _, _⟩) rfl (fun KK hK => ?_) (AllReadyH.nil)
  have hs9 := HSL.out
  have s0 := hs9.k 0 rfl
  have s1 := hs9.k 1 rfl
  have zs0 := hs9.frozen 0
  have zs1 := hs9.frozen 1
  clear hs9
  go_simp
  replace HSL := Hd ((HSL.out.set 0 (.string s)).set 1 (.int .u64 (r : Int)))
  replace HW := Hd ((HW.out.setNew HR1.out 0 (.string s)).setNew HR1.out 1 (.int .u64 (r : Int)))
  clear s0 s1 zs0 zs1
  generalize (G.setCell ⟨r1, 0, none⟩ (.string s)).setCell ⟨r1, 1, none⟩ (.int .u64 (r : Int)) = G at *
  refine hK.out _ _ ?_ (fun hHeld2 => ?_)
  ·exact HW.out
  clear hK KK hHeld
  have hHeld := hHeld2
  clear hHeld2
  try simp only [aP,aA,aZ,aS]
  refine tkH 11 5 ?_ rfl ?_ hHeld ?_
  rotate_left
  ·(intro wq hSw; go_simp; try with_reducible rfl)
  try simp only [aP,aA,aZ,aS]
  refine wpAnyH_done (by kernel_rfl) ?_ _
  clear hHeld
  go_wp2_with fail
  replace HX := Hd (HW.out.blk HX.out (fun h => h))
  replace HP := Hd (HW.out.blk HP.out (fun h => h))
  replace HK := Hd (HK.out.trans HW.out (fun _ _ h => h))
  replace HR := Hd (HR.out.keptF HW.out (fun _ _ h => h))
  clear HW
  have HW := Hd (Kept.refl (fun _ => False) G)
  refine qtail 5 (fun w' => Kept (fun _ => False) G w') (by kernel_rfl) (by kernel_rfl) HW.out.drew ?_
  simp only [List.take_succ_cons, List.take_zero, List.drop_succ_cons, List.drop_zero]
  refine tkQ 63 ?_ (fun wq hSw => ?_) ?_
  rotate_left
  ·(go_simp; try with_reducible rfl)
  try simp only [aP,aA,aZ,aS]
  refine tkQ 64 ?_ (fun wq hSw => ?_) ?_
  rotate_left
  ·(go_simp; try with_reducible rfl)
  try simp only [aP,aA,aZ,aS]
  refine tkQ 65 ?_ (fun wq hSw => ?_) ?_
  rotate_left
  ·(go_simp; try with_reducible rfl)
  try simp only [aP,aA,aZ,aS]
  refine tkQ 66 ?_ (fun wq hSw => ?_) ?_
  rotate_left
  ·(go_simp; try with_reducible rfl)
  try simp only [aP,aA,aZ,aS]
  refine tkQ 67 ?_ (fun wq hSw => ?_) ?_
  rotate_left
  ·(have hx9 := hSw.blk HX.out (fun h => h); have hp9 := hSw.blk HP.out (fun h => h); clear hx9 hp9; have hs9 := hSw.blk HSL.out (fun h => h); have s1 := hs9.k 1 rfl; clear hs9; go_simp; try with_reducible rfl)
  try simp only [aP,aA,aZ,aS]
  refine wpQuiet_nil ?_
  intro wz hHeld
  replace HW := Hd hHeld
  clear hHeld
  go_wp2_with fail
  refine (goTo_some F h4 h6 fb fd hd x 116 nid rp ph [.string key, .int .i64 (lvl : Int)] _ (HW.out.blk HX.out (fun h => h)) r hn0).mono ?_; rintro e w3 ⟨q, rfl, hB3, hC3, hq3, hK3⟩
  have HB3 := Hd hB3
  have HC3 := Hd hC3
  have HQ := Hd (Nat.le_trans (Nat.le_trans HK.out.size HW.out.size) hq3)
  have HK3 := Hd (((HK.out.trans HW.out (fun _ _ h => h)).mono (T := fun i => i = x) (fun _ h => h.elim)).trans hK3 (fun _ _ h => h))
  clear hB3 hC3 hq3 hK3
  go_wp2
  go_end0
  exact ⟨q, rfl, HB3.out, HC3.out, HQ.out, HK3.out⟩
 ·go_simp
  have hr1 : W.heap.size ≤ G.heap.size := HW.out.size
  replace HW := Hd (HW.out.alloc (.cells #[.string ⟨#[]⟩, .int .u64 0] 60))
  have HSL := Hd (Blk.new G [.string ⟨#[]⟩, .int .u64 0] 60)
  generalize G.heap.size = r1 at *
  have HR1 := Hd hr1
  clear hr1
  generalize G.alloc (.cells #[.string ⟨#[]⟩, .int .u64 0] 60) = G at *
  refine hK.out _ _ ?_ (fun hHeld2 => ?_)
  ·exact HW.out
  clear hK KK hHeld
  have hHeld := hHeld2
  clear hHeld2
  try simp only [aP,aA,aZ,aS]
  refine wpAnyH_ready (rs := [5]) (by kernel_rfl) (by simp) ?_
  refine AllReadyH.cons (o := ⟨some 60, _, _, _, _, _⟩) rfl (fun KK hK => ?_) (AllReadyH.nil)
  go_simp
  go_at_call 122
  refine (child_any (lv : Int) A c hi la rt xs key _ n hn h40 (HR.out.keptF HW.out (fun _ _ h => h)) HA.out s r bb hnr).mono ?_; rintro e G ⟨rfl, hB⟩
  replace HW := Hd (HW.out.trans (bkept hB) (fun _ _ h => h))
  try replace HSL := Hd ((bkept hB).blk HSL.out (fun h => h))
  clear hB
  refine hK.out _ _ ?_ (fun hHeld2 => ?_)
  ·exact HW.out
  clear hK KK hHeld
  have hHeld := hHeld2
  clear hHeld2
  try simp only [aP,aA,aZ,aS]
  refine tkH 6 54 ?_ rfl ?_ hHeld ?_
  rotate_left
  ·(intro wq hSw; go_simp; try with_reducible rfl)
  try simp only [aP,aA,aZ,aS]
  refine tkH 7 61 ?_ rfl ?_ hHeld ?_
  rotate_left
  ·(intro wq hSw; go_simp; try with_reducible rfl)
  try simp only [aP,aA,aZ,aS]
  refine tkH 8 62 ?_ rfl ?_ hHeld ?_
  rotate_left
  ·(intro wq hSw; go_simp; try with_reducible rfl)
  try simp only [aP,aA,aZ,aS]
  refine wpAnyH_ready (rs := [10]) (by kernel_rfl) (by simp) ?_
  refine AllReadyH.cons (o := ⟨none, _, _, _, _, _⟩) rfl (fun KK hK => ?_) (AllReadyH.nil)
  have hs9 := HSL.out
  have s0 := hs9.k 0 rfl
  have s1 := hs9.k 1 rfl
  have zs0 := hs9.frozen 0
  have zs1 := hs9.frozen 1
  clear hs9
  go_simp
  replace HSL := Hd ((HSL.out.set 0 (.string s)).set 1 (.int .u64 (r : Int)))
  replace HW := Hd ((HW.out.setNew HR1.out 0 (.string s)).setNew HR1.out 1 (.int .u64 (r : Int)))
  clear s0 s1 zs0 zs1
  generalize (G.setCell ⟨r1, 0, none⟩ (.string s)).setCell ⟨r1, 1, none⟩ (.int .u64 (r : Int)) = G at *
  refine hK.out _ _ ?_ (fun hHeld2 => ?_)
  ·exact HW.out
  clear hK KK hHeld
  have hHeld := hHeld2
  clear hHeld2
  try simp only [aP,aA,aZ,aS]
  refine tkH 11 5 ?_ rfl ?_ hHeld ?_
  rotate_left
  ·(intro wq hSw; go_simp; try with_reducible rfl)
  try simp only [aP,aA,aZ,aS]
  refine wpAnyH_done (by kernel_rfl) ?_ _
  clear hHeld
  go_wp2_with fail
  replace HX := Hd (HW.out.blk HX.out (fun h => h))
  replace HP := Hd (HW.out.blk HP.out (fun h => h))
  replace HK := Hd (HK.out.trans HW.out (fun _ _ h => h))
  replace HR := Hd (HR.out.keptF HW.out (fun _ _ h => h))
  clear HW
  have HW := Hd (Kept.refl (fun _ => False) G)
  refine qtail 5 (fun w' => Kept (fun _ => False) G w') (by kernel_rfl) (by kernel_rfl) HW.out.drew ?_
  simp only [List.take_succ_cons, List.take_zero, List.drop_succ_cons, List.drop_zero]
  refine tkQ 63 ?_ (fun wq hSw => ?_) ?_
  rotate_left
  ·(go_simp; try with_reducible rfl)
  try simp only [aP,aA,aZ,aS]
  refine tkQ 64 ?_ (fun wq hSw => ?_) ?_
  rotate_left
  ·(go_simp; try with_reducible rfl)
  try simp only [aP,aA,aZ,aS]
  refine tkQ 65 ?_ (fun wq hSw => ?_) ?_
  rotate_left
  ·(go_simp; try with_reducible rfl)
  try simp only [aP,aA,aZ,aS]
  refine tkQ 66 ?_ (fun wq hSw => ?_) ?_
  rotate_left
  ·(go_simp; try with_reducible rfl)
  try simp only [aP,aA,aZ,aS]
  refine tkQ 67 ?_ (fun wq hSw => ?_) ?_
  rotate_left
  ·(have hx9 := hSw.blk HX.out (fun h => h); have hp9 := hSw.blk HP.out (fun h => h); clear hx9 hp9; have hs9 := hSw.blk HSL.out (fun h => h); have s1 := hs9.k 1 rfl; clear hs9; go_simp; try with_reducible rfl)
  try simp only [aP,aA,aZ,aS]
  refine wpQuiet_nil ?_
  intro wz hHeld
  replace HW := Hd hHeld
  clear hHeld
  go_wp2_with fail
  refine (goTo_some F h4 h6 fb fd hd x 116 nid rp ph [.string key, .int .i64 (lvl : Int)] _ (HW.out.blk HX.out (fun h => h)) r hn0).mono ?_; rintro e w3 ⟨q, rfl, hB3, hC3, hq3, hK3⟩
  have HB3 := Hd hB3
  have HC3 := Hd hC3
  have HQ := Hd (Nat.le_trans (Nat.le_trans HK.out.size HW.out.size) hq3)
  have HK3 := Hd (((HK.out.trans HW.out (fun _ _ h => h)).mono (T := fun i => i = x) (fun _ h => h.elim)).trans hK3 (fun _ _ h => h))
  clear hB3 hC3 hq3 hK3
  go_wp2
  go_end0
  exact ⟨q, rfl, HB3.out, HC3.out, HQ.out, HK3.out⟩

theorem fturn_here (F : Nat) (h4 : 4 ≤ F) (h6 : F ≤ 6) (fb fd : Int) (hd : Reach3 10 fb fd) (x nid : Nat) (rp : Value) (ph : Int) (key : ByteArray) (lvl : Nat) (w : World) (h : Blk w x 116 (wkv F fb fd nid (rp) ph [.string key, .int .i64 (lvl : Int)])) (lv : Nat) (A : Option Addr) (c : Nat) (hi : ByteArray) (la : Bool) (rt : Nat) (xs : List Sl) (n : Nat) (hn : xs.length = n) (h40 : n ≤ 1099511627776) (hR : Rs w A c xs) (ha : Asc xs) (heq : lvl = lv) (hwi : (la || ltB key.toList hi.toList) = true) :
  Calls Tryz.prog 71 #[.pointer (some ⟨x, 0, none⟩), .agg #[.int .i64 (lv : Int), .slice A n c, .string hi, .bool la, .int .u64 (rt : Int)]] w fun e w' => e = .returned (.tuple #[]) ∧ Blk w' x 116 (wkv F fb fd nid (rp) 2 [.string key, .int .i64 (lvl : Int)]) ∧ Kept (fun i => i = x) w w' := by
 have p1 : decide ((lv : Int) < (lvl : Int)) = false := decide_eq_false (by omega)
 have p1' : ¬ (lv : Int) < (lvl : Int) := by omega
 have p2 : decide ((lvl : Int) < 0) = false := decide_eq_false (by omega)
 have p3 : decide ((lvl : Int) < (lv : Int)) = false := decide_eq_false (by omega)
 have p4 : lv ≤ lvl := by omega
 clear heq
 have HX := Hd h
 have HR := Hd hR
 have HA := Hd ha
 clear h hR ha
 go_enter Tryz.func71, Tryz.ntmps71
 go_wp2_with fail
 have hal := (Kept.refl (fun _ => False) w).alloc (.cells #[.int .i64 (lv : Int), .slice A n c, .string hi, .bool la, .int .u64 (rt : Int)] 38)
 have HK := Hd hal
 have HP := Hd (Blk.new w [.int .i64 (lv : Int), .slice A n c, .string hi, .bool la, .int .u64 (rt : Int)] 38)
 replace HX := Hd (hal.blk HX.out (fun h => h))
 replace HR := Hd (HR.out.keptF hal (fun _ _ h => h))
 clear hal
 generalize hr0 : w.heap.size = r0 at HP ⊢
 have HR0 := Hd hr0
 clear hr0
 generalize w.alloc (.cells #[.int .i64 (lv : Int), .slice A n c, .string hi, .bool la, .int .u64 (rt : Int)] 38) = W at *
 have HW := Hd (Kept.refl (fun _ => False) W)
 refine qregion (fun w' => Kept (fun _ => False) W w') (by kernel_rfl) (by kernel_rfl) HW.out.drew ?_
 refine tkQ 11 ?_ (fun wq hSw => ?_) ?_
 rotate_left
 ·(go_simp; try with_reducible rfl)
 try simp only [aP,aA,aZ,aS]
 refine tkQ 12 ?_ (fun wq hSw => ?_) ?_
 rotate_left
 ·(have hx9 := hSw.blk HX.out (fun h => h); have x14 := hx9.k 14 rfl; have hp9 := hSw.blk HP.out (fun h => h); have y0 := hp9.k 0 rfl; clear hx9 hp9; go_simp; try with_reducible rfl)
 try simp only [aP,aA,aZ,aS]
 refine tkQ 13 ?_ (fun wq hSw => ?_) ?_
 rotate_left
 ·(go_simp; try with_reducible rfl)
 try simp only [aP,aA,aZ,aS]
 refine tkQ 14 ?_ (fun wq hSw => ?_) ?_
 rotate_left
 ·(go_simp; try with_reducible rfl)
 try simp only [aP,aA,aZ,aS]
 refine tkQ 15 ?_ (fun wq hSw => ?_) ?_
 rotate_left
 ·(go_simp; try with_reducible rfl)
 try simp only [aP,aA,aZ,aS]
 refine tkQ 16 ?_ (fun wq hSw => ?_) ?_
 rotate_left
 ·(have hx9 := hSw.blk HX.out (fun h => h); have x14 := hx9.k 14 rfl; have hp9 := hSw.blk HP.out (fun h => h); have y0 := hp9.k 0 rfl; clear hx9 hp9; go_simp; try with_reducible rfl)
 try simp only [aP,aA,aZ,aS]
 refine tkQ 17 (.bool false) (fun wq hSw => ?_) ?_
 ·(go_simp; try first | (with_reducible rfl) | (simp; omega) | (intros; omega) | simp [*])
 try simp only [aP,aA,aZ,aS]
 refine tkQ 18 (.bool false) (fun wq hSw => ?_) ?_
 ·(go_simp; try first | (with_reducible rfl) | (simp; omega) | (intros; omega) | simp [*])
 try simp only [aP,aA,aZ,aS]
 refine tkQ 19 ?_ (fun wq hSw => ?_) ?_
 rotate_left
 ·(go_simp; try with_reducible rfl)
 try simp only [aP,aA,aZ,aS]
 refine tkQ 20 ?_ (fun wq hSw => ?_) ?_
 rotate_left
 ·(go_simp; try with_reducible rfl)
 try simp only [aP,aA,aZ,aS]
 refine tkQ 21 ?_ (fun wq hSw => ?_) ?_
 rotate_left
 ·(go_simp; try with_reducible rfl)
 try simp only [aP,aA,aZ,aS]
 refine tkQ 22 ?_ (fun wq hSw => ?_) ?_
 rotate_left
 ·(have hx9 := hSw.blk HX.out (fun h => h); have x14 := hx9.k 14 rfl; have hp9 := hSw.blk HP.out (fun h => h); have y0 := hp9.k 0 rfl; clear hx9 hp9; go_simp; try with_reducible rfl)
 try simp only [aP,aA,aZ,aS]
 refine tkQ 23 (.bool false) (fun wq hSw => ?_) ?_
 ·(go_simp; try first | (with_reducible rfl) | (simp; omega) | (intros; omega) | simp [*])
 try simp only [aP,aA,aZ,aS]
 refine tkQ 24 (.bool false) (fun wq hSw => ?_) ?_
 ·(go_simp; try first | (with_reducible rfl) | (simp; omega) | (intros; omega) | simp [*])
 try simp only [aP,aA,aZ,aS]
 refine tkQ 10 (.bool false) (fun wq hSw => ?_) ?_
 ·(go_simp; try first | (with_reducible rfl) | (simp; omega) | (intros; omega) | simp [*])
 try simp only [aP,aA,aZ,aS]
 refine wpQuiet_nil ?_
 intro wz hHeld
 replace HW := Hd hHeld
 clear hHeld
 go_wp2_with fail
 refine qregion (fun w' => Kept (fun _ => False) W w') (by kernel_rfl) (by kernel_rfl) HW.out.drew ?_
 refine tkQ 30 ?_ (fun wq hSw => ?_) ?_
 rotate_left
 ·(go_simp; try with_reducible rfl)
 try simp only [aP,aA,aZ,aS]
 refine tkQ 31 ?_ (fun wq hSw => ?_) ?_
 rotate_left
 ·(go_simp; try with_reducible rfl)
 try simp only [aP,aA,aZ,aS]
 refine tkQ 32 ?_ (fun wq hSw => ?_) ?_
 rotate_left
 ·(go_simp; try with_reducible rfl)
 try simp only [aP,aA,aZ,aS]
 refine tkQ 33 ?_ (fun wq hSw => ?_) ?_
 rotate_left
 ·(have hx9 := hSw.blk HX.out (fun h => h); have x13 := hx9.k 13 rfl; have hp9 := hSw.blk HP.out (fun h => h); have y2 := hp9.k 2 rfl; have y3 := hp9.k 3 rfl; clear hx9 hp9; go_simp; try with_reducible rfl)
 try simp only [aP,aA,aZ,aS]
 refine tkQ 34 ?_ (fun wq hSw => ?_) ?_
 rotate_left
 ·(go_simp; try with_reducible rfl)
 try simp only [aP,aA,aZ,aS]
 refine tkQ 35 ?_ (fun wq hSw => ?_) ?_
 rotate_left
 ·(have hx9 := hSw.blk HX.out (fun h => h); have x13 := hx9.k 13 rfl; have hp9 := hSw.blk HP.out (fun h => h); have y2 := hp9.k 2 rfl; have y3 := hp9.k 3 rfl; clear hx9 hp9; go_simp; try with_reducible rfl)
 try simp only [aP,aA,aZ,aS]
 refine tkQ 36 ?_ (fun wq hSw => ?_) ?_
 rotate_left
 ·(go_simp; try with_reducible rfl)
 try simp only [aP,aA,aZ,aS]
 refine tkQ 37 ?_ (fun wq hSw => ?_) ?_
 rotate_left
 ·(have hx9 := hSw.blk HX.out (fun h => h); have x13 := hx9.k 13 rfl; have hp9 := hSw.blk HP.out (fun h => h); have y2 := hp9.k 2 rfl; have y3 := hp9.k 3 rfl; clear hx9 hp9; go_simp; try with_reducible rfl)
 try simp only [aP,aA,aZ,aS]
 refine qcall (o := ⟨some 38, _, _, _, _, _⟩) (v := .bool true) (by rfl) (fun wq hSw => ?_) (fun wq hSw => Calls.mono (within_of key hi la true _ hwi) ?_) ?_
 ·(go_simp; try with_reducible rfl)
 ·rintro e w9 ⟨rfl, rfl⟩; exact ⟨rfl, hSw⟩
 try simp only [aP,aA,aZ,aS]
 refine tkQ 39 (.bool false) (fun wq hSw => ?_) ?_
 ·(go_simp; try first | (with_reducible rfl) | (simp; omega) | (intros; omega) | simp [*])
 try simp only [aP,aA,aZ,aS]
 refine tkQ 29 (.bool false) (fun wq hSw => ?_) ?_
 ·(go_simp; try first | (with_reducible rfl) | (simp; omega) | (intros; omega) | simp [*])
 try simp only [aP,aA,aZ,aS]
 refine wpQuiet_nil ?_
 intro wz hHeld
 replace HW := Hd hHeld
 clear hHeld
 go_wp2_with fail
 refine qregion (fun w' => Kept (fun _ => False) W w') (by kernel_rfl) (by kernel_rfl) HW.out.drew ?_
 refine tkQ 47 ?_ (fun wq hSw => ?_) ?_
 rotate_left
 ·(go_simp; try with_reducible rfl)
 try simp only [aP,aA,aZ,aS]
 refine tkQ 48 ?_ (fun wq hSw => ?_) ?_
 rotate_left
 ·(have hx9 := hSw.blk HX.out (fun h => h); have x14 := hx9.k 14 rfl; have hp9 := hSw.blk HP.out (fun h => h); have y0 := hp9.k 0 rfl; clear hx9 hp9; go_simp; try with_reducible rfl)
 try simp only [aP,aA,aZ,aS]
 refine tkQ 49 ?_ (fun wq hSw => ?_) ?_
 rotate_left
 ·(go_simp; try with_reducible rfl)
 try simp only [aP,aA,aZ,aS]
 refine tkQ 50 ?_ (fun wq hSw => ?_) ?_
 rotate_left
 ·(go_simp; try with_reducible rfl)
 try simp only [aP,aA,aZ,aS]
 refine tkQ 51 ?_ (fun wq hSw => ?_) ?_
 rotate_left
 ·(go_simp; try with_reducible rfl)
 try simp only [aP,aA,aZ,aS]
 refine tkQ 52 ?_ (fun wq hSw => ?_) ?_
 rotate_left
 ·(have hx9 := hSw.blk HX.out (fun h => h); have x14 := hx9.k 14 rfl; have hp9 := hSw.blk HP.out (fun h => h); have y0 := hp9.k 0 rfl; clear hx9 hp9; go_simp; try with_reducible rfl)
 try simp only [aP,aA,aZ,aS]
 refine tkQ 53 (.bool false) (fun wq hSw => ?_) ?_
 ·(go_simp; try first | (with_reducible rfl) | (simp; omega) | (intros; omega) | simp [*])
 try simp only [aP,aA,aZ,aS]
 refine tkQ 46 (.bool false) (fun wq hSw => ?_) ?_
 ·(go_simp; try first | (with_reducible rfl) | (simp; omega) | (intros; omega) | simp [*])
 try simp only [aP,aA,aZ,aS]
 refine wpQuiet_nil ?_
 intro wz hHeld
 replace HW := Hd hHeld
 clear hHeld
 go_wp2_with fail
 refine (arrive_any F fb fd x 116 nid rp ph [.string key, .int .i64 (lvl : Int)] _ (HW.out.blk HX.out (fun h => h))).mono ?_; rintro e w3 ⟨rfl, hB3, hK3⟩
 have HB3 := Hd hB3
 have HK3 := Hd (((HK.out.trans HW.out (fun _ _ h => h)).mono (T := fun i => i = x) (fun _ h => h.elim)).trans hK3 (fun _ _ h => h))
 clear hB3 hK3
 go_wp2
 go_end0
 exact ⟨rfl, HB3.out, HK3.out⟩
end
end Go.Proofs.YtjnodgebpklaoaaGreat
