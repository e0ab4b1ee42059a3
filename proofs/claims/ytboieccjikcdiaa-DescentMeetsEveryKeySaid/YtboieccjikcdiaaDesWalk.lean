/-
  The walk from node to node of package descent: a step at a time. Condition: the kit's small configurations; fewer than 2^63 accesses so far.
-/
import Derived.Test.YtboieccjikcdiaaDesMake
import Derived.Test.YtboieccjikcdiaaDesAlone
namespace Go.Proofs.Ytboieccjikcdiaa
open Go.RowKit Go.Deep Plain
set_option linter.unusedVariables false

/-- The cells of a walk at the head of a machine's block, with what lies behind them. -/
def wkv (F : Nat) (fb fd : Int) (nid : Nat) (rp : Value) (ph : Int) (tl : List Value) : List Value :=
  .int .i64 1 :: .int .i64 2 :: .int .i64 100 :: .int .i64 100 :: .int .i64 200 :: .int .i64 (F : Int) :: .int .u64 1000 :: .int .i64 10 :: .int .i64 fb :: .int .i64 fd :: .int .u64 (nid : Int) :: rp :: .int .i64 ph :: tl
set_option maxHeartbeats 1000000 in
theorem fail_any (F : Nat) (fb fd : Int) (x : Nat) (ty : TypeId) (nid : Nat) (rp : Value) (ph : Int) (tl : List Value) (w : World) (h : Blk w x ty (wkv F fb fd nid (rp) ph tl)) :
    Calls Try.prog 42 #[.pointer (some ⟨x, 0, none⟩)] w fun e w' => e = .returned (.tuple #[]) ∧ Blk w' x ty (wkv F fb fd nid (rp) 3 tl) ∧ Kept (fun i => i = x) w w' := by
  have x12 := h.cell (i := 12) rfl
  have z12 := h.frozen 12
  have HB := Lib.hid h
  clear h
  go_enter Try.func42, Try.ntmps42
  go_wp2
  go_end0
  exact ⟨rfl, HB.out.set 12 (.int .i64 3), (Kept.refl (fun i => i = x) w).setCell (a := ⟨x, 12, none⟩) (fun _ => rfl) _⟩

set_option maxHeartbeats 1000000 in
theorem arrive_any (F : Nat) (fb fd : Int) (x : Nat) (ty : TypeId) (nid : Nat) (rp : Value) (ph : Int) (tl : List Value) (w : World) (h : Blk w x ty (wkv F fb fd nid (rp) ph tl)) :
    Calls Try.prog 57 #[.pointer (some ⟨x, 0, none⟩)] w fun e w' => e = .returned (.tuple #[]) ∧ Blk w' x ty (wkv F fb fd nid (rp) 2 tl) ∧ Kept (fun i => i = x) w w' := by
  have x12 := h.cell (i := 12) rfl
  have z12 := h.frozen 12
  have HB := Lib.hid h
  clear h
  go_enter Try.func57, Try.ntmps57
  go_wp2
  go_end0
  exact ⟨rfl, HB.out.set 12 (.int .i64 2), (Kept.refl (fun i => i = x) w).setCell (a := ⟨x, 12, none⟩) (fun _ => rfl) _⟩

set_option maxHeartbeats 1000000 in
theorem ended_0 (F : Nat) (fb fd : Int) (x : Nat) (ty : TypeId) (nid : Nat) (rp : Value) (tl : List Value) (w : World) (h : Blk w x ty (wkv F fb fd nid (rp) 0 tl)) :
    Calls Try.prog 35 #[.pointer (some ⟨x, 0, none⟩)] w fun e w' => e = .returned (.bool false) ∧ w = w' := by
  have x12 := h.cell (i := 12) rfl
  clear h
  go_enter Try.func35, Try.ntmps35
  go_wp2
  go_ret
  exact ⟨rfl, rfl⟩

set_option maxHeartbeats 1000000 in
theorem ended_1 (F : Nat) (fb fd : Int) (x : Nat) (ty : TypeId) (nid : Nat) (rp : Value) (tl : List Value) (w : World) (h : Blk w x ty (wkv F fb fd nid (rp) 1 tl)) :
    Calls Try.prog 35 #[.pointer (some ⟨x, 0, none⟩)] w fun e w' => e = .returned (.bool false) ∧ w = w' := by
  have x12 := h.cell (i := 12) rfl
  clear h
  go_enter Try.func35, Try.ntmps35
  go_wp2
  go_ret
  exact ⟨rfl, rfl⟩

set_option maxHeartbeats 1000000 in
theorem ended_2 (F : Nat) (fb fd : Int) (x : Nat) (ty : TypeId) (nid : Nat) (rp : Value) (tl : List Value) (w : World) (h : Blk w x ty (wkv F fb fd nid (rp) 2 tl)) :
    Calls Try.prog 35 #[.pointer (some ⟨x, 0, none⟩)] w fun e w' => e = .returned (.bool true) ∧ w = w' := by
  have x12 := h.cell (i := 12) rfl
  clear h
  go_enter Try.func35, Try.ntmps35
  go_wp2
  go_ret
  exact ⟨rfl, rfl⟩

set_option maxHeartbeats 1000000 in
theorem ended_3 (F : Nat) (fb fd : Int) (x : Nat) (ty : TypeId) (nid : Nat) (rp : Value) (tl : List Value) (w : World) (h : Blk w x ty (wkv F fb fd nid (rp) 3 tl)) :
    Calls Try.prog 35 #[.pointer (some ⟨x, 0, none⟩)] w fun e w' => e = .returned (.bool true) ∧ w = w' := by
  have x12 := h.cell (i := 12) rfl
  clear h
  go_enter Try.func35, Try.ntmps35
  go_wp2
  go_ret
  exact ⟨rfl, rfl⟩

set_option maxHeartbeats 1000000 in
theorem goTo_some (F : Nat) (h4 : 4 ≤ F) (h6 : F ≤ 6) (fb fd : Int) (hd : Reach3 10 fb fd) (x : Nat) (ty : TypeId) (nid : Nat) (rp : Value) (ph : Int) (tl : List Value) (w : World) (h : Blk w x ty (wkv F fb fd nid (rp) ph tl)) (n : Nat) (hn0 : n ≠ 0) :
    Calls Try.prog 51 #[.pointer (some ⟨x, 0, none⟩), .int .u64 (n : Int)] w fun e w' => ∃ q, e = .returned (.tuple #[]) ∧ Blk w' x ty (wkv F fb fd n (.pointer (some ⟨q, 0, none⟩)) 1 tl) ∧ Con (fun i => i = q) w' 1 2 100 100 200 F 1000 10 fb fd q 121 n cs0 [.int .u64 0, .int .i64 0] ∧ w.heap.size ≤ q ∧ Kept (fun i => i = x) w w' := by
  have p0 : ((n : Int) == 0) = false := by simp; omega
  have x0 := h.cell (i := 0) rfl
  have x1 := h.cell (i := 1) rfl
  have x2 := h.cell (i := 2) rfl
  have x3 := h.cell (i := 3) rfl
  have x4 := h.cell (i := 4) rfl
  have x5 := h.cell (i := 5) rfl
  have x6 := h.cell (i := 6) rfl
  have x7 := h.cell (i := 7) rfl
  have x8 := h.cell (i := 8) rfl
  have x9 := h.cell (i := 9) rfl
  have HB := Lib.hid h
  clear h
  go_enter Try.func51, Try.ntmps51
  go_wp2_with fail
  refine (newRead_any 1 2 100 100 200 F 1000 10 fb fd (limF h4 h6) hd n _).mono ?_; rintro e w1 ⟨q, rfl, hC1, hq1, hK1⟩
  have HB1 := Lib.hid (hK1.blk HB.out (fun h => h))
  have hxl := HB.out.lt
  have hb1 := HB1.out
  have y10 := hb1.cell (i := 10) rfl
  have y11 := hb1.cell (i := 11) rfl
  have y12 := hb1.cell (i := 12) rfl
  have z10 := hb1.frozen 10
  have z11 := hb1.frozen 11
  have z12 := hb1.frozen 12
  have HT := Lib.hid (((hb1.set 10 (.int .u64 (n : Int))).set 11 (.pointer (some ⟨q, 0, none⟩))).set 12 (.int .i64 1))
  have hK2 := (((Kept.refl (fun i => i = x) w1).setCell (a := ⟨x, 10, none⟩) (fun _ => rfl) (.int .u64 (n : Int))).setCell (a := ⟨x, 11, none⟩) (fun _ => rfl) (.pointer (some ⟨q, 0, none⟩))).setCell (a := ⟨x, 12, none⟩) (fun _ => rfl) (.int .i64 1)
  have HC2 := Lib.hid (hC1.kept hK2 (fun i hi e => by omega))
  have HK2 := Lib.hid ((hK1.mono (T := fun i => i = x) (fun _ h => h.elim)).trans hK2 (fun _ _ h => h))
  have HQ := Lib.hid hq1
  clear hb1 hC1 hq1 hK1 hK2 hxl HB HB1 x0 x1 x2 x3 x4 x5 x6 x7 x8 x9
  go_wp2
  go_end0
  exact ⟨q, rfl, HT.out, HC2.out, HQ.out, HK2.out⟩

set_option maxHeartbeats 2000000 in
theorem wpage_any (Z : Nat → Prop) (F : Nat) (fb fd : Int) (x : Nat) (ty : TypeId) (nid q : Nat) (ph : Int) (tl : List Value) (w : World) (h : Blk w x ty (wkv F fb fd nid (.pointer (some ⟨q, 0, none⟩)) ph tl)) (y : Rst) (hr : Con Z w 1 2 100 100 200 F 1000 10 fb fd q 121 nid y.s (rtl y)) (hph : y.ph = 3) (h40 : y.s.xs.length ≤ 1099511627776) :
    Calls Try.prog 34 #[.pointer (some ⟨x, 0, none⟩)] w fun e w' => ∃ A c, e = .returned (.agg #[.int .i64 (y.s.lv : Int), .slice A y.s.xs.length c, .string y.s.hi, .bool y.s.la, .int .u64 (y.s.rt : Int)]) ∧ Rs w' A c y.s.xs ∧ (∀ a, A = some a → w.heap.size ≤ a.block) ∧ Kept (fun _ => False) w w' := by
  have x11 := h.cell (i := 11) rfl
  have HR := Lib.hid hr
  have HX := Lib.hid h
  have y11 := (h.alloc (.cells #[.int .i64 0, .slice none 0 0, .string ⟨#[]⟩, .bool false, .int .u64 0] 43)).cell (i := 11) rfl
  clear h hr x11
  go_enter Try.func34, Try.ntmps34
  go_wp2_with fail
  clear y11
  have hal := (Kept.refl (fun _ => False) w).alloc (.cells #[.int .i64 0, .slice none 0 0, .string ⟨#[]⟩, .bool false, .int .u64 0] 43)
  have HK1 := Lib.hid hal
  have HNB := Lib.hid (Blk.new w [.int .i64 0, .slice none 0 0, .string ⟨#[]⟩, .bool false, .int .u64 0] 43)
  have HR1 := Lib.hid (HR.out.kept hal (fun _ _ h => h))
  replace HX := Lib.hid (hal.blk HX.out (fun h => h))
  clear hal HR
  have hsz : w.heap.size < (w.alloc (.cells #[.int .i64 0, .slice none 0 0, .string ⟨#[]⟩, .bool false, .int .u64 0] 43)).heap.size := by rw [nblk_alloc]; omega
  generalize hr0 : w.heap.size = r0 at *
  have HR0 := Lib.hid hr0
  clear hr0
  generalize w.alloc (.cells #[.int .i64 0, .slice none 0 0, .string ⟨#[]⟩, .bool false, .int .u64 0] 43) = W at *
  refine (rpage_any Z 1 2 100 100 200 F 1000 10 fb fd q nid y W HR1.out hph h40).mono ?_; rintro e w2 ⟨A, c, rfl, hRs, hA, hK2⟩
  have hb2 := hK2.blk HNB.out (fun h => h)
  have z0 := hb2.frozen 0
  have z1 := hb2.frozen 1
  have z2 := hb2.frozen 2
  have z3 := hb2.frozen 3
  have z4 := hb2.frozen 4
  have x0 := hb2.cell (i := 0) rfl
  have x1 := hb2.cell (i := 1) rfl
  have x2 := hb2.cell (i := 2) rfl
  have x3 := hb2.cell (i := 3) rfl
  have x4 := hb2.cell (i := 4) rfl
  have hB5 := (((((hb2.set 0 (.int .i64 (y.s.lv : Int))).set 1 (.slice A y.s.xs.length c)).set 2 (.string y.s.hi)).set 3 (.bool y.s.la)).set 4 (.int .u64 (y.s.rt : Int)))
  have hK5 := (((((Kept.refl (fun i => i = r0) w2).setCell (a := ⟨r0, 0, none⟩) (fun _ => rfl) (.int .i64 (y.s.lv : Int))).setCell (a := ⟨r0, 1, none⟩) (fun _ => rfl) (.slice A y.s.xs.length c)).setCell (a := ⟨r0, 2, none⟩) (fun _ => rfl) (.string y.s.hi)).setCell (a := ⟨r0, 3, none⟩) (fun _ => rfl) (.bool y.s.la)).setCell (a := ⟨r0, 4, none⟩) (fun _ => rfl) (.int .u64 (y.s.rt : Int))
  have HRs := Lib.hid (hRs.keptF hK5 (fun a ha e => by have := hA a ha; omega))
  have HKK := Lib.hid (((HK1.out.trans hK2 (fun _ _ h => h)).mono (T := fun i => i = r0) (fun _ h => h.elim)).trans hK5 (fun _ _ h => h))
  have HA := Lib.hid hA
  have HB5 := Lib.hid hB5
  clear hB5 hK5 hRs hA hK2 hb2 HNB HK1 HR1
  go_wp2
  have q0 := HB5.out.cell (i := 0) rfl
  have q1 := HB5.out.cell (i := 1) rfl
  have q2 := HB5.out.cell (i := 2) rfl
  have q3 := HB5.out.cell (i := 3) rfl
  have q4 := HB5.out.cell (i := 4) rfl
  refine bodyPost_ret (v := .agg #[.int .i64 (y.s.lv : Int), .slice A y.s.xs.length c, .string y.s.hi, .bool y.s.la, .int .u64 (y.s.rt : Int)]) ?_ rfl ?_
  · simp [results, Try.results34, go_sem, q0, q1, q2, q3, q4]
  refine ⟨A, c, rfl, HRs.out, fun a ha => by have := HA.out a ha; have := HR0.out; omega, ?_⟩
  exact ⟨HKK.out.os, HKK.out.tape, HKK.out.output, HKK.out.size, fun i hi _ => HKK.out.block i hi (fun e => by have := HR0.out; omega)⟩

set_option maxHeartbeats 2000000 in
theorem wstep_root (F : Nat) (h4 : 4 ≤ F) (h6 : F ≤ 6) (fb fd : Int) (hd : Reach3 10 fb fd) (x : Nat) (ty : TypeId) (nid : Nat) (rp : Value) (tl : List Value) (w : World) (h : Blk w x ty (wkv F fb fd nid (rp) 0 tl)) (b g : Nat) (l : List Cel) (k : Nat) (hm : Mem w b g l k) (hk : k < 9223372036854775808) (hxb : x ≠ b) (hxg : x ≠ g) (n : Nat) (hn0 : n ≠ 0) (mM : Int) (kK : ByteArray) (hc : cellAt l 0 = ((n : Int), kK, mM)) :
    Calls Try.prog 32 #[.pointer (some ⟨x, 0, none⟩), .pointer (some ⟨b, 0, none⟩)] w fun e w' => ∃ q, e = .returned (.bool false) ∧ Mem w' b g l (k + 1) ∧ Blk w' x ty (wkv F fb fd n (.pointer (some ⟨q, 0, none⟩)) 1 tl) ∧ Con (fun i => i = q) w' 1 2 100 100 200 F 1000 10 fb fd q 121 n cs0 [.int .u64 0, .int .i64 0] ∧ w.heap.size ≤ q ∧ Kept (fun i => i = x ∨ i = b ∨ i = g) w w' := by
  have x0 := h.cell (i := 0) rfl
  have x1 := h.cell (i := 1) rfl
  have x2 := h.cell (i := 2) rfl
  have x3 := h.cell (i := 3) rfl
  have x4 := h.cell (i := 4) rfl
  have x5 := h.cell (i := 5) rfl
  have x6 := h.cell (i := 6) rfl
  have x7 := h.cell (i := 7) rfl
  have x8 := h.cell (i := 8) rfl
  have x9 := h.cell (i := 9) rfl
  have x12 := h.cell (i := 12) rfl
  have HB := Lib.hid h
  have HM := Lib.hid hm
  have HC := Lib.hid hc
  have hfd := field0 (n : Int) mM kK
  clear h hm hc
  go_enter Try.func32, Try.ntmps32
  go_wp2_with fail
  refine (root_any 1 2 100 100 200 (F : Int) 1000 10 fb fd _).mono ?_; rintro e w1 ⟨rfl, hK1⟩
  replace HB := Lib.hid (hK1.blk HB.out (fun h => h))
  replace HM := Lib.hid (HM.out.kept hK1 (fun h => h) (fun h => h))
  have HK1 := Lib.hid hK1
  clear hK1
  go_wp2_with fail
  refine (load_any b g l k 0 (n : Int) mM kK _ HM.out hk HC.out).mono ?_; rintro e w2 ⟨rfl, hM2, hK2⟩
  have hB2 := hK2.blk HB.out (fun e => by rcases e with e | e <;> omega)
  have HM2 := Lib.hid hM2
  have HK2 := Lib.hid ((HK1.out.mono (T := Own b g) (fun _ h => h.elim)).trans hK2 (fun _ _ h => h))
  have HB2 := Lib.hid hB2
  have hxl := HB.out.lt
  clear hM2 hK2 hB2 HM HC HK1 x0 x1 x2 x3 x4 x5 x6 x7 x8 x9 x12 HB
  go_wp2_with fail
  refine (goTo_some F h4 h6 fb fd hd x ty nid rp 0 tl _ HB2.out n hn0).mono ?_; rintro e w3 ⟨q, rfl, hB3, hC3, hq3, hK3⟩
  have HM3 := Lib.hid (HM2.out.kept hK3 (fun e => hxb e.symm) (fun e => hxg e.symm))
  have HB3 := Lib.hid hB3
  have HC3 := Lib.hid hC3
  have HQ := Lib.hid (Nat.le_trans HK2.out.size hq3)
  have HK3 := Lib.hid ((HK2.out.mono (T := fun i => i = x ∨ i = b ∨ i = g) (fun i e => .inr e)).trans hK3 (fun _ _ h => .inl h))
  clear hB3 hC3 hq3 hK3 HM2 HK2 HB2
  go_wp2
  go_ret
  exact ⟨q, rfl, HM3.out, HB3.out, HC3.out, HQ.out, HK3.out⟩

set_option maxHeartbeats 1000000 in
theorem wstep_read (F : Nat) (fb fd : Int) (x : Nat) (ty : TypeId) (nid q b : Nat) (tl : List Value) (w : World) (h : Blk w x ty (wkv F fb fd nid (.pointer (some ⟨q, 0, none⟩)) 1 tl)) (r : Bool) (Q : World → Prop) (hS : Calls Try.prog 54 #[.pointer (some ⟨q, 0, none⟩), .pointer (some ⟨b, 0, none⟩)] w fun e w' => e = .returned (.bool r) ∧ Q w') :
    Calls Try.prog 32 #[.pointer (some ⟨x, 0, none⟩), .pointer (some ⟨b, 0, none⟩)] w fun e w' => e = .returned (.bool r) ∧ Q w' := by
  have x11 := h.cell (i := 11) rfl
  have x12 := h.cell (i := 12) rfl
  have HS := Lib.hid hS
  clear h hS
  go_enter Try.func32, Try.ntmps32
  go_wp2_with fail
  refine HS.out.mono ?_; rintro e w1 ⟨rfl, hQ⟩
  have HQ := Lib.hid hQ
  clear hQ
  go_wp2
  go_ret
  exact ⟨rfl, HQ.out⟩

set_option maxHeartbeats 1000000 in
theorem wstep_failed (F : Nat) (fb fd : Int) (x : Nat) (ty : TypeId) (nid : Nat) (rp : Value) (b : Nat) (tl : List Value) (w : World) (h : Blk w x ty (wkv F fb fd nid (rp) 3 tl)) :
    Calls Try.prog 32 #[.pointer (some ⟨x, 0, none⟩), .pointer (some ⟨b, 0, none⟩)] w fun e w' => e = .returned (.bool false) ∧ w = w' := by
  have x12 := h.cell (i := 12) rfl
  clear h
  go_enter Try.func32, Try.ntmps32
  go_wp2
  go_ret
  exact ⟨rfl, rfl⟩

end Go.Proofs.Ytboieccjikcdiaa
