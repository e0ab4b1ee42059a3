/-
  What the machine Lookup of package chain does, a step at a time. Condition: a layout within its limits; fewer than 2^63 accesses so far.
-/
import Derived.Test.YtpamjbjgckaedaaChnSea
import Derived.Test.YtpamjbjgckaedaaChnCut
namespace Go.Proofs.Ytpamjbjgckaedaa
open Go.RowKit Go.Deep Plain
set_option linter.unusedVariables false

set_option maxHeartbeats 1000000 in
theorem newLookup_any (T S N C R F K fa fb fd : Int) (c t : Nat) (w : World) :
    Calls Try.prog 30 #[.agg #[.int .i64 T, .int .i64 S, .int .i64 N, .int .i64 C, .int .i64 R, .int .i64 F, .int .u64 K, .int .i64 fa, .int .i64 fb, .int .i64 fd], .int .u64 (c : Int), .int .u64 (t : Int)] w fun e w' => ∃ q, e = .returned (.pointer (some ⟨q, 0, none⟩)) ∧ w.heap.size ≤ q ∧ Blk w' q 105 (srcv T S N C R F K fa fb fd c t 0 0 0 0 [.string ⟨#[]⟩, .bool false, .bool false]) ∧ Kept (fun _ => False) w w' := by
  go_enter Try.func30, Try.ntmps30
  go_wp2
  go_ret
  have h := Blk.new (w.alloc (.cells #[.int .i64 T, .int .i64 S, .int .i64 N, .int .i64 C, .int .i64 R, .int .i64 F, .int .u64 K, .int .i64 fa, .int .i64 fb, .int .i64 fd] 27)) (srcv T S N C R F K fa fb fd c t 0 0 0 0 [.string ⟨#[]⟩, .bool false, .bool false]) 105
  rw [nblk_alloc] at h
  exact ⟨_, rfl, Nat.le_succ _, h, ((Kept.refl _ _).alloc _).alloc _⟩

set_option maxHeartbeats 1000000 in
theorem lvalue_get (T S N C R F K fa fb fd : Int) (q c t nw rc st ph : Nat) (v : ByteArray) (ok fin : Bool) (w : World) (h : Blk w q 105 (srcv T S N C R F K fa fb fd c t nw rc st ph [.string v, .bool ok, .bool fin])) :
    Calls Try.prog 33 #[.pointer (some ⟨q, 0, none⟩)] w fun e w' => e = .returned (.tuple #[.string v, .bool ok]) ∧ Kept (fun _ => False) w w' := by
  have x16 := h.cell (i := 16) rfl
  have x17 := h.cell (i := 17) rfl
  clear h
  go_enter Try.func33, Try.ntmps33
  go_wp2_with fail
  go_quiet (fail)
  go_wp2
  go_ret2
  exact ⟨rfl, (Kept.refl _ _).drewN _⟩

set_option maxHeartbeats 1000000 in
theorem lstep_fin (T S N C R F K fa fb fd : Int) (q c t nw rc st ph m : Nat) (v : ByteArray) (ok : Bool) (w : World) (h : Blk w q 105 (srcv T S N C R F K fa fb fd c t nw rc st ph [.string v, .bool ok, .bool true])) :
    Calls Try.prog 32 #[.pointer (some ⟨q, 0, none⟩), .pointer (some ⟨m, 0, none⟩)] w fun e w' => e = .returned (.bool true) ∧ w = w' := by
  have x18 := h.cell (i := 18) rfl
  clear h
  go_enter Try.func32, Try.ntmps32
  go_wp2
  go_ret
  exact ⟨rfl, rfl⟩

set_option maxHeartbeats 2000000 in
theorem lstep_load (T S N C R F K fa fb fd : Int) (hl : Lim T S N C R F) (hd : Reach3 fa fb fd) (q c t nw rc st ph : Nat) (v : ByteArray) (ok : Bool) (w : World) (h : Blk w q 105 (srcv T S N C R F K fa fb fd c t nw rc st ph [.string v, .bool ok, .bool false])) (hph : ph = 3) (b g : Nat) (l : List Cel) (k : Nat) (hm : Mem w b g l k) (hqb : q ≠ b) (hqg : q ≠ g) (hk : k < 9223372036854775808) (ad : Int) (had : recAt R fd (rc : Int) 1 = ad) (vN : Int) (vM : Nat) (vK : ByteArray) (hc : cellAt l ad = (vN, vK, (vM : Int))) (dd : Bool) (hdd : (vM == 1) = dd) (s : ByteArray) (bb : Bool) (hv : val t [((st, vK, dd) : Ve)] = (s, bb)) :
    Calls Try.prog 32 #[.pointer (some ⟨q, 0, none⟩), .pointer (some ⟨b, 0, none⟩)] w fun e w' => e = .returned (.bool true) ∧ Mem w' b g l (k + 1) ∧ Blk w' q 105 (srcv T S N C R F K fa fb fd c t nw rc st ph [.string s, .bool bb, .bool true]) ∧ Kept (Own3 q b g) w w' := by
  have hp : ph = 3 := hph
  have p3 : ((ph : Int) == 3) = true := by simp; omega
  have x15 := h.cell (i := 15) rfl
  have x18 := h.cell (i := 18) rfl
  have HB := Lib.hid h
  have HM := Lib.hid hm
  have HC := Lib.hid hc
  have HV := Lib.hid hv
  clear h hm hc hv
  go_enter Try.func32, Try.ntmps32
  go_wp2_with fail
  clear x15 x18
  have HQc := Lib.hid (HB.out.of (w' := w.drew) rfl)
  have HMc := Lib.hid HM.out.drew
  have HKc := Lib.hid ((Kept.refl (Own3 q b g) w).drew)
  clear HB HM
  have hqo : ¬ Own b g q := by unfold Own; omega
  refine wp_region_held_drew (S := (fun w' => w'.cell? ⟨q, 11, none⟩ = some (.int .u64 (t : Int)))) (by kernel_rfl) ?_ (fun hHeld => ?_)
  · exact HQc.out.cell (i := 11) rfl
  generalize w.drew = G at *
  refine wpAnyH_take (i := 0) (oi := ⟨some 27, _, _, _, _, _⟩) (v := ?_) rfl (by kernel_rfl) (by kernel_rfl) (by kernel_rfl) (fun _ _ _ h => h) (Or.inl ⟨by rfl, ?_⟩) hHeld ?_
  rotate_left
  · (intro wq hSw; go_simp; try with_reducible rfl)
  try simp only [Act.put, List.setIfInBounds_toArray, List.set_cons_zero, List.set_cons_succ]
  refine wpAnyH_take (i := 1) (oi := ⟨some 28, _, _, _, _, _⟩) (v := ?_) rfl (by kernel_rfl) (by kernel_rfl) (by kernel_rfl) (fun _ _ _ h => h) (Or.inl ⟨by rfl, ?_⟩) hHeld ?_
  rotate_left
  · (intro wq hSw; go_simp; try with_reducible rfl)
  try simp only [Act.put, List.setIfInBounds_toArray, List.set_cons_zero, List.set_cons_succ]
  refine wpAnyH_take (i := 2) (oi := ⟨some 29, _, _, _, _, _⟩) (v := ?_) rfl (by kernel_rfl) (by kernel_rfl) (by kernel_rfl) (fun _ _ _ h => h) (Or.inl ⟨by rfl, ?_⟩) hHeld ?_
  rotate_left
  · (intro wq hSw; go_simp; try with_reducible rfl)
  try simp only [Act.put, List.setIfInBounds_toArray, List.set_cons_zero, List.set_cons_succ]
  refine wpAnyH_take (i := 3) (oi := ⟨some 30, _, _, _, _, _⟩) (v := ?_) rfl (by kernel_rfl) (by kernel_rfl) (by kernel_rfl) (fun _ _ _ h => h) (Or.inl ⟨by rfl, ?_⟩) hHeld ?_
  rotate_left
  · (intro wq hSw; go_simp; try with_reducible rfl)
  try simp only [Act.put, List.setIfInBounds_toArray, List.set_cons_zero, List.set_cons_succ]
  refine wpAnyH_take (i := 4) (oi := ⟨some 31, _, _, _, _, _⟩) (v := ?_) rfl (by kernel_rfl) (by kernel_rfl) (by kernel_rfl) (fun _ _ _ h => h) (Or.inl ⟨by rfl, ?_⟩) hHeld ?_
  rotate_left
  · (intro wq hSw; go_simp; try with_reducible rfl)
  try simp only [Act.put, List.setIfInBounds_toArray, List.set_cons_zero, List.set_cons_succ]
  refine wpAnyH_take (i := 5) (oi := ⟨some 32, _, _, _, _, _⟩) (v := ?_) rfl (by kernel_rfl) (by kernel_rfl) (by kernel_rfl) (fun _ _ _ h => h) (Or.inl ⟨by rfl, ?_⟩) hHeld ?_
  rotate_left
  · (intro wq hSw; go_simp; try with_reducible rfl)
  try simp only [Act.put, List.setIfInBounds_toArray, List.set_cons_zero, List.set_cons_succ]
  refine wpAnyH_take (i := 7) (oi := ⟨some 34, _, _, _, _, _⟩) (v := ?_) rfl (by kernel_rfl) (by kernel_rfl) (by kernel_rfl) (fun _ _ _ h => h) (Or.inl ⟨by rfl, ?_⟩) hHeld ?_
  rotate_left
  · (intro wq hSw; go_simp; try with_reducible rfl)
  try simp only [Act.put, List.setIfInBounds_toArray, List.set_cons_zero, List.set_cons_succ]
  refine wpAnyH_take (i := 8) (oi := ⟨some 35, _, _, _, _, _⟩) (v := ?_) rfl (by kernel_rfl) (by kernel_rfl) (by kernel_rfl) (fun _ _ _ h => h) (Or.inl ⟨by rfl, ?_⟩) hHeld ?_
  rotate_left
  · (intro wq hSw; go_simp; try with_reducible rfl)
  try simp only [Act.put, List.setIfInBounds_toArray, List.set_cons_zero, List.set_cons_succ]
  refine wpAnyH_take (i := 9) (oi := ⟨some 36, _, _, _, _, _⟩) (v := ?_) rfl (by kernel_rfl) (by kernel_rfl) (by kernel_rfl) (fun _ _ _ h => h) (Or.inl ⟨by rfl, ?_⟩) hHeld ?_
  rotate_left
  · (intro wq hSw; go_simp; try with_reducible rfl)
  try simp only [Act.put, List.setIfInBounds_toArray, List.set_cons_zero, List.set_cons_succ]
  refine wpAnyH_take (i := 10) (oi := ⟨some 37, _, _, _, _, _⟩) (v := ?_) rfl (by kernel_rfl) (by kernel_rfl) (by kernel_rfl) (fun _ _ _ h => h) (Or.inl ⟨by rfl, ?_⟩) hHeld ?_
  rotate_left
  · (intro wq hSw; go_simp; try with_reducible rfl)
  try simp only [Act.put, List.setIfInBounds_toArray, List.set_cons_zero, List.set_cons_succ]
  refine wpAnyH_take (i := 11) (oi := ⟨some 38, _, _, _, _, _⟩) (v := ?_) rfl (by kernel_rfl) (by kernel_rfl) (by kernel_rfl) (fun _ _ _ h => h) (Or.inl ⟨by rfl, ?_⟩) hHeld ?_
  rotate_left
  · (intro wq hSw; have x11 := hSw; go_simp; try with_reducible rfl)
  try simp only [Act.put, List.setIfInBounds_toArray, List.set_cons_zero, List.set_cons_succ]
  refine wpAnyH_ready (rs := [6]) (by kernel_rfl) (by simp) ?_
  refine AllReadyH.cons (o := ⟨some 33, _, _, _, _, _⟩) rfl (fun KK hK => ?_) AllReadyH.nil
  go_simp
  go_at_call 39
  refine (sload_any T S N C R F K fa fb fd hl hd q 105 c t nw rc st ph _ _ HQc.out b g l k HMc.out hqb hqg hk ad had vN vM vK HC.out dd hdd).mono ?_; rintro e w1 ⟨g2, rfl, hR1, hM1, hQ1, hK1⟩
  replace HQc := Lib.hid hQ1
  replace HMc := Lib.hid hM1
  replace HKc := Lib.hid (HKc.out.trans hK1 (fun _ _ h => .inr h))
  have HR := Lib.hid hR1
  clear hR1 hM1 hQ1 hK1
  refine hK.out _ _ ?_ (fun hHeld2 => ?_)
  · exact HQc.out.cell (i := 11) rfl
  clear hK KK hHeld
  have hHeld := hHeld2
  clear hHeld2
  try simp only [Act.put, List.setIfInBounds_toArray, List.set_cons_zero, List.set_cons_succ]
  refine wpAnyH_ready (rs := [12]) (by kernel_rfl) (by simp) ?_
  refine AllReadyH.cons (o := ⟨some 39, _, _, _, _, _⟩) rfl (fun KK hK => ?_) AllReadyH.nil
  go_simp
  go_at_call 54
  refine (value_any _ 1 [((st, vK, dd) : Ve)] t _ 1 rfl (by omega) HR.out s bb HV.out).mono ?_; rintro e w2 ⟨rfl, hB2⟩
  have hK2 := keptNone hB2
  replace HQc := Lib.hid (hK2.blk HQc.out (fun h => h))
  replace HMc := Lib.hid (HMc.out.kept hK2 (fun h => h) (fun h => h))
  replace HKc := Lib.hid (keepBoth HKc.out hK2)
  have hQ2 := HQc.out
  have x16 := hQ2.cell (i := 16) rfl
  have z16 := hQ2.frozen 16
  have x17 := hQ2.cell (i := 17) rfl
  have z17 := hQ2.frozen 17
  have x18 := hQ2.cell (i := 18) rfl
  have z18 := hQ2.frozen 18
  clear hB2 hK2 hQ2
  refine hK.out _ _ ?_ (fun hHeld2 => ?_)
  · exact HQc.out.cell (i := 11) rfl
  clear hK KK hHeld
  have hHeld := hHeld2
  clear hHeld2
  try simp only [Act.put, List.setIfInBounds_toArray, List.set_cons_zero, List.set_cons_succ]
  refine wpAnyH_take (i := 13) (oi := ⟨some 26, _, _, _, _, _⟩) (v := ?_) rfl (by kernel_rfl) (by kernel_rfl) (by kernel_rfl) (fun _ _ _ h => h) (Or.inl ⟨by rfl, ?_⟩) hHeld ?_
  rotate_left
  · (intro wq hSw; go_simp; try with_reducible rfl)
  try simp only [Act.put, List.setIfInBounds_toArray, List.set_cons_zero, List.set_cons_succ]
  refine wpAnyH_take (i := 14) (oi := ⟨some 40, _, _, _, _, _⟩) (v := ?_) rfl (by kernel_rfl) (by kernel_rfl) (by kernel_rfl) (fun _ _ _ h => h) (Or.inl ⟨by rfl, ?_⟩) hHeld ?_
  rotate_left
  · (intro wq hSw; go_simp; try with_reducible rfl)
  try simp only [Act.put, List.setIfInBounds_toArray, List.set_cons_zero, List.set_cons_succ]
  refine wpAnyH_take (i := 15) (oi := ⟨some 41, _, _, _, _, _⟩) (v := ?_) rfl (by kernel_rfl) (by kernel_rfl) (by kernel_rfl) (fun _ _ _ h => h) (Or.inl ⟨by rfl, ?_⟩) hHeld ?_
  rotate_left
  · (intro wq hSw; go_simp; try with_reducible rfl)
  try simp only [Act.put, List.setIfInBounds_toArray, List.set_cons_zero, List.set_cons_succ]
  refine wpAnyH_take (i := 16) (oi := ⟨some 42, _, _, _, _, _⟩) (v := ?_) rfl (by kernel_rfl) (by kernel_rfl) (by kernel_rfl) (fun _ _ _ h => h) (Or.inl ⟨by rfl, ?_⟩) hHeld ?_
  rotate_left
  · (intro wq hSw; go_simp; try with_reducible rfl)
  try simp only [Act.put, List.setIfInBounds_toArray, List.set_cons_zero, List.set_cons_succ]
  refine wpAnyH_take (i := 17) (oi := ⟨some 43, _, _, _, _, _⟩) (v := ?_) rfl (by kernel_rfl) (by kernel_rfl) (by kernel_rfl) (fun _ _ _ h => h) (Or.inl ⟨by rfl, ?_⟩) hHeld ?_
  rotate_left
  · (intro wq hSw; go_simp; try with_reducible rfl)
  try simp only [Act.put, List.setIfInBounds_toArray, List.set_cons_zero, List.set_cons_succ]
  refine wpAnyH_ready (rs := [18]) (by kernel_rfl) (by simp) ?_
  refine AllReadyH.cons (o := ⟨none, _, _, _, _, _⟩) rfl (fun KK hK => ?_) AllReadyH.nil
  go_simp
  replace HQc := Lib.hid (HQc.out.set 16 (.string s))
  replace HMc := Lib.hid (HMc.out.farq hqo 16 (.string s))
  replace HKc := Lib.hid (HKc.out.setCell (a := ⟨q, 16, none⟩) (fun _ => .inl rfl) (.string s))
  refine hK.out _ _ ?_ (fun hHeld2 => ?_)
  · exact HQc.out.cell (i := 11) rfl
  clear hK KK hHeld
  have hHeld := hHeld2
  clear hHeld2
  try simp only [Act.put, List.setIfInBounds_toArray, List.set_cons_zero, List.set_cons_succ]
  refine wpAnyH_take (i := 19) (oi := ⟨some 44, _, _, _, _, _⟩) (v := ?_) rfl (by kernel_rfl) (by kernel_rfl) (by kernel_rfl) (fun _ _ _ h => h) (Or.inl ⟨by rfl, ?_⟩) hHeld ?_
  rotate_left
  · (intro wq hSw; go_simp; try with_reducible rfl)
  try simp only [Act.put, List.setIfInBounds_toArray, List.set_cons_zero, List.set_cons_succ]
  refine wpAnyH_take (i := 20) (oi := ⟨some 45, _, _, _, _, _⟩) (v := ?_) rfl (by kernel_rfl) (by kernel_rfl) (by kernel_rfl) (fun _ _ _ h => h) (Or.inl ⟨by rfl, ?_⟩) hHeld ?_
  rotate_left
  · (intro wq hSw; go_simp; try with_reducible rfl)
  try simp only [Act.put, List.setIfInBounds_toArray, List.set_cons_zero, List.set_cons_succ]
  refine wpAnyH_ready (rs := [21]) (by kernel_rfl) (by simp) ?_
  refine AllReadyH.cons (o := ⟨none, _, _, _, _, _⟩) rfl (fun KK hK => ?_) AllReadyH.nil
  go_simp
  replace HQc := Lib.hid (HQc.out.set 17 (.bool bb))
  replace HMc := Lib.hid (HMc.out.farq hqo 17 (.bool bb))
  replace HKc := Lib.hid (HKc.out.setCell (a := ⟨q, 17, none⟩) (fun _ => .inl rfl) (.bool bb))
  refine hK.out _ _ ?_ (fun hHeld2 => ?_)
  · exact HQc.out.cell (i := 11) rfl
  clear hK KK hHeld
  have hHeld := hHeld2
  clear hHeld2
  try simp only [Act.put, List.setIfInBounds_toArray, List.set_cons_zero, List.set_cons_succ]
  refine wpAnyH_done (by kernel_rfl) ?_ _
  clear hHeld
  have HQ3 := Lib.hid (HQc.out.set 18 (.bool true))
  have HM3 := Lib.hid (HMc.out.farq hqo 18 (.bool true))
  have HK3 := Lib.hid (HKc.out.setCell (a := ⟨q, 18, none⟩) (fun _ => .inl rfl) (.bool true))
  clear HQc HMc HKc HR
  go_wp2
  go_ret
  exact ⟨rfl, HM3.out, HQ3.out, HK3.out⟩

set_option maxHeartbeats 2000000 in
theorem lstep_any (T S N C R F K fa fb fd : Int) (q c t nw rc st ph : Nat) (v : ByteArray) (ok : Bool) (w : World) (h : Blk w q 105 (srcv T S N C R F K fa fb fd c t nw rc st ph [.string v, .bool ok, .bool false])) (hph : ph < 3) (b g : Nat) (l : List Cel) (k : Nat) (hqb : q ≠ b) (hqg : q ≠ g) (nw2 rc2 st2 ph2 : Nat) (f : Bool) (hf : (ph2 == 4) = f) (hS : Calls Try.prog 55 #[.pointer (some ⟨q, 0, none⟩), .pointer (some ⟨b, 0, none⟩)] w fun e w' => e = .returned (.int .i64 (ph2 : Int)) ∧ Mem w' b g l (k + 1) ∧ Blk w' q 105 (srcv T S N C R F K fa fb fd c t nw2 rc2 st2 ph2 [.string v, .bool ok, .bool false]) ∧ Kept (Own3 q b g) w w') :
    Calls Try.prog 32 #[.pointer (some ⟨q, 0, none⟩), .pointer (some ⟨b, 0, none⟩)] w fun e w' => e = .returned (.bool f) ∧ Mem w' b g l (k + 1) ∧ Blk w' q 105 (srcv T S N C R F K fa fb fd c t nw2 rc2 st2 ph2 [.string v, .bool ok, .bool f]) ∧ Kept (Own3 q b g) w w' := by
  have p3 : ((ph : Int) == 3) = false := by simp; omega
  have p4 : ((ph2 : Int) == 4) = f := by rw [← hf]; cases h : ph2 == 4 <;> simp_all <;> omega
  have x15 := h.cell (i := 15) rfl
  have x18 := h.cell (i := 18) rfl
  have HB := Lib.hid h
  have HS := Lib.hid hS
  clear h hf hS
  go_enter Try.func32, Try.ntmps32
  go_wp2_with fail
  refine HS.out.mono ?_; rintro e w1 ⟨rfl, hM1, hQ1, hK1⟩
  have y18 := hQ1.cell (i := 18) rfl
  have z18 := hQ1.frozen 18
  have hqo : ¬ Own b g q := by unfold Own; omega
  have HQ3 := Lib.hid (hQ1.set 18 (.bool f))
  have HM3 := Lib.hid (hM1.farq hqo 18 (.bool f))
  have HK3 := Lib.hid (hK1.setCell (a := ⟨q, 18, none⟩) (fun _ => .inl rfl) (.bool f))
  clear hM1 hQ1 hK1 HS HB x15 x18
  go_wp2
  go_ret
  exact ⟨rfl, HM3.out, HQ3.out, HK3.out⟩

end Go.Proofs.Ytpamjbjgckaedaa
