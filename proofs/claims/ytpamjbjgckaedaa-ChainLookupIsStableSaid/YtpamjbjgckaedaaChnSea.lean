/-
  What the search of package chain does, a step at a time. Condition: a layout within its limits; fewer than 2^63 accesses so far.
-/
import Derived.Test.YtpamjbjgckaedaaChnKit
import Derived.Test.YtpamjbjgckaedaaChnSee
import Derived.Test.YtpamjbjgckaedaaChnPlain
import Derived.Test.YtpamjbjgckaedaaQuietTail
import Derived.Test.YtpamjbjgckaedaaHeldUp
namespace Go.Proofs.Ytpamjbjgckaedaa
open Go.RowKit Go.Deep Plain
set_option linter.unusedVariables false

/-- The cells of a search at the head of a machine: the layout, the chain, the time, the newest record, the record it has come to, that one's stamp, the phase. -/
def srcv (T S N C R F K fa fb fd : Int) (c t nw rc st ph : Nat) (tl : List Value) : List Value :=
  .int .i64 T :: .int .i64 S :: .int .i64 N :: .int .i64 C :: .int .i64 R :: .int .i64 F :: .int .u64 K :: .int .i64 fa :: .int .i64 fb :: .int .i64 fd :: .int .u64 (c : Int) :: .int .u64 (t : Int) :: .int .u64 (nw : Int) :: .int .u64 (rc : Int) :: .int .u64 (st : Int) :: .int .i64 (ph : Int) :: tl
/-- The blocks of a machine and of a memory. -/
def Own3 (q b g : Nat) : Nat → Prop := fun k => k = q ∨ k = b ∨ k = g
theorem keepBoth {S : Nat → Prop} {w w1 w2 : World} (h : Kept S w w1) (h2 : Kept (fun _ => False) w1 w2) : Kept S w w2 := h.trans h2 (fun _ _ h => h.elim)
theorem keptNone {w w' : World} (h : Below w.heap.size w w') : Kept (fun _ => False) w w' := Below.kept h (fun i h1 h2 => (by omega))
/-- An address with its answer as a letter. -/
theorem chain_to (T S N C R F K fa fb fd : Int) (hl : Lim T S N C R F) (hd : Reach3 fa fb fd) (n v : Int) (hv : chainAt C fb n = v) (w : World) :
    Calls Try.prog 45 #[.agg #[.int .i64 T, .int .i64 S, .int .i64 N, .int .i64 C, .int .i64 R, .int .i64 F, .int .u64 K, .int .i64 fa, .int .i64 fb, .int .i64 fd], .int .u64 n] w fun e w' => e = .returned (.int .i64 v) ∧ Kept (fun _ => False) w w' := by
  have := chain_any T S N C R F K fa fb fd n hl hd w; rwa [hv] at this
theorem stamp_to (T S N C R F K fa fb fd : Int) (hl : Lim T S N C R F) (hd : Reach3 fa fb fd) (n v : Int) (hv : recAt R fd n 0 = v) (w : World) :
    Calls Try.prog 51 #[.agg #[.int .i64 T, .int .i64 S, .int .i64 N, .int .i64 C, .int .i64 R, .int .i64 F, .int .u64 K, .int .i64 fa, .int .i64 fb, .int .i64 fd], .int .u64 n] w fun e w' => e = .returned (.int .i64 v) ∧ Kept (fun _ => False) w w' := by
  have := stamp_any T S N C R F K fa fb fd n hl hd w; rwa [hv] at this
theorem val_to (T S N C R F K fa fb fd : Int) (hl : Lim T S N C R F) (hd : Reach3 fa fb fd) (n v : Int) (hv : recAt R fd n 1 = v) (w : World) :
    Calls Try.prog 46 #[.agg #[.int .i64 T, .int .i64 S, .int .i64 N, .int .i64 C, .int .i64 R, .int .i64 F, .int .u64 K, .int .i64 fa, .int .i64 fb, .int .i64 fd], .int .u64 n] w fun e w' => e = .returned (.int .i64 v) ∧ Kept (fun _ => False) w w' := by
  have := lvalue_any T S N C R F K fa fb fd n hl hd w; rwa [hv] at this
theorem next_to (T S N C R F K fa fb fd : Int) (hl : Lim T S N C R F) (hd : Reach3 fa fb fd) (n v : Int) (hv : recAt R fd n 2 = v) (w : World) :
    Calls Try.prog 47 #[.agg #[.int .i64 T, .int .i64 S, .int .i64 N, .int .i64 C, .int .i64 R, .int .i64 F, .int .u64 K, .int .i64 fa, .int .i64 fb, .int .i64 fd], .int .u64 n] w fun e w' => e = .returned (.int .i64 v) ∧ Kept (fun _ => False) w w' := by
  have := next_any T S N C R F K fa fb fd n hl hd w; rwa [hv] at this

set_option maxHeartbeats 1000000 in
theorem goTo_end (T S N C R F K fa fb fd : Int) (q : Nat) (ty : TypeId) (c t nw rc st ph : Nat) (tl : List Value) (w : World) (h : Blk w q ty (srcv T S N C R F K fa fb fd c t nw rc st ph tl)) (r : Nat) (hr : r = 0) :
    Calls Try.prog 71 #[.pointer (some ⟨q, 0, none⟩), .int .u64 (r : Int)] w fun e w' => e = .returned (.tuple #[]) ∧ Blk w' q ty (srcv T S N C R F K fa fb fd c t nw r st 4 tl) ∧ Kept (fun i => i = q) w w' := by
  have x13 := h.cell (i := 13) rfl
  have x15 := h.cell (i := 15) rfl
  have z13 := h.frozen 13
  have z15 := h.frozen 15
  have h0 : ((r : Int) == 0) = true := by simp; omega
  have HB := Lib.hid h
  clear h hr
  go_enter Try.func71, Try.ntmps71
  go_wp2
  go_end0
  exact ⟨rfl, ((HB.out.set 13 _).set 15 _).set 15 _, (((Kept.refl (fun i => i = q) w).setCell (fun _ => rfl) _).setCell (fun _ => rfl) _).setCell (fun _ => rfl) _⟩

set_option maxHeartbeats 1000000 in
theorem goTo_on (T S N C R F K fa fb fd : Int) (q : Nat) (ty : TypeId) (c t nw rc st ph : Nat) (tl : List Value) (w : World) (h : Blk w q ty (srcv T S N C R F K fa fb fd c t nw rc st ph tl)) (r : Nat) (hr : r ≠ 0) :
    Calls Try.prog 71 #[.pointer (some ⟨q, 0, none⟩), .int .u64 (r : Int)] w fun e w' => e = .returned (.tuple #[]) ∧ Blk w' q ty (srcv T S N C R F K fa fb fd c t nw r st 1 tl) ∧ Kept (fun i => i = q) w w' := by
  have x13 := h.cell (i := 13) rfl
  have x15 := h.cell (i := 15) rfl
  have z13 := h.frozen 13
  have z15 := h.frozen 15
  have h0 : ((r : Int) == 0) = false := by simp; omega
  have HB := Lib.hid h
  clear h hr
  go_enter Try.func71, Try.ntmps71
  go_wp2
  go_end0
  exact ⟨rfl, (HB.out.set 13 _).set 15 _, ((Kept.refl (fun i => i = q) w).setCell (fun _ => rfl) _).setCell (fun _ => rfl) _⟩

theorem goTo_any (T S N C R F K fa fb fd : Int) (q : Nat) (ty : TypeId) (c t nw rc st ph : Nat) (tl : List Value) (w : World) (h : Blk w q ty (srcv T S N C R F K fa fb fd c t nw rc st ph tl)) (r ph2 : Nat) (hp : (if r = 0 then 4 else 1) = ph2) :
    Calls Try.prog 71 #[.pointer (some ⟨q, 0, none⟩), .int .u64 (r : Int)] w fun e w' => e = .returned (.tuple #[]) ∧ Blk w' q ty (srcv T S N C R F K fa fb fd c t nw r st ph2 tl) ∧ Kept (fun i => i = q) w w' := by
  by_cases hr : r = 0
  · rw [if_pos hr] at hp; subst hp
    exact goTo_end T S N C R F K fa fb fd q ty c t nw rc st ph tl w h r hr
  · rw [if_neg hr] at hp; subst hp
    exact goTo_on T S N C R F K fa fb fd q ty c t nw rc st ph tl w h r hr

set_option maxHeartbeats 1000000 in
theorem compare_yes (T S N C R F K fa fb fd : Int) (q : Nat) (ty : TypeId) (c t nw rc st ph : Nat) (tl : List Value) (w : World) (h : Blk w q ty (srcv T S N C R F K fa fb fd c t nw rc st ph tl)) (s : Nat) (hp : rch t (s, ⟨#[]⟩, false) = true) :
    Calls Try.prog 72 #[.pointer (some ⟨q, 0, none⟩), .int .u64 (s : Int)] w fun e w' => e = .returned (.tuple #[]) ∧ Blk w' q ty (srcv T S N C R F K fa fb fd c t nw rc s 3 tl) ∧ Kept (fun i => i = q) w w' := by
  have x11 := h.cell (i := 11) rfl
  have x14 := h.cell (i := 14) rfl
  have x15 := h.cell (i := 15) rfl
  have z14 := h.frozen 14
  have z15 := h.frozen 15
  have hv : vis t [((s, ⟨#[]⟩, false) : Ve)] = (((s, ⟨#[]⟩, false) : Ve), true) := by
    exact vis_yes (by rw [show fnd t [((s, ⟨#[]⟩, false) : Ve)] = 0 from fnd_head.2 hp]; rfl)
  have HB := Lib.hid h
  have HV := Lib.hid hv
  have hqw := h.lt
  clear h hv hp
  go_enter Try.func72, Try.ntmps72
  go_wp2_with fail
  have hB0 := (HB.out.set 14 (.int .u64 (s : Int))).set 15 (.int .i64 2)
  have hK0 := ((Kept.refl (fun i => i = q) w).setCell (a := ⟨q, 14, none⟩) (fun _ => rfl) (.int .u64 (s : Int))).setCell (a := ⟨q, 15, none⟩) (fun _ => rfl) (.int .i64 2)
  have hsz : ((w.setCell ⟨q, 14, none⟩ (.int .u64 (s : Int))).setCell ⟨q, 15, none⟩ (.int .i64 2)).heap.size = w.heap.size := by simp [World.setCell]
  have hr1 : Rv (((w.setCell ⟨q, 14, none⟩ (.int .u64 (s : Int))).setCell ⟨q, 15, none⟩ (.int .i64 2)).alloc (.cells #[.int .u64 (s : Int), .string ⟨#[]⟩, .bool false] 51)) (some ⟨w.heap.size, 0, none⟩) 1 [((s, ⟨#[]⟩, false) : Ve)] := by rw [← hsz]; exact Rv.one ((w.setCell ⟨q, 14, none⟩ (.int .u64 (s : Int))).setCell ⟨q, 15, none⟩ (.int .i64 2)) (s, ⟨#[]⟩, false)
  have hB1 := hB0.alloc (.cells #[.int .u64 (s : Int), .string ⟨#[]⟩, .bool false] 51)
  have hK1 := hK0.alloc (.cells #[.int .u64 (s : Int), .string ⟨#[]⟩, .bool false] 51)
  have HB1 := Lib.hid hB1
  have HK1 := Lib.hid hK1
  have HR1 := Lib.hid hr1
  clear hB0 hK0 hr1 hB1 hK1 hsz
  refine (visible_any _ 1 [((s, ⟨#[]⟩, false) : Ve)] t _ 1 rfl (by omega) HR1.out _ true HV.out).mono ?_; rintro e w2 ⟨rfl, hB2⟩
  have hW := keptNone hB2
  have hB3 := hW.blk HB1.out (fun h => h)
  have hK3 := keepBoth HK1.out hW
  have y15 := hB3.cell (i := 15) rfl
  have u15 := hB3.frozen 15
  have hq3 := hB3.lt
  have HB3 := Lib.hid hB3
  have HK3 := Lib.hid hK3
  clear hB3 hK3 hW hB2 HB1 HK1 HR1 x15 z15
  go_wp2
  go_end0
  exact ⟨rfl, (HB3.out.set 15 _).alloc _, (HK3.out.setCell (fun _ => rfl) _).alloc _⟩

set_option maxHeartbeats 1000000 in
theorem compare_no (T S N C R F K fa fb fd : Int) (q : Nat) (ty : TypeId) (c t nw rc st ph : Nat) (tl : List Value) (w : World) (h : Blk w q ty (srcv T S N C R F K fa fb fd c t nw rc st ph tl)) (s : Nat) (hp : rch t (s, ⟨#[]⟩, false) = false) :
    Calls Try.prog 72 #[.pointer (some ⟨q, 0, none⟩), .int .u64 (s : Int)] w fun e w' => e = .returned (.tuple #[]) ∧ Blk w' q ty (srcv T S N C R F K fa fb fd c t nw rc s 2 tl) ∧ Kept (fun i => i = q) w w' := by
  have x11 := h.cell (i := 11) rfl
  have x14 := h.cell (i := 14) rfl
  have x15 := h.cell (i := 15) rfl
  have z14 := h.frozen 14
  have z15 := h.frozen 15
  have hv : vis t [((s, ⟨#[]⟩, false) : Ve)] = (nul, false) := by
    exact vis_no (by have h1 := fnd_le t [((s, ⟨#[]⟩, false) : Ve)]; have h2 : fnd t [((s, ⟨#[]⟩, false) : Ve)] ≠ 0 := fun e => (by rw [fnd_head.1 e] at hp; cases hp); simp at h1 ⊢; omega)
  have HB := Lib.hid h
  have HV := Lib.hid hv
  have hqw := h.lt
  clear h hv hp
  go_enter Try.func72, Try.ntmps72
  go_wp2_with fail
  have hB0 := (HB.out.set 14 (.int .u64 (s : Int))).set 15 (.int .i64 2)
  have hK0 := ((Kept.refl (fun i => i = q) w).setCell (a := ⟨q, 14, none⟩) (fun _ => rfl) (.int .u64 (s : Int))).setCell (a := ⟨q, 15, none⟩) (fun _ => rfl) (.int .i64 2)
  have hsz : ((w.setCell ⟨q, 14, none⟩ (.int .u64 (s : Int))).setCell ⟨q, 15, none⟩ (.int .i64 2)).heap.size = w.heap.size := by simp [World.setCell]
  have hr1 : Rv (((w.setCell ⟨q, 14, none⟩ (.int .u64 (s : Int))).setCell ⟨q, 15, none⟩ (.int .i64 2)).alloc (.cells #[.int .u64 (s : Int), .string ⟨#[]⟩, .bool false] 51)) (some ⟨w.heap.size, 0, none⟩) 1 [((s, ⟨#[]⟩, false) : Ve)] := by rw [← hsz]; exact Rv.one ((w.setCell ⟨q, 14, none⟩ (.int .u64 (s : Int))).setCell ⟨q, 15, none⟩ (.int .i64 2)) (s, ⟨#[]⟩, false)
  have hB1 := hB0.alloc (.cells #[.int .u64 (s : Int), .string ⟨#[]⟩, .bool false] 51)
  have hK1 := hK0.alloc (.cells #[.int .u64 (s : Int), .string ⟨#[]⟩, .bool false] 51)
  have HB1 := Lib.hid hB1
  have HK1 := Lib.hid hK1
  have HR1 := Lib.hid hr1
  clear hB0 hK0 hr1 hB1 hK1 hsz
  refine (visible_any _ 1 [((s, ⟨#[]⟩, false) : Ve)] t _ 1 rfl (by omega) HR1.out _ false HV.out).mono ?_; rintro e w2 ⟨rfl, hB2⟩
  have hW := keptNone hB2
  have hB3 := hW.blk HB1.out (fun h => h)
  have hK3 := keepBoth HK1.out hW
  have HB3 := Lib.hid hB3
  have HK3 := Lib.hid hK3
  clear hB3 hK3 hW hB2 HB1 HK1 HR1
  go_wp2
  go_end0
  exact ⟨rfl, HB3.out.alloc _, HK3.out.alloc _⟩

theorem compare_any (T S N C R F K fa fb fd : Int) (q : Nat) (ty : TypeId) (c t nw rc st ph : Nat) (tl : List Value) (w : World) (h : Blk w q ty (srcv T S N C R F K fa fb fd c t nw rc st ph tl)) (s ph2 : Nat) (hp : (if rch t (s, ⟨#[]⟩, false) = true then 3 else 2) = ph2) :
    Calls Try.prog 72 #[.pointer (some ⟨q, 0, none⟩), .int .u64 (s : Int)] w fun e w' => e = .returned (.tuple #[]) ∧ Blk w' q ty (srcv T S N C R F K fa fb fd c t nw rc s ph2 tl) ∧ Kept (fun i => i = q) w w' := by
  by_cases hr : rch t (s, ⟨#[]⟩, false) = true
  · rw [if_pos hr] at hp; subst hp
    exact compare_yes T S N C R F K fa fb fd q ty c t nw rc st ph tl w h s hr
  · rw [if_neg hr] at hp; subst hp
    exact compare_no T S N C R F K fa fb fd q ty c t nw rc st ph tl w h s (by simpa using hr)

set_option maxHeartbeats 1000000 in
theorem version_any (N : Int) (s M : Nat) (v : ByteArray) (w : World) (d : Bool) (hM : (M == 1) = d) :
    Calls Try.prog 50 #[.int .u64 (s : Int), .agg #[.int .u64 N, .string v, .int .u64 (M : Int)]] w fun e w' => e = .returned (.agg #[.int .u64 (s : Int), .string v, .bool d]) ∧ Kept (fun _ => False) w w' := by
  have hM2 : ((M : Int) == 1) = d := by rw [← hM]; cases h : M == 1 <;> simp_all <;> omega
  clear hM
  go_enter Try.func50, Try.ntmps50
  go_wp2
  refine bodyPost_ret (v := .agg #[.int .u64 (s : Int), .string v, .bool d]) (by first | (simp [results, Try.results50, go_sem]; done) | (simp [results, Try.results50, go_sem, *]; done)) rfl ⟨rfl, ?_⟩
  exact ((Kept.refl _ _).alloc _).alloc _

set_option maxHeartbeats 2000000 in
theorem sload_any (T S N C R F K fa fb fd : Int) (hl : Lim T S N C R F) (hd : Reach3 fa fb fd) (q : Nat) (ty : TypeId) (c t nw rc st ph : Nat) (tl : List Value) (w : World) (h : Blk w q ty (srcv T S N C R F K fa fb fd c t nw rc st ph tl)) (b g : Nat) (l : List Cel) (k : Nat) (hm : Mem w b g l k) (hqb : q ≠ b) (hqg : q ≠ g) (hk : k < 9223372036854775808) (ad : Int) (had : recAt R fd (rc : Int) 1 = ad) (vN : Int) (vM : Nat) (vK : ByteArray) (hc : cellAt l ad = (vN, vK, (vM : Int))) (dd : Bool) (hdd : (vM == 1) = dd) :
    Calls Try.prog 39 #[.pointer (some ⟨q, 0, none⟩), .pointer (some ⟨b, 0, none⟩)] w fun e w' => ∃ g2, e = .returned (.slice (some ⟨g2, 0, none⟩) 1 1) ∧ Rv w' (some ⟨g2, 0, none⟩) 1 [(st, vK, dd)] ∧ Mem w' b g l (k + 1) ∧ Blk w' q ty (srcv T S N C R F K fa fb fd c t nw rc st ph tl) ∧ Kept (Own b g) w w' := by
  have HB := Lib.hid h
  have HM := Lib.hid hm
  have HC := Lib.hid hc
  clear h hm hc
  go_enter Try.func39, Try.ntmps39
  go_wp2_with fail
  have HQc := Lib.hid (HB.out.of (w' := w.drew) rfl)
  have HMc := Lib.hid HM.out.drew
  have HKc := Lib.hid ((Kept.refl (Own b g) w).drew)
  clear HB HM
  have hqo : ¬ Own b g q := by unfold Own; omega
  refine wp_region_held_drew (S := (fun w' => Blk w' q ty (srcv T S N C R F K fa fb fd c t nw rc st ph tl))) (by kernel_rfl) ?_ (fun hHeld => ?_)
  · exact HQc.out
  generalize w.drew = G at *
  refine wpAnyH_take (i := 0) (oi := ⟨some 5, _, _, _, _, _⟩) (v := ?_) rfl (by kernel_rfl) (by kernel_rfl) (by kernel_rfl) (fun _ _ _ h => h) (Or.inl ⟨by rfl, ?_⟩) hHeld ?_
  rotate_left
  · (intro wq hSw; go_simp; try with_reducible rfl)
  try simp only [Act.put, List.setIfInBounds_toArray, List.set_cons_zero, List.set_cons_succ]
  refine wpAnyH_take (i := 1) (oi := ⟨some 6, _, _, _, _, _⟩) (v := ?_) rfl (by kernel_rfl) (by kernel_rfl) (by kernel_rfl) (fun _ _ _ h => h) (Or.inl ⟨by rfl, ?_⟩) hHeld ?_
  rotate_left
  · (intro wq hSw; go_simp; try with_reducible rfl)
  try simp only [Act.put, List.setIfInBounds_toArray, List.set_cons_zero, List.set_cons_succ]
  refine wpAnyH_take (i := 2) (oi := ⟨some 7, _, _, _, _, _⟩) (v := ?_) rfl (by kernel_rfl) (by kernel_rfl) (by kernel_rfl) (fun _ _ _ h => h) (Or.inl ⟨by rfl, ?_⟩) hHeld ?_
  rotate_left
  · (intro wq hSw; go_simp; try with_reducible rfl)
  try simp only [Act.put, List.setIfInBounds_toArray, List.set_cons_zero, List.set_cons_succ]
  refine wpAnyH_take (i := 3) (oi := ⟨some 8, _, _, _, _, _⟩) (v := ?_) rfl (by kernel_rfl) (by kernel_rfl) (by kernel_rfl) (fun _ _ _ h => h) (Or.inl ⟨by rfl, ?_⟩) hHeld ?_
  rotate_left
  · (intro wq hSw; have hb9 := hSw; have x0 := hb9.cell (i := 0) rfl; have x1 := hb9.cell (i := 1) rfl; have x2 := hb9.cell (i := 2) rfl; have x3 := hb9.cell (i := 3) rfl; have x4 := hb9.cell (i := 4) rfl; have x5 := hb9.cell (i := 5) rfl; have x6 := hb9.cell (i := 6) rfl; have x7 := hb9.cell (i := 7) rfl; have x8 := hb9.cell (i := 8) rfl; have x9 := hb9.cell (i := 9) rfl; have x13 := hb9.cell (i := 13) rfl; have x14 := hb9.cell (i := 14) rfl; clear hb9; go_simp; try with_reducible rfl)
  try simp only [Act.put, List.setIfInBounds_toArray, List.set_cons_zero, List.set_cons_succ]
  refine wpAnyH_take (i := 4) (oi := ⟨some 9, _, _, _, _, _⟩) (v := ?_) rfl (by kernel_rfl) (by kernel_rfl) (by kernel_rfl) (fun _ _ _ h => h) (Or.inl ⟨by rfl, ?_⟩) hHeld ?_
  rotate_left
  · (intro wq hSw; go_simp; try with_reducible rfl)
  try simp only [Act.put, List.setIfInBounds_toArray, List.set_cons_zero, List.set_cons_succ]
  refine wpAnyH_take (i := 5) (oi := ⟨some 10, _, _, _, _, _⟩) (v := ?_) rfl (by kernel_rfl) (by kernel_rfl) (by kernel_rfl) (fun _ _ _ h => h) (Or.inl ⟨by rfl, ?_⟩) hHeld ?_
  rotate_left
  · (intro wq hSw; go_simp; try with_reducible rfl)
  try simp only [Act.put, List.setIfInBounds_toArray, List.set_cons_zero, List.set_cons_succ]
  refine wpAnyH_take (i := 6) (oi := ⟨some 11, _, _, _, _, _⟩) (v := ?_) rfl (by kernel_rfl) (by kernel_rfl) (by kernel_rfl) (fun _ _ _ h => h) (Or.inl ⟨by rfl, ?_⟩) hHeld ?_
  rotate_left
  · (intro wq hSw; go_simp; try with_reducible rfl)
  try simp only [Act.put, List.setIfInBounds_toArray, List.set_cons_zero, List.set_cons_succ]
  refine wpAnyH_take (i := 7) (oi := ⟨some 12, _, _, _, _, _⟩) (v := ?_) rfl (by kernel_rfl) (by kernel_rfl) (by kernel_rfl) (fun _ _ _ h => h) (Or.inl ⟨by rfl, ?_⟩) hHeld ?_
  rotate_left
  · (intro wq hSw; go_simp; try with_reducible rfl)
  try simp only [Act.put, List.setIfInBounds_toArray, List.set_cons_zero, List.set_cons_succ]
  refine wpAnyH_take (i := 8) (oi := ⟨some 13, _, _, _, _, _⟩) (v := ?_) rfl (by kernel_rfl) (by kernel_rfl) (by kernel_rfl) (fun _ _ _ h => h) (Or.inl ⟨by rfl, ?_⟩) hHeld ?_
  rotate_left
  · (intro wq hSw; have hb9 := hSw; have x0 := hb9.cell (i := 0) rfl; have x1 := hb9.cell (i := 1) rfl; have x2 := hb9.cell (i := 2) rfl; have x3 := hb9.cell (i := 3) rfl; have x4 := hb9.cell (i := 4) rfl; have x5 := hb9.cell (i := 5) rfl; have x6 := hb9.cell (i := 6) rfl; have x7 := hb9.cell (i := 7) rfl; have x8 := hb9.cell (i := 8) rfl; have x9 := hb9.cell (i := 9) rfl; have x13 := hb9.cell (i := 13) rfl; have x14 := hb9.cell (i := 14) rfl; clear hb9; go_simp; try with_reducible rfl)
  try simp only [Act.put, List.setIfInBounds_toArray, List.set_cons_zero, List.set_cons_succ]
  refine wpAnyH_take (i := 9) (oi := ⟨some 14, _, _, _, _, _⟩) (v := ?_) rfl (by kernel_rfl) (by kernel_rfl) (by kernel_rfl) (fun _ _ _ h => h) (Or.inl ⟨by rfl, ?_⟩) hHeld ?_
  rotate_left
  · (intro wq hSw; go_simp; try with_reducible rfl)
  try simp only [Act.put, List.setIfInBounds_toArray, List.set_cons_zero, List.set_cons_succ]
  refine wpAnyH_take (i := 10) (oi := ⟨some 15, _, _, _, _, _⟩) (v := ?_) rfl (by kernel_rfl) (by kernel_rfl) (by kernel_rfl) (fun _ _ _ h => h) (Or.inl ⟨by rfl, ?_⟩) hHeld ?_
  rotate_left
  · (intro wq hSw; go_simp; try with_reducible rfl)
  try simp only [Act.put, List.setIfInBounds_toArray, List.set_cons_zero, List.set_cons_succ]
  refine wpAnyH_take (i := 11) (oi := ⟨some 16, _, _, _, _, _⟩) (v := ?_) rfl (by kernel_rfl) (by kernel_rfl) (by kernel_rfl) (fun _ _ _ h => h) (Or.inl ⟨by rfl, ?_⟩) hHeld ?_
  rotate_left
  · (intro wq hSw; go_simp; try with_reducible rfl)
  try simp only [Act.put, List.setIfInBounds_toArray, List.set_cons_zero, List.set_cons_succ]
  refine wpAnyH_take (i := 12) (oi := ⟨some 17, _, _, _, _, _⟩) (v := ?_) rfl (by kernel_rfl) (by kernel_rfl) (by kernel_rfl) (fun _ _ _ h => h) (Or.inl ⟨by rfl, ?_⟩) hHeld ?_
  rotate_left
  · (intro wq hSw; have hb9 := hSw; have x0 := hb9.cell (i := 0) rfl; have x1 := hb9.cell (i := 1) rfl; have x2 := hb9.cell (i := 2) rfl; have x3 := hb9.cell (i := 3) rfl; have x4 := hb9.cell (i := 4) rfl; have x5 := hb9.cell (i := 5) rfl; have x6 := hb9.cell (i := 6) rfl; have x7 := hb9.cell (i := 7) rfl; have x8 := hb9.cell (i := 8) rfl; have x9 := hb9.cell (i := 9) rfl; have x13 := hb9.cell (i := 13) rfl; have x14 := hb9.cell (i := 14) rfl; clear hb9; go_simp; try with_reducible rfl)
  try simp only [Act.put, List.setIfInBounds_toArray, List.set_cons_zero, List.set_cons_succ]
  refine wpAnyH_ready (rs := [13]) (by kernel_rfl) (by simp) ?_
  refine AllReadyH.cons (o := ⟨some 18, _, _, _, _, _⟩) rfl (fun KK hK => ?_) AllReadyH.nil
  go_simp
  go_at_call 46
  refine (val_to T S N C R F K fa fb fd hl hd (rc : Int) ad had _).mono ?_; rintro e w1 ⟨rfl, hK1⟩
  replace HQc := Lib.hid (hK1.blk HQc.out (fun h => h))
  replace HMc := Lib.hid (HMc.out.kept hK1 (fun h => h) (fun h => h))
  replace HKc := Lib.hid (HKc.out.trans hK1 (fun _ _ h => h.elim))
  clear hK1
  refine hK.out _ _ ?_ (fun hHeld2 => ?_)
  · exact HQc.out
  clear hK KK hHeld
  have hHeld := hHeld2
  clear hHeld2
  try simp only [Act.put, List.setIfInBounds_toArray, List.set_cons_zero, List.set_cons_succ]
  refine wpAnyH_ready (rs := [14]) (by kernel_rfl) (by simp) ?_
  refine AllReadyH.cons (o := ⟨some 19, _, _, _, _, _⟩) rfl (fun KK hK => ?_) AllReadyH.nil
  go_simp
  go_at_call 40
  refine (load_any b g l k ad vN (vM : Int) vK _ HMc.out hk HC.out).mono ?_; rintro e w2 ⟨rfl, hM2, hK2⟩
  replace HQc := Lib.hid (hK2.blk HQc.out hqo)
  replace HMc := Lib.hid hM2
  replace HKc := Lib.hid (HKc.out.trans hK2 (fun _ _ h => h))
  clear hK2
  clear hM2
  refine hK.out _ _ ?_ (fun hHeld2 => ?_)
  · exact HQc.out
  clear hK KK hHeld
  have hHeld := hHeld2
  clear hHeld2
  try simp only [Act.put, List.setIfInBounds_toArray, List.set_cons_zero, List.set_cons_succ]
  refine wpAnyH_ready (rs := [15]) (by kernel_rfl) (by simp) ?_
  refine AllReadyH.cons (o := ⟨some 20, _, _, _, _, _⟩) rfl (fun KK hK => ?_) AllReadyH.nil
  go_simp
  go_at_call 50
  refine (version_any vN st vM vK _ dd hdd).mono ?_; rintro e w3 ⟨rfl, hK3⟩
  replace HQc := Lib.hid (hK3.blk HQc.out (fun h => h))
  replace HMc := Lib.hid (HMc.out.kept hK3 (fun h => h) (fun h => h))
  replace HKc := Lib.hid (HKc.out.trans hK3 (fun _ _ h => h.elim))
  clear hK3
  refine hK.out _ _ ?_ (fun hHeld2 => ?_)
  · exact HQc.out
  clear hK KK hHeld
  have hHeld := hHeld2
  clear hHeld2
  try simp only [Act.put, List.setIfInBounds_toArray, List.set_cons_zero, List.set_cons_succ]
  refine wpAnyH_ready (rs := [16]) (by kernel_rfl) (by simp) ?_
  refine AllReadyH.cons (o := ⟨some 21, _, _, _, _, _⟩) rfl (fun KK hK => ?_) AllReadyH.nil
  go_simp
  replace HQc := Lib.hid (HQc.out.alloc (.cells #[.int .u64 (st : Int), .string vK, .bool dd] 51))
  replace HMc := Lib.hid (HMc.out.alloc (.cells #[.int .u64 (st : Int), .string vK, .bool dd] 51))
  replace HKc := Lib.hid (HKc.out.alloc (.cells #[.int .u64 (st : Int), .string vK, .bool dd] 51))
  refine hK.out _ _ ?_ (fun hHeld2 => ?_)
  · exact HQc.out
  clear hK KK hHeld
  have hHeld := hHeld2
  clear hHeld2
  try simp only [Act.put, List.setIfInBounds_toArray, List.set_cons_zero, List.set_cons_succ]
  refine wpAnyH_take (i := 17) (oi := ⟨some 4, _, _, _, _, _⟩) (v := ?_) rfl (by kernel_rfl) (by kernel_rfl) (by kernel_rfl) (fun _ _ _ h => h) (Or.inl ⟨by rfl, ?_⟩) hHeld ?_
  rotate_left
  · (intro wq hSw; go_simp; try with_reducible rfl)
  try simp only [Act.put, List.setIfInBounds_toArray, List.set_cons_zero, List.set_cons_succ]
  refine wpAnyH_done (by kernel_rfl) ?_ _
  clear hHeld
  go_wp2
  go_ret
  exact ⟨w3.heap.size, rfl, Rv.one _ (st, vK, dd), HMc.out, HQc.out, HKc.out⟩

set_option maxHeartbeats 2000000 in
theorem sstep_0 (T S N C R F K fa fb fd : Int) (hl : Lim T S N C R F) (hd : Reach3 fa fb fd) (q : Nat) (ty : TypeId) (c t nw rc st ph : Nat) (tl : List Value) (w : World) (h : Blk w q ty (srcv T S N C R F K fa fb fd c t nw rc st ph tl)) (hph : ph = 0) (b g : Nat) (l : List Cel) (k : Nat) (hm : Mem w b g l k) (hqb : q ≠ b) (hqg : q ≠ g) (hk : k < 9223372036854775808) (ad : Int) (had : chainAt C fb (c : Int) = ad) (n : Nat) (cK : ByteArray) (cM : Int) (hc : cellAt l ad = ((n : Int), cK, cM)) (ph2 : Nat) (hp2 : (if n = 0 then 4 else 1) = ph2) :
    Calls Try.prog 55 #[.pointer (some ⟨q, 0, none⟩), .pointer (some ⟨b, 0, none⟩)] w fun e w' => e = .returned (.int .i64 (ph2 : Int)) ∧ Mem w' b g l (k + 1) ∧ Blk w' q ty (srcv T S N C R F K fa fb fd c t n n st ph2 tl) ∧ Kept (Own3 q b g) w w' := by
  have hp : ph = 0 := hph
  have x15 := h.cell (i := 15) rfl
  have p0 : ((ph : Int) == 0) = true := by simp; omega
  have HB := Lib.hid h
  have HM := Lib.hid hm
  have HC := Lib.hid hc
  have HX := Lib.hid x15
  have hfd := field0 (n : Int) cM cK
  have hqw := h.lt
  clear h hm hc
  go_enter Try.func55, Try.ntmps55
  go_wp2_with fail
  clear x15
  have HQc := Lib.hid (HB.out.of (w' := w.drew) rfl)
  have HMc := Lib.hid HM.out.drew
  have HKc := Lib.hid ((Kept.refl (Own3 q b g) w).drew)
  clear HB HM
  have hqo : ¬ Own b g q := by unfold Own; omega
  refine region_E 15 (fun w' => Blk w' q ty (srcv T S N C R F K fa fb fd c t nw rc st ph tl)) (by kernel_rfl) ?_ (fun hHeld => ?_)
  · exact HQc.out
  generalize w.drew = G at *
  refine anyU_take (i := 0) (oi := ⟨some 11, _, _, _, _, _⟩) (v := ?_) rfl (by kernel_rfl) (by kernel_rfl) (by kernel_rfl) 16 (by kernel_rfl) (by kernel_rfl) (fun _ _ _ h => h) (Or.inl ⟨by rfl, ?_⟩) hHeld ?_
  rotate_left
  · (intro wq hSw; go_simp; try with_reducible rfl)
  try simp only [Act.put, List.setIfInBounds_toArray, List.set_cons_zero, List.set_cons_succ]
  refine anyU_take (i := 1) (oi := ⟨some 12, _, _, _, _, _⟩) (v := ?_) rfl (by kernel_rfl) (by kernel_rfl) (by kernel_rfl) 16 (by kernel_rfl) (by kernel_rfl) (fun _ _ _ h => h) (Or.inl ⟨by rfl, ?_⟩) hHeld ?_
  rotate_left
  · (intro wq hSw; go_simp; try with_reducible rfl)
  try simp only [Act.put, List.setIfInBounds_toArray, List.set_cons_zero, List.set_cons_succ]
  refine anyU_take (i := 2) (oi := ⟨some 13, _, _, _, _, _⟩) (v := ?_) rfl (by kernel_rfl) (by kernel_rfl) (by kernel_rfl) 16 (by kernel_rfl) (by kernel_rfl) (fun _ _ _ h => h) (Or.inl ⟨by rfl, ?_⟩) hHeld ?_
  rotate_left
  · (intro wq hSw; go_simp; try with_reducible rfl)
  try simp only [Act.put, List.setIfInBounds_toArray, List.set_cons_zero, List.set_cons_succ]
  refine anyU_take (i := 3) (oi := ⟨some 14, _, _, _, _, _⟩) (v := ?_) rfl (by kernel_rfl) (by kernel_rfl) (by kernel_rfl) 16 (by kernel_rfl) (by kernel_rfl) (fun _ _ _ h => h) (Or.inl ⟨by rfl, ?_⟩) hHeld ?_
  rotate_left
  · (intro wq hSw; go_simp; try with_reducible rfl)
  try simp only [Act.put, List.setIfInBounds_toArray, List.set_cons_zero, List.set_cons_succ]
  refine anyU_take (i := 4) (oi := ⟨some 15, _, _, _, _, _⟩) (v := ?_) rfl (by kernel_rfl) (by kernel_rfl) (by kernel_rfl) 16 (by kernel_rfl) (by kernel_rfl) (fun _ _ _ h => h) (Or.inl ⟨by rfl, ?_⟩) hHeld ?_
  rotate_left
  · (intro wq hSw; go_simp; try with_reducible rfl)
  try simp only [Act.put, List.setIfInBounds_toArray, List.set_cons_zero, List.set_cons_succ]
  refine anyU_take (i := 5) (oi := ⟨some 16, _, _, _, _, _⟩) (v := ?_) rfl (by kernel_rfl) (by kernel_rfl) (by kernel_rfl) 16 (by kernel_rfl) (by kernel_rfl) (fun _ _ _ h => h) (Or.inl ⟨by rfl, ?_⟩) hHeld ?_
  rotate_left
  · (intro wq hSw; have hb9 := hSw; have x0 := hb9.cell (i := 0) rfl; have x1 := hb9.cell (i := 1) rfl; have x2 := hb9.cell (i := 2) rfl; have x3 := hb9.cell (i := 3) rfl; have x4 := hb9.cell (i := 4) rfl; have x5 := hb9.cell (i := 5) rfl; have x6 := hb9.cell (i := 6) rfl; have x7 := hb9.cell (i := 7) rfl; have x8 := hb9.cell (i := 8) rfl; have x9 := hb9.cell (i := 9) rfl; have x10 := hb9.cell (i := 10) rfl; have x11 := hb9.cell (i := 11) rfl; have x12 := hb9.cell (i := 12) rfl; have x13 := hb9.cell (i := 13) rfl; clear hb9; go_simp; try with_reducible rfl)
  try simp only [Act.put, List.setIfInBounds_toArray, List.set_cons_zero, List.set_cons_succ]
  refine anyU_take (i := 6) (oi := ⟨some 17, _, _, _, _, _⟩) (v := ?_) rfl (by kernel_rfl) (by kernel_rfl) (by kernel_rfl) 16 (by kernel_rfl) (by kernel_rfl) (fun _ _ _ h => h) (Or.inl ⟨by rfl, ?_⟩) hHeld ?_
  rotate_left
  · (intro wq hSw; go_simp; try with_reducible rfl)
  try simp only [Act.put, List.setIfInBounds_toArray, List.set_cons_zero, List.set_cons_succ]
  refine anyU_take (i := 7) (oi := ⟨some 18, _, _, _, _, _⟩) (v := ?_) rfl (by kernel_rfl) (by kernel_rfl) (by kernel_rfl) 16 (by kernel_rfl) (by kernel_rfl) (fun _ _ _ h => h) (Or.inl ⟨by rfl, ?_⟩) hHeld ?_
  rotate_left
  · (intro wq hSw; go_simp; try with_reducible rfl)
  try simp only [Act.put, List.setIfInBounds_toArray, List.set_cons_zero, List.set_cons_succ]
  refine anyU_take (i := 8) (oi := ⟨some 19, _, _, _, _, _⟩) (v := ?_) rfl (by kernel_rfl) (by kernel_rfl) (by kernel_rfl) 16 (by kernel_rfl) (by kernel_rfl) (fun _ _ _ h => h) (Or.inl ⟨by rfl, ?_⟩) hHeld ?_
  rotate_left
  · (intro wq hSw; go_simp; try with_reducible rfl)
  try simp only [Act.put, List.setIfInBounds_toArray, List.set_cons_zero, List.set_cons_succ]
  refine anyU_take (i := 9) (oi := ⟨some 20, _, _, _, _, _⟩) (v := ?_) rfl (by kernel_rfl) (by kernel_rfl) (by kernel_rfl) 16 (by kernel_rfl) (by kernel_rfl) (fun _ _ _ h => h) (Or.inl ⟨by rfl, ?_⟩) hHeld ?_
  rotate_left
  · (intro wq hSw; have hb9 := hSw; have x0 := hb9.cell (i := 0) rfl; have x1 := hb9.cell (i := 1) rfl; have x2 := hb9.cell (i := 2) rfl; have x3 := hb9.cell (i := 3) rfl; have x4 := hb9.cell (i := 4) rfl; have x5 := hb9.cell (i := 5) rfl; have x6 := hb9.cell (i := 6) rfl; have x7 := hb9.cell (i := 7) rfl; have x8 := hb9.cell (i := 8) rfl; have x9 := hb9.cell (i := 9) rfl; have x10 := hb9.cell (i := 10) rfl; have x11 := hb9.cell (i := 11) rfl; have x12 := hb9.cell (i := 12) rfl; have x13 := hb9.cell (i := 13) rfl; clear hb9; go_simp; try with_reducible rfl)
  try simp only [Act.put, List.setIfInBounds_toArray, List.set_cons_zero, List.set_cons_succ]
  refine anyE_ready (i := 10) (o := ⟨some 21, _, _, _, _, _⟩) (by kernel_rfl) rfl (fun KK hK => ?_)
  go_simp
  go_at_call 45
  refine (chain_to T S N C R F K fa fb fd hl hd (c : Int) ad had _).mono ?_; rintro e w1 ⟨rfl, hK1⟩
  replace HQc := Lib.hid (hK1.blk HQc.out (fun h => h))
  replace HMc := Lib.hid (HMc.out.kept hK1 (fun h => h) (fun h => h))
  replace HKc := Lib.hid (keepBoth HKc.out hK1)
  clear hK1
  refine hK.out _ _ (fun _ => ?_) (fun hHeld2 => ?_)
  · exact HQc.out
  clear hK KK hHeld
  have hHeld := hHeld2 (by decide)
  clear hHeld2
  try simp only [Act.put, List.setIfInBounds_toArray, List.set_cons_zero, List.set_cons_succ]
  refine anyE_ready (i := 11) (o := ⟨some 22, _, _, _, _, _⟩) (by kernel_rfl) rfl (fun KK hK => ?_)
  go_simp
  go_at_call 40
  refine (load_any b g l k ad (n : Int) cM cK _ HMc.out hk HC.out).mono ?_; rintro e w2 ⟨rfl, hM2, hK2⟩
  replace HQc := Lib.hid (hK2.blk HQc.out hqo)
  replace HMc := Lib.hid hM2
  replace HKc := Lib.hid (HKc.out.trans hK2 (fun _ _ h => .inr h))
  clear hK2 hM2
  have hQ2 := HQc.out
  have x12 := hQ2.cell (i := 12) rfl
  have z12 := hQ2.frozen 12
  clear hQ2
  refine hK.out _ _ (fun _ => ?_) (fun hHeld2 => ?_)
  · exact HQc.out
  clear hK KK hHeld
  have hHeld := hHeld2 (by decide)
  clear hHeld2
  try simp only [Act.put, List.setIfInBounds_toArray, List.set_cons_zero, List.set_cons_succ]
  refine anyU_take (i := 12) (oi := ⟨some 23, _, _, _, _, _⟩) (v := ?_) rfl (by kernel_rfl) (by kernel_rfl) (by kernel_rfl) 16 (by kernel_rfl) (by kernel_rfl) (fun _ _ _ h => h) (Or.inl ⟨by rfl, ?_⟩) hHeld ?_
  rotate_left
  · (intro wq hSw; go_simp; try with_reducible rfl)
  try simp only [Act.put, List.setIfInBounds_toArray, List.set_cons_zero, List.set_cons_succ]
  refine anyU_take (i := 13) (oi := ⟨some 24, _, _, _, _, _⟩) (v := ?_) rfl (by kernel_rfl) (by kernel_rfl) (by kernel_rfl) 16 (by kernel_rfl) (by kernel_rfl) (fun _ _ _ h => h) (Or.inl ⟨by rfl, ?_⟩) hHeld ?_
  rotate_left
  · (intro wq hSw; go_simp; try with_reducible rfl)
  try simp only [Act.put, List.setIfInBounds_toArray, List.set_cons_zero, List.set_cons_succ]
  refine anyU_take (i := 14) (oi := ⟨some 25, _, _, _, _, _⟩) (v := ?_) rfl (by kernel_rfl) (by kernel_rfl) (by kernel_rfl) 16 (by kernel_rfl) (by kernel_rfl) (fun _ _ _ h => h) (Or.inl ⟨by rfl, ?_⟩) hHeld ?_
  rotate_left
  · (intro wq hSw; go_simp; try with_reducible rfl)
  try simp only [Act.put, List.setIfInBounds_toArray, List.set_cons_zero, List.set_cons_succ]
  refine anyE_ready (i := 15) (o := ⟨none, _, _, _, _, _⟩) (by kernel_rfl) rfl (fun KK hK => ?_)
  go_simp
  replace HQc := Lib.hid (HQc.out.set 12 (.int .u64 (n : Int)))
  replace HMc := Lib.hid (HMc.out.farq hqo 12 (.int .u64 (n : Int)))
  replace HKc := Lib.hid (HKc.out.setCell (a := ⟨q, 12, none⟩) (fun _ => .inl rfl) (.int .u64 (n : Int)))
  refine hK.out _ _ (fun h => absurd rfl h) (fun _ => ?_)
  clear hK KK hHeld
  try simp only [Act.put, List.setIfInBounds_toArray, List.set_cons_zero, List.set_cons_succ]
  refine anyE_done (by kernel_rfl) ?_ _
  clear x12 z12
  have y12 := HQc.out.cell (i := 12) rfl
  go_wp2_with fail
  refine (goTo_any T S N C R F K fa fb fd q ty c t n rc st ph tl _ HQc.out n ph2 hp2).mono ?_; rintro e w3 ⟨rfl, hQ3, hK3⟩
  have HM3 := Lib.hid (HMc.out.kept hK3 (fun e => hqb e.symm) (fun e => hqg e.symm))
  have HK3 := Lib.hid (HKc.out.trans hK3 (fun i _ e => .inl e))
  have x15 := hQ3.cell (i := 15) rfl
  have HQ3 := Lib.hid hQ3
  clear hQ3 hK3 HMc HKc HQc y12
  go_wp2
  go_ret
  exact ⟨rfl, HM3.out, HQ3.out, HK3.out⟩

set_option maxHeartbeats 2000000 in
theorem sstep_1 (T S N C R F K fa fb fd : Int) (hl : Lim T S N C R F) (hd : Reach3 fa fb fd) (q : Nat) (ty : TypeId) (c t nw rc st ph : Nat) (tl : List Value) (w : World) (h : Blk w q ty (srcv T S N C R F K fa fb fd c t nw rc st ph tl)) (hph : ph = 1) (b g : Nat) (l : List Cel) (k : Nat) (hm : Mem w b g l k) (hqb : q ≠ b) (hqg : q ≠ g) (hk : k < 9223372036854775808) (ad : Int) (had : recAt R fd (rc : Int) 0 = ad) (n : Nat) (cK : ByteArray) (cM : Int) (hc : cellAt l ad = ((n : Int), cK, cM)) (ph2 : Nat) (hp2 : (if rch t (n, ⟨#[]⟩, false) = true then 3 else 2) = ph2) :
    Calls Try.prog 55 #[.pointer (some ⟨q, 0, none⟩), .pointer (some ⟨b, 0, none⟩)] w fun e w' => e = .returned (.int .i64 (ph2 : Int)) ∧ Mem w' b g l (k + 1) ∧ Blk w' q ty (srcv T S N C R F K fa fb fd c t nw rc n ph2 tl) ∧ Kept (Own3 q b g) w w' := by
  have hp : ph = 1 := hph
  have x15 := h.cell (i := 15) rfl
  have p0 : ((ph : Int) == 0) = false := by simp; omega
  have p1 : ((ph : Int) == 1) = true := by simp; omega
  have HB := Lib.hid h
  have HM := Lib.hid hm
  have HC := Lib.hid hc
  have HX := Lib.hid x15
  have hfd := field0 (n : Int) cM cK
  have hqw := h.lt
  clear h hm hc
  go_enter Try.func55, Try.ntmps55
  go_wp2_with fail
  clear x15
  have HQc := Lib.hid (HB.out.of (w' := w.drew) rfl)
  have HMc := Lib.hid HM.out.drew
  have HKc := Lib.hid ((Kept.refl (Own3 q b g) w).drew)
  clear HB HM
  have hqo : ¬ Own b g q := by unfold Own; omega
  refine region_E 13 (fun w' => Blk w' q ty (srcv T S N C R F K fa fb fd c t nw rc st ph tl)) (by kernel_rfl) ?_ (fun hHeld => ?_)
  · exact HQc.out
  generalize w.drew = G at *
  refine anyU_take (i := 0) (oi := ⟨some 34, _, _, _, _, _⟩) (v := ?_) rfl (by kernel_rfl) (by kernel_rfl) (by kernel_rfl) 14 (by kernel_rfl) (by kernel_rfl) (fun _ _ _ h => h) (Or.inl ⟨by rfl, ?_⟩) hHeld ?_
  rotate_left
  · (intro wq hSw; go_simp; try with_reducible rfl)
  try simp only [Act.put, List.setIfInBounds_toArray, List.set_cons_zero, List.set_cons_succ]
  refine anyU_take (i := 1) (oi := ⟨some 35, _, _, _, _, _⟩) (v := ?_) rfl (by kernel_rfl) (by kernel_rfl) (by kernel_rfl) 14 (by kernel_rfl) (by kernel_rfl) (fun _ _ _ h => h) (Or.inl ⟨by rfl, ?_⟩) hHeld ?_
  rotate_left
  · (intro wq hSw; go_simp; try with_reducible rfl)
  try simp only [Act.put, List.setIfInBounds_toArray, List.set_cons_zero, List.set_cons_succ]
  refine anyU_take (i := 2) (oi := ⟨some 36, _, _, _, _, _⟩) (v := ?_) rfl (by kernel_rfl) (by kernel_rfl) (by kernel_rfl) 14 (by kernel_rfl) (by kernel_rfl) (fun _ _ _ h => h) (Or.inl ⟨by rfl, ?_⟩) hHeld ?_
  rotate_left
  · (intro wq hSw; go_simp; try with_reducible rfl)
  try simp only [Act.put, List.setIfInBounds_toArray, List.set_cons_zero, List.set_cons_succ]
  refine anyU_take (i := 3) (oi := ⟨some 37, _, _, _, _, _⟩) (v := ?_) rfl (by kernel_rfl) (by kernel_rfl) (by kernel_rfl) 14 (by kernel_rfl) (by kernel_rfl) (fun _ _ _ h => h) (Or.inl ⟨by rfl, ?_⟩) hHeld ?_
  rotate_left
  · (intro wq hSw; go_simp; try with_reducible rfl)
  try simp only [Act.put, List.setIfInBounds_toArray, List.set_cons_zero, List.set_cons_succ]
  refine anyU_take (i := 4) (oi := ⟨some 38, _, _, _, _, _⟩) (v := ?_) rfl (by kernel_rfl) (by kernel_rfl) (by kernel_rfl) 14 (by kernel_rfl) (by kernel_rfl) (fun _ _ _ h => h) (Or.inl ⟨by rfl, ?_⟩) hHeld ?_
  rotate_left
  · (intro wq hSw; go_simp; try with_reducible rfl)
  try simp only [Act.put, List.setIfInBounds_toArray, List.set_cons_zero, List.set_cons_succ]
  refine anyU_take (i := 5) (oi := ⟨some 39, _, _, _, _, _⟩) (v := ?_) rfl (by kernel_rfl) (by kernel_rfl) (by kernel_rfl) 14 (by kernel_rfl) (by kernel_rfl) (fun _ _ _ h => h) (Or.inl ⟨by rfl, ?_⟩) hHeld ?_
  rotate_left
  · (intro wq hSw; have hb9 := hSw; have x0 := hb9.cell (i := 0) rfl; have x1 := hb9.cell (i := 1) rfl; have x2 := hb9.cell (i := 2) rfl; have x3 := hb9.cell (i := 3) rfl; have x4 := hb9.cell (i := 4) rfl; have x5 := hb9.cell (i := 5) rfl; have x6 := hb9.cell (i := 6) rfl; have x7 := hb9.cell (i := 7) rfl; have x8 := hb9.cell (i := 8) rfl; have x9 := hb9.cell (i := 9) rfl; have x10 := hb9.cell (i := 10) rfl; have x11 := hb9.cell (i := 11) rfl; have x12 := hb9.cell (i := 12) rfl; have x13 := hb9.cell (i := 13) rfl; clear hb9; go_simp; try with_reducible rfl)
  try simp only [Act.put, List.setIfInBounds_toArray, List.set_cons_zero, List.set_cons_succ]
  refine anyU_take (i := 6) (oi := ⟨some 40, _, _, _, _, _⟩) (v := ?_) rfl (by kernel_rfl) (by kernel_rfl) (by kernel_rfl) 14 (by kernel_rfl) (by kernel_rfl) (fun _ _ _ h => h) (Or.inl ⟨by rfl, ?_⟩) hHeld ?_
  rotate_left
  · (intro wq hSw; go_simp; try with_reducible rfl)
  try simp only [Act.put, List.setIfInBounds_toArray, List.set_cons_zero, List.set_cons_succ]
  refine anyU_take (i := 7) (oi := ⟨some 41, _, _, _, _, _⟩) (v := ?_) rfl (by kernel_rfl) (by kernel_rfl) (by kernel_rfl) 14 (by kernel_rfl) (by kernel_rfl) (fun _ _ _ h => h) (Or.inl ⟨by rfl, ?_⟩) hHeld ?_
  rotate_left
  · (intro wq hSw; go_simp; try with_reducible rfl)
  try simp only [Act.put, List.setIfInBounds_toArray, List.set_cons_zero, List.set_cons_succ]
  refine anyU_take (i := 8) (oi := ⟨some 42, _, _, _, _, _⟩) (v := ?_) rfl (by kernel_rfl) (by kernel_rfl) (by kernel_rfl) 14 (by kernel_rfl) (by kernel_rfl) (fun _ _ _ h => h) (Or.inl ⟨by rfl, ?_⟩) hHeld ?_
  rotate_left
  · (intro wq hSw; go_simp; try with_reducible rfl)
  try simp only [Act.put, List.setIfInBounds_toArray, List.set_cons_zero, List.set_cons_succ]
  refine anyU_take (i := 9) (oi := ⟨some 43, _, _, _, _, _⟩) (v := ?_) rfl (by kernel_rfl) (by kernel_rfl) (by kernel_rfl) 14 (by kernel_rfl) (by kernel_rfl) (fun _ _ _ h => h) (Or.inl ⟨by rfl, ?_⟩) hHeld ?_
  rotate_left
  · (intro wq hSw; have hb9 := hSw; have x0 := hb9.cell (i := 0) rfl; have x1 := hb9.cell (i := 1) rfl; have x2 := hb9.cell (i := 2) rfl; have x3 := hb9.cell (i := 3) rfl; have x4 := hb9.cell (i := 4) rfl; have x5 := hb9.cell (i := 5) rfl; have x6 := hb9.cell (i := 6) rfl; have x7 := hb9.cell (i := 7) rfl; have x8 := hb9.cell (i := 8) rfl; have x9 := hb9.cell (i := 9) rfl; have x10 := hb9.cell (i := 10) rfl; have x11 := hb9.cell (i := 11) rfl; have x12 := hb9.cell (i := 12) rfl; have x13 := hb9.cell (i := 13) rfl; clear hb9; go_simp; try with_reducible rfl)
  try simp only [Act.put, List.setIfInBounds_toArray, List.set_cons_zero, List.set_cons_succ]
  refine anyE_ready (i := 10) (o := ⟨some 44, _, _, _, _, _⟩) (by kernel_rfl) rfl (fun KK hK => ?_)
  go_simp
  go_at_call 51
  refine (stamp_to T S N C R F K fa fb fd hl hd (rc : Int) ad had _).mono ?_; rintro e w1 ⟨rfl, hK1⟩
  replace HQc := Lib.hid (hK1.blk HQc.out (fun h => h))
  replace HMc := Lib.hid (HMc.out.kept hK1 (fun h => h) (fun h => h))
  replace HKc := Lib.hid (keepBoth HKc.out hK1)
  clear hK1
  refine hK.out _ _ (fun _ => ?_) (fun hHeld2 => ?_)
  · exact HQc.out
  clear hK KK hHeld
  have hHeld := hHeld2 (by decide)
  clear hHeld2
  try simp only [Act.put, List.setIfInBounds_toArray, List.set_cons_zero, List.set_cons_succ]
  refine anyE_ready (i := 11) (o := ⟨some 45, _, _, _, _, _⟩) (by kernel_rfl) rfl (fun KK hK => ?_)
  go_simp
  go_at_call 40
  refine (load_any b g l k ad (n : Int) cM cK _ HMc.out hk HC.out).mono ?_; rintro e w2 ⟨rfl, hM2, hK2⟩
  replace HQc := Lib.hid (hK2.blk HQc.out hqo)
  replace HMc := Lib.hid hM2
  replace HKc := Lib.hid (HKc.out.trans hK2 (fun _ _ h => .inr h))
  clear hK2 hM2
  refine hK.out _ _ (fun _ => ?_) (fun hHeld2 => ?_)
  · exact HQc.out
  clear hK KK hHeld
  have hHeld := hHeld2 (by decide)
  clear hHeld2
  try simp only [Act.put, List.setIfInBounds_toArray, List.set_cons_zero, List.set_cons_succ]
  refine anyU_take (i := 12) (oi := ⟨some 46, _, _, _, _, _⟩) (v := ?_) rfl (by kernel_rfl) (by kernel_rfl) (by kernel_rfl) 14 (by kernel_rfl) (by kernel_rfl) (fun _ _ _ h => h) (Or.inl ⟨by rfl, ?_⟩) hHeld ?_
  rotate_left
  · (intro wq hSw; go_simp; try with_reducible rfl)
  try simp only [Act.put, List.setIfInBounds_toArray, List.set_cons_zero, List.set_cons_succ]
  refine anyE_ready (i := 13) (o := ⟨some 47, _, _, _, _, _⟩) (by kernel_rfl) rfl (fun KK hK => ?_)
  go_simp
  go_at_call 72
  refine (compare_any T S N C R F K fa fb fd q ty c t nw rc st ph tl _ HQc.out n ph2 hp2).mono ?_; rintro e w3 ⟨rfl, hQ3, hK3⟩
  replace HMc := Lib.hid (HMc.out.kept hK3 (fun e => hqb e.symm) (fun e => hqg e.symm))
  replace HKc := Lib.hid (HKc.out.trans hK3 (fun i _ e => .inl e))
  have x15 := hQ3.cell (i := 15) rfl
  replace HQc := Lib.hid hQ3
  clear hQ3 hK3
  refine hK.out _ _ (fun h => absurd rfl h) (fun _ => ?_)
  clear hK KK hHeld
  try simp only [Act.put, List.setIfInBounds_toArray, List.set_cons_zero, List.set_cons_succ]
  refine anyE_done (by kernel_rfl) ?_ _
  go_wp2
  go_ret
  exact ⟨rfl, HMc.out, HQc.out, HKc.out⟩

set_option maxHeartbeats 2000000 in
theorem sstep_2 (T S N C R F K fa fb fd : Int) (hl : Lim T S N C R F) (hd : Reach3 fa fb fd) (q : Nat) (ty : TypeId) (c t nw rc st ph : Nat) (tl : List Value) (w : World) (h : Blk w q ty (srcv T S N C R F K fa fb fd c t nw rc st ph tl)) (hph : ph = 2) (b g : Nat) (l : List Cel) (k : Nat) (hm : Mem w b g l k) (hqb : q ≠ b) (hqg : q ≠ g) (hk : k < 9223372036854775808) (ad : Int) (had : recAt R fd (rc : Int) 2 = ad) (n : Nat) (cK : ByteArray) (cM : Int) (hc : cellAt l ad = ((n : Int), cK, cM)) (ph2 : Nat) (hp2 : (if n = 0 then 4 else 1) = ph2) :
    Calls Try.prog 55 #[.pointer (some ⟨q, 0, none⟩), .pointer (some ⟨b, 0, none⟩)] w fun e w' => e = .returned (.int .i64 (ph2 : Int)) ∧ Mem w' b g l (k + 1) ∧ Blk w' q ty (srcv T S N C R F K fa fb fd c t nw n st ph2 tl) ∧ Kept (Own3 q b g) w w' := by
  have hp : ph = 2 := hph
  have x15 := h.cell (i := 15) rfl
  have p0 : ((ph : Int) == 0) = false := by simp; omega
  have p1 : ((ph : Int) == 1) = false := by simp; omega
  have p2 : ((ph : Int) == 2) = true := by simp; omega
  have HB := Lib.hid h
  have HM := Lib.hid hm
  have HC := Lib.hid hc
  have HX := Lib.hid x15
  have hfd := field0 (n : Int) cM cK
  have hqw := h.lt
  clear h hm hc
  go_enter Try.func55, Try.ntmps55
  go_wp2_with fail
  clear x15
  have HQc := Lib.hid (HB.out.of (w' := w.drew) rfl)
  have HMc := Lib.hid HM.out.drew
  have HKc := Lib.hid ((Kept.refl (Own3 q b g) w).drew)
  clear HB HM
  have hqo : ¬ Own b g q := by unfold Own; omega
  refine region_E 13 (fun w' => Blk w' q ty (srcv T S N C R F K fa fb fd c t nw rc st ph tl)) (by kernel_rfl) ?_ (fun hHeld => ?_)
  · exact HQc.out
  generalize w.drew = G at *
  refine anyU_take (i := 0) (oi := ⟨some 50, _, _, _, _, _⟩) (v := ?_) rfl (by kernel_rfl) (by kernel_rfl) (by kernel_rfl) 14 (by kernel_rfl) (by kernel_rfl) (fun _ _ _ h => h) (Or.inl ⟨by rfl, ?_⟩) hHeld ?_
  rotate_left
  · (intro wq hSw; go_simp; try with_reducible rfl)
  try simp only [Act.put, List.setIfInBounds_toArray, List.set_cons_zero, List.set_cons_succ]
  refine anyU_take (i := 1) (oi := ⟨some 51, _, _, _, _, _⟩) (v := ?_) rfl (by kernel_rfl) (by kernel_rfl) (by kernel_rfl) 14 (by kernel_rfl) (by kernel_rfl) (fun _ _ _ h => h) (Or.inl ⟨by rfl, ?_⟩) hHeld ?_
  rotate_left
  · (intro wq hSw; go_simp; try with_reducible rfl)
  try simp only [Act.put, List.setIfInBounds_toArray, List.set_cons_zero, List.set_cons_succ]
  refine anyU_take (i := 2) (oi := ⟨some 52, _, _, _, _, _⟩) (v := ?_) rfl (by kernel_rfl) (by kernel_rfl) (by kernel_rfl) 14 (by kernel_rfl) (by kernel_rfl) (fun _ _ _ h => h) (Or.inl ⟨by rfl, ?_⟩) hHeld ?_
  rotate_left
  · (intro wq hSw; go_simp; try with_reducible rfl)
  try simp only [Act.put, List.setIfInBounds_toArray, List.set_cons_zero, List.set_cons_succ]
  refine anyU_take (i := 3) (oi := ⟨some 53, _, _, _, _, _⟩) (v := ?_) rfl (by kernel_rfl) (by kernel_rfl) (by kernel_rfl) 14 (by kernel_rfl) (by kernel_rfl) (fun _ _ _ h => h) (Or.inl ⟨by rfl, ?_⟩) hHeld ?_
  rotate_left
  · (intro wq hSw; go_simp; try with_reducible rfl)
  try simp only [Act.put, List.setIfInBounds_toArray, List.set_cons_zero, List.set_cons_succ]
  refine anyU_take (i := 4) (oi := ⟨some 54, _, _, _, _, _⟩) (v := ?_) rfl (by kernel_rfl) (by kernel_rfl) (by kernel_rfl) 14 (by kernel_rfl) (by kernel_rfl) (fun _ _ _ h => h) (Or.inl ⟨by rfl, ?_⟩) hHeld ?_
  rotate_left
  · (intro wq hSw; go_simp; try with_reducible rfl)
  try simp only [Act.put, List.setIfInBounds_toArray, List.set_cons_zero, List.set_cons_succ]
  refine anyU_take (i := 5) (oi := ⟨some 55, _, _, _, _, _⟩) (v := ?_) rfl (by kernel_rfl) (by kernel_rfl) (by kernel_rfl) 14 (by kernel_rfl) (by kernel_rfl) (fun _ _ _ h => h) (Or.inl ⟨by rfl, ?_⟩) hHeld ?_
  rotate_left
  · (intro wq hSw; have hb9 := hSw; have x0 := hb9.cell (i := 0) rfl; have x1 := hb9.cell (i := 1) rfl; have x2 := hb9.cell (i := 2) rfl; have x3 := hb9.cell (i := 3) rfl; have x4 := hb9.cell (i := 4) rfl; have x5 := hb9.cell (i := 5) rfl; have x6 := hb9.cell (i := 6) rfl; have x7 := hb9.cell (i := 7) rfl; have x8 := hb9.cell (i := 8) rfl; have x9 := hb9.cell (i := 9) rfl; have x10 := hb9.cell (i := 10) rfl; have x11 := hb9.cell (i := 11) rfl; have x12 := hb9.cell (i := 12) rfl; have x13 := hb9.cell (i := 13) rfl; clear hb9; go_simp; try with_reducible rfl)
  try simp only [Act.put, List.setIfInBounds_toArray, List.set_cons_zero, List.set_cons_succ]
  refine anyU_take (i := 6) (oi := ⟨some 56, _, _, _, _, _⟩) (v := ?_) rfl (by kernel_rfl) (by kernel_rfl) (by kernel_rfl) 14 (by kernel_rfl) (by kernel_rfl) (fun _ _ _ h => h) (Or.inl ⟨by rfl, ?_⟩) hHeld ?_
  rotate_left
  · (intro wq hSw; go_simp; try with_reducible rfl)
  try simp only [Act.put, List.setIfInBounds_toArray, List.set_cons_zero, List.set_cons_succ]
  refine anyU_take (i := 7) (oi := ⟨some 57, _, _, _, _, _⟩) (v := ?_) rfl (by kernel_rfl) (by kernel_rfl) (by kernel_rfl) 14 (by kernel_rfl) (by kernel_rfl) (fun _ _ _ h => h) (Or.inl ⟨by rfl, ?_⟩) hHeld ?_
  rotate_left
  · (intro wq hSw; go_simp; try with_reducible rfl)
  try simp only [Act.put, List.setIfInBounds_toArray, List.set_cons_zero, List.set_cons_succ]
  refine anyU_take (i := 8) (oi := ⟨some 58, _, _, _, _, _⟩) (v := ?_) rfl (by kernel_rfl) (by kernel_rfl) (by kernel_rfl) 14 (by kernel_rfl) (by kernel_rfl) (fun _ _ _ h => h) (Or.inl ⟨by rfl, ?_⟩) hHeld ?_
  rotate_left
  · (intro wq hSw; go_simp; try with_reducible rfl)
  try simp only [Act.put, List.setIfInBounds_toArray, List.set_cons_zero, List.set_cons_succ]
  refine anyU_take (i := 9) (oi := ⟨some 59, _, _, _, _, _⟩) (v := ?_) rfl (by kernel_rfl) (by kernel_rfl) (by kernel_rfl) 14 (by kernel_rfl) (by kernel_rfl) (fun _ _ _ h => h) (Or.inl ⟨by rfl, ?_⟩) hHeld ?_
  rotate_left
  · (intro wq hSw; have hb9 := hSw; have x0 := hb9.cell (i := 0) rfl; have x1 := hb9.cell (i := 1) rfl; have x2 := hb9.cell (i := 2) rfl; have x3 := hb9.cell (i := 3) rfl; have x4 := hb9.cell (i := 4) rfl; have x5 := hb9.cell (i := 5) rfl; have x6 := hb9.cell (i := 6) rfl; have x7 := hb9.cell (i := 7) rfl; have x8 := hb9.cell (i := 8) rfl; have x9 := hb9.cell (i := 9) rfl; have x10 := hb9.cell (i := 10) rfl; have x11 := hb9.cell (i := 11) rfl; have x12 := hb9.cell (i := 12) rfl; have x13 := hb9.cell (i := 13) rfl; clear hb9; go_simp; try with_reducible rfl)
  try simp only [Act.put, List.setIfInBounds_toArray, List.set_cons_zero, List.set_cons_succ]
  refine anyE_ready (i := 10) (o := ⟨some 60, _, _, _, _, _⟩) (by kernel_rfl) rfl (fun KK hK => ?_)
  go_simp
  go_at_call 47
  refine (next_to T S N C R F K fa fb fd hl hd (rc : Int) ad had _).mono ?_; rintro e w1 ⟨rfl, hK1⟩
  replace HQc := Lib.hid (hK1.blk HQc.out (fun h => h))
  replace HMc := Lib.hid (HMc.out.kept hK1 (fun h => h) (fun h => h))
  replace HKc := Lib.hid (keepBoth HKc.out hK1)
  clear hK1
  refine hK.out _ _ (fun _ => ?_) (fun hHeld2 => ?_)
  · exact HQc.out
  clear hK KK hHeld
  have hHeld := hHeld2 (by decide)
  clear hHeld2
  try simp only [Act.put, List.setIfInBounds_toArray, List.set_cons_zero, List.set_cons_succ]
  refine anyE_ready (i := 11) (o := ⟨some 61, _, _, _, _, _⟩) (by kernel_rfl) rfl (fun KK hK => ?_)
  go_simp
  go_at_call 40
  refine (load_any b g l k ad (n : Int) cM cK _ HMc.out hk HC.out).mono ?_; rintro e w2 ⟨rfl, hM2, hK2⟩
  replace HQc := Lib.hid (hK2.blk HQc.out hqo)
  replace HMc := Lib.hid hM2
  replace HKc := Lib.hid (HKc.out.trans hK2 (fun _ _ h => .inr h))
  clear hK2 hM2
  refine hK.out _ _ (fun _ => ?_) (fun hHeld2 => ?_)
  · exact HQc.out
  clear hK KK hHeld
  have hHeld := hHeld2 (by decide)
  clear hHeld2
  try simp only [Act.put, List.setIfInBounds_toArray, List.set_cons_zero, List.set_cons_succ]
  refine anyU_take (i := 12) (oi := ⟨some 62, _, _, _, _, _⟩) (v := ?_) rfl (by kernel_rfl) (by kernel_rfl) (by kernel_rfl) 14 (by kernel_rfl) (by kernel_rfl) (fun _ _ _ h => h) (Or.inl ⟨by rfl, ?_⟩) hHeld ?_
  rotate_left
  · (intro wq hSw; go_simp; try with_reducible rfl)
  try simp only [Act.put, List.setIfInBounds_toArray, List.set_cons_zero, List.set_cons_succ]
  refine anyE_ready (i := 13) (o := ⟨some 63, _, _, _, _, _⟩) (by kernel_rfl) rfl (fun KK hK => ?_)
  go_simp
  go_at_call 71
  refine (goTo_any T S N C R F K fa fb fd q ty c t nw rc st ph tl _ HQc.out n ph2 hp2).mono ?_; rintro e w3 ⟨rfl, hQ3, hK3⟩
  replace HMc := Lib.hid (HMc.out.kept hK3 (fun e => hqb e.symm) (fun e => hqg e.symm))
  replace HKc := Lib.hid (HKc.out.trans hK3 (fun i _ e => .inl e))
  have x15 := hQ3.cell (i := 15) rfl
  replace HQc := Lib.hid hQ3
  clear hQ3 hK3
  refine hK.out _ _ (fun h => absurd rfl h) (fun _ => ?_)
  clear hK KK hHeld
  try simp only [Act.put, List.setIfInBounds_toArray, List.set_cons_zero, List.set_cons_succ]
  refine anyE_done (by kernel_rfl) ?_ _
  go_wp2
  go_ret
  exact ⟨rfl, HMc.out, HQc.out, HKc.out⟩

end Go.Proofs.Ytpamjbjgckaedaa
