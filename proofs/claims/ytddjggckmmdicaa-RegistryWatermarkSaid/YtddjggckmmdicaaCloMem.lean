/-
  What New, Cells, Accesses, Peek, Poke, Load, Store and Swap of package memory answer and write, and the kit's Mod, Cells and Same: contracts for every memory and number. Condition: at most 2^20 cells and fewer than 2^63 accesses.
-/
import Derived.Test.YtddjggckmmdicaaRows
import Derived.Test.YtddjggckmmdicaaMemPlain
import Derived.WalkSpells
import Derived.WalkLawsBesides
namespace Go.Proofs.Ytddjggckmmdicaa
open Go.RowKit Go.Deep

/-- The memory at block b: its cells lie in block g and read as l; k accesses so far. -/
structure Mem (w : World) (b g : Nat) (l : List Cel) (k : Nat) : Prop where
  obj : Blk w b 54 [.slice (some ⟨g, 0, none⟩) l.length l.length, .int .u64 k]
  row : Blk w g 36 (flat3 l)
  ne : b ≠ g

theorem Mem.kept {S : Nat → Prop} {w w' : World} {b g : Nat} {l : List Cel} {k : Nat} (h : Mem w b g l k) (hk : Kept S w w') (hb : ¬ S b) (hg : ¬ S g) : Mem w' b g l k :=
  ⟨hk.blk h.obj hb, hk.blk h.row hg, h.ne⟩

theorem Mem.c0 {w : World} {b g : Nat} {l : List Cel} {k : Nat} (h : Mem w b g l k) : w.cell? ⟨b, 0, none⟩ = some (.slice (some ⟨g, 0, none⟩) l.length l.length) := h.obj.cell rfl

theorem Mem.c1 {w : World} {b g : Nat} {l : List Cel} {k : Nat} (h : Mem w b g l k) : w.cell? ⟨b, 1, none⟩ = some (.int .u64 k) := h.obj.cell rfl

set_option maxHeartbeats 400000 in
theorem has_any (b g : Nat) (l : List Cel) (k : Nat) (i : Int) (w : World) (h : Mem w b g l k) :
    Calls Try.prog 21 #[.pointer (some ⟨b, 0, none⟩), .int .i64 i] w fun e w' => e = .returned (.bool (isIn l i)) ∧ w = w' := by
  have c0 := h.c0
  by_cases h0 : 0 ≤ i
  · go_enter Try.func21, Try.ntmps21
    go_wp2
    go_ret
    exact ⟨by unfold isIn; simp [h0], rfl⟩
  · have h1 : decide (0 ≤ i) = false := by simpa using h0
    go_enter Try.func21, Try.ntmps21
    go_wp2
    go_ret
    exact ⟨by unfold isIn; simp; omega, rfl⟩

set_option maxHeartbeats 400000 in
theorem accesses_any (b g : Nat) (l : List Cel) (k : Nat) (w : World) (h : Mem w b g l k) :
    Calls Try.prog 13 #[.pointer (some ⟨b, 0, none⟩)] w fun e w' => e = .returned (.int .u64 k) ∧ w = w' := by
  have c1 := h.c1
  go_enter Try.func13, Try.ntmps13
  go_wp2
  go_ret
  exact ⟨rfl, rfl⟩

set_option maxHeartbeats 400000 in
theorem cells_any (b g : Nat) (l : List Cel) (k : Nat) (w : World) (h : Mem w b g l k) :
    Calls Try.prog 19 #[.pointer (some ⟨b, 0, none⟩)] w fun e w' => e = .returned (.int .i64 l.length) ∧ w = w' := by
  have c0 := h.c0
  go_enter Try.func19, Try.ntmps19
  go_wp2
  go_ret
  exact ⟨rfl, rfl⟩

set_option maxHeartbeats 400000 in
theorem peek_in (b g : Nat) (l : List Cel) (k i : Nat) (N M : Int) (K : ByteArray) (w : World) (h : Mem w b g l k) (hi : i < l.length) (hc : l[i]? = some (N, K, M)) :
    Calls Try.prog 22 #[.pointer (some ⟨b, 0, none⟩), .int .i64 i] w fun e w' => e = .returned (.agg #[.int .u64 N, .string K, .int .u64 M]) ∧ Kept (fun _ => False) w w' := by
  have c0 := h.c0
  obtain ⟨f1, f2, f3⟩ := flat3_at l i _ hc
  have d1 := h.row.cell f1
  have d2 := h.row.cell f2
  have d3 := h.row.cell f3
  have hb := h.obj.lt
  have hg := h.row.lt
  have hin : isIn l i = true := by unfold isIn; simp [hi]
  clear f1 f2 f3 hc
  go_enter Try.func22, Try.ntmps22
  go_wp2_with (go_at_call 21; refine (has_any _ _ l k _ _ ⟨h.obj.alloc _, h.row.alloc _, h.ne⟩).mono ?_; rintro e w' ⟨rfl, rfl⟩)
  refine bodyPost_ret (v := .agg #[.int .u64 N, .string K, .int .u64 M]) (by simp [results, Try.results22, go_sem]) rfl ⟨rfl, ?_⟩
  exact (Kept.refl _ _).alloc _

set_option maxHeartbeats 400000 in
theorem peek_out (b g : Nat) (l : List Cel) (k : Nat) (i : Int) (w : World) (h : Mem w b g l k) (hi : isIn l i = false) :
    Calls Try.prog 22 #[.pointer (some ⟨b, 0, none⟩), .int .i64 i] w fun e w' => e = .returned (.agg #[.int .u64 0, .string ⟨#[]⟩, .int .u64 0]) ∧ Kept (fun _ => False) w w' := by
  have c0 := h.c0
  go_enter Try.func22, Try.ntmps22
  go_wp2_with (go_at_call 21; refine (has_any _ _ l k _ _ ⟨h.obj.alloc _, h.row.alloc _, h.ne⟩).mono ?_; rintro e w' ⟨rfl, rfl⟩)
  refine bodyPost_ret (v := .agg #[.int .u64 0, .string ⟨#[]⟩, .int .u64 0]) (by simp [results, Try.results22, go_sem]) rfl ⟨rfl, ?_⟩
  exact (Kept.refl _ _).alloc _

theorem peek_any (b g : Nat) (l : List Cel) (k : Nat) (i : Int) (N M : Int) (K : ByteArray) (w : World) (h : Mem w b g l k) (hc : cellAt l i = (N, K, M)) :
    Calls Try.prog 22 #[.pointer (some ⟨b, 0, none⟩), .int .i64 i] w fun e w' => e = .returned (.agg #[.int .u64 N, .string K, .int .u64 M]) ∧ Kept (fun _ => False) w w' := by
  by_cases hi : 0 ≤ i ∧ i < l.length
  · obtain ⟨j, rfl⟩ : ∃ j : Nat, i = j := ⟨i.toNat, by omega⟩
    have hj : j < l.length := by omega
    rw [cellAt_in l j hj] at hc
    exact peek_in b g l k j N M K w h hj (by rw [List.getElem?_eq_getElem hj, hc])
  · rw [cellAt_out l i (by omega)] at hc
    obtain ⟨rfl, rfl, rfl⟩ : (0 : Int) = N ∧ (⟨#[]⟩ : ByteArray) = K ∧ (0 : Int) = M := by unfold cel0 at hc; simpa using hc
    exact peek_out b g l k i w h (by unfold isIn; simpa using hi)

theorem Mem.alloc {w : World} {b g : Nat} {l : List Cel} {k : Nat} (h : Mem w b g l k) (o : Obj) : Mem (w.alloc o) b g l k := ⟨h.obj.alloc _, h.row.alloc _, h.ne⟩

theorem Mem.drew {w : World} {b g : Nat} {l : List Cel} {k : Nat} (h : Mem w b g l k) : Mem w.drew b g l k := ⟨h.obj, h.row, h.ne⟩

theorem Mem.bump {w : World} {b g : Nat} {l : List Cel} {k : Nat} (h : Mem w b g l k) : Mem (w.setCell ⟨b, 1, none⟩ (.int .u64 ((k : Int) + 1))) b g l (k + 1) :=
  ⟨h.obj.set 1 _, h.row.other h.ne.symm _, h.ne⟩

theorem Mem.put {w : World} {b g : Nat} {l : List Cel} {k : Nat} (h : Mem w b g l k) (i : Nat) (N M : Int) (K : ByteArray) :
    Mem (((w.setCell ⟨g, i * 3, none⟩ (.int .u64 N)).setCell ⟨g, i * 3 + 1, none⟩ (.string K)).setCell ⟨g, i * 3 + 2, none⟩ (.int .u64 M)) b g (l.set i (N, K, M)) k :=
  ⟨by rw [List.length_set]; exact ((h.obj.other h.ne _).other h.ne _).other h.ne _, by rw [flat3_set]; exact ((h.row.set _ _).set _ _).set _ _, h.ne⟩

theorem Mem.others {w : World} {b g : Nat} {l : List Cel} {k : Nat} (h : Mem w b g l k) {r : Nat} (hr : b ≠ r ∧ g ≠ r) (u v x : Value) : Mem (((w.setCell ⟨r, 0, none⟩ u).setCell ⟨r, 1, none⟩ v).setCell ⟨r, 2, none⟩ x) b g l k :=
  ⟨((h.obj.other hr.1 _).other hr.1 _).other hr.1 _, ((h.row.other hr.2 _).other hr.2 _).other hr.2 _, h.ne⟩

/-- The blocks of a memory. -/
def Own (b g : Nat) : Nat → Prop := fun k => k = b ∨ k = g

set_option maxHeartbeats 400000 in
theorem load_any (b g : Nat) (l : List Cel) (k : Nat) (i : Int) (N M : Int) (K : ByteArray) (w : World) (h : Mem w b g l k) (hk : k < 9223372036854775808) (hc : cellAt l i = (N, K, M)) :
    Calls Try.prog 29 #[.pointer (some ⟨b, 0, none⟩), .int .i64 i] w fun e w' => e = .returned (.agg #[.int .u64 N, .string K, .int .u64 M]) ∧ Mem w' b g l (k + 1) ∧ Kept (Own b g) w w' := by
  have c1 := h.c1
  have hb := h.obj.lt
  have hg := h.row.lt
  have hz := h.obj.frozen 1
  have HC := Lib.hid hc
  clear hc
  go_enter Try.func29, Try.ntmps29
  go_wp2_with fail
  refine (peek_any _ _ l (k + 1) _ _ _ _ _ (h.bump.alloc _) HC.out).mono ?_; rintro e w' ⟨rfl, hkp⟩
  have hR : Blk w' w.heap.size 36 [.int .u64 0, .string ⟨#[]⟩, .int .u64 0] := hkp.blk (by have := Blk.new (w.setCell ⟨b, 1, none⟩ (.int .u64 ((k : Int) + 1))) [.int .u64 0, .string ⟨#[]⟩, .int .u64 0] 36; rwa [nblk_setCell] at this) id
  have HM : Hid (Mem w' b g l (k + 1)) := Lib.hid ((h.bump.alloc _).kept hkp id id)
  have HK : Hid (Kept (Own b g) w w') := Lib.hid ((((Kept.refl _ _).setCell (fun _ => .inl rfl) _).alloc _).trans hkp (fun _ _ h => h.elim))
  clear hkp c1 hz h
  have y0 := hR.cell (i := 0) rfl
  have y1 := hR.cell (i := 1) rfl
  have y2 := hR.cell (i := 2) rfl
  have z0 := hR.frozen 0
  have z1 := hR.frozen 1
  have z2 := hR.frozen 2
  go_wp2
  refine bodyPost_ret (v := .agg #[.int .u64 N, .string K, .int .u64 M]) ?_ rfl ⟨rfl, ?_, ?_⟩
  · have hQ := ((hR.set 0 (.int .u64 N)).set 1 (.string K)).set 2 (.int .u64 M)
    have q0 := hQ.cell (i := 0) rfl
    have q1 := hQ.cell (i := 1) rfl
    have q2 := hQ.cell (i := 2) rfl
    clear y0 y1 y2 z0 z1 z2 hQ hR HM HK
    simp [results, Try.results29, go_sem, *]
  · exact HM.out.others (by omega) _ _ _
  · exact ((HK.out.setCell (fun h => absurd h (Nat.lt_irrefl _)) _).setCell (fun h => absurd h (Nat.lt_irrefl _)) _).setCell (fun h => absurd h (Nat.lt_irrefl _)) _

set_option maxHeartbeats 400000 in
theorem poke_in (b g : Nat) (l : List Cel) (k i : Nat) (N M : Int) (K : ByteArray) (w : World) (h : Mem w b g l k) (hi : i < l.length) :
    Calls Try.prog 8 #[.pointer (some ⟨b, 0, none⟩), .int .i64 i, .agg #[.int .u64 N, .string K, .int .u64 M]] w fun e w' => e = .returned (.tuple #[]) ∧ Mem w' b g (l.set i (N, K, M)) k ∧ Kept (Own b g) w w' := by
  have hin : isIn l i = true := by unfold isIn; simp [hi]
  have hc := List.getElem?_eq_getElem hi
  obtain ⟨f1, f2, f3⟩ := flat3_at l i _ hc
  have hb := h.obj.lt
  have hg := h.row.lt
  go_enter Try.func8, Try.ntmps8
  go_wp2_with (go_at_call 21; refine (has_any _ _ l k _ _ (h.alloc _)).mono ?_; rintro e w' ⟨rfl, rfl⟩)
  have hM := h.alloc (.cells #[.int .u64 N, .string K, .int .u64 M] 36)
  have hkp := (Kept.refl (Own b g) w).alloc (.cells #[.int .u64 N, .string K, .int .u64 M] 36)
  have x0 : (w.alloc (.cells #[.int .u64 N, .string K, .int .u64 M] 36)).cell? ⟨w.heap.size, 0, none⟩ = some (.int .u64 N) := by simp
  have x1 : (w.alloc (.cells #[.int .u64 N, .string K, .int .u64 M] 36)).cell? ⟨w.heap.size, 1, none⟩ = some (.string K) := by simp
  have x2 : (w.alloc (.cells #[.int .u64 N, .string K, .int .u64 M] 36)).cell? ⟨w.heap.size, 2, none⟩ = some (.int .u64 M) := by simp
  have HK := Lib.hid hkp
  have HM := Lib.hid hM
  have c0 := hM.c0
  have d1 := hM.row.cell f1
  have d2 := hM.row.cell f2
  have d3 := hM.row.cell f3
  have z1 := hM.row.frozen (i * 3)
  have z2 := hM.row.frozen (i * 3 + 1)
  have z3 := hM.row.frozen (i * 3 + 2)
  generalize w.heap.size = B at *
  clear f1 f2 f3 hc hM hkp h
  generalize w.alloc (.cells #[.int .u64 N, .string K, .int .u64 M] 36) = W at *
  go_region
  go_wp2
  go_end0
  exact ⟨rfl, (HM.out.put i N M K).drew, (((HK.out.setCell (fun _ => .inr rfl) _).setCell (fun _ => .inr rfl) _).setCell (fun _ => .inr rfl) _).drew⟩

set_option maxHeartbeats 400000 in
theorem poke_out (b g : Nat) (l : List Cel) (k : Nat) (i : Int) (N M : Int) (K : ByteArray) (w : World) (h : Mem w b g l k) (hi : isIn l i = false) :
    Calls Try.prog 8 #[.pointer (some ⟨b, 0, none⟩), .int .i64 i, .agg #[.int .u64 N, .string K, .int .u64 M]] w fun e w' => e = .returned (.tuple #[]) ∧ Mem w' b g l k ∧ Kept (Own b g) w w' := by
  go_enter Try.func8, Try.ntmps8
  go_wp2_with (go_at_call 21; refine (has_any _ _ l k _ _ (h.alloc _)).mono ?_; rintro e w' ⟨rfl, rfl⟩)
  go_end0
  exact ⟨rfl, h.alloc _, (Kept.refl _ _).alloc _⟩

theorem poke_any (b g : Nat) (l : List Cel) (k : Nat) (i : Int) (N M : Int) (K : ByteArray) (w : World) (h : Mem w b g l k) :
    Calls Try.prog 8 #[.pointer (some ⟨b, 0, none⟩), .int .i64 i, .agg #[.int .u64 N, .string K, .int .u64 M]] w fun e w' => e = .returned (.tuple #[]) ∧ Mem w' b g (putAt l i (N, K, M)) k ∧ Kept (Own b g) w w' := by
  by_cases hi : 0 ≤ i ∧ i < l.length
  · obtain ⟨j, rfl⟩ : ∃ j : Nat, i = j := ⟨i.toNat, by omega⟩
    rw [putAt_in]
    exact poke_in b g l k j N M K w h (by omega)
  · rw [putAt_out l i _ (by omega)]
    exact poke_out b g l k i N M K w h (by unfold isIn; simpa using hi)

theorem field0 (a c : Int) (s : ByteArray) (w : World) : (Instr.field 36 (.agg #[.int .u64 a, .string s, .int .u64 c]) 0).run Try.prog w = .ok (.int .u64 a) w := by kernel_rfl

/-- Does a swap with this old number change cell i? -/
def swaps (l : List Cel) (i old : Int) : Bool := isIn l i && (cellAt l i).1 == old

theorem Try.info36 : (Try.prog.info? 36).map (fun i => (i.zero, i.size, i.bytes)) = some (some (.agg #[.int .u64 0, .string ByteArray.empty, .int .u64 0]), 3, 32) := by kernel_rfl

theorem made_zero : ∀ n : Nat, (madeCells #[.int .u64 0, .string ⟨#[]⟩, .int .u64 0] (n * 3)).toList = flat3 (List.replicate n cel0) := by
  intro n
  apply List.ext_getElem?
  intro j
  by_cases hj : j < n * 3
  · have h1 : (List.replicate n cel0)[j / 3]? = some cel0 := by rw [List.getElem?_replicate, if_pos (by omega)]
    obtain ⟨f1, f2, f3⟩ := flat3_at _ _ _ h1
    have hr : j % 3 < 3 := Nat.mod_lt _ (by decide)
    rcases (by omega : j % 3 = 0 ∨ j % 3 = 1 ∨ j % 3 = 2) with h | h | h
    · rw [show j / 3 * 3 = j by omega] at f1
      rw [f1]; simp [madeCells, hj, h, cel0]
    · rw [show j / 3 * 3 + 1 = j by omega] at f2
      rw [f2]; simp [madeCells, hj, h, cel0]
    · rw [show j / 3 * 3 + 2 = j by omega] at f3
      rw [f3]; simp [madeCells, hj, h, cel0]
  · rw [List.getElem?_eq_none (by simp [madeCells]; omega), List.getElem?_eq_none (by rw [flat3_length]; simp; omega)]

theorem make_cells (n : Nat) (hn : n ≤ 1099511627776) (w : World) :
    (Instr.makeSlice 38 (.int .i64 (n : Int)) (.int .i64 (n : Int))).run Try.prog w = .ok (.slice (some ⟨w.heap.size, 0, none⟩) n n) (w.alloc (.cells ⟨flat3 (List.replicate n cel0)⟩ 36)) := by
  obtain ⟨i, hi, hz0, hz1, hz2⟩ := info_parts Try.info36
  have hr := run_make (P := Try.prog) w 38 36 i _ Try.underlying38 hi hz0 .i64 .i64 n n (by omega) (Int.le_refl _) (by rw [hz2]; omega) (by omega)
  rw [hr, hz1]
  have := Array.ext' (made_zero n : (madeCells #[.int .u64 0, .string ⟨#[]⟩, .int .u64 0] (n * 3)).toList = (⟨flat3 (List.replicate n cel0)⟩ : Array Value).toList)
  rw [← this]
  rfl

theorem Mem.new (w : World) (l : List Cel) (k : Nat) : Mem ((w.alloc (.cells ⟨flat3 l⟩ 36)).alloc (.cells #[.slice (some ⟨w.heap.size, 0, none⟩) l.length l.length, .int .u64 k] 54)) (w.heap.size + 1) w.heap.size l k :=
  ⟨by have := Blk.new (w.alloc (.cells ⟨flat3 l⟩ 36)) [.slice (some ⟨w.heap.size, 0, none⟩) l.length l.length, .int .u64 k] 54; rwa [nblk_alloc] at this, (Blk.new _ _ _).alloc _, by omega⟩

set_option maxHeartbeats 400000 in
theorem new_ok (n : Nat) (h1 : 1 ≤ n) (h2 : n ≤ 1048576) (w : World) :
    Calls Try.prog 33 #[.int .i64 n] w fun e w' => e = .returned (.tuple #[.pointer (some ⟨w.heap.size + 1, 0, none⟩), .int .i64 0]) ∧ Mem w' (w.heap.size + 1) w.heap.size (List.replicate n cel0) 0 ∧ Kept (fun _ => False) w w' := by
  have hmk := make_cells n (by omega)
  go_enter Try.func33, Try.ntmps33
  go_wp2
  go_ret2
  have hm := Mem.new w (List.replicate n cel0) 0
  rw [List.length_replicate] at hm
  exact ⟨rfl, hm, ((Kept.refl _ _).alloc _).alloc _⟩

theorem mod_neg (k n : Int) (hn : 0 < n) (h : k.tmod n < 0) : k.tmod n + n = k % n := by
  have e : k % n = k.tmod n % n := by
    have := Int.tmod_add_mul_tdiv k n
    rw [← this, Int.add_mul_emod_self_left, this]
  have l := Int.lt_tmod_of_pos k hn
  rw [e, ← Int.add_emod_right, Int.emod_eq_of_lt (by omega) (by omega)]

theorem mod_pos (k n : Int) (hn : 0 < n) (h : 0 ≤ k.tmod n) : k.tmod n = k % n := by
  have e : k % n = k.tmod n % n := by
    have := Int.tmod_add_mul_tdiv k n
    rw [← this, Int.add_mul_emod_self_left, this]
  rw [e, Int.emod_eq_of_lt h (Int.tmod_lt_of_pos k hn)]

theorem ret_int {k : IntKind} {a b : Int} (h : a = b) : Ending.returned (.int k a) = .returned (.int k b) := by rw [h]

set_option maxHeartbeats 400000 in
theorem mod_any (k n : Int) (w : World) (hn : 0 < n) (hn2 : n ≤ 9223372036854775807) :
    Calls Try.prog 5 #[.int .i64 k, .int .i64 n] w fun e w' => e = .returned (.int .i64 (k % n)) ∧ w = w' := by
  go_enter Try.func5, Try.ntmps5
  go_wp2
  · have hl := Int.lt_tmod_of_pos k hn
    have h : k.tmod n < 0 := by assumption
    go_ret
    exact ⟨ret_int (by rw [IntWalk.wrap64_in _ (by omega)]; exact mod_neg k n hn h), rfl⟩
  · have h : 0 ≤ k.tmod n := by assumption
    go_ret
    exact ⟨ret_int (mod_pos k n hn h), rfl⟩

theorem mod_of (k n : Int) (r : Nat) (w : World) (hn : 0 < n) (hn2 : n ≤ 9223372036854775807) (h : k % n = r) :
    Calls Try.prog 5 #[.int .i64 k, .int .i64 n] w fun e w' => e = .returned (.int .i64 r) ∧ w = w' := by
  have := mod_any k n w hn hn2; rwa [h] at this

theorem new_of (n : Int) (N : Nat) (w : World) (h : n = N) (h1 : 1 ≤ N) (h2 : N ≤ 1048576) :
    Calls Try.prog 33 #[.int .i64 n] w fun e w' => e = .returned (.tuple #[.pointer (some ⟨w.heap.size + 1, 0, none⟩), .int .i64 0]) ∧ Mem w' (w.heap.size + 1) w.heap.size (List.replicate N cel0) 0 ∧ Kept (fun _ => False) w w' := by
  subst h; exact new_ok N h1 h2 w

theorem cellAt_zero (n : Nat) (i : Int) : cellAt (List.replicate n cel0) i = (0, ⟨#[]⟩, 0) := by
  unfold cellAt; split
  · rw [List.getD_eq_getElem?_getD, List.getElem?_replicate]; split <;> rfl
  · rfl

theorem mod_ex (k n : Int) (hn : 0 < n) : ∃ r : Nat, k % n = r ∧ (r : Int) < n := ⟨(k % n).toNat, by have := Int.emod_nonneg k (by omega : n ≠ 0); omega, by have := Int.emod_lt_of_pos k hn; have := Int.emod_nonneg k (by omega : n ≠ 0); omega⟩

theorem fill_start (l : List Cel) : l.take 0 ++ List.replicate (l.length - 0) cel0 = List.replicate l.length cel0 := by simp

theorem fill_step (l : List Cel) (j : Nat) (h : j < l.length) (c : Cel) (hc : l[j]? = some c) : (l.take j ++ List.replicate (l.length - j) cel0).set j c = l.take (j + 1) ++ List.replicate (l.length - (j + 1)) cel0 := by
  have e : l.length - j = (l.length - (j + 1)) + 1 := by omega
  rw [e, List.replicate_succ, List.set_append_right _ _ (by rw [List.length_take]; omega)]
  rw [List.length_take, show j - min j l.length = 0 by omega, List.set_cons_zero, List.take_succ_eq_append_getElem h]
  obtain ⟨_, rfl⟩ := List.getElem?_eq_some_iff.1 hc
  rw [List.append_assoc]
  rfl

theorem fill_end (l : List Cel) : l.take l.length ++ List.replicate (l.length - l.length) cel0 = l := by simp

theorem fill_length (l : List Cel) (j : Nat) (h : j ≤ l.length) : (l.take j ++ List.replicate (l.length - j) cel0).length = l.length := by simp; omega

/-- The row out as far as it has been filled. -/
def filled (l : List Cel) (j : Nat) : List Value := flat3 (l.take j ++ List.replicate (l.length - j) cel0)

theorem filled_at (l : List Cel) (j : Nat) (h : j < l.length) : ∃ a b c, (filled l j)[j * 3]? = some a ∧ (filled l j)[j * 3 + 1]? = some b ∧ (filled l j)[j * 3 + 2]? = some c := by
  have hl := fill_length l j (by omega)
  obtain ⟨x, hx⟩ : ∃ x, (l.take j ++ List.replicate (l.length - j) cel0)[j]? = some x := ⟨_, List.getElem?_eq_getElem (by omega)⟩
  obtain ⟨f1, f2, f3⟩ := flat3_at _ _ _ hx
  exact ⟨_, _, _, f1, f2, f3⟩

theorem filled_set (l : List Cel) (j : Nat) (h : j < l.length) (c : Cel) (hc : l[j]? = some c) : (((filled l j).set (j * 3) (.int .u64 c.1)).set (j * 3 + 1) (.string c.2.1)).set (j * 3 + 2) (.int .u64 c.2.2) = filled l (j + 1) := by
  unfold filled; rw [← flat3_set, fill_step l j h c hc]

set_option maxHeartbeats 400000 in
theorem kitCells_any (b g : Nat) (l : List Cel) (k : Nat) (w : World) (h : Mem w b g l k) (hl : l.length ≤ 1099511627776) :
    Calls Try.prog 10 #[.pointer (some ⟨b, 0, none⟩)] w fun e w' => e = .returned (.slice (some ⟨w.heap.size, 0, none⟩) l.length l.length) ∧ Blk w' w.heap.size 36 (flat3 l) ∧ Kept (fun _ => False) w w' := by
  have hmk := make_cells l.length hl
  go_enter Try.func10, Try.ntmps10
  go_wp2_with (go_at_call 19; refine (cells_any _ _ l k _ h).mono ?_; rintro e w' ⟨rfl, rfl⟩)
  go_loopw [4] (fun i wr => ∃ j : Nat, j ≤ l.length ∧ i = .int .i64 j ∧ Blk wr w.heap.size 36 (filled l j) ∧ Kept (fun _ => False) w wr) (fun i _ => l.length - (intOf i).toNat)
  case atStart => exact ⟨0, by omega, rfl, by unfold filled; rw [fill_start]; exact Blk.new _ _ _, (Kept.refl _ _).alloc _⟩
  case round =>
    obtain ⟨j, hj, rfl, hB, hK⟩ := hrel
    by_cases hlt : j < l.length
    · have hM := h.kept hK id id
      obtain ⟨N, K, M, hc⟩ : ∃ N K M, cellAt l j = (N, K, M) := ⟨_, _, _, rfl⟩
      have hcj : l[j]? = some (N, K, M) := by rw [cellAt_in l j hlt] at hc; rw [List.getElem?_eq_getElem hlt, hc]
      have HC := Lib.hid hc
      have HJ := Lib.hid hcj
      have HB := Lib.hid hB
      have HK := Lib.hid hK
      clear hc hcj hB hK
      go_wp2_with fail
      refine (peek_any _ _ l k _ _ _ _ _ hM HC.out).mono ?_; rintro e w1 ⟨rfl, hkp⟩
      have hB1 := (HB.out.of (hkp.block _ HB.out.lt id) : Blk w1 w.heap.size 36 (filled l j))
      have HK1 := Lib.hid (HK.out.trans hkp (fun _ _ h => h))
      have HS := Lib.hid (filled_set l j hlt _ HJ.out)
      obtain ⟨x0, x1, x2, f0, f1, f2⟩ := filled_at l j hlt
      have y0 := hB1.cell f0
      have y1 := hB1.cell f1
      have y2 := hB1.cell f2
      have z0 := hB1.frozen (j * 3)
      have z1 := hB1.frozen (j * 3 + 1)
      have z2 := hB1.frozen (j * 3 + 2)
      have HB1 := Lib.hid hB1
      clear f0 f1 f2 hB1 hkp HB HK HC HJ hM
      go_wp2
      go_roundw
      case rel => exact ⟨j + 1, by omega, by go_num, by rw [← HS.out]; exact ((HB1.out.set _ _).set _ _).set _ _, ((HK1.out.setCell (fun h => absurd h (Nat.lt_irrefl _)) _).setCell (fun h => absurd h (Nat.lt_irrefl _)) _).setCell (fun h => absurd h (Nat.lt_irrefl _)) _⟩
      case measure => simp [intOf]; omega
    · obtain rfl : j = l.length := by omega
      unfold filled at hB
      rw [fill_end] at hB
      go_wp2
      go_ret
      exact ⟨rfl, hB, hK⟩

set_option maxHeartbeats 400000 in
theorem same_yes (g1 g2 c1 c2 : Nat) (l : List Cel) (w : World) (h1 : ∀ i u, (flat3 l)[i]? = some u → w.cell? ⟨g1, i, none⟩ = some u) (h2 : ∀ i u, (flat3 l)[i]? = some u → w.cell? ⟨g2, i, none⟩ = some u) (hl : l.length ≤ 1099511627776) :
    Calls Try.prog 17 #[.slice (some ⟨g1, 0, none⟩) l.length c1, .slice (some ⟨g2, 0, none⟩) l.length c2] w fun e w' => e = .returned (.bool true) ∧ ∃ n, w' = w.drewN n := by
  have H1 := Lib.hid h1
  have H2 := Lib.hid h2
  clear h1 h2
  go_enter Try.func17, Try.ntmps17
  go_wp2
  go_loopw [5] (fun i wr => ∃ j n : Nat, j ≤ l.length ∧ i = .int .i64 j ∧ wr = w.drewN n) (fun i _ => l.length - (intOf i).toNat)
  case atStart => exact ⟨0, 0, by omega, rfl, rfl⟩
  case round =>
    obtain ⟨j, n, hj, rfl, rfl⟩ := hrel
    by_cases hlt : j < l.length
    · obtain ⟨f1, f2, f3⟩ := flat3_at l j _ (List.getElem?_eq_getElem hlt)
      have d1 := H1.out _ _ f1
      have d2 := H1.out _ _ f2
      have d3 := H1.out _ _ f3
      have e1 := H2.out _ _ f1
      have e2 := H2.out _ _ f2
      have e3 := H2.out _ _ f3
      clear f1 f2 f3
      obtain ⟨N, hN⟩ : ∃ N, N = l[j].1 := ⟨_, rfl⟩
      obtain ⟨K, hK⟩ : ∃ K, K = l[j].2.1 := ⟨_, rfl⟩
      obtain ⟨M, hM⟩ : ∃ M, M = l[j].2.2 := ⟨_, rfl⟩
      rw [← hN] at d1 e1
      rw [← hK] at d2 e2
      rw [← hM] at d3 e3
      clear hN hK hM
      go_wp2_with fail
      go_quiet (fail)
      go_wp2
      go_roundw
      case rel => exact ⟨j + 1, n + nq, by omega, by go_num, rfl⟩
      case measure => simp [intOf]; omega
    · go_wp2
      go_ret
      exact ⟨rfl, n, rfl⟩

end Go.Proofs.Ytddjggckmmdicaa
