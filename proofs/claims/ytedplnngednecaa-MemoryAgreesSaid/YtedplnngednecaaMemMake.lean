/-
  What New and Copy of package memory make, and the small functions Mod and Cells of the kit: contracts for every memory and number. Condition: numbers within 64 bits, at most 2^40 cells.
-/
import Derived.Test.YtedplnngednecaaMemWalks
import Derived.Laws.CopyRow
namespace Go.Proofs.Ytedplnngednecaa
open Go.RowKit Go.Deep

theorem Try.info32 : (Try.prog.info? 32).map (fun i => (i.zero, i.size, i.bytes)) = some (some (.agg #[.int .u64 0, .string ByteArray.empty, .int .u64 0]), 3, 32) := by kernel_rfl

theorem made_zero : ∀ n : Nat, (madeCells #[.int .u64 0, .string ⟨#[]⟩, .int .u64 0] (n * 3)).toList = flat3 (List.replicate n cel0) := by
  intro n
  apply List.ext_getElem?
  intro j
  by_cases hj : j < n * 3
  · have h1 : (List.replicate n cel0)[j / 3]? = some cel0 := by rw [List.getElem?_replicate, if_pos (by omega)]
    obtain ⟨f1, f2, f3⟩ := flat3_at _ _ _ h1
    have hr : j % 3 < 3 := Nat.mod_lt _ (by decide)
    rcases (by omega : j % 3 = 0 ∨ j % 3 = 1 ∨ j % 3 = 2) with h | h | h
    · rw [show j / 3 * 3 = j by omega] at f1
      rw [f1]; simp [madeCells, hj, h, cel0]
    · rw [show j / 3 * 3 + 1 = j by omega] at f2
      rw [f2]; simp [madeCells, hj, h, cel0]
    · rw [show j / 3 * 3 + 2 = j by omega] at f3
      rw [f3]; simp [madeCells, hj, h, cel0]
  · rw [List.getElem?_eq_none (by simp [madeCells]; omega), List.getElem?_eq_none (by rw [flat3_length]; simp; omega)]

theorem make_cells (n : Nat) (hn : n ≤ 1099511627776) (w : World) :
    (Instr.makeSlice 36 (.int .i64 (n : Int)) (.int .i64 (n : Int))).run Try.prog w = .ok (.slice (some ⟨w.heap.size, 0, none⟩) n n) (w.alloc (.cells ⟨flat3 (List.replicate n cel0)⟩ 32)) := by
  obtain ⟨i, hi, hz0, hz1, hz2⟩ := info_parts Try.info32
  have hr := run_make (P := Try.prog) w 36 32 i _ Try.underlying36 hi hz0 .i64 .i64 n n (by omega) (Int.le_refl _) (by rw [hz2]; omega) (by omega)
  rw [hr, hz1]
  have := made_zero n
  congr 3
  apply Array.ext'
  exact this

theorem run_copy_row_wide {P : Program} (w : World) (dT sT ty elem : TypeId) (g o dLen dCap : Nat) (a : Addr) (sLen sCap size : Nat) (cur : Array Value) (t : TypeId) (cs : List Value)
    (hu : P.underlying dT = some (.slice elem)) (hs : (P.info? elem).map (·.size) = some size)
    (hg : w.heap[g]? = some (.cells cur t (0, 0))) (hn : cs.length = Nat.min sLen dLen * size)
    (hsrc : ∀ j v, cs[j]? = some v → w.cell? (a.add j) = some v) (hfit : o + cs.length ≤ cur.size) (h1 : ∀ v ∈ cs, v.oneCell' = true) :
    (Builtin.copy_ #[dT, sT] ty #[.slice (some ⟨g, o, none⟩) dLen dCap, .slice (some a) sLen sCap]).run P w =
      .ok (goInt (Nat.min sLen dLen)) (w.setRow g (cur.toList.take o ++ cs ++ cur.toList.drop (o + cs.length)).toArray) := by
  have hl := run_loadCells_list (P := P) w a cs hsrc
  have hst := run_storeCells_at P g o t cs 0 cur w hg (by simpa using hfit) h1
  cases hq : P.info? elem with
  | none => simp [hq] at hs
  | some i =>
    have hi : i.size = size := by simpa [hq] using hs
    simp [Builtin.copy_, run_underlying hu, Builtin.lenOf, Builtin.firstCells, sizeOf, typeInfo, hq, hi, ← hn, hl, hst]

theorem flat3_one : ∀ (l : List Cel), ∀ u ∈ flat3 l, u.oneCell' = true
  | [], u, h => by simp [flat3] at h
  | c :: r, u, h => by
    simp only [flat3, List.mem_cons] at h
    rcases h with rfl | rfl | rfl | h
    · rfl
    · rfl
    · rfl
    · exact flat3_one r u h

theorem copy_cells (w : World) (g : Nat) (l m : List Cel) (ty : TypeId) (hm : m.length = l.length) (h : Blk w g 32 (flat3 l)) :
    (Builtin.copy_ #[36, 36] ty #[.slice (some ⟨w.heap.size, 0, none⟩) l.length l.length, .slice (some ⟨g, 0, none⟩) l.length l.length]).run Try.prog (w.alloc (.cells ⟨flat3 m⟩ 32)) =
      .ok (.int .i64 l.length) (w.alloc (.cells ⟨flat3 l⟩ 32)) := by
  have hr := run_copy_row_wide (P := Try.prog) (w.alloc (.cells ⟨flat3 m⟩ 32)) 36 36 ty 32 w.heap.size 0 l.length l.length ⟨g, 0, none⟩ l.length l.length 3 ⟨flat3 m⟩ 32 (flat3 l)
    Try.underlying36 (by kernel_rfl) (Blk.new w (flat3 m) _) (by rw [flat3_length]; simp) (fun j v hv => by rw [Addr.add_lit, Nat.zero_add]; exact (h.alloc _).cell hv) (by simp [flat3_length, hm]) (flat3_one l)
  rw [hr]
  have e1 : Nat.min l.length l.length = l.length := Nat.min_self _
  rw [e1]
  have e2 : (flat3 m).drop (flat3 l).length = [] := List.drop_eq_nil_of_le (by rw [flat3_length, flat3_length, hm]; exact Nat.le_refl _)
  have e3 : (w.alloc (.cells ⟨flat3 m⟩ 32)).setRow w.heap.size (flat3 l).toArray = w.alloc (.cells ⟨flat3 l⟩ 32) := by
    unfold World.setRow World.alloc
    congr 1
    apply Array.ext
    · simp
    · intro k h1 h2
      simp only [Array.getElem_modify, Array.getElem_push]
      simp only [Array.size_push] at h2
      split
      · rename_i hk; subst hk; simp
      · rename_i hk
        have : k < w.heap.size := by omega
        simp [this]
  simp only [List.take_zero, List.nil_append, Nat.zero_add, e2, List.append_nil]
  rw [e3]
  rfl

theorem Mem.new (w : World) (l : List Cel) (k : Nat) : Mem ((w.alloc (.cells ⟨flat3 l⟩ 32)).alloc (.cells #[.slice (some ⟨w.heap.size, 0, none⟩) l.length l.length, .int .u64 k] 52)) (w.heap.size + 1) w.heap.size l k :=
  ⟨by have := Blk.new (w.alloc (.cells ⟨flat3 l⟩ 32)) [.slice (some ⟨w.heap.size, 0, none⟩) l.length l.length, .int .u64 k] 52; rwa [nblk_alloc] at this, (Blk.new _ _ _).alloc _, by omega⟩

set_option maxHeartbeats 400000 in
theorem new_ok (n : Nat) (h1 : 1 ≤ n) (h2 : n ≤ 1048576) (w : World) :
    Calls Try.prog 7 #[.int .i64 n] w fun e w' => e = .returned (.tuple #[.pointer (some ⟨w.heap.size + 1, 0, none⟩), .int .i64 0]) ∧ Mem w' (w.heap.size + 1) w.heap.size (List.replicate n cel0) 0 ∧ Kept (fun _ => False) w w' := by
  have hmk := make_cells n (by omega)
  go_enter Try.func7, Try.ntmps7
  go_wp2
  go_ret2
  have hm := Mem.new w (List.replicate n cel0) 0
  rw [List.length_replicate] at hm
  exact ⟨rfl, hm, ((Kept.refl _ _).alloc _).alloc _⟩

set_option maxHeartbeats 400000 in
theorem new_bad (n : Int) (h : n < 1 ∨ 1048576 < n) (w : World) :
    Calls Try.prog 7 #[.int .i64 n] w fun e w' => e = .returned (.tuple #[.pointer none, .int .i64 1]) ∧ w = w' := by
  rcases h with h | h
  · go_enter Try.func7, Try.ntmps7
    go_wp2
    go_ret2
    exact ⟨rfl, rfl⟩
  · have h' : decide (n < 1) = false := by simp; omega
    go_enter Try.func7, Try.ntmps7
    go_wp2
    go_ret2
    exact ⟨rfl, rfl⟩

set_option maxHeartbeats 400000 in
theorem copy_any (b g : Nat) (l : List Cel) (k : Nat) (w : World) (h : Mem w b g l k) (hl : l.length ≤ 1099511627776) :
    Calls Try.prog 14 #[.pointer (some ⟨b, 0, none⟩)] w fun e w' => e = .returned (.pointer (some ⟨w.heap.size + 1, 0, none⟩)) ∧ Mem w' (w.heap.size + 1) w.heap.size l k ∧ Kept (fun _ => False) w w' := by
  have c0 := h.c0
  have c1 := h.c1
  have hb := h.obj.lt
  have hg := h.row.lt
  have hmk := make_cells l.length hl
  have hcp := fun ty => copy_cells w g l (List.replicate l.length cel0) ty (by simp) h.row
  go_enter Try.func14, Try.ntmps14
  go_wp2
  go_ret
  exact ⟨rfl, Mem.new w l k, ((Kept.refl _ _).alloc _).alloc _⟩

theorem mod_neg (k n : Int) (hn : 0 < n) (h : k.tmod n < 0) : k.tmod n + n = k % n := by
  have e : k % n = k.tmod n % n := by
    have := Int.tmod_add_mul_tdiv k n
    rw [← this, Int.add_mul_emod_self_left, this]
  have l := Int.lt_tmod_of_pos k hn
  rw [e, ← Int.add_emod_right, Int.emod_eq_of_lt (by omega) (by omega)]
theorem mod_pos (k n : Int) (hn : 0 < n) (h : 0 ≤ k.tmod n) : k.tmod n = k % n := by
  have e : k % n = k.tmod n % n := by
    have := Int.tmod_add_mul_tdiv k n
    rw [← this, Int.add_mul_emod_self_left, this]
  rw [e, Int.emod_eq_of_lt h (Int.tmod_lt_of_pos k hn)]
theorem ret_int {k : IntKind} {a b : Int} (h : a = b) : Ending.returned (.int k a) = .returned (.int k b) := by rw [h]

set_option maxHeartbeats 400000 in
theorem mod_any (k n : Int) (w : World) (hn : 0 < n) (hn2 : n ≤ 9223372036854775807) :
    Calls Try.prog 8 #[.int .i64 k, .int .i64 n] w fun e w' => e = .returned (.int .i64 (k % n)) ∧ w = w' := by
  go_enter Try.func8, Try.ntmps8
  go_wp2
  · have hl := Int.lt_tmod_of_pos k hn
    have h : k.tmod n < 0 := by assumption
    go_ret
    exact ⟨ret_int (by rw [IntWalk.wrap64_in _ (by omega)]; exact mod_neg k n hn h), rfl⟩
  · have h : 0 ≤ k.tmod n := by assumption
    go_ret
    exact ⟨ret_int (mod_pos k n hn h), rfl⟩

end Go.Proofs.Ytedplnngednecaa
