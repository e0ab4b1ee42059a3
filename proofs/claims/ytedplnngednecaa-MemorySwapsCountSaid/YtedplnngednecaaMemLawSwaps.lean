/-
  The statement of layer 2 'threads that increase a cell by loading and swapping lose no increase': it returns true for every number and every list of picks; nothing that was there is written. Condition: the list of picks within the model's reach.
-/
import Derived.Test.YtedplnngednecaaMemLawNew
import Derived.StillTailTactics
import Derived.Deep.RegionHeld3
namespace Go.Proofs.Ytedplnngednecaa
open Go.RowKit Go.Deep

theorem made_row (z : Value) (n : Nat) : madeCells #[z] n = ⟨List.replicate n z⟩ := by
  apply Array.ext'
  apply List.ext_getElem?
  intro j
  by_cases hj : j < n
  · simp [madeCells, hj, Nat.mod_one]
  · rw [List.getElem?_eq_none (by simp [madeCells]; omega), List.getElem?_eq_none (by simp; omega)]
theorem Try.info29 : (Try.prog.info? 29).map (fun i => (i.zero, i.size, i.bytes)) = some (some (.int .u64 0), 1, 8) := by kernel_rfl
theorem Try.info4 : (Try.prog.info? 4).map (fun i => (i.zero, i.size, i.bytes)) = some (some (.bool false), 1, 1) := by kernel_rfl
theorem make_u64 (n : Nat) (hn : n ≤ 1099511627776) (w : World) :
    (Instr.makeSlice 48 (.int .i64 (n : Int)) (.int .i64 (n : Int))).run Try.prog w = .ok (.slice (some ⟨w.heap.size, 0, none⟩) n n) (w.alloc (.cells ⟨List.replicate n (.int .u64 0)⟩ 29)) := by
  rw [run_make_row' (P := Try.prog) 48 29 _ 8 Try.underlying48 Try.info29 rfl .i64 .i64 n (by omega) (by omega) w, made_row]
theorem make_bool (n : Nat) (hn : n ≤ 1099511627776) (w : World) :
    (Instr.makeSlice 49 (.int .i64 (n : Int)) (.int .i64 (n : Int))).run Try.prog w = .ok (.slice (some ⟨w.heap.size, 0, none⟩) n n) (w.alloc (.cells ⟨List.replicate n (.bool false)⟩ 4)) := by
  rw [run_make_row' (P := Try.prog) 49 4 _ 1 Try.underlying49 Try.info4 rfl .i64 .i64 n (by omega) (by omega) w, made_row]
theorem new_1 (w : World) :
    Calls Try.prog 7 #[.int .i64 1] w fun e w' => e = .returned (.tuple #[.pointer (some ⟨w.heap.size + 1, 0, none⟩), .int .i64 0]) ∧ Mem w' (w.heap.size + 1) w.heap.size [cel0] 0 ∧ Kept (fun _ => False) w w' :=
  new_ok 1 (by omega) (by omega) w

set_option maxHeartbeats 1000000 in
theorem lawSwaps_long (threads : Int) (A : Option Addr) (n c : Nat) (w : World) (hn : 200 < n) (hm : n ≤ maxLen) :
    Calls Try.prog 6 #[.int .i64 threads, .slice A n c] w fun e w' => e = .returned (.bool true) ∧ Below w.heap.size w w' := by
  unfold maxLen at hm
  obtain ⟨r, hr, hr2⟩ := mod_ex threads 5 (by omega)
  have HR := Lib.hid hr
  clear hr
  go_enter Try.func6, Try.ntmps6
  go_wp2_with fail
  refine (mod_of _ _ r _ (by omega) (by omega) HR.out).mono ?_; rintro e w2 ⟨rfl, rfl⟩
  go_wp2_with fail
  refine (new_1 _).mono ?_; rintro e w3 ⟨rfl, hM3, hK3⟩
  have HK3 := Lib.hid hK3
  clear hM3 hK3
  go_wp2_with fail
  refine (awake_any _).mono ?_; rintro e w4 ⟨rfl, hK4⟩
  have HK4 := Lib.hid (HK3.out.trans hK4 (fun _ _ h => h))
  clear hK4 HK3
  go_wp2_with fail
  refine (awake_any _).mono ?_; rintro e w5 ⟨rfl, hK5⟩
  have HK5 := Lib.hid (HK4.out.trans hK5 (fun _ _ h => h))
  clear hK5 HK4
  go_wp2
  go_ret
  exact ⟨rfl, HK5.out.below (Nat.le_refl _) (fun _ h => h.elim)⟩

def u64s (L : List Nat) : List Value := L.map fun (x : Nat) => .int .u64 ((x : Nat) : Int)
def bools (H : List Bool) : List Value := H.map .bool
theorem u64s_at (L : List Nat) (t x : Nat) (h : L[t]? = some x) : (u64s L)[t]? = some (.int .u64 ((x : Nat) : Int)) := by unfold u64s; rw [List.getElem?_map, h]; rfl
theorem bools_at (H : List Bool) (t : Nat) (x : Bool) (h : H[t]? = some x) : (bools H)[t]? = some (.bool x) := by unfold bools; rw [List.getElem?_map, h]; rfl
theorem u64s_set (L : List Nat) (t x : Nat) : u64s (L.set t x) = (u64s L).set t (.int .u64 ((x : Nat) : Int)) := by unfold u64s; rw [List.map_set]
theorem bools_set (H : List Bool) (t : Nat) (x : Bool) : bools (H.set t x) = (bools H).set t (.bool x) := by unfold bools; rw [List.map_set]
theorem swaps_one (c x : Nat) (m : Int) (s : ByteArray) (h : x = c) : swaps [((c : Int), s, m)] 0 x = true := by subst h; simp [swaps, isIn, cellAt]
theorem swaps_one_no (c x : Nat) (m : Int) (s : ByteArray) (h : ¬ x = c) : swaps [((c : Int), s, m)] 0 x = false := by simp [swaps, isIn, cellAt]; omega
theorem set_le (L : List Nat) (q c k : Nat) (h : ∀ x ∈ L, x ≤ k) (hc : c ≤ k) : ∀ y ∈ L.set q c, y ≤ k + 1 := by
  intro y hy
  rcases List.mem_or_eq_of_mem_set hy with h' | h'
  · have := h y h'; omega
  · omega
theorem Mem.far {w : World} {l : List Cel} {k r B : Nat} (h : Mem w (B + 1) B l k) (hr : B + 1 < r) (i : Nat) (u : Value) : Mem (w.setCell ⟨r, i, none⟩ u) (B + 1) B l k :=
  ⟨h.obj.other (by show _ ≠ r; omega) _, h.row.other (by show _ ≠ r; omega) _, h.ne⟩
/-- What holds when k picks are done. -/
structure Swp (w wr : World) (b g gl gh n k cnt : Nat) (L : List Nat) (H : List Bool) : Prop where
  cl : cnt ≤ k
  ll : L.length = n
  lh : H.length = n
  le : ∀ x ∈ L, x ≤ k
  mem : Mem wr b g [((cnt : Int), ⟨#[]⟩, 0)] k
  bl : Blk wr gl 29 (u64s L)
  bh : Blk wr gh 4 (bools H)
  kept : Kept (fun _ => False) w wr

set_option maxHeartbeats 4000000 in
theorem lawSwaps (threads : Int) (A : Option Addr) (c : Nat) (ps : List Nat) (w : World) (hn : ps.length ≤ 200) (hps : ∀ x ∈ ps, x < 256)
    (hA : 0 < ps.length → ∃ g off, A = some ⟨g, off, none⟩ ∧ g < w.heap.size ∧ ∀ (j p : Nat), ps[j]? = some p → w.cell? ⟨g, off + j, none⟩ = some (.int .u8 (p : Int))) :
    Calls Try.prog 6 #[.int .i64 threads, .slice A ps.length c] w fun e w' => e = .returned (.bool true) ∧ Below w.heap.size w w' := by
  obtain ⟨r, hr, hr2⟩ := mod_ex threads 5 (by omega)
  have HR := Lib.hid hr
  obtain ⟨n, hnn⟩ : ∃ n : Nat, (1 : Int) + r = n := ⟨1 + r, by omega⟩
  have hr3 : r < 5 := by omega
  have hn1 : 1 ≤ n ∧ n ≤ 5 := by omega
  obtain ⟨hn1, hn5⟩ := hn1
  have HN := Lib.hid hnn
  have HA := Lib.hid hA
  have HP := Lib.hid hps
  clear hr hnn hr2 hA hps
  have hmk1 := make_u64 n (by omega)
  have hmk2 := make_bool n (by omega)
  go_enter Try.func6, Try.ntmps6
  go_wp2_with fail
  refine (mod_of _ _ r _ (by omega) (by omega) HR.out).mono ?_; rintro e w2 ⟨rfl, rfl⟩
  go_wp2_with fail
  rw [HN.out]
  refine (new_1 _).mono ?_; rintro e w3 ⟨rfl, hM3, hK3⟩
  have HM3 := Lib.hid hM3
  have HK3 := Lib.hid hK3
  clear hM3 hK3
  go_wp2_with fail
  refine (awake_any _).mono ?_; rintro e w4 ⟨rfl, hK4⟩
  have HM4 := Lib.hid (HM3.out.kept hK4 id id)
  have HK4 := Lib.hid (HK3.out.trans hK4 (fun _ _ h => h))
  have hz4 : w.heap.size + 1 < w4.heap.size := HM4.out.obj.lt
  clear hK4 HK3 HM3
  go_wp2_with fail
  have heq := HM4.out
  go_region
  · have hL : Blk ((w4.alloc (.cells (Array.replicate n (.int .u64 0)) 29)).alloc (.cells (Array.replicate n (.bool false)) 4)).drew (w4.heap.size) 29 (List.replicate n (.int .u64 0)) := (Blk.new w4 (List.replicate n (.int .u64 0)) 29).alloc _
    have hH : Blk ((w4.alloc (.cells (Array.replicate n (.int .u64 0)) 29)).alloc (.cells (Array.replicate n (.bool false)) 4)).drew (w4.heap.size + 1) 4 (List.replicate n (.bool false)) := by
      have := Blk.new (w4.alloc (.cells (Array.replicate n (.int .u64 0)) 29)) (List.replicate n (.bool false)) 4
      rwa [nblk_alloc] at this
    have hM : Mem ((w4.alloc (.cells (Array.replicate n (.int .u64 0)) 29)).alloc (.cells (Array.replicate n (.bool false)) 4)).drew (w.heap.size + 1) w.heap.size [cel0] 0 := ((heq.alloc _).alloc _).drew
    have hK : Kept (fun _ => False) w ((w4.alloc (.cells (Array.replicate n (.int .u64 0)) 29)).alloc (.cells (Array.replicate n (.bool false)) 4)).drew := ((HK4.out.alloc _).alloc _).drew
    obtain ⟨gl, gh, hgl, hgh⟩ : ∃ gl gh, w4.heap.size = gl ∧ w4.heap.size + 1 = gh := ⟨_, _, rfl, rfl⟩
    rw [hgh] at hH ⊢; rw [hgl] at hL ⊢
    have hne : gl ≠ gh := by omega
    have hl1 : w.heap.size + 1 < gl := by omega
    have hh1 : w.heap.size + 1 < gh := by omega
    clear hgl hgh heq HM4 HK4 hz4
    generalize ((w4.alloc (.cells (Array.replicate n (.int .u64 0)) 29)).alloc (.cells (Array.replicate n (.bool false)) 4)).drew = W2 at *
    go_wp2
    go_loopw [10, 11] (fun cs i wr => ∃ (k cnt : Nat) (L : List Nat) (H : List Bool), k ≤ ps.length ∧ i = .int .i64 k ∧ cs = .int .u64 cnt ∧ Swp w wr (w.heap.size + 1) w.heap.size gl gh n k cnt L H)
      (fun _ i _ => ps.length - (intOf i).toNat)
    case atStart => exact ⟨0, 0, List.replicate n 0, List.replicate n false, by omega, rfl, rfl, by omega, by simp, by simp, by simp, hM, by unfold u64s; rw [List.map_replicate]; exact hL, by unfold bools; rw [List.map_replicate]; exact hH, hK⟩
    case round =>
      obtain ⟨k, cnt, L, H, hk, rfl, rfl, hS⟩ := hrel
      have hcl := hS.cl
      by_cases hlt : k < ps.length
      · obtain ⟨g0, off, rfl, hg0, hcell⟩ := HA.out (by omega)
        obtain ⟨p, hp⟩ : ∃ p, p = ps[k] := ⟨_, rfl⟩
        have hp256 : p < 256 := by rw [hp]; exact HP.out _ (List.getElem_mem _)
        have hpc : wr.cell? ⟨g0, off + k, none⟩ = some (.int .u8 (p : Int)) := by
          rw [hS.kept.cell hg0 id]; exact hcell k p (by rw [List.getElem?_eq_getElem hlt, hp])
        obtain ⟨q, hq⟩ : ∃ q : Nat, q = p % n := ⟨_, rfl⟩
        have hqn : q < n := by rw [hq]; exact Nat.mod_lt _ (by omega)
        have hq1 : (p : Int) % (n : Int) = (q : Int) := by rw [hq]; rfl
        have hq2 : (p : Int).tmod (n : Int) = (q : Int) := by rw [hq]; rfl
        clear hq hp hcell
        have hHq := List.getElem?_eq_getElem (show q < H.length by rw [hS.lh]; exact hqn)
        have hLq := List.getElem?_eq_getElem (show q < L.length by rw [hS.ll]; exact hqn)
        obtain ⟨x, hx⟩ : ∃ x, x = L[q]'(by rw [hS.ll]; exact hqn) := ⟨_, rfl⟩
        have hxk : x ≤ k := by rw [hx]; exact hS.le _ (List.getElem_mem _)
        rw [← hx] at hLq
        have cl := hS.bl.cell (u64s_at L q _ hLq)
        have zl := hS.bl.frozen q
        have zh := hS.bh.frozen q
        have HS := Lib.hid hS
        cases hb : H[q]'(by rw [hS.lh]; exact hqn)
        all_goals
          rw [hb] at hHq
          have ch := hS.bh.cell (bools_at H q _ hHq)
          clear hb hx
          have hHq := Lib.hid hHq
          have hLq := Lib.hid hLq
        · clear hS
          have hfd := field0 cnt 0 ⟨#[]⟩
          go_wp2_with fail
          refine (load_any _ _ _ k _ cnt 0 ⟨#[]⟩ _ HS.out.mem (by omega) rfl).mono ?_; rintro e w5 ⟨rfl, hM5, hK5⟩
          have hl5 := hK5.blk HS.out.bl (by unfold Own; omega)
          have hh5 := hK5.blk HS.out.bh (by unfold Own; omega)
          have HK5 := Lib.hid (HS.out.kept.trans hK5 (fun i hi h => by unfold Own at h; omega))
          have HM5 := Lib.hid hM5
          have cl := hl5.cell (u64s_at L q _ hLq.out)
          have ch := hh5.cell (bools_at H q _ hHq.out)
          have zl := hl5.frozen q
          have zh := hh5.frozen q
          have HL5 := Lib.hid hl5
          have HH5 := Lib.hid hh5
          clear hM5 hK5 hl5 hh5
          go_wp2
          go_roundw
          case rel => exact ⟨k + 1, cnt, L.set q cnt, H.set q true, by omega, by go_num, rfl, by omega, by rw [List.length_set]; exact HS.out.ll, by rw [List.length_set]; exact HS.out.lh, set_le L q cnt k HS.out.le hcl,
            (HM5.out.far hl1 _ _).far hh1 _ _, by rw [u64s_set]; exact (HL5.out.set _ _).other hne _, by rw [bools_set]; exact (HH5.out.other hne.symm _).set _ _, (HK5.out.setNew (by omega) _ _).setNew (by omega) _ _⟩
          case measure => simp [intOf]; omega
        · clear hS
          go_wp2_with fail
          have hs5 : x ≤ 200 := by omega
          by_cases heqx : x = cnt
          · have HEQ := Lib.hid heqx
            clear heqx
            go_still_tail 11, (by kernel_rfl)
            change wpList _ _ _ _ _ wr.drew
            have hM4 : Mem wr.drew (w.heap.size + 1) w.heap.size [((cnt : Int), ⟨#[]⟩, 0)] k := HS.out.mem.drew
            have hl4 : Blk wr.drew gl 29 (u64s L) := HS.out.bl
            have hh4 : Blk wr.drew gh 4 (bools H) := HS.out.bh
            have hK4 : Kept (fun _ => False) w wr.drew := HS.out.kept.drew
            have HM4 := Lib.hid hM4
            have HL4 := Lib.hid hl4
            have HH4 := Lib.hid hh4
            have HK4 := Lib.hid hK4
            generalize wr.drew = w2 at *
            clear hM4 hl4 hh4 hK4 cl ch zl zh
            go_wp2_with fail
            refine (swap_of _ _ _ [((x : Int) + 1, ⟨#[]⟩, 0)] _ _ _ _ _ _ true _ HM4.out (by omega) (swaps_one cnt x 0 ⟨#[]⟩ HEQ.out) rfl).mono ?_; rintro e w5 ⟨rfl, hM5, hK5⟩
            have hl5 := hK5.blk HL4.out (by unfold Own; omega)
            have hh5 := hK5.blk HH4.out (by unfold Own; omega)
            have HK5 := Lib.hid (HK4.out.trans hK5 (fun i hi h => by unfold Own at h; omega))
            have HM5 := Lib.hid hM5
            have cl := hl5.cell (u64s_at L q _ hLq.out)
            have ch := hh5.cell (bools_at H q _ hHq.out)
            have zl := hl5.frozen q
            have zh := hh5.frozen q
            have HL5 := Lib.hid hl5
            have HH5 := Lib.hid hh5
            have htest : ((x : Int) == (cnt : Int)) = true := by rw [HEQ.out]; simp
            clear hM5 hK5 hl5 hh5 HM4 HL4 HH4 HK4
            go_wp2
            go_roundw
            case rel => exact ⟨k + 1, cnt + 1, L, H.set q false, by omega, by go_num, by go_num, by omega, HS.out.ll, by rw [List.length_set]; exact HS.out.lh, fun y hy => Nat.le_succ_of_le (HS.out.le y hy),
              (by have := HM5.out.far hh1 q (.bool false); rw [HEQ.out] at this; exact this), HL5.out.other hne _, by rw [bools_set]; exact HH5.out.set _ _, HK5.out.setNew (by omega) _ _⟩
            case measure => simp [intOf]; omega
          · have HEQ := Lib.hid heqx
            clear heqx
            go_still_tail 11, (by kernel_rfl)
            change wpList _ _ _ _ _ wr.drew
            have hM4 : Mem wr.drew (w.heap.size + 1) w.heap.size [((cnt : Int), ⟨#[]⟩, 0)] k := HS.out.mem.drew
            have hl4 : Blk wr.drew gl 29 (u64s L) := HS.out.bl
            have hh4 : Blk wr.drew gh 4 (bools H) := HS.out.bh
            have hK4 : Kept (fun _ => False) w wr.drew := HS.out.kept.drew
            have HM4 := Lib.hid hM4
            have HL4 := Lib.hid hl4
            have HH4 := Lib.hid hh4
            have HK4 := Lib.hid hK4
            generalize wr.drew = w2 at *
            clear hM4 hl4 hh4 hK4 cl ch zl zh
            go_wp2_with fail
            refine (swap_of _ _ _ [((cnt : Int), ⟨#[]⟩, 0)] _ _ _ _ _ _ false _ HM4.out (by omega) (swaps_one_no cnt x 0 ⟨#[]⟩ HEQ.out) rfl).mono ?_; rintro e w5 ⟨rfl, hM5, hK5⟩
            have hl5 := hK5.blk HL4.out (by unfold Own; omega)
            have hh5 := hK5.blk HH4.out (by unfold Own; omega)
            have HK5 := Lib.hid (HK4.out.trans hK5 (fun i hi h => by unfold Own at h; omega))
            have HM5 := Lib.hid hM5
            have cl := hl5.cell (u64s_at L q _ hLq.out)
            have ch := hh5.cell (bools_at H q _ hHq.out)
            have zl := hl5.frozen q
            have zh := hh5.frozen q
            have HL5 := Lib.hid hl5
            have HH5 := Lib.hid hh5
            have htest : ((x : Int) == (cnt : Int)) = false := by rw [beq_eq_false_iff_ne]; have := HEQ.out; omega
            clear hM5 hK5 hl5 hh5 HM4 HL4 HH4 HK4
            go_wp2
            go_roundw
            case rel => exact ⟨k + 1, cnt, L, H.set q false, by omega, by go_num, rfl, by omega, HS.out.ll, by rw [List.length_set]; exact HS.out.lh, fun y hy => Nat.le_succ_of_le (HS.out.le y hy),
              (by have := HM5.out.far hh1 q (.bool false); exact this), HL5.out.other hne _, by rw [bools_set]; exact HH5.out.set _ _, HK5.out.setNew (by omega) _ _⟩
            case measure => simp [intOf]; omega
      · obtain rfl : k = ps.length := by omega
        have hM8 := Lib.hid hS.mem
        have hK8 := Lib.hid hS.kept
        clear hS
        go_wp2_with fail
        refine (peek_any _ _ _ _ _ cnt 0 ⟨#[]⟩ _ hM8.out rfl).mono ?_; rintro e w9 ⟨rfl, hK9⟩
        have hM9 := Lib.hid (hM8.out.kept hK9 id id)
        have hK9 := Lib.hid ((hK8.out.trans hK9 (fun _ _ h => h)).below (Nat.le_refl _) (fun _ h => h.elim))
        have hfd := field0 cnt 0 ⟨#[]⟩
        go_wp2_with fail
        refine (accesses_any _ _ _ _ _ hM9.out).mono ?_; rintro e w10 ⟨rfl, rfl⟩
        go_wp2
        go_ret
        exact ⟨rfl, hK9.out⟩
  · have hL : Blk ((w4.alloc (.cells (Array.replicate n (.bool false)) 4)).alloc (.cells (Array.replicate n (.int .u64 0)) 29)).drew (w4.heap.size + 1) 29 (List.replicate n (.int .u64 0)) := by
      have := Blk.new (w4.alloc (.cells (Array.replicate n (.bool false)) 4)) (List.replicate n (.int .u64 0)) 29
      rwa [nblk_alloc] at this
    have hH : Blk ((w4.alloc (.cells (Array.replicate n (.bool false)) 4)).alloc (.cells (Array.replicate n (.int .u64 0)) 29)).drew (w4.heap.size) 4 (List.replicate n (.bool false)) := (Blk.new w4 (List.replicate n (.bool false)) 4).alloc _
    have hM : Mem ((w4.alloc (.cells (Array.replicate n (.bool false)) 4)).alloc (.cells (Array.replicate n (.int .u64 0)) 29)).drew (w.heap.size + 1) w.heap.size [cel0] 0 := ((heq.alloc _).alloc _).drew
    have hK : Kept (fun _ => False) w ((w4.alloc (.cells (Array.replicate n (.bool false)) 4)).alloc (.cells (Array.replicate n (.int .u64 0)) 29)).drew := ((HK4.out.alloc _).alloc _).drew
    obtain ⟨gl, gh, hgl, hgh⟩ : ∃ gl gh, w4.heap.size + 1 = gl ∧ w4.heap.size = gh := ⟨_, _, rfl, rfl⟩
    rw [hgl] at hL ⊢; rw [hgh] at hH ⊢
    have hne : gl ≠ gh := by omega
    have hl1 : w.heap.size + 1 < gl := by omega
    have hh1 : w.heap.size + 1 < gh := by omega
    clear hgl hgh heq HM4 HK4 hz4
    generalize ((w4.alloc (.cells (Array.replicate n (.bool false)) 4)).alloc (.cells (Array.replicate n (.int .u64 0)) 29)).drew = W2 at *
    go_wp2
    go_loopw [10, 11] (fun cs i wr => ∃ (k cnt : Nat) (L : List Nat) (H : List Bool), k ≤ ps.length ∧ i = .int .i64 k ∧ cs = .int .u64 cnt ∧ Swp w wr (w.heap.size + 1) w.heap.size gl gh n k cnt L H)
      (fun _ i _ => ps.length - (intOf i).toNat)
    case atStart => exact ⟨0, 0, List.replicate n 0, List.replicate n false, by omega, rfl, rfl, by omega, by simp, by simp, by simp, hM, by unfold u64s; rw [List.map_replicate]; exact hL, by unfold bools; rw [List.map_replicate]; exact hH, hK⟩
    case round =>
      obtain ⟨k, cnt, L, H, hk, rfl, rfl, hS⟩ := hrel
      have hcl := hS.cl
      by_cases hlt : k < ps.length
      · obtain ⟨g0, off, rfl, hg0, hcell⟩ := HA.out (by omega)
        obtain ⟨p, hp⟩ : ∃ p, p = ps[k] := ⟨_, rfl⟩
        have hp256 : p < 256 := by rw [hp]; exact HP.out _ (List.getElem_mem _)
        have hpc : wr.cell? ⟨g0, off + k, none⟩ = some (.int .u8 (p : Int)) := by
          rw [hS.kept.cell hg0 id]; exact hcell k p (by rw [List.getElem?_eq_getElem hlt, hp])
        obtain ⟨q, hq⟩ : ∃ q : Nat, q = p % n := ⟨_, rfl⟩
        have hqn : q < n := by rw [hq]; exact Nat.mod_lt _ (by omega)
        have hq1 : (p : Int) % (n : Int) = (q : Int) := by rw [hq]; rfl
        have hq2 : (p : Int).tmod (n : Int) = (q : Int) := by rw [hq]; rfl
        clear hq hp hcell
        have hHq := List.getElem?_eq_getElem (show q < H.length by rw [hS.lh]; exact hqn)
        have hLq := List.getElem?_eq_getElem (show q < L.length by rw [hS.ll]; exact hqn)
        obtain ⟨x, hx⟩ : ∃ x, x = L[q]'(by rw [hS.ll]; exact hqn) := ⟨_, rfl⟩
        have hxk : x ≤ k := by rw [hx]; exact hS.le _ (List.getElem_mem _)
        rw [← hx] at hLq
        have cl := hS.bl.cell (u64s_at L q _ hLq)
        have zl := hS.bl.frozen q
        have zh := hS.bh.frozen q
        have HS := Lib.hid hS
        cases hb : H[q]'(by rw [hS.lh]; exact hqn)
        all_goals
          rw [hb] at hHq
          have ch := hS.bh.cell (bools_at H q _ hHq)
          clear hb hx
          have hHq := Lib.hid hHq
          have hLq := Lib.hid hLq
        · clear hS
          have hfd := field0 cnt 0 ⟨#[]⟩
          go_wp2_with fail
          refine (load_any _ _ _ k _ cnt 0 ⟨#[]⟩ _ HS.out.mem (by omega) rfl).mono ?_; rintro e w5 ⟨rfl, hM5, hK5⟩
          have hl5 := hK5.blk HS.out.bl (by unfold Own; omega)
          have hh5 := hK5.blk HS.out.bh (by unfold Own; omega)
          have HK5 := Lib.hid (HS.out.kept.trans hK5 (fun i hi h => by unfold Own at h; omega))
          have HM5 := Lib.hid hM5
          have cl := hl5.cell (u64s_at L q _ hLq.out)
          have ch := hh5.cell (bools_at H q _ hHq.out)
          have zl := hl5.frozen q
          have zh := hh5.frozen q
          have HL5 := Lib.hid hl5
          have HH5 := Lib.hid hh5
          clear hM5 hK5 hl5 hh5
          go_wp2
          go_roundw
          case rel => exact ⟨k + 1, cnt, L.set q cnt, H.set q true, by omega, by go_num, rfl, by omega, by rw [List.length_set]; exact HS.out.ll, by rw [List.length_set]; exact HS.out.lh, set_le L q cnt k HS.out.le hcl,
            (HM5.out.far hl1 _ _).far hh1 _ _, by rw [u64s_set]; exact (HL5.out.set _ _).other hne _, by rw [bools_set]; exact (HH5.out.other hne.symm _).set _ _, (HK5.out.setNew (by omega) _ _).setNew (by omega) _ _⟩
          case measure => simp [intOf]; omega
        · clear hS
          go_wp2_with fail
          have hs5 : x ≤ 200 := by omega
          by_cases heqx : x = cnt
          · have HEQ := Lib.hid heqx
            clear heqx
            go_still_tail 11, (by kernel_rfl)
            change wpList _ _ _ _ _ wr.drew
            have hM4 : Mem wr.drew (w.heap.size + 1) w.heap.size [((cnt : Int), ⟨#[]⟩, 0)] k := HS.out.mem.drew
            have hl4 : Blk wr.drew gl 29 (u64s L) := HS.out.bl
            have hh4 : Blk wr.drew gh 4 (bools H) := HS.out.bh
            have hK4 : Kept (fun _ => False) w wr.drew := HS.out.kept.drew
            have HM4 := Lib.hid hM4
            have HL4 := Lib.hid hl4
            have HH4 := Lib.hid hh4
            have HK4 := Lib.hid hK4
            generalize wr.drew = w2 at *
            clear hM4 hl4 hh4 hK4 cl ch zl zh
            go_wp2_with fail
            refine (swap_of _ _ _ [((x : Int) + 1, ⟨#[]⟩, 0)] _ _ _ _ _ _ true _ HM4.out (by omega) (swaps_one cnt x 0 ⟨#[]⟩ HEQ.out) rfl).mono ?_; rintro e w5 ⟨rfl, hM5, hK5⟩
            have hl5 := hK5.blk HL4.out (by unfold Own; omega)
            have hh5 := hK5.blk HH4.out (by unfold Own; omega)
            have HK5 := Lib.hid (HK4.out.trans hK5 (fun i hi h => by unfold Own at h; omega))
            have HM5 := Lib.hid hM5
            have cl := hl5.cell (u64s_at L q _ hLq.out)
            have ch := hh5.cell (bools_at H q _ hHq.out)
            have zl := hl5.frozen q
            have zh := hh5.frozen q
            have HL5 := Lib.hid hl5
            have HH5 := Lib.hid hh5
            have htest : ((x : Int) == (cnt : Int)) = true := by rw [HEQ.out]; simp
            clear hM5 hK5 hl5 hh5 HM4 HL4 HH4 HK4
            go_wp2
            go_roundw
            case rel => exact ⟨k + 1, cnt + 1, L, H.set q false, by omega, by go_num, by go_num, by omega, HS.out.ll, by rw [List.length_set]; exact HS.out.lh, fun y hy => Nat.le_succ_of_le (HS.out.le y hy),
              (by have := HM5.out.far hh1 q (.bool false); rw [HEQ.out] at this; exact this), HL5.out.other hne _, by rw [bools_set]; exact HH5.out.set _ _, HK5.out.setNew (by omega) _ _⟩
            case measure => simp [intOf]; omega
          · have HEQ := Lib.hid heqx
            clear heqx
            go_still_tail 11, (by kernel_rfl)
            change wpList _ _ _ _ _ wr.drew
            have hM4 : Mem wr.drew (w.heap.size + 1) w.heap.size [((cnt : Int), ⟨#[]⟩, 0)] k := HS.out.mem.drew
            have hl4 : Blk wr.drew gl 29 (u64s L) := HS.out.bl
            have hh4 : Blk wr.drew gh 4 (bools H) := HS.out.bh
            have hK4 : Kept (fun _ => False) w wr.drew := HS.out.kept.drew
            have HM4 := Lib.hid hM4
            have HL4 := Lib.hid hl4
            have HH4 := Lib.hid hh4
            have HK4 := Lib.hid hK4
            generalize wr.drew = w2 at *
            clear hM4 hl4 hh4 hK4 cl ch zl zh
            go_wp2_with fail
            refine (swap_of _ _ _ [((cnt : Int), ⟨#[]⟩, 0)] _ _ _ _ _ _ false _ HM4.out (by omega) (swaps_one_no cnt x 0 ⟨#[]⟩ HEQ.out) rfl).mono ?_; rintro e w5 ⟨rfl, hM5, hK5⟩
            have hl5 := hK5.blk HL4.out (by unfold Own; omega)
            have hh5 := hK5.blk HH4.out (by unfold Own; omega)
            have HK5 := Lib.hid (HK4.out.trans hK5 (fun i hi h => by unfold Own at h; omega))
            have HM5 := Lib.hid hM5
            have cl := hl5.cell (u64s_at L q _ hLq.out)
            have ch := hh5.cell (bools_at H q _ hHq.out)
            have zl := hl5.frozen q
            have zh := hh5.frozen q
            have HL5 := Lib.hid hl5
            have HH5 := Lib.hid hh5
            have htest : ((x : Int) == (cnt : Int)) = false := by rw [beq_eq_false_iff_ne]; have := HEQ.out; omega
            clear hM5 hK5 hl5 hh5 HM4 HL4 HH4 HK4
            go_wp2
            go_roundw
            case rel => exact ⟨k + 1, cnt, L, H.set q false, by omega, by go_num, rfl, by omega, HS.out.ll, by rw [List.length_set]; exact HS.out.lh, fun y hy => Nat.le_succ_of_le (HS.out.le y hy),
              (by have := HM5.out.far hh1 q (.bool false); exact this), HL5.out.other hne _, by rw [bools_set]; exact HH5.out.set _ _, HK5.out.setNew (by omega) _ _⟩
            case measure => simp [intOf]; omega
      · obtain rfl : k = ps.length := by omega
        have hM8 := Lib.hid hS.mem
        have hK8 := Lib.hid hS.kept
        clear hS
        go_wp2_with fail
        refine (peek_any _ _ _ _ _ cnt 0 ⟨#[]⟩ _ hM8.out rfl).mono ?_; rintro e w9 ⟨rfl, hK9⟩
        have hM9 := Lib.hid (hM8.out.kept hK9 id id)
        have hK9 := Lib.hid ((hK8.out.trans hK9 (fun _ _ h => h)).below (Nat.le_refl _) (fun _ h => h.elim))
        have hfd := field0 cnt 0 ⟨#[]⟩
        go_wp2_with fail
        refine (accesses_any _ _ _ _ _ hM9.out).mono ?_; rintro e w10 ⟨rfl, rfl⟩
        go_wp2
        go_ret
        exact ⟨rfl, hK9.out⟩

theorem lawSwaps_all (w : World) (threads : Int) (A : Option Addr) (c : Nat) (ps : List Nat) (hm : ps.length ≤ maxLen) (hps : ∀ x ∈ ps, x < 256)
    (hA : 0 < ps.length → ∃ g off, A = some ⟨g, off, none⟩ ∧ g < w.heap.size ∧ ∀ (j p : Nat), ps[j]? = some p → w.cell? ⟨g, off + j, none⟩ = some (.int .u8 (p : Int))) :
    Calls Try.prog 6 #[.int .i64 threads, .slice A ps.length c] w fun e w' => e = .returned (.bool true) ∧ Below w.heap.size w w' := by
  by_cases h : ps.length ≤ 200
  · exact lawSwaps threads A c ps w h hps hA
  · exact lawSwaps_long threads A ps.length c w (by omega) hm

end Go.Proofs.Ytedplnngednecaa
