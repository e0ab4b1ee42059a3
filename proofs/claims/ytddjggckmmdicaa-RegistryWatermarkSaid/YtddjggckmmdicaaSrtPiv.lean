/-
  The library's choice of a pivot and its reverseRange on a part of a row of words, as the library's plain text says it. Condition: parts of 13 to 49 words.
-/
import Derived.Test.YtddjggckmmdicaaSrtHeap
namespace Go.Proofs.Ytddjggckmmdicaa
open Go.RowKit Go.Deep
open Go.Sort (swp size_swp order2 median choosePivot reverseLoop Hint)
set_option linter.unusedVariables false

/-- The row, and the counter of swaps in a block of its own. -/
structure Rs (w0 w : World) (g off : Nat) (d : Array Nat) (sb s : Nat) : Prop where
  ro : Ro w0 w g off d
  sw : Blk w sb 3 [.int .i64 (s : Int)]
  ne : sb ≠ g
  le : w0.heap.size ≤ sb
theorem Rs.drewN {w0 w : World} {g off sb s : Nat} {d : Array Nat} (h : Rs w0 w g off d sb s) (m : Nat) : Rs w0 (w.drewN m) g off d sb s := ⟨h.ro.drewN m, h.sw, h.ne, h.le⟩
theorem Rs.inc {w0 w : World} {g off sb s : Nat} {d : Array Nat} (h : Rs w0 w g off d sb s) (v : Nat) : Rs w0 (w.setCell ⟨sb, 0, none⟩ (.int .i64 (v : Int))) g off d sb v :=
  ⟨⟨fun j hj => (World.cell?_setCell_other _ _ _ _ (fun e => by injection e with e _ _; exact h.ne e)).trans (h.ro.cl j hj), fun j hj => by rw [World.frozen?_setCell]; exact h.ro.fr j hj, h.ro.kept.setCell (a := ⟨sb, 0, none⟩) (fun hh => by have := h.le; simp only at hh; omega) _⟩, h.sw.set 0 _, h.ne, h.le⟩

set_option maxHeartbeats 2000000 in
theorem srt_order2 (g off n cap a b sb s : Nat) (d : Array Nat) (w0 w : World) (hS : Rs w0 w g off d sb s) (hn : d.size = n) (hn2 : n < 2305843009213693952) (ha : a < n) (hb : b < n) (hs : s < 1000) (x y s' : Nat) (hr : order2 ltW d a b s = (x, y, s')) :
    Calls Try.prog 68 #[.slice (some ⟨g, off, none⟩) n cap, .int .i64 (a : Int), .int .i64 (b : Int), .pointer (some ⟨sb, 0, none⟩)] w fun e w' => e = .returned (.tuple #[.int .i64 (x : Int), .int .i64 (y : Int)]) ∧ Rs w0 w' g off d sb s' := by
  have HS := Lib.hid hS
  clear hS
  unfold order2 at hr
  obtain ⟨vx, hvx⟩ : ∃ vx, d[b]! = vx := ⟨_, rfl⟩
  obtain ⟨vy, hvy⟩ : ∃ vy, d[a]! = vy := ⟨_, rfl⟩
  have l0 := HS.out.ro.cl b (by omega)
  have l1 := HS.out.ro.cl a (by omega)
  rw [hvx] at l0 hr
  rw [hvy] at l1 hr
  have c0 := HS.out.sw.cell (i := 0) rfl
  have z0 := HS.out.sw.frozen 0
  cases hlt : ltW vx vy with
  | true =>
    rw [hlt, if_pos rfl] at hr
    obtain ⟨rfl, rfl, rfl⟩ : b = x ∧ a = y ∧ s + 1 = s' := by injection hr with h1 h2; injection h2 with h2 h3; exact ⟨h1, h2, h3⟩
    clear hvx hvy hr
    go_enter Try.func68, Try.ntmps68
    go_wp2_with fail
    go_quiet ((go_at_call 56; exact Calls.still (less_w _ _ _ hlt _)))
    go_wp2
    go_ret2
    exact ⟨rfl, (HS.out.drewN nq).inc (s + 1)⟩
  | false =>
    rw [hlt, if_neg (by simp)] at hr
    obtain ⟨rfl, rfl, rfl⟩ : a = x ∧ b = y ∧ s = s' := by injection hr with h1 h2; injection h2 with h2 h3; exact ⟨h1, h2, h3⟩
    clear hvx hvy hr
    go_enter Try.func68, Try.ntmps68
    go_wp2_with fail
    go_quiet ((go_at_call 56; exact Calls.still (less_w _ _ _ hlt _)))
    go_wp2
    go_ret2
    exact ⟨rfl, HS.out.drewN nq⟩
theorem order2_in (d : Array Nat) (a b s n : Nat) (ha : a < n) (hb : b < n) : (order2 ltW d a b s).1 < n ∧ (order2 ltW d a b s).2.1 < n ∧ (order2 ltW d a b s).2.2 ≤ s + 1 := by
  unfold order2; split <;> simp <;> omega

set_option maxHeartbeats 2000000 in
theorem srt_median (g off n cap a b c sb s : Nat) (d : Array Nat) (w0 w : World) (hS : Rs w0 w g off d sb s) (hn : d.size = n) (hn2 : n < 2305843009213693952) (ha : a < n) (hb : b < n) (hc : c < n) (hs : s < 900) (x s' : Nat) (hr : median ltW d a b c s = (x, s')) :
    Calls Try.prog 66 #[.slice (some ⟨g, off, none⟩) n cap, .int .i64 (a : Int), .int .i64 (b : Int), .int .i64 (c : Int), .pointer (some ⟨sb, 0, none⟩)] w fun e w' => e = .returned (.int .i64 (x : Int)) ∧ Rs w0 w' g off d sb s' := by
  have HS := Lib.hid hS
  clear hS
  unfold median at hr
  obtain ⟨⟨x1, y1, s1⟩, h1⟩ : ∃ r, order2 ltW d a b s = r := ⟨_, rfl⟩
  obtain ⟨i1, i2, i3⟩ := order2_in d a b s n ha hb
  rw [h1] at hr i1 i2 i3
  simp only at hr i1 i2 i3
  obtain ⟨⟨x2, y2, s2⟩, h2⟩ : ∃ r, order2 ltW d y1 c s1 = r := ⟨_, rfl⟩
  obtain ⟨j1, j2, j3⟩ := order2_in d y1 c s1 n i2 hc
  rw [h2] at hr j1 j2 j3
  simp only at hr j1 j2 j3
  obtain ⟨⟨x3, y3, s3⟩, h3⟩ : ∃ r, order2 ltW d x1 x2 s2 = r := ⟨_, rfl⟩
  rw [h3] at hr
  simp only at hr
  obtain ⟨rfl, rfl⟩ : y3 = x ∧ s3 = s' := by injection hr with e1 e2; exact ⟨e1, e2⟩
  clear hr
  have H1 := Lib.hid h1
  have H2 := Lib.hid h2
  have H3 := Lib.hid h3
  clear h1 h2 h3
  go_enter Try.func66, Try.ntmps66
  go_wp2_with fail
  refine (srt_order2 g off n cap a b sb s d w0 w HS.out hn hn2 ha hb (by omega) x1 y1 s1 H1.out).mono ?_; rintro e w1 ⟨rfl, hS1⟩
  have HS1 := Lib.hid hS1
  clear hS1 HS
  go_wp2_with fail
  refine (srt_order2 g off n cap y1 c sb s1 d w0 w1 HS1.out hn hn2 i2 hc (by omega) x2 y2 s2 H2.out).mono ?_; rintro e w2 ⟨rfl, hS2⟩
  have HS2 := Lib.hid hS2
  clear hS2 HS1
  go_wp2_with fail
  refine (srt_order2 g off n cap x1 x2 sb s2 d w0 w2 HS2.out hn hn2 i1 j1 (by omega) x3 y3 s3 H3.out).mono ?_; rintro e w3 ⟨rfl, hS3⟩
  have HS3 := Lib.hid hS3
  clear hS3 HS2
  go_wp2
  go_ret
  exact ⟨rfl, HS3.out⟩

theorem srt_median_at (g off n cap a b c sb s : Nat) (X Y Z : Int) (hX : X = (a : Int)) (hY : Y = (b : Int)) (hZ : Z = (c : Int)) (d : Array Nat) (w0 w : World) (hS : Rs w0 w g off d sb s) (hn : d.size = n) (hn2 : n < 2305843009213693952) (ha : a < n) (hb : b < n) (hc : c < n) (hs : s < 900) (x s' : Nat) (hr : median ltW d a b c s = (x, s')) :
    Calls Try.prog 66 #[.slice (some ⟨g, off, none⟩) n cap, .int .i64 X, .int .i64 Y, .int .i64 Z, .pointer (some ⟨sb, 0, none⟩)] w fun e w' => e = .returned (.int .i64 (x : Int)) ∧ Rs w0 w' g off d sb s' := by
  subst hX hY hZ; exact srt_median g off n cap a b c sb s d w0 w hS hn hn2 ha hb hc hs x s' hr
/-- The library's hints as numbers. -/
def hintN : Hint → Nat
  | .unknown => 0
  | .increasing => 1
  | .decreasing => 2

set_option maxHeartbeats 2000000 in
theorem srt_pivot (g off n cap a b : Nat) (d : Array Nat) (w0 w : World) (hS : Ro w0 w g off d) (hg : g < w.heap.size) (hn : d.size = n) (hn2 : n < 2305843009213693952) (hb : b ≤ n) (hl1 : 12 < b - a) (hl2 : b - a < 50) (x : Nat) (h : Hint) (hr : choosePivot ltW d a b = (x, h)) :
    Calls Try.prog 53 #[.slice (some ⟨g, off, none⟩) n cap, .int .i64 (a : Int), .int .i64 (b : Int)] w fun e w' => e = .returned (.tuple #[.int .i64 (x : Int), .int .i64 ((hintN h : Nat) : Int)]) ∧ Ro w0 w' g off d := by
  obtain ⟨l, hl⟩ : ∃ l, b - a = l := ⟨_, rfl⟩
  obtain ⟨q, hq⟩ : ∃ q, l / 4 = q := ⟨_, rfl⟩
  unfold choosePivot at hr
  rw [hl] at hr hl1 hl2
  simp only [hq] at hr
  rw [if_pos (by omega), if_neg (by omega)] at hr
  obtain ⟨⟨m, s⟩, hm⟩ : ∃ r, median ltW d (a + q * 1) (a + q * 2) (a + q * 3) 0 = r := ⟨_, rfl⟩
  rw [hm] at hr
  simp only at hr
  have hz1 : (b : Int) - (a : Int) = (l : Int) := by omega
  have hz2 : (l : Int) / 4 = (q : Int) := by omega
  have hz3 : (l : Int).tdiv 4 = (q : Int) := by rw [Int.tdiv_eq_ediv_of_nonneg (by omega)]; exact hz2
  have hle : w0.heap.size ≤ w.heap.size := hS.kept.size
  have hS1 : Rs w0 (w.alloc (.cells #[.int .i64 0] 3)) g off d w.heap.size 0 := ⟨⟨fun j hj => (World.cell?_alloc_lt _ _ _ hg).trans (hS.cl j hj), fun j hj => by have := hS.fr j hj; unfold World.frozen? at this ⊢; rw [show (w.alloc (.cells #[.int .i64 0] 3)).heap[(⟨g, off + j, none⟩ : Addr).block]? = w.heap[(⟨g, off + j, none⟩ : Addr).block]? from blk_alloc_lt _ _ _ hg]; exact this, hS.kept.alloc _⟩, Blk.new w [.int .i64 ((0 : Nat) : Int)] 3, by omega, hle⟩
  have HS1 := Lib.hid hS1
  have HM := Lib.hid hm
  have HRR := Lib.hid hr
  clear hS hS1 hm hr
  go_enter Try.func53, Try.ntmps53
  go_wp2_with fail
  refine (srt_median_at g off n cap (a + q * 1) (a + q * 2) (a + q * 3) _ 0 _ _ _ (by omega) (by omega) (by omega) d w0 _ HS1.out hn hn2 (by omega) (by omega) (by omega) (by omega) m s HM.out).mono ?_; rintro e w2 ⟨rfl, hS2⟩
  have s0 := hS2.sw.cell (i := 0) rfl
  have HS2 := Lib.hid hS2
  have hrr := HRR.out
  clear hS2 HS1 HRR HM
  by_cases h0 : s = 0
  · rw [if_pos h0] at hrr
    obtain ⟨rfl, rfl⟩ : m = x ∧ Hint.increasing = h := by injection hrr with e1 e2; exact ⟨e1, e2⟩
    subst h0
    clear hrr
    go_wp2
    go_ret2
    exact ⟨rfl, HS2.out.ro⟩
  · rw [if_neg h0] at hrr
    by_cases h12 : s = 12
    · rw [if_pos h12] at hrr
      obtain ⟨rfl, rfl⟩ : m = x ∧ Hint.decreasing = h := by injection hrr with e1 e2; exact ⟨e1, e2⟩
      subst h12
      clear hrr
      go_wp2
      go_ret2
      exact ⟨rfl, HS2.out.ro⟩
    · rw [if_neg h12] at hrr
      obtain ⟨rfl, rfl⟩ : m = x ∧ Hint.unknown = h := by injection hrr with e1 e2; exact ⟨e1, e2⟩
      have h0i : ¬ (s : Int) = 0 := by omega
      have h12i : ¬ (s : Int) = 12 := by omega
      clear hrr
      go_wp2
      go_ret2
      exact ⟨rfl, HS2.out.ro⟩

theorem rev_go (i j : Nat) (d : Array Nat) (h : i < j) : reverseLoop i j d = reverseLoop (i + 1) (j - 1) (swp d i j) := by rw [reverseLoop, if_pos h]
theorem rev_end (i j : Nat) (d : Array Nat) (h : ¬ i < j) : reverseLoop i j d = d := by rw [reverseLoop, if_neg h]
set_option maxHeartbeats 4000000 in
theorem srt_rev (g off n cap a b : Nat) (d : Array Nat) (w0 w : World) (hS : Ro w0 w g off d) (hn : d.size = n) (hn2 : n < 2305843009213693952) (hab : a < b) (hb : b ≤ n) :
    Calls Try.prog 54 #[.slice (some ⟨g, off, none⟩) n cap, .int .i64 (a : Int), .int .i64 (b : Int)] w fun e w' => e = .returned (.tuple #[]) ∧ Ro w0 w' g off (Go.Sort.reverseRange d a b) ∧ (Go.Sort.reverseRange d a b).size = n := by
  obtain ⟨b1, rfl⟩ : ∃ b1, b = b1 + 1 := ⟨b - 1, by omega⟩
  obtain ⟨D, hD⟩ : ∃ D, reverseLoop a b1 d = D := ⟨_, rfl⟩
  have hDD : Go.Sort.reverseRange d a (b1 + 1) = D := hD
  rw [hDD]
  have HSS := Lib.hid hS
  have HD := Lib.hid hD
  clear hS hD hDD
  go_enter Try.func54, Try.ntmps54
  go_wp2
  go_loopw [6, 7] (fun u v wr => ∃ (i j : Nat) (di : Array Nat), u = .int .i64 (i : Int) ∧ v = .int .i64 (j : Int) ∧ i ≤ j + 1 ∧ j ≤ b1 ∧ di.size = n ∧ Ro w0 wr g off di ∧ reverseLoop i j di = D) (fun u v _ => ((intOf v) - (intOf u) + 1).toNat)
  case atStart => exact ⟨a, b1, d, rfl, by go_num, by omega, by omega, hn, HSS.out, HD.out⟩
  case round =>
    obtain ⟨i, j, di, rfl, rfl, hij, hjb, hsi, hR, hI⟩ := hrel
    have HR := Lib.hid hR
    have HI := Lib.hid hI
    clear hR hI HSS HD
    by_cases hlt : i < j
    · have HN := Lib.hid (rev_go i j di hlt)
      rename World => wr
      obtain ⟨ni, hni⟩ : ∃ ni, ni = i := ⟨_, rfl⟩
      obtain ⟨nj, hnj⟩ : ∃ nj, nj = j := ⟨_, rfl⟩
      obtain ⟨vx, hvx⟩ : ∃ vx, di[ni]! = vx := ⟨_, rfl⟩
      obtain ⟨vy, hvy⟩ : ∃ vy, di[nj]! = vy := ⟨_, rfl⟩
      have l0 := HR.out.cl ni (by omega)
      have l1 := HR.out.cl nj (by omega)
      have f0 := HR.out.fr ni (by omega)
      have f1 := HR.out.fr nj (by omega)
      obtain ⟨vu, l2⟩ := HR.out.st ni nj (by omega) (by omega) (.int .u64 (vy : Int))
      have hsw := HR.out.swap ni nj vx vy (by omega) (by omega) hvx hvy
      obtain ⟨dq, hdq⟩ : ∃ dq, swp di ni nj = dq := ⟨_, rfl⟩
      rw [hdq] at hsw
      have hsz : dq.size = n := by rw [← hdq, size_swp]; omega
      have HDQ : Hid (swp di (i) (j) = dq) := Lib.hid (by rw [← hdq, hni, hnj])
      rw [hvx] at l0
      rw [hvy] at l1
      have hi1 : ((i : Int)).toNat = ni := by omega
      have hi2 : (0 : Int) ≤ (i : Int) := by omega
      have hi3 : (i : Int) < (n : Int) := by omega
      have hi4 : IntKind.i64.wrap ((i : Int)) = (i : Int) := by rw [IntKind.wrap_i64]; omega
      have hj1 : ((j : Int)).toNat = nj := by omega
      have hj2 : (0 : Int) ≤ (j : Int) := by omega
      have hj3 : (j : Int) < (n : Int) := by omega
      have hj4 : IntKind.i64.wrap ((j : Int)) = (j : Int) := by rw [IntKind.wrap_i64]; omega
      have HSW := Lib.hid hsw
      clear hvx hvy HR hni hnj hsw hdq
      have mixed : Try.prog.follows .mixedOrders = true := by kernel_rfl
      go_wp2_with fail
      go_big_region_o
      clear mixed
      clear l0 l1 l2 f0 f1 hi1 hi2 hi3 hi4 hj1 hj2 hj3 hj4
      rename Hid (Ro _ _ _ _ _) => HR
      go_wp2
      go_roundw
      case rel => exact ⟨i + 1, j - 1, dq, by go_num, by go_num, by omega, by omega, hsz, HR.out, by rw [← HDQ.out, ← HN.out]; exact HI.out⟩
      case measure => simp [intOf] <;> omega
    · go_wp2
      go_end0
      exact ⟨rfl, by have := HI.out; rw [rev_end i j di hlt] at this; rw [← this]; exact ⟨HR.out, hsi⟩⟩

end Go.Proofs.Ytddjggckmmdicaa
