/-
  slices.Sort of at most 12 words: they come out in their one ascending order. Condition: the row's cells are not frozen.
-/
import Derived.Test.YtodenkamlbihnaaModRow
import Derived.Sort.AssemblyPlain
import Derived.Shelf.RegionOpenPlain
namespace Go.Proofs.Ytodenkamlbihnaa
open Go.RowKit Go.Deep
open Go.Sort (swp size_swp insInner insOuter)
open Go.Sort (PermIn SortedIn SWO sort_sorts sorted_unique_holds)
set_option linter.unusedVariables false

/-- cmp.Less at words. -/
def ltW (x y : Nat) : Bool := decide (x < y)
theorem less_w (x y : Nat) (b : Bool) (h : ltW x y = b) (w : World) :
    Calls Try.prog 83 #[.int .u64 (x : Int), .int .u64 (y : Int)] w fun e w' => e = .returned (.bool b) ∧ w = w' := by
  subst h; exact less_any x y w
/-- The cells hold this array, none of them frozen; w is the world that the call began in: nothing but the block has changed. -/
structure Ro (w0 w : World) (g off : Nat) (d : Array Nat) : Prop where
  cl : ∀ j, j < d.size → w.cell? ⟨g, off + j, none⟩ = some (.int .u64 ((d[j]! : Nat) : Int))
  fr : ∀ j, j < d.size → w.frozen? ⟨g, off + j, none⟩ = false
  kept : Kept (fun k => k = g) w0 w
theorem Ro.drew {w0 w : World} {g off : Nat} {d : Array Nat} (h : Ro w0 w g off d) : Ro w0 w.drew g off d := ⟨h.cl, h.fr, h.kept.drew⟩
theorem Ro.drewN {w0 w : World} {g off : Nat} {d : Array Nat} (h : Ro w0 w g off d) (n : Nat) : Ro w0 (w.drewN n) g off d := ⟨h.cl, h.fr, h.kept.drewN n⟩
theorem Ro.swap {w0 w : World} {g off : Nat} {d : Array Nat} (h : Ro w0 w g off d) (i j x y : Nat) (hi : i < d.size) (hj : j < d.size) (hx : d[i]! = x) (hy : d[j]! = y) :
    Ro w0 ((w.setCell ⟨g, off + i, none⟩ (.int .u64 (y : Int))).setCell ⟨g, off + j, none⟩ (.int .u64 (x : Int))).drew g off (swp d i j) := by
  have ne : ∀ a b : Nat, a ≠ b → (⟨g, off + a, none⟩ : Addr) ≠ ⟨g, off + b, none⟩ := fun a b hab e => by injection e with _ e _; omega
  have c1 : ∀ k, k < d.size → ∃ u, (w.setCell ⟨g, off + i, none⟩ (.int .u64 (y : Int))).cell? ⟨g, off + k, none⟩ = some u := fun k hk => by
    by_cases e : i = k
    · subst e; exact ⟨_, World.cell?_setCell_same _ _ _ (h.cl i hi)⟩
    · exact ⟨_, (World.cell?_setCell_other _ _ _ _ (ne i k e)).trans (h.cl k hk)⟩
  refine ⟨fun k hk => ?_, fun k hk => ?_, ?_⟩
  · rw [size_swp] at hk
    show ((w.setCell _ _).setCell _ _).cell? _ = _
    by_cases ej : j = k
    · subst ej
      obtain ⟨u, hu⟩ := c1 j hj
      rw [Go.Sort.swp_right d i j hj, hx]; exact World.cell?_setCell_same _ _ _ hu
    · refine (World.cell?_setCell_other _ _ _ _ (ne j k ej)).trans ?_
      by_cases ei : i = k
      · subst ei
        rw [Go.Sort.swp_left d i j hi (fun e => ej e.symm), hy]; exact World.cell?_setCell_same _ _ _ (h.cl i hi)
      · rw [Go.Sort.swp_other d i j k (fun e => ei e.symm) (fun e => ej e.symm)]
        exact (World.cell?_setCell_other _ _ _ _ (ne i k ei)).trans (h.cl k hk)
  · rw [size_swp] at hk
    show ((w.setCell _ _).setCell _ _).frozen? _ = _
    rw [World.frozen?_setCell, World.frozen?_setCell]; exact h.fr k hk
  · exact ((h.kept.setCell (a := ⟨g, off + i, none⟩) (fun _ => rfl) _).setCell (a := ⟨g, off + j, none⟩) (fun _ => rfl) _).drew
/-- What the two stores of a swap find. -/
theorem Ro.st {w0 w : World} {g off : Nat} {d : Array Nat} (h : Ro w0 w g off d) (i j : Nat) (hi : i < d.size) (hj : j < d.size) (v : Value) : ∃ u, (w.setCell ⟨g, off + i, none⟩ v).cell? ⟨g, off + j, none⟩ = some u := by
  by_cases e : i = j
  · subst e; exact ⟨_, World.cell?_setCell_same _ _ _ (h.cl i hi)⟩
  · exact ⟨_, (World.cell?_setCell_other _ _ _ _ (fun e2 => by injection e2 with _ e2 _; omega)).trans (h.cl j hj)⟩

theorem insInner_go (a j : Nat) (d : Array Nat) (hj : a < j + 1) (hl : ltW d[j + 1]! d[j]! = true) : insInner ltW a (j + 1) d = insInner ltW a j (swp d (j + 1) j) := by
  rw [insInner, if_pos (by simp [hl]; omega)]
theorem insInner_stop (a j : Nat) (d : Array Nat) (h : ltW d[j + 1]! d[j]! = false) : insInner ltW a (j + 1) d = d := by
  rw [insInner, if_neg (by simp [h])]
theorem insInner_end (a j : Nat) (d : Array Nat) (h : j ≤ a) : insInner ltW a j d = d := by
  cases j with
  | zero => rw [insInner]
  | succ j => rw [insInner, if_neg (by simp; omega)]
theorem insOuter_go (a b i : Nat) (d : Array Nat) (h : i < b) : insOuter ltW a b i d = insOuter ltW a b (i + 1) (insInner ltW a i d) := by rw [insOuter, if_pos h]
theorem insOuter_stop (a b i : Nat) (d : Array Nat) (h : ¬ i < b) : insOuter ltW a b i d = d := by rw [insOuter, if_neg h]

open Go.Sort (siftDown heapBuild heapPop reverseLoop) in
theorem sift_end (hi first root : Nat) (d : Array Nat) (h : 2 * root + 1 ≥ hi) : siftDown ltW hi first root d = d := by rw [siftDown, dif_pos h]
open Go.Sort (siftDown) in
theorem sift_stop (hi first root c : Nat) (d : Array Nat) (h : ¬ 2 * root + 1 ≥ hi) (hc : (c = 2 * root + 2 ∧ 2 * root + 1 + 1 < hi ∧ ltW d[first + (2 * root + 1)]! d[first + (2 * root + 1) + 1]! = true) ∨ (c = 2 * root + 1 ∧ (2 * root + 1 + 1 < hi → ltW d[first + (2 * root + 1)]! d[first + (2 * root + 1) + 1]! = false))) (hl : ltW d[first + root]! d[first + c]! = false) : siftDown ltW hi first root d = d := by
  rw [siftDown, dif_neg h]
  rcases hc with ⟨rfl, h1, h2⟩ | ⟨rfl, h1⟩
  · rw [if_pos (by simp [h1, h2]), if_pos (by simp [hl])]
  · rw [if_neg (by simp; exact h1), if_pos (by simp [hl])]
open Go.Sort (siftDown) in
theorem sift_go (hi first root c : Nat) (d : Array Nat) (h : ¬ 2 * root + 1 ≥ hi) (hc : (c = 2 * root + 2 ∧ 2 * root + 1 + 1 < hi ∧ ltW d[first + (2 * root + 1)]! d[first + (2 * root + 1) + 1]! = true) ∨ (c = 2 * root + 1 ∧ (2 * root + 1 + 1 < hi → ltW d[first + (2 * root + 1)]! d[first + (2 * root + 1) + 1]! = false))) (hl : ltW d[first + root]! d[first + c]! = true) : siftDown ltW hi first root d = siftDown ltW hi first c (swp d (first + root) (first + c)) := by
  rw [siftDown, dif_neg h]
  rcases hc with ⟨rfl, h1, h2⟩ | ⟨rfl, h1⟩
  · rw [if_pos (by simp [h1, h2]), if_neg (by simp [hl]), dif_pos (by omega)]
  · rw [if_neg (by simp; exact h1), if_neg (by simp [hl])]
set_option maxHeartbeats 4000000 in
theorem srt_ins (g off n c a b : Nat) (d : Array Nat) (w0 w : World) (hS : Ro w0 w g off d) (hn : d.size = n) (hn2 : n < 4611686018427387904) (hab : a ≤ b) (hb : b ≤ n) :
    Calls Try.prog 77 #[.slice (some ⟨g, off, none⟩) n c, .int .i64 (a : Int), .int .i64 (b : Int)] w fun e w' => e = .returned (.tuple #[]) ∧ Ro w0 w' g off (Go.Sort.insertionSort ltW d a b) ∧ (Go.Sort.insertionSort ltW d a b).size = n := by
  obtain ⟨D, hD⟩ : ∃ D, insOuter ltW a b (a + 1) d = D := ⟨_, rfl⟩
  have HSS := Lib.hid hS
  have HDD : Hid (Go.Sort.insertionSort ltW d a b = D) := Lib.hid hD
  have HD := Lib.hid hD
  clear hS hD
  go_enter Try.func77, Try.ntmps77
  go_wp2
  go_loopw [6] (fun u wr => ∃ (i : Nat) (di : Array Nat), u = .int .i64 (i : Int) ∧ a < i ∧ i ≤ b + 1 ∧ di.size = n ∧ Ro w0 wr g off di ∧ insOuter ltW a b i di = D) (fun u _ => b + 1 - (intOf u).toNat)
  case atStart => exact ⟨a + 1, d, by go_num, by omega, by omega, hn, HSS.out, HD.out⟩
  case round =>
    obtain ⟨i, di, rfl, hai, hib, hsi, hR, hO⟩ := hrel
    have HR := Lib.hid hR
    have HO := Lib.hid hO
    clear hR hO HSS HD
    by_cases hlt : i < b
    · obtain ⟨E, hE⟩ : ∃ E, insInner ltW a i di = E := ⟨_, rfl⟩
      have HE := Lib.hid hE
      have hoe : insOuter ltW a b (i + 1) E = D := by rw [← hE, ← insOuter_go a b i di hlt]; exact HO.out
      have HOE := Lib.hid hoe
      clear hE hoe HO
      go_wp2_with fail
      go_loopw [7] (fun u wr => ∃ (j : Nat) (dj : Array Nat), u = .int .i64 (j : Int) ∧ a ≤ j ∧ j ≤ i ∧ dj.size = n ∧ Ro w0 wr g off dj ∧ insInner ltW a j dj = E) (fun u _ => (intOf u).toNat)
      case atStart => exact ⟨i, di, rfl, by omega, by omega, hsi, HR.out, HE.out⟩
      case round =>
        obtain ⟨j, dj, rfl, haj, hji, hsj, hR, hI⟩ := hrel
        clear HR HE
        have HR := Lib.hid hR
        have HI := Lib.hid hI
        clear hR hI
        by_cases hja : a < j
        · obtain ⟨jp, rfl⟩ : ∃ jp, j = jp + 1 := ⟨j - 1, by omega⟩
          have hda : decide ((jp : Int) + 1 > (a : Int)) = true := decide_eq_true (by omega)
          have hdb : decide ((a : Int) < (jp : Int) + 1) = true := decide_eq_true (by omega)
          have hdc : decide (a < jp + 1) = true := decide_eq_true (by omega)
          cases hlv : ltW dj[jp + 1]! dj[jp]! with
          | true =>
            have HN := Lib.hid (insInner_go a jp dj hja hlv)
            obtain ⟨ni, hni⟩ : ∃ ni, ni = jp + 1 := ⟨_, rfl⟩
            obtain ⟨nj, hnj⟩ : ∃ nj, nj = jp := ⟨_, rfl⟩
            obtain ⟨vx, hvx⟩ : ∃ vx, dj[ni]! = vx := ⟨_, rfl⟩
            obtain ⟨vy, hvy⟩ : ∃ vy, dj[nj]! = vy := ⟨_, rfl⟩
            have l0 := HR.out.cl ni (by omega)
            have l1 := HR.out.cl nj (by omega)
            have hi1 : ((jp : Int) + 1).toNat = ni := by omega
            have hi2 : (0 : Int) ≤ (jp : Int) + 1 := by omega
            have hi3 : (jp : Int) + 1 < (n : Int) := by omega
            have hi4 : IntKind.i64.wrap ((jp : Int) + 1) = (jp : Int) + 1 := by rw [IntKind.wrap_i64]; omega
            have hj1 : ((jp : Int)).toNat = nj := by omega
            have hj2 : (0 : Int) ≤ (jp : Int) := by omega
            have hj3 : (jp : Int) < (n : Int) := by omega
            have hj4 : IntKind.i64.wrap ((jp : Int)) = (jp : Int) := by rw [IntKind.wrap_i64]; omega
            rw [hvx] at l0
            rw [hvy] at l1
            have hlt : ltW vx vy = true := by rw [← hvx, ← hvy, hni, hnj]; exact hlv
            clear hvx hvy hni hnj
            go_wp2_with fail
            go_quiet ((go_at_call 83; exact Calls.still (less_w _ _ _ hlt _)))
            have HR2 := Lib.hid (HR.out.drewN nq)
            clear l0 l1 hlt HR hi1 hi2 hi3 hi4 hj1 hj2 hj3 hj4
            rename Hid (Ro _ _ _ _ _) => HR
            generalize wr.drewN nq = wq at *
            obtain ⟨ni, hni⟩ : ∃ ni, ni = jp + 1 := ⟨_, rfl⟩
            obtain ⟨nj, hnj⟩ : ∃ nj, nj = jp := ⟨_, rfl⟩
            obtain ⟨vx, hvx⟩ : ∃ vx, dj[ni]! = vx := ⟨_, rfl⟩
            obtain ⟨vy, hvy⟩ : ∃ vy, dj[nj]! = vy := ⟨_, rfl⟩
            have l0 := HR.out.cl ni (by omega)
            have l1 := HR.out.cl nj (by omega)
            have f0 := HR.out.fr ni (by omega)
            have f1 := HR.out.fr nj (by omega)
            obtain ⟨vu, l2⟩ := HR.out.st ni nj (by omega) (by omega) (.int .u64 (vy : Int))
            have hsw := HR.out.swap ni nj vx vy (by omega) (by omega) hvx hvy
            obtain ⟨dq, hdq⟩ : ∃ dq, swp dj ni nj = dq := ⟨_, rfl⟩
            rw [hdq] at hsw
            have hsz : dq.size = n := by rw [← hdq, size_swp]; omega
            have HDQ : Hid (swp dj (jp + 1) (jp) = dq) := Lib.hid (by rw [← hdq, hni, hnj])
            rw [hvx] at l0
            rw [hvy] at l1
            have hi1 : ((jp : Int) + 1).toNat = ni := by omega
            have hi2 : (0 : Int) ≤ (jp : Int) + 1 := by omega
            have hi3 : (jp : Int) + 1 < (n : Int) := by omega
            have hi4 : IntKind.i64.wrap ((jp : Int) + 1) = (jp : Int) + 1 := by rw [IntKind.wrap_i64]; omega
            have hj1 : ((jp : Int)).toNat = nj := by omega
            have hj2 : (0 : Int) ≤ (jp : Int) := by omega
            have hj3 : (jp : Int) < (n : Int) := by omega
            have hj4 : IntKind.i64.wrap ((jp : Int)) = (jp : Int) := by rw [IntKind.wrap_i64]; omega
            have HSW := Lib.hid hsw
            clear hvx hvy HR hni hnj hsw hdq
            have mixed : Try.prog.follows .mixedOrders = true := by kernel_rfl
            go_wp2_with fail
            go_big_region_o
            clear mixed
            clear l0 l1 l2 f0 f1 hi1 hi2 hi3 hi4 hj1 hj2 hj3 hj4
            rename Hid (Ro _ _ _ _ _) => HR
            go_wp2
            go_roundw
            case rel => exact ⟨jp, dq, by go_num, by omega, by omega, hsz, HR.out, by rw [← HDQ.out, ← HN.out]; exact HI.out⟩
            case measure => simp [intOf]
          | false =>
            have HN := Lib.hid (insInner_stop a jp dj hlv)
            obtain ⟨ni, hni⟩ : ∃ ni, ni = jp + 1 := ⟨_, rfl⟩
            obtain ⟨nj, hnj⟩ : ∃ nj, nj = jp := ⟨_, rfl⟩
            obtain ⟨vx, hvx⟩ : ∃ vx, dj[ni]! = vx := ⟨_, rfl⟩
            obtain ⟨vy, hvy⟩ : ∃ vy, dj[nj]! = vy := ⟨_, rfl⟩
            have l0 := HR.out.cl ni (by omega)
            have l1 := HR.out.cl nj (by omega)
            have hi1 : ((jp : Int) + 1).toNat = ni := by omega
            have hi2 : (0 : Int) ≤ (jp : Int) + 1 := by omega
            have hi3 : (jp : Int) + 1 < (n : Int) := by omega
            have hi4 : IntKind.i64.wrap ((jp : Int) + 1) = (jp : Int) + 1 := by rw [IntKind.wrap_i64]; omega
            have hj1 : ((jp : Int)).toNat = nj := by omega
            have hj2 : (0 : Int) ≤ (jp : Int) := by omega
            have hj3 : (jp : Int) < (n : Int) := by omega
            have hj4 : IntKind.i64.wrap ((jp : Int)) = (jp : Int) := by rw [IntKind.wrap_i64]; omega
            rw [hvx] at l0
            rw [hvy] at l1
            have hlt : ltW vx vy = false := by rw [← hvx, ← hvy, hni, hnj]; exact hlv
            clear hvx hvy hni hnj
            go_wp2_with fail
            go_quiet ((go_at_call 83; exact Calls.still (less_w _ _ _ hlt _)))
            have HR2 := Lib.hid (HR.out.drewN nq)
            clear l0 l1 hlt HR hi1 hi2 hi3 hi4 hj1 hj2 hj3 hj4
            rename Hid (Ro _ _ _ _ _) => HR
            generalize wr.drewN nq = wq at *
            go_wp2
            go_roundw
            case rel => exact ⟨i + 1, dj, by go_num, by omega, by omega, hsj, HR.out, by have := HI.out; rw [HN.out] at this; rw [this]; exact HOE.out⟩
            case measure => simp [intOf] <;> omega
        · obtain rfl : j = a := by omega
          have hda : decide ((j : Int) > (j : Int)) = false := decide_eq_false (by omega)
          go_wp2_with fail
          go_quiet (fail)
          go_wp2
          go_roundw
          case rel => exact ⟨i + 1, dj, by go_num, by omega, by omega, hsj, HR.out.drewN _, by have := HI.out; rw [insInner_end _ _ _ (by omega)] at this; rw [this]; exact HOE.out⟩
          case measure => simp [intOf] <;> omega
    · go_wp2
      go_end0
      exact ⟨rfl, by have := HO.out; rw [insOuter_stop _ _ _ _ hlt] at this; rw [HDD.out, ← this]; exact ⟨HR.out, hsi⟩⟩


set_option maxHeartbeats 1000000 in
theorem ins0 (A : Option Addr) (c : Nat) (w : World) :
    Calls Try.prog 77 #[.slice A 0 c, .int .i64 0, .int .i64 0] w fun e w' => e = .returned (.tuple #[]) ∧ Below w.heap.size w w' := by
  go_enter Try.func77, Try.ntmps77
  go_wp2
  go_loopw [6] (fun u wr => u = .int .i64 1 ∧ Below w.heap.size w wr) (fun _ _ => 0)
  case atStart => exact ⟨rfl, Below.refl _ _⟩
  case round =>
    obtain ⟨rfl, hB⟩ := hrel
    have HB := Lib.hid hB
    clear hB
    go_wp2
    go_end0
    exact ⟨rfl, HB.out⟩
theorem swo_w : SWO ltW := ⟨fun x => by simp [ltW], fun x y z h1 h2 => by simp only [ltW, decide_eq_true_eq] at *; omega, fun x y z h1 h2 => by simp only [ltW, decide_eq_false_iff_not] at *; omega⟩
theorem sort_w (d : Array Nat) : (Go.Sort.sort ltW d).toList = d.toList.mergeSort (fun x y => decide (x ≤ y)) := by
  obtain ⟨h1, h2⟩ := sort_sorts ltW swo_w d
  have := sorted_unique_holds swo_w (fun x y h1 h2 => by simp only [ltW, decide_eq_false_iff_not] at *; omega) d _ h1 h2
  rw [this]
  congr 1
  funext x y
  simp only [ltW]
  by_cases h : x ≤ y
  · rw [decide_eq_true h, decide_eq_false (by omega)]; rfl
  · rw [decide_eq_false h, decide_eq_true (by omega)]; rfl


set_option maxHeartbeats 2000000 in
theorem pdq12 (g off n c lim : Nat) (h12 : n ≤ 12) (d : Array Nat) (w : World) (hS : Ro w w g off d) (hn : d.size = n) :
    Calls Try.prog 59 #[.slice (some ⟨g, off, none⟩) n c, .int .i64 0, .int .i64 (n : Int), .int .i64 (lim : Int)] w fun e w' => e = .returned (.tuple #[]) ∧ Ro w w' g off (Go.Sort.insertionSort ltW d 0 n) ∧ (Go.Sort.insertionSort ltW d 0 n).size = n := by
  have HS := Lib.hid hS
  clear hS
  go_enter Try.func59, Try.ntmps59
  go_wp2_with fail
  go_loopw [1, 2] (fun u v wr => u = .int .i64 0 ∧ v = .int .i64 (n : Int) ∧ wr = w) (fun _ _ _ => 0)
  case atStart => exact ⟨rfl, rfl, rfl⟩
  case round =>
    obtain ⟨rfl, rfl, rfl⟩ := hrel
    go_wp2_with fail
    refine (srt_ins g off n c 0 n d _ _ HS.out hn (by omega) (Nat.zero_le _) (Nat.le_refl _)).mono ?_; rintro e w1 ⟨rfl, hR, hs⟩
    have HR := Lib.hid hR
    clear hR
    go_wp2
    refine bodyPost_ret (results_none rfl _ _ _) rfl ?_
    exact ⟨rfl, HR.out, hs⟩
set_option maxHeartbeats 2000000 in
theorem srt12 (g off n c : Nat) (h12 : n ≤ 12) (d : Array Nat) (w : World) (hS : Ro w w g off d) (hn : d.size = n) :
    Calls Try.prog 44 #[.slice (some ⟨g, off, none⟩) n c] w fun e w' => e = .returned (.tuple #[]) ∧ Ro w w' g off (Go.Sort.sort ltW d) ∧ (Go.Sort.sort ltW d).size = n := by
  have hD : Go.Sort.sort ltW d = Go.Sort.insertionSort ltW d 0 n := by
    unfold Go.Sort.sort Go.Sort.pdq
    rw [hn, if_pos (by omega)]
  rw [hD]
  have HS := Lib.hid hS
  clear hS hD
  go_enter Try.func44, Try.ntmps44
  go_wp2_with fail
  refine (len_any n (by omega) _).mono ?_; rintro e w1 ⟨rfl, rfl⟩
  go_wp2_with fail
  refine (pdq12 g off n c (Lib.bitLen n) h12 d _ HS.out hn).mono ?_; rintro e w1 ⟨rfl, hR, hs⟩
  have HR := Lib.hid hR
  clear hR
  go_wp2
  go_end0
  exact ⟨rfl, HR.out, hs⟩
set_option maxHeartbeats 2000000 in
theorem pdq0 (A : Option Addr) (c lim : Nat) (w : World) :
    Calls Try.prog 59 #[.slice A 0 c, .int .i64 0, .int .i64 0, .int .i64 (lim : Int)] w fun e w' => e = .returned (.tuple #[]) ∧ Below w.heap.size w w' := by
  go_enter Try.func59, Try.ntmps59
  go_wp2_with fail
  go_loopw [1, 2] (fun u v wr => u = .int .i64 0 ∧ v = .int .i64 0 ∧ wr = w) (fun _ _ _ => 0)
  case atStart => exact ⟨rfl, rfl, rfl⟩
  case round =>
    obtain ⟨rfl, rfl, rfl⟩ := hrel
    go_wp2_with fail
    refine (ins0 A c _).mono ?_; rintro e w1 ⟨rfl, hR⟩
    have HR := Lib.hid hR
    clear hR
    go_wp2
    refine bodyPost_ret (results_none rfl _ _ _) rfl ?_
    exact ⟨rfl, HR.out⟩
set_option maxHeartbeats 2000000 in
theorem srt0 (A : Option Addr) (c : Nat) (w : World) :
    Calls Try.prog 44 #[.slice A 0 c] w fun e w' => e = .returned (.tuple #[]) ∧ Below w.heap.size w w' := by
  go_enter Try.func44, Try.ntmps44
  go_wp2_with fail
  refine (len_any 0 (by omega) _).mono ?_; rintro e w1 ⟨rfl, rfl⟩
  go_wp2_with fail
  refine (pdq0 A c (Lib.bitLen 0) _).mono ?_; rintro e w1 ⟨rfl, hR⟩
  have HR := Lib.hid hR
  clear hR
  go_wp2
  go_end0
  exact ⟨rfl, HR.out⟩
/-- slices.Sort of at most 12 words: their one ascending order. -/
theorem sort12_any (A : Option Addr) (c : Nat) (xs : List Nat) (w : World) (n base : Nat) (hn : xs.length = n) (h12 : n ≤ 12) (hR : Rw w A c xs) (hb : base ≤ w.heap.size)
    (hF : ∀ g off, A = some ⟨g, off, none⟩ → base ≤ g ∧ ∀ j, j < n → w.frozen? ⟨g, off + j, none⟩ = false) :
    Calls Try.prog 44 #[.slice A n c] w fun e w' => e = .returned (.tuple #[]) ∧ Rw w' A c (xs.mergeSort (fun x y => decide (x ≤ y))) ∧ Below base w w' := by
  by_cases h0 : 0 < xs.length
  · obtain ⟨g, off, rfl, hg, hc⟩ := hR.some' h0
    obtain ⟨hbg, hfr⟩ := hF g off rfl
    have ho : Ro w w g off xs.toArray := ⟨fun j hj => by
      have hj' : j < xs.length := by simpa using hj
      rw [hc j xs[j] (by rw [List.getElem?_eq_getElem hj'])]
      simp [hj'], fun j hj => hfr j (by rw [← hn]; simpa using hj), Kept.refl _ _⟩
    refine (srt12 g off n c h12 xs.toArray w ho (by simpa using hn)).mono ?_
    rintro e w' ⟨rfl, hO, hs⟩
    have hl := sort_w xs.toArray
    simp only at hl
    refine ⟨rfl, ⟨by rw [List.length_mergeSort]; exact hR.le, hR.max, fun _ => ⟨g, off, rfl, Nat.lt_of_lt_of_le hg hO.kept.size, fun j x hx => ?_⟩⟩, hO.kept.below hb (fun i hi => by subst hi; exact hbg)⟩
    rw [← hl] at hx
    have hj : j < (Go.Sort.sort ltW xs.toArray).size := by
      rcases Nat.lt_or_ge j (Go.Sort.sort ltW xs.toArray).size with h | h
      · exact h
      · rw [List.getElem?_eq_none (by simpa using h)] at hx; cases hx
    rw [hO.cl j hj]
    have : (Go.Sort.sort ltW xs.toArray)[j]! = x := by
      rw [Array.getElem?_toList] at hx
      rw [getElem!_def, hx]
    rw [this]
  · obtain rfl : xs = [] := List.eq_nil_of_length_eq_zero (by omega)
    obtain rfl : n = 0 := hn.symm
    refine (srt0 A c w).mono ?_
    rintro e w' ⟨rfl, hB⟩
    exact ⟨rfl, by rw [List.mergeSort_nil]; exact hR.below hB (Nat.le_refl _), hB.mono hb⟩
end Go.Proofs.Ytodenkamlbihnaa
