/-
  The latch of a view, rows that a law has made, and the list of a law's cells. Condition: the kit's small configurations.
-/
import Derived.Test.YtkpbbnpfdighjaaGreatLkCells
namespace Go.Proofs.YtkpbbnpfdighjaaGreat
open Go.RowKit Go.Deep Plain
set_option linter.unusedVariables false

theorem flat3_one : ∀ (l : List Cel), ∀ u ∈ flat3 l, u.oneCell' = true
  | [], u, h => by simp [flat3] at h
  | c :: r, u, h => by
    simp only [flat3, List.mem_cons] at h
    rcases h with rfl | rfl | rfl | h
    · rfl
    · rfl
    · rfl
    · exact flat3_one r u h

theorem Start.rest {F : Nat} {l : List Cel} (h : Start F l) : ∀ i : Int, ((1 ≤ i ∧ i ≤ 3) ∨ (6 ≤ i ∧ i < 10) ∨ 10 + 100 * (F : Int) + 400 ≤ i) → cellAt l i = cel0 := fun i hi => by
  have e : nad F 1 1 = 12 := by rw [nad_eq (by omega) (by omega) (by omega), nla_eq (by omega) (by omega)]; omega
  exact h.zero i (by omega) (by omega) (by omega)
theorem own_blk {w : World} {base e size n : Nat} {v : Value} {xs : List Value} (h : w.ownsRow base e size v n xs) (hn : 0 < n) :
    ∃ (g cap : Nat) (rest : List Value), v = .slice (some ⟨g, 0, none⟩) n cap ∧ base ≤ g ∧ Blk w g e (xs ++ rest) := by
  rcases h.2 with ⟨_, h0⟩ | ⟨g, cap, cur, rfl, hb, hg, _, _, _, ht⟩
  · omega
  · refine ⟨g, cap, cur.toList.drop (n * size), rfl, hb, ?_⟩
    unfold Blk
    rw [hg, ← ht, List.take_append_drop]
theorem list_set_left {xs rest : List Value} {i : Nat} (h : i < xs.length) (v : Value) : (xs ++ rest).set i v = xs.set i v ++ rest := by rw [List.set_append_left _ _ h]
theorem flat3_word {l : List Cel} {j : Nat} {N N' M : Int} {K : ByteArray} (hc : l[j]? = some (N, K, M)) : (flat3 l).set (j * 3) (.int .u64 N') = flat3 (l.set j (N', K, M)) := by
  obtain ⟨h0, h1, h2⟩ := flat3_at l j _ hc
  rw [flat3_set]
  have e1 : ((flat3 l).set (j * 3) (.int .u64 N')).set (j * 3 + 1) (.string K) = (flat3 l).set (j * 3) (.int .u64 N') := by
    apply List.ext_getElem?
    intro i
    rw [List.getElem?_set]
    split
    · rename_i e; subst e
      rw [if_pos (by rw [List.length_set]; exact (List.getElem?_eq_some_iff.1 h1).1), List.getElem?_set, if_neg (by omega), h1]
    · rfl
  have e2 : ((flat3 l).set (j * 3) (.int .u64 N')).set (j * 3 + 2) (.int .u64 M) = (flat3 l).set (j * 3) (.int .u64 N') := by
    apply List.ext_getElem?
    intro i
    rw [List.getElem?_set]
    split
    · rename_i e; subst e
      rw [if_pos (by rw [List.length_set]; exact (List.getElem?_eq_some_iff.1 h2).1), List.getElem?_set, if_neg (by omega), h2]
    · rfl
  rw [e1, e2]
set_option maxHeartbeats 2000000 in
theorem vlatch_any (F : Nat) (h4 : 4 ≤ F) (h6 : F ≤ 6) (g n : Nat) (l : List Cel) (hl : l.length = n) (nid : Nat) (a : Int) (hla : nodeAt 100 (F : Int) 10 (nid : Int) ((0 : Nat) : Int) = a) (N M : Int) (K : ByteArray) (w : World) (hv : Blk w g 46 (flat3 l)) (hc : cellAt l a = (N, K, M)) :
    Calls Tryz.prog 126 #[.agg #[.int .i64 1, .int .i64 2, .int .i64 100, .int .i64 100, .int .i64 200, .int .i64 (F : Int), .int .u64 1000, .slice (some ⟨g, 0, none⟩) n n], .int .u64 (nid : Int)] w fun e w' => e = .returned (.int .u64 N) ∧ Kept (fun _ => False) w w' := by
  have HV0 := Lib.hid hv
  have HC := Lib.hid hc
  clear hv hc
  go_enter Tryz.func126, Tryz.ntmps126
  go_wp2_with fail
  have hal := (Kept.refl (fun _ => False) w).alloc (.cells #[.int .i64 1, .int .i64 2, .int .i64 100, .int .i64 100, .int .i64 200, .int .i64 (F : Int), .int .u64 1000, .slice (some ⟨g, 0, none⟩) n n] 78)
  have HV := Lib.hid (hal.blk HV0.out (fun h => h))
  have HK := Lib.hid hal
  clear hal HV0
  generalize w.alloc (.cells #[.int .i64 1, .int .i64 2, .int .i64 100, .int .i64 100, .int .i64 200, .int .i64 (F : Int), .int .u64 1000, .slice (some ⟨g, 0, none⟩) n n] 78) = W at *
  have hrf := hla
  refine (vpart_any F h4 h6 g n l hl nid 0 (by omega) a hla N M K _ HV.out HC.out).mono ?_; rintro e w2 ⟨rfl, hK2⟩
  have f0 := field0 N M K
  have HK2 := Lib.hid (HK.out.trans hK2 (fun _ _ h => h))
  clear hK2
  go_wp2
  go_ret
  exact ⟨rfl, HK2.out⟩

end Go.Proofs.YtkpbbnpfdighjaaGreat
