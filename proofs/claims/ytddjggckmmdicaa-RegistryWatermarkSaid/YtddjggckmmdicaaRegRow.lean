/-
  What Snapshot of package layout and of its reference, snapshotCells, timeOf and storeTime of package registry answer; append of one word, of one number. Condition: sizes within their limits; fewer than 2^63 accesses so far.
-/
import Derived.Test.YtddjggckmmdicaaCloKit
namespace Go.Proofs.Ytddjggckmmdicaa
open Go.RowKit Go.Deep
set_option linter.unusedVariables false

theorem Blk.below {w w1 : World} {b B : Nat} {t : TypeId} {xs : List Value} (h : Blk w b t xs) (hb : Below B w w1) (hB : b < B) : Blk w1 b t xs := h.of (hb.block _ hB)
theorem own_below {w w' : World} {base e size n B : Nat} {v : Value} {xs : List Value} (h : w.ownsRow base e size v n xs) (hb : Below B w w') (hB : w.heap.size ≤ B) : w'.ownsRow base e size v n xs := by
  refine ⟨h.1, ?_⟩
  rcases h.2 with hn | ⟨g, cap, cur, rfl, hg, hh, rest⟩
  · exact .inl hn
  · exact .inr ⟨g, cap, cur, rfl, hg, (hb.block g (Nat.lt_of_lt_of_le (Array.getElem?_eq_some_iff.1 hh).1 hB)).trans hh, rest⟩
theorem own_not {W : World} {base e size n : Nat} {v : Value} {ys : List Value} (h : W.ownsRow base e size v n ys) {b : Nat} (hb : W.heap.size ≤ b) : ∀ a c, v = .slice (some a) n c → a.block ≠ b := fun a c hv => by
  rcases h.2 with ⟨rfl, _⟩ | ⟨g, cap, cur, rfl, hg, hh, rest⟩
  · cases hv
  · cases hv
    have := (Array.getElem?_eq_some_iff.1 hh).1
    show g ≠ b
    omega
theorem own_keep {W : World} {base e size n : Nat} {v : Value} {ys : List Value} (h : W.ownsRow base e size v n ys) {p : Addr} (hp : ∀ a c, v = .slice (some a) n c → a.block ≠ p.block) (u : Value) : (W.setCell p u).ownsRow base e size v n ys := by
  refine ⟨h.1, ?_⟩
  rcases h.2 with hn | ⟨g, cap, cur, rfl, hg, hh, rest⟩
  · exact .inl hn
  · exact .inr ⟨g, cap, cur, rfl, hg, (Below.heap_setCell W p u g (hp _ _ rfl)).trans hh, rest⟩

set_option maxHeartbeats 400000 in
theorem snap_yes (T S N C R F K a b d t j : Int) (hl : Lim T S N C R F) (h1 : 0 ≤ t) (h2 : t < T) (h3 : 0 ≤ j) (h4 : j < S) (w : World) :
    Calls Try.prog 41 #[.agg #[.int .i64 T, .int .i64 S, .int .i64 N, .int .i64 C, .int .i64 R, .int .i64 F, .int .u64 K, .int .i64 a, .int .i64 b, .int .i64 d], .int .i64 t, .int .i64 j] w fun e w' => e = .returned (.int .i64 (snapAt T S t j)) ∧ Kept (fun _ => False) w w' := by
  have lt1 := hl.t1
  have lt2 := hl.t2
  have ls1 := hl.s1
  have ls2 := hl.s2
  have ln1 := hl.n1
  have ln2 := hl.n2
  have lc1 := hl.c1
  have lc2 := hl.c2
  have lr1 := hl.r1
  have lr2 := hl.r2
  have lf1 := hl.f1
  have lf2 := hl.f2
  have hp := mul_bd t S 64 8 h1 (by omega) (by omega) (by omega)
  have hp1 := hp.1
  have hp2 : t * S ≤ 512 := hp.2
  clear hp
  go_enter Try.func41, Try.ntmps41
  go_wp2_with (first | (go_at_call 49; with_reducible refine (between_yes t 0 (T - 1) h1 (by omega) _).mono ?_; rintro e w1 ⟨rfl, rfl⟩) | (go_at_call 49; with_reducible refine (between_yes j 0 (S - 1) h3 (by omega) _).mono ?_; rintro e w1 ⟨rfl, rfl⟩))
  go_ret
  exact ⟨ret_int (by unfold snapAt; rw [if_pos ⟨h1, h2, h3, h4⟩]), (Kept.refl _ _).alloc _⟩

set_option linter.unusedVariables false

theorem lpair (i : Nat) : some (Value.int .i64 ((8 + i : Nat) : Int)) = some (Value.int .i64 (8 + (i : Int))) := by rw [Int.natCast_add]; rfl
/-- The addresses of the first n snapshots. -/
def ads (n : Nat) : List Value := (List.range n).map fun (k : Nat) => .int .i64 ((8 + k : Nat) : Int)
theorem ads_len (n : Nat) : (ads n).length = n := by simp [ads]
theorem ads_snoc (n : Nat) : ads n ++ [.int .i64 ((8 + n : Nat) : Int)] = ads (n + 1) := by simp [ads, List.range_succ]
theorem ads_at {n k : Nat} (h : k < n) : (ads n)[k]? = some (.int .i64 ((8 + k : Nat) : Int)) := by simp [ads, h]
theorem ads_one (n : Nat) : ∀ u ∈ ads n, u.oneCell' = true := fun u hu => by
  obtain ⟨x, _, rfl⟩ := List.mem_map.1 hu
  rfl
/-- A row of words. -/
def words (ns : List Nat) : List Value := ns.map fun x => .int .u64 ((x : Nat) : Int)
theorem words_one (ns : List Nat) : ∀ u ∈ words ns, u.oneCell' = true := fun u hu => by
  obtain ⟨x, _, rfl⟩ := List.mem_map.1 hu
  rfl

theorem Try.info3 : (Try.prog.info? 3).map (fun i => (i.zero, i.size, i.bytes)) = some (some (.int .i64 0), 1, 8) := by kernel_rfl
theorem Try.info22 : (Try.prog.info? 22).map (fun i => (i.zero, i.size, i.bytes)) = some (some (.int .u64 0), 1, 8) := by kernel_rfl
theorem snapAt_nat (T S t j : Nat) (ht : t < T) (hj : j < S) : snapAt (T : Int) (S : Int) (t : Int) (j : Int) = ((8 + (t * S + j) : Nat) : Int) := by
  unfold snapAt; rw [if_pos (by omega)]; simp; omega

section
variable {w : World} {ops : Array Oper} {rest : List Oper} {o : Oper} {a : Act} {Q : Exit → Act → World → Prop}
/-- append(s, x) of an address: s a row of the call's own. -/
theorem wpList_appi (hgd : o.guard = none) (s x : Operand) (ho : o.op = .call { callee := .builtin .append, args := #[s, x], argTypes := #[58, 58] })
    (base : Nat) (v : Value) (n : Nat) (hs : a.eval s = v) (hown : w.ownsRow base 3 1 v n (ads n)) (g off : Nat) (r : Int) (hx : a.eval x = .slice (some ⟨g, off, none⟩) 1 1)
    (hc : w.cell? ⟨g, off, none⟩ = some (.int .i64 r)) (hr : r = ((8 + n : Nat) : Int)) (h40 : n + 1 ≤ 1099511627776) (hbase : base ≤ w.heap.size)
    (h : ∀ v' w', w'.ownsRow base 3 1 v' (n + 1) (ads (n + 1)) → Below base w w' → wpList Try.prog ops Q rest (a.put o.dst v') w') : wpList Try.prog ops Q (o :: rest) a w := by
  subst hr
  obtain ⟨i, hi, hz0, hz1, hz2⟩ := info_parts Try.info3
  refine wpList_append_own w hgd s x 58 ho base 3 i _ 1 8 Try.underlying58 hi hz0 hz1 hz2 rfl (by decide) v n (ads n) hs hown ⟨g, off, none⟩ 1 1 [.int .i64 ((8 + n : Nat) : Int)] hx rfl ?_ (by simp; rfl) (by unfold maxLen; omega) (by omega) hbase ?_
  · intro j u hu
    cases j with
    | zero => simp at hu; subst hu; rw [Addr.add_lit]; exact hc
    | succ j => simp at hu
  · intro v' w' hown' hgr _
    refine h v' w' (by rw [← ads_snoc]; exact hown') ?_
    exact (Below.refl base w).grown hgr hbase fun k hk => (hown.lt k hk).1
/-- append(s, x) of a word: s a row of the call's own. -/
theorem wpList_appw (hgd : o.guard = none) (s x : Operand) (ho : o.op = .call { callee := .builtin .append, args := #[s, x], argTypes := #[23, 23] })
    (base : Nat) (v : Value) (n : Nat) (xs : List Nat) (hs : a.eval s = v) (hown : w.ownsRow base 22 1 v n (words xs)) (g off : Nat) (r : Nat) (hx : a.eval x = .slice (some ⟨g, off, none⟩) 1 1)
    (hc : w.cell? ⟨g, off, none⟩ = some (.int .u64 (r : Int))) (h40 : n + 1 ≤ 1099511627776) (hbase : base ≤ w.heap.size)
    (h : ∀ v' w', w'.ownsRow base 22 1 v' (n + 1) (words (xs ++ [r])) → Below base w w' → wpList Try.prog ops Q rest (a.put o.dst v') w') : wpList Try.prog ops Q (o :: rest) a w := by
  obtain ⟨i, hi, hz0, hz1, hz2⟩ := info_parts Try.info22
  refine wpList_append_own w hgd s x 23 ho base 22 i _ 1 8 Try.underlying23 hi hz0 hz1 hz2 rfl (by decide) v n (words xs) hs hown ⟨g, off, none⟩ 1 1 (words [r]) hx rfl ?_ (words_one _) (by unfold maxLen; omega) (by omega) hbase ?_
  · intro j u hu
    cases j with
    | zero => simp [words] at hu; subst hu; rw [Addr.add_lit]; exact hc
    | succ j => simp [words] at hu
  · intro v' w' hown' hgr _
    refine h v' w' (by unfold words at hown' ⊢; rw [List.map_append]; exact hown') ?_
    exact (Below.refl base w).grown hgr hbase fun k hk => (hown.lt k hk).1
end

set_option maxHeartbeats 400000 in
theorem timeOf_yes (N M : Int) (K : ByteArray) (h0 : 0 < N) (h1 : N < 18446744073709551616) (w : World) :
    Calls Try.prog 30 #[.agg #[.int .u64 N, .string K, .int .u64 M]] w fun e w' => e = .returned (.tuple #[.int .u64 (N - 1), .bool true]) ∧ Kept (fun _ => False) w w' := by
  go_enter Try.func30, Try.ntmps30
  go_wp2
  go_ret2
  exact ⟨by simp, (Kept.refl _ _).alloc _⟩

set_option maxHeartbeats 400000 in
theorem timeOf_no (M : Int) (K : ByteArray) (w : World) :
    Calls Try.prog 30 #[.agg #[.int .u64 0, .string K, .int .u64 M]] w fun e w' => e = .returned (.tuple #[.int .u64 0, .bool false]) ∧ Kept (fun _ => False) w w' := by
  go_enter Try.func30, Try.ntmps30
  go_wp2
  go_ret2
  exact ⟨rfl, (Kept.refl _ _).alloc _⟩

set_option maxHeartbeats 4000000 in
theorem snapCells_any (T S : Nat) (N C R F K a b d : Int) (hl : Lim (T : Int) (S : Int) N C R F) (w : World) :
    Calls Try.prog 24 #[.agg #[.int .i64 (T : Int), .int .i64 (S : Int), .int .i64 N, .int .i64 C, .int .i64 R, .int .i64 F, .int .u64 K, .int .i64 a, .int .i64 b, .int .i64 d]] w fun e w' => ∃ g c, e = .returned (.slice (some ⟨g, 0, none⟩) (T * S) c) ∧ T * S ≤ c ∧ c ≤ maxLen ∧ w.heap.size ≤ g ∧ g < w'.heap.size ∧ (∀ k, k < T * S → w'.cell? ⟨g, k, none⟩ = some (.int .i64 ((8 + k : Nat) : Int))) ∧ Kept (fun _ => False) w w' := by
  have hT1 := hl.t1
  have hT2 := hl.t2
  have hS1 := hl.s1
  have hS2 := hl.s2
  have hB0 := Blk.new w [.int .i64 (T : Int), .int .i64 (S : Int), .int .i64 N, .int .i64 C, .int .i64 R, .int .i64 F, .int .u64 K, .int .i64 a, .int .i64 b, .int .i64 d] 29
  have hK0 := (Kept.refl (fun _ => False) w).alloc (.cells #[.int .i64 (T : Int), .int .i64 (S : Int), .int .i64 N, .int .i64 C, .int .i64 R, .int .i64 F, .int .u64 K, .int .i64 a, .int .i64 b, .int .i64 d] 29)
  have HB0 := Lib.hid hB0
  have HK0 := Lib.hid hK0
  have HL := Lib.hid hl
  clear hB0 hK0 hl
  go_enter Try.func24, Try.ntmps24
  go_wp2_with fail
  refine (config_any T S N C R F K a b d _).mono ?_; rintro e w1 ⟨rfl, hK1⟩
  have HB1 := Lib.hid (hK1.blk HB0.out id)
  have HK1 := Lib.hid (HK0.out.trans hK1 (fun _ _ h => h))
  clear hK1 HB0 HK0
  go_wp2_with fail
  have hB1 := HB1.out.alloc (.cells #[.int .i64 (T : Int), .int .i64 (S : Int), .int .i64 N, .int .i64 C, .int .i64 R, .int .i64 F, .int .u64 K] 25)
  have hK1 := HK1.out.alloc (.cells #[.int .i64 (T : Int), .int .i64 (S : Int), .int .i64 N, .int .i64 C, .int .i64 R, .int .i64 F, .int .u64 K] 25)
  have hC1 := Blk.new w1 [.int .i64 (T : Int), .int .i64 (S : Int), .int .i64 N, .int .i64 C, .int .i64 R, .int .i64 F, .int .u64 K] 25
  have hz1 := HB1.out.lt
  have hz2 := hC1.lt
  have HBB := Lib.hid hB1
  have HKK := Lib.hid hK1
  have HCC := Lib.hid hC1
  clear hB1 hK1 hC1 HB1 HK1
  generalize w1.alloc (.cells #[.int .i64 (T : Int), .int .i64 (S : Int), .int .i64 N, .int .i64 C, .int .i64 R, .int .i64 F, .int .u64 K] 25) = W1 at *
  generalize w1.heap.size = cb at *
  generalize hlb : w.heap.size = lb at *
  have HLB := Lib.hid hlb
  clear hlb
  go_loopw [4, 11] (fun v i wr => ∃ t m : Nat, t ≤ T ∧ m = t * S ∧ i = .int .i64 t ∧ wr.ownsRow W1.heap.size 3 1 v m (ads m) ∧ Below W1.heap.size W1 wr) (fun _ i _ => T - (intOf i).toNat)
  case atStart => exact ⟨0, 0, by omega, by omega, rfl, World.ownsRow_nil _ _ _ _, Below.refl _ _⟩
  case round =>
    obtain ⟨t, m, ht, hm, rfl, hown, hbel⟩ := hrel
    have HO := Lib.hid hown
    have HL2 := Lib.hid hbel
    have HM := Lib.hid hm
    have hc := HCC.out.below hbel hz2
    have c0 := hc.cell (i := 0) rfl
    have c1 := hc.cell (i := 1) rfl
    clear hown hbel hc hm
    by_cases hlt : t < T
    · go_wp2_with fail
      go_loopw [4, 16] (fun v i wr => ∃ j : Nat, j ≤ S ∧ i = .int .i64 j ∧ wr.ownsRow W1.heap.size 3 1 v (m + j) (ads (m + j)) ∧ Below W1.heap.size W1 wr) (fun _ i _ => S - (intOf i).toNat)
      case atStart => exact ⟨0, by omega, rfl, HO.out, HL2.out⟩
      case round =>
        obtain ⟨j, hj, rfl, hown, hbel⟩ := hrel
        have HO3 := Lib.hid hown
        have HL3 := Lib.hid hbel
        have hb := HBB.out.below hbel (by omega)
        have x0 := hb.cell (i := 0) rfl
        have x1 := hb.cell (i := 1) rfl
        have x2 := hb.cell (i := 2) rfl
        have x3 := hb.cell (i := 3) rfl
        have x4 := hb.cell (i := 4) rfl
        have x5 := hb.cell (i := 5) rfl
        have x6 := hb.cell (i := 6) rfl
        have x7 := hb.cell (i := 7) rfl
        have x8 := hb.cell (i := 8) rfl
        have x9 := hb.cell (i := 9) rfl
        have hc := HCC.out.below hbel hz2
        have y0 := hc.cell (i := 0) rfl
        have y1 := hc.cell (i := 1) rfl
        clear hown hbel hc hb c0 c1
        by_cases hjt : j < S
        · go_wp2_with fail
          refine (snap_yes T S N C R F K a b d t j HL.out (by omega) (by omega) (by omega) (by omega) _).mono ?_; rintro e w2 ⟨rfl, hK2⟩
          have hO4 := own_below HO3.out (hK2.below (Nat.le_refl _) (fun _ h => h.elim)) (Nat.le_refl _)
          have hL4 := HL3.out.trans (hK2.below (B := W1.heap.size) HL3.out.size (fun _ h => h.elim))
          have hz4 := hL4.size
          have HO4 := Lib.hid hO4
          have HL4 := Lib.hid hL4
          clear hO4 hL4 hK2 HO3 HL3 x0 x1 x2 x3 x4 x5 x6 x7 x8 x9 y0 y1
          go_wp2_with (at_builtin; go_must (refine wpList_appi rfl (.tmp 19) (.tmp 24) rfl W1.heap.size _ (m + j) rfl (HO4.out.alloc _) w2.heap.size 0 (snapAt T S t j) rfl ((Blk.new w2 [.int .i64 (snapAt T S t j)] 3).cell (i := 0) rfl) (by rw [snapAt_nat T S t j hlt hjt, HM.out]) (by have := HM.out; have : t * S ≤ 64 * 8 := Nat.mul_le_mul (by omega) (by omega); omega) (by rw [nblk_alloc]; omega) ?_))
          intro v2 w3 hown2 hB2
          have HB2 := Lib.hid ((HL4.out.alloc hz4 _).trans hB2)
          have HO2 := Lib.hid hown2
          clear hown2 hB2 HL4 HO4
          go_wp2
          go_roundw
          case rel => exact ⟨j + 1, by omega, by go_num, HO2.out, HB2.out⟩
          case measure => simp [intOf]; omega
        · obtain rfl : j = S := by omega
          go_wp2
          go_roundw
          case rel => exact ⟨t + 1, m + j, by omega, by rw [Nat.succ_mul]; have := HM.out; omega, by go_num, HO3.out, HL3.out⟩
          case measure => simp [intOf]; omega
    · obtain rfl : t = T := by omega
      have hlen := Nat.mul_pos (show 0 < t by omega) (show 0 < S by omega)
      have hmm := HM.out
      have ho := HO.out
      have hbl := HL2.out
      rcases ho.2 with ⟨_, h0⟩ | ⟨g, cap, cur, rfl, hb, hg, hc, hm, rest⟩
      · exfalso; omega
      have hcells := ho.cells (g := g) rfl
      go_wp2
      go_ret
      exact ⟨g, cap, by rw [hmm]; rfl, by omega, hm, by have := HLB.out; omega, (Array.getElem?_eq_some_iff.1 hg).1, fun k hk => by have := hcells k _ (ads_at (n := m) (by omega)); rwa [Addr.add_lit, Nat.zero_add] at this, HKK.out.trans (Below.kept hbl (S := fun i => W1.heap.size ≤ i) (fun _ _ h => h)) (fun i hi h => by have := HKK.out.size; omega)⟩
end Go.Proofs.Ytddjggckmmdicaa
