/-
  What the reference's Snapshot, Node, Chain and Record answer: the same addresses. Condition: sizes within their limits.
-/
import Derived.Test.YtfbfhlolnooipaaLayNew
namespace Go.Proofs.Ytfbfhlolnooipaa
open Go.RowKit Go.Deep
set_option linter.unusedVariables false

set_option maxHeartbeats 400000 in
theorem refSnap_yes (T S N C R F K t j : Int) (hl : Lim T S N C R F) (h1 : 0 ≤ t) (h2 : t < T) (h3 : 0 ≤ j) (h4 : j < S) (w : World) :
    Calls Try.prog 26 #[.agg #[.int .i64 T, .int .i64 S, .int .i64 N, .int .i64 C, .int .i64 R, .int .i64 F, .int .u64 K], .int .i64 t, .int .i64 j] w fun e w' => e = .returned (.int .i64 (snapAt T S t j)) ∧ Kept (fun _ => False) w w' := by
  have lt1 := hl.t1
  have lt2 := hl.t2
  have ls1 := hl.s1
  have ls2 := hl.s2
  have ln1 := hl.n1
  have ln2 := hl.n2
  have lc1 := hl.c1
  have lc2 := hl.c2
  have lr1 := hl.r1
  have lr2 := hl.r2
  have lf1 := hl.f1
  have lf2 := hl.f2
  have hp := mul_bd t S 64 8 h1 (by omega) (by omega) (by omega)
  have hp1 := hp.1
  have hp2 : t * S ≤ 512 := hp.2
  clear hp
  go_enter Try.func26, Try.ntmps26
  go_wp2
  go_ret
  exact ⟨ret_int (by unfold snapAt; rw [if_pos ⟨h1, h2, h3, h4⟩]), (Kept.refl _ _).alloc _⟩

set_option maxHeartbeats 400000 in
theorem refSnap_no (T S N C R F K t j : Int) (hl : Lim T S N C R F) (h : ¬ (0 ≤ t ∧ t < T ∧ 0 ≤ j ∧ j < S)) (w : World) :
    Calls Try.prog 26 #[.agg #[.int .i64 T, .int .i64 S, .int .i64 N, .int .i64 C, .int .i64 R, .int .i64 F, .int .u64 K], .int .i64 t, .int .i64 j] w fun e w' => e = .returned (.int .i64 (snapAt T S t j)) ∧ Kept (fun _ => False) w w' := by
  have hs : snapAt T S t j = -1 := by unfold snapAt; rw [if_neg h]
  by_cases h1 : t < 0
  rotate_left
  by_cases h2 : T ≤ t
  rotate_left
  by_cases h3 : j < 0
  rotate_left
  have h4 : S ≤ j := by omega
  all_goals
    clear h
    have HS := Lib.hid hs
    clear hs hl
    go_enter Try.func26, Try.ntmps26
    go_wp2
    go_ret
    exact ⟨ret_int HS.out.symm, (Kept.refl _ _).alloc _⟩

theorem refSnap_any (T S N C R F K t j : Int) (hl : Lim T S N C R F) (w : World) :
    Calls Try.prog 26 #[.agg #[.int .i64 T, .int .i64 S, .int .i64 N, .int .i64 C, .int .i64 R, .int .i64 F, .int .u64 K], .int .i64 t, .int .i64 j] w fun e w' => e = .returned (.int .i64 (snapAt T S t j)) ∧ Kept (fun _ => False) w w' := by
  by_cases h : 0 ≤ t ∧ t < T ∧ 0 ≤ j ∧ j < S
  · exact refSnap_yes T S N C R F K t j hl h.1 h.2.1 h.2.2.1 h.2.2.2 w
  · exact refSnap_no T S N C R F K t j hl h w
set_option maxHeartbeats 400000 in
theorem refNode_yes (T S N C R F K n part : Int) (hl : Lim T S N C R F) (h3 : 0 ≤ part) (h4 : part < F + 4) (h1 : 1 ≤ n) (h2 : n ≤ N) (w : World) :
    Calls Try.prog 28 #[.agg #[.int .i64 T, .int .i64 S, .int .i64 N, .int .i64 C, .int .i64 R, .int .i64 F, .int .u64 K], .int .u64 n, .int .i64 part] w fun e w' => e = .returned (.int .i64 (nodeAt N F (firstNode T S) n part)) ∧ Kept (fun _ => False) w w' := by
  have lt1 := hl.t1
  have lt2 := hl.t2
  have ls1 := hl.s1
  have ls2 := hl.s2
  have ln1 := hl.n1
  have ln2 := hl.n2
  have lc1 := hl.c1
  have lc2 := hl.c2
  have lr1 := hl.r1
  have lr2 := hl.r2
  have lf1 := hl.f1
  have lf2 := hl.f2
  have hrc := hl.reach
  have k1 := hrc.a1
  have k2 := hrc.a2
  have k3 := hrc.b1
  have k4 := hrc.b2
  have k5 := hrc.d1
  have k6 := hrc.d2
  clear hrc
  have hp := mul_bd (n - 1) F 4096 32 (by omega) (by omega) (by omega) (by omega)
  have hp1 := hp.1
  have hp2 : (n - 1) * F ≤ 131072 := hp.2
  clear hp
  have nf4 := nf4 (n - 1) F
  go_enter Try.func28, Try.ntmps28
  go_wp2
  have hN0 := Blk.new w [.int .i64 T, .int .i64 S, .int .i64 N, .int .i64 C, .int .i64 R, .int .i64 F, .int .u64 K] 24
  have x0 := hN0.cell (i := 0) rfl
  have x1 := hN0.cell (i := 1) rfl
  have x2 := hN0.cell (i := 2) rfl
  have x3 := hN0.cell (i := 3) rfl
  have x4 := hN0.cell (i := 4) rfl
  have x5 := hN0.cell (i := 5) rfl
  have x6 := hN0.cell (i := 6) rfl
  have hr : w.heap.size < (w.alloc (.cells #[.int .i64 T, .int .i64 S, .int .i64 N, .int .i64 C, .int .i64 R, .int .i64 F, .int .u64 K] 24)).heap.size := hN0.lt
  have HK := Lib.hid ((Kept.refl (fun _ => False) w).alloc (.cells #[.int .i64 T, .int .i64 S, .int .i64 N, .int .i64 C, .int .i64 R, .int .i64 F, .int .u64 K] 24))
  clear hN0
  generalize w.alloc (.cells #[.int .i64 T, .int .i64 S, .int .i64 N, .int .i64 C, .int .i64 R, .int .i64 F, .int .u64 K] 24) = W at *
  generalize w.heap.size = r at *
  have e1 : IntKind.u64.wrap (n - 1) = n - 1 := IntWalk.u64_in _ (by omega)
  have e2 : IntKind.i64.wrap (n - 1) = n - 1 := IntWalk.i64_in _ (by omega)
  go_region_held3 (fun w' => Kept (fun _ => False) W w' ∧ w'.cell? ⟨r, 0, none⟩ = some (.int .i64 T) ∧ w'.cell? ⟨r, 1, none⟩ = some (.int .i64 S) ∧ w'.cell? ⟨r, 2, none⟩ = some (.int .i64 N) ∧ w'.cell? ⟨r, 3, none⟩ = some (.int .i64 C) ∧ w'.cell? ⟨r, 4, none⟩ = some (.int .i64 R) ∧ w'.cell? ⟨r, 5, none⟩ = some (.int .i64 F) ∧ w'.cell? ⟨r, 6, none⟩ = some (.int .u64 K))
    (first | exact ⟨(Kept.refl _ _).drew, x0, x1, x2, x3, x4, x5, x6⟩ | exact keep7 (by assumption) hr (by assumption) | exact keep7 (Kept.ofDrew (by assumption)) hr (by assumption))
    (first | (go_at_call 50; refine (refA_any T S N C R F K hl _).mono ?_; rintro e w9 ⟨rfl, hK9⟩))
  go_wp2
  go_ret
  exact ⟨ret_int (by rw [IntWalk.i64_in (F + 4) (by omega), nf4, IntWalk.i64_in ((n - 1) * F + (n - 1) * 4) (by omega), IntWalk.i64_in (firstNode T S + _) (by omega), IntWalk.i64_in _ (by omega)]; unfold nodeAt; rw [if_pos ⟨h1, h2⟩]), HK.out.trans hK9.ofDrew (fun _ _ h => h)⟩

set_option maxHeartbeats 400000 in
theorem refNode_no1 (T S N C R F K n part : Int) (hl : Lim T S N C R F) (h3 : 0 ≤ part) (h4 : part < F + 4) (h1 : n < 1) (h0 : 0 ≤ n) (w : World) :
    Calls Try.prog 28 #[.agg #[.int .i64 T, .int .i64 S, .int .i64 N, .int .i64 C, .int .i64 R, .int .i64 F, .int .u64 K], .int .u64 n, .int .i64 part] w fun e w' => e = .returned (.int .i64 (nodeAt N F (firstNode T S) n part)) ∧ Kept (fun _ => False) w w' := by
  have lt1 := hl.t1
  have lt2 := hl.t2
  have ls1 := hl.s1
  have ls2 := hl.s2
  have ln1 := hl.n1
  have ln2 := hl.n2
  have lc1 := hl.c1
  have lc2 := hl.c2
  have lr1 := hl.r1
  have lr2 := hl.r2
  have lf1 := hl.f1
  have lf2 := hl.f2
  have HS := Lib.hid (show nodeAt N F (firstNode T S) n part = -1 by unfold nodeAt; rw [if_neg (by omega)])
  go_enter Try.func28, Try.ntmps28
  go_wp2
  go_ret
  exact ⟨ret_int HS.out.symm, (Kept.refl _ _).alloc _⟩

set_option maxHeartbeats 400000 in
theorem refNode_no2 (T S N C R F K n part : Int) (hl : Lim T S N C R F) (h3 : 0 ≤ part) (h4 : part < F + 4) (h1 : N < n) (h0 : 0 ≤ n) (w : World) :
    Calls Try.prog 28 #[.agg #[.int .i64 T, .int .i64 S, .int .i64 N, .int .i64 C, .int .i64 R, .int .i64 F, .int .u64 K], .int .u64 n, .int .i64 part] w fun e w' => e = .returned (.int .i64 (nodeAt N F (firstNode T S) n part)) ∧ Kept (fun _ => False) w w' := by
  have lt1 := hl.t1
  have lt2 := hl.t2
  have ls1 := hl.s1
  have ls2 := hl.s2
  have ln1 := hl.n1
  have ln2 := hl.n2
  have lc1 := hl.c1
  have lc2 := hl.c2
  have lr1 := hl.r1
  have lr2 := hl.r2
  have lf1 := hl.f1
  have lf2 := hl.f2
  have HS := Lib.hid (show nodeAt N F (firstNode T S) n part = -1 by unfold nodeAt; rw [if_neg (by omega)])
  go_enter Try.func28, Try.ntmps28
  go_wp2
  go_ret
  exact ⟨ret_int HS.out.symm, (Kept.refl _ _).alloc _⟩

theorem refNode_any (T S N C R F K n part : Int) (hl : Lim T S N C R F) (h3 : 0 ≤ part) (h4 : part < F + 4) (h0 : 0 ≤ n) (w : World) :
    Calls Try.prog 28 #[.agg #[.int .i64 T, .int .i64 S, .int .i64 N, .int .i64 C, .int .i64 R, .int .i64 F, .int .u64 K], .int .u64 n, .int .i64 part] w fun e w' => e = .returned (.int .i64 (nodeAt N F (firstNode T S) n part)) ∧ Kept (fun _ => False) w w' := by
  by_cases h : 1 ≤ n ∧ n ≤ N
  · exact refNode_yes T S N C R F K n part hl h3 h4 h.1 h.2 w
  · exact (if h' : n < 1 then refNode_no1 T S N C R F K n part hl h3 h4 h' h0 w else refNode_no2 T S N C R F K n part hl h3 h4 (by omega) h0 w)
set_option maxHeartbeats 400000 in
theorem refChain_yes (T S N C R F K n : Int) (hl : Lim T S N C R F) (h1 : 1 ≤ n) (h2 : n ≤ C) (w : World) :
    Calls Try.prog 33 #[.agg #[.int .i64 T, .int .i64 S, .int .i64 N, .int .i64 C, .int .i64 R, .int .i64 F, .int .u64 K], .int .u64 n] w fun e w' => e = .returned (.int .i64 (chainAt C (firstChain T S N F) n)) ∧ Kept (fun _ => False) w w' := by
  have lt1 := hl.t1
  have lt2 := hl.t2
  have ls1 := hl.s1
  have ls2 := hl.s2
  have ln1 := hl.n1
  have ln2 := hl.n2
  have lc1 := hl.c1
  have lc2 := hl.c2
  have lr1 := hl.r1
  have lr2 := hl.r2
  have lf1 := hl.f1
  have lf2 := hl.f2
  have hrc := hl.reach
  have k1 := hrc.a1
  have k2 := hrc.a2
  have k3 := hrc.b1
  have k4 := hrc.b2
  have k5 := hrc.d1
  have k6 := hrc.d2
  clear hrc
  have e1 : IntKind.u64.wrap (n - 1) = n - 1 := IntWalk.u64_in _ (by omega)
  have e2 : IntKind.i64.wrap (n - 1) = n - 1 := IntWalk.i64_in _ (by omega)
  go_enter Try.func33, Try.ntmps33
  go_wp2_with (go_at_call 52; refine (refB_any T S N C R F K hl _).mono ?_; rintro e w9 ⟨rfl, hK9⟩)
  go_ret
  exact ⟨ret_int (by unfold chainAt; rw [if_pos ⟨h1, h2⟩]), ((Kept.refl _ _).alloc _).trans hK9 (fun _ _ h => h)⟩

set_option maxHeartbeats 400000 in
theorem refChain_no1 (T S N C R F K n : Int) (hl : Lim T S N C R F) (h1 : n < 1) (h0 : 0 ≤ n) (w : World) :
    Calls Try.prog 33 #[.agg #[.int .i64 T, .int .i64 S, .int .i64 N, .int .i64 C, .int .i64 R, .int .i64 F, .int .u64 K], .int .u64 n] w fun e w' => e = .returned (.int .i64 (chainAt C (firstChain T S N F) n)) ∧ Kept (fun _ => False) w w' := by
  have lt1 := hl.t1
  have lt2 := hl.t2
  have ls1 := hl.s1
  have ls2 := hl.s2
  have ln1 := hl.n1
  have ln2 := hl.n2
  have lc1 := hl.c1
  have lc2 := hl.c2
  have lr1 := hl.r1
  have lr2 := hl.r2
  have lf1 := hl.f1
  have lf2 := hl.f2
  have HS := Lib.hid (show chainAt C (firstChain T S N F) n = -1 by unfold chainAt; rw [if_neg (by omega)])
  go_enter Try.func33, Try.ntmps33
  go_wp2
  go_ret
  exact ⟨ret_int HS.out.symm, (Kept.refl _ _).alloc _⟩

set_option maxHeartbeats 400000 in
theorem refChain_no2 (T S N C R F K n : Int) (hl : Lim T S N C R F) (h1 : C < n) (h0 : 0 ≤ n) (w : World) :
    Calls Try.prog 33 #[.agg #[.int .i64 T, .int .i64 S, .int .i64 N, .int .i64 C, .int .i64 R, .int .i64 F, .int .u64 K], .int .u64 n] w fun e w' => e = .returned (.int .i64 (chainAt C (firstChain T S N F) n)) ∧ Kept (fun _ => False) w w' := by
  have lt1 := hl.t1
  have lt2 := hl.t2
  have ls1 := hl.s1
  have ls2 := hl.s2
  have ln1 := hl.n1
  have ln2 := hl.n2
  have lc1 := hl.c1
  have lc2 := hl.c2
  have lr1 := hl.r1
  have lr2 := hl.r2
  have lf1 := hl.f1
  have lf2 := hl.f2
  have HS := Lib.hid (show chainAt C (firstChain T S N F) n = -1 by unfold chainAt; rw [if_neg (by omega)])
  go_enter Try.func33, Try.ntmps33
  go_wp2
  go_ret
  exact ⟨ret_int HS.out.symm, (Kept.refl _ _).alloc _⟩

theorem refChain_any (T S N C R F K n : Int) (hl : Lim T S N C R F) (h0 : 0 ≤ n) (w : World) :
    Calls Try.prog 33 #[.agg #[.int .i64 T, .int .i64 S, .int .i64 N, .int .i64 C, .int .i64 R, .int .i64 F, .int .u64 K], .int .u64 n] w fun e w' => e = .returned (.int .i64 (chainAt C (firstChain T S N F) n)) ∧ Kept (fun _ => False) w w' := by
  by_cases h : 1 ≤ n ∧ n ≤ C
  · exact refChain_yes T S N C R F K n hl h.1 h.2 w
  · exact (if h' : n < 1 then refChain_no1 T S N C R F K n hl h' h0 w else refChain_no2 T S N C R F K n hl (by omega) h0 w)
set_option maxHeartbeats 400000 in
theorem refRec_yes (T S N C R F K n part : Int) (hl : Lim T S N C R F) (h3 : 0 ≤ part) (h4 : part ≤ 1000) (h1 : 1 ≤ n) (h2 : n ≤ R) (w : World) :
    Calls Try.prog 35 #[.agg #[.int .i64 T, .int .i64 S, .int .i64 N, .int .i64 C, .int .i64 R, .int .i64 F, .int .u64 K], .int .u64 n, .int .i64 part] w fun e w' => e = .returned (.int .i64 (recAt R (firstRecord T S N C F) n part)) ∧ Kept (fun _ => False) w w' := by
  have lt1 := hl.t1
  have lt2 := hl.t2
  have ls1 := hl.s1
  have ls2 := hl.s2
  have ln1 := hl.n1
  have ln2 := hl.n2
  have lc1 := hl.c1
  have lc2 := hl.c2
  have lr1 := hl.r1
  have lr2 := hl.r2
  have lf1 := hl.f1
  have lf2 := hl.f2
  have hrc := hl.reach
  have k1 := hrc.a1
  have k2 := hrc.a2
  have k3 := hrc.b1
  have k4 := hrc.b2
  have k5 := hrc.d1
  have k6 := hrc.d2
  clear hrc
  have e1 : IntKind.u64.wrap (n - 1) = n - 1 := IntWalk.u64_in _ (by omega)
  have e2 : IntKind.i64.wrap (n - 1) = n - 1 := IntWalk.i64_in _ (by omega)
  go_enter Try.func35, Try.ntmps35
  go_wp2_with (go_at_call 48; refine (refC_any T S N C R F K hl _).mono ?_; rintro e w9 ⟨rfl, hK9⟩)
  go_ret
  exact ⟨ret_int (by unfold recAt; rw [if_pos ⟨h1, h2⟩]; omega), ((Kept.refl _ _).alloc _).trans hK9 (fun _ _ h => h)⟩

set_option maxHeartbeats 400000 in
theorem refRec_no1 (T S N C R F K n part : Int) (hl : Lim T S N C R F) (h3 : 0 ≤ part) (h4 : part ≤ 1000) (h1 : n < 1) (h0 : 0 ≤ n) (w : World) :
    Calls Try.prog 35 #[.agg #[.int .i64 T, .int .i64 S, .int .i64 N, .int .i64 C, .int .i64 R, .int .i64 F, .int .u64 K], .int .u64 n, .int .i64 part] w fun e w' => e = .returned (.int .i64 (recAt R (firstRecord T S N C F) n part)) ∧ Kept (fun _ => False) w w' := by
  have lt1 := hl.t1
  have lt2 := hl.t2
  have ls1 := hl.s1
  have ls2 := hl.s2
  have ln1 := hl.n1
  have ln2 := hl.n2
  have lc1 := hl.c1
  have lc2 := hl.c2
  have lr1 := hl.r1
  have lr2 := hl.r2
  have lf1 := hl.f1
  have lf2 := hl.f2
  have HS := Lib.hid (show recAt R (firstRecord T S N C F) n part = -1 by unfold recAt; rw [if_neg (by omega)])
  go_enter Try.func35, Try.ntmps35
  go_wp2
  go_ret
  exact ⟨ret_int HS.out.symm, (Kept.refl _ _).alloc _⟩

set_option maxHeartbeats 400000 in
theorem refRec_no2 (T S N C R F K n part : Int) (hl : Lim T S N C R F) (h3 : 0 ≤ part) (h4 : part ≤ 1000) (h1 : R < n) (h0 : 0 ≤ n) (w : World) :
    Calls Try.prog 35 #[.agg #[.int .i64 T, .int .i64 S, .int .i64 N, .int .i64 C, .int .i64 R, .int .i64 F, .int .u64 K], .int .u64 n, .int .i64 part] w fun e w' => e = .returned (.int .i64 (recAt R (firstRecord T S N C F) n part)) ∧ Kept (fun _ => False) w w' := by
  have lt1 := hl.t1
  have lt2 := hl.t2
  have ls1 := hl.s1
  have ls2 := hl.s2
  have ln1 := hl.n1
  have ln2 := hl.n2
  have lc1 := hl.c1
  have lc2 := hl.c2
  have lr1 := hl.r1
  have lr2 := hl.r2
  have lf1 := hl.f1
  have lf2 := hl.f2
  have HS := Lib.hid (show recAt R (firstRecord T S N C F) n part = -1 by unfold recAt; rw [if_neg (by omega)])
  go_enter Try.func35, Try.ntmps35
  go_wp2
  go_ret
  exact ⟨ret_int HS.out.symm, (Kept.refl _ _).alloc _⟩

theorem refRec_any (T S N C R F K n part : Int) (hl : Lim T S N C R F) (h3 : 0 ≤ part) (h4 : part ≤ 1000) (h0 : 0 ≤ n) (w : World) :
    Calls Try.prog 35 #[.agg #[.int .i64 T, .int .i64 S, .int .i64 N, .int .i64 C, .int .i64 R, .int .i64 F, .int .u64 K], .int .u64 n, .int .i64 part] w fun e w' => e = .returned (.int .i64 (recAt R (firstRecord T S N C F) n part)) ∧ Kept (fun _ => False) w w' := by
  by_cases h : 1 ≤ n ∧ n ≤ R
  · exact refRec_yes T S N C R F K n part hl h3 h4 h.1 h.2 w
  · exact (if h' : n < 1 then refRec_no1 T S N C R F K n part hl h3 h4 h' h0 w else refRec_no2 T S N C R F K n part hl h3 h4 (by omega) h0 w)
end Go.Proofs.Ytfbfhlolnooipaa
