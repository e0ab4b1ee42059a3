/-
  Lookup of package chain among a writer's steps. Condition: a layout within its limits; fewer than 2^63 accesses so far.
-/
import Derived.Test.YtpamjbjgckaedaaChnWayP
import Derived.Test.YtpamjbjgckaedaaChnRun
namespace Go.Proofs.Ytpamjbjgckaedaa
open Go.RowKit Go.Deep Plain
set_option linter.unusedVariables false

theorem wl_sea (T S N C R F K fa fb fd : Int) (hl : Lim T S N C R F) (hd : Reach3 fa fb fd) (q : Nat) (ty : TypeId) (nw rc st ph e0 : Nat) (tl : List Value) (w : World) (b g : Nat) (l : List Cel) (k : Nat) (hm : Mem w b g l k) (hqb : q ≠ b) (hqg : q ≠ g) (hk : k < 9223372036854775808) (n : Nat) (hg : Geo C R fb fd n) (top c1 t0 : Nat) (u : ByteArray × Bool) (hW : Wm C R fb fd n l t0 top c1 u) (htop : top ≤ 100) (h : Blk w q ty (srcv T S N C R F K fa fb fd 1 t0 nw rc st ph tl)) (hs : SeaL t0 top nw rc st ph e0) (hph : ph < 3) :
    ∃ (nw2 rc2 st2 ph2 : Nat), (Calls Try.prog 55 #[.pointer (some ⟨q, 0, none⟩), .pointer (some ⟨b, 0, none⟩)] w fun e w' => e = .returned (.int .i64 (ph2 : Int)) ∧ Mem w' b g l (k + 1) ∧ Blk w' q ty (srcv T S N C R F K fa fb fd 1 t0 nw2 rc2 st2 ph2 tl) ∧ Kept (Own3 q b g) w w') ∧ ((∃ e2, SeaL t0 top nw2 rc2 st2 ph2 e2 ∧ e2 < e0 ∧ ph2 ≤ 3) ∨ (ph2 = 4 ∧ t0 = 0)) := by
  have hlo := hW.lo
  have hhi := hW.hi
  rcases hs with ⟨rfl, rfl⟩ | ⟨h1, h2, h3, h4, ⟨rfl, he⟩ | ⟨rfl, h5, he⟩ | ⟨rfl, _⟩⟩
  · have hst := sstep_0 T S N C R F K fa fb fd hl hd q ty 1 t0 nw rc st 0 tl w h rfl b g l k hm hqb hqg hk _ rfl c1 _ _ (cel_parts hW.chain)
    by_cases hc : c1 = 0
    · exact ⟨c1, c1, st, 4, hst 4 (by rw [if_pos hc]), .inr ⟨rfl, by omega⟩⟩
    · exact ⟨c1, c1, st, 1, hst 1 (by rw [if_neg hc]), .inl ⟨_, .inr ⟨by omega, hlo, hhi, by omega, .inl ⟨rfl, rfl⟩⟩, by omega, by omega⟩⟩
  · by_cases hr : t0 < rc
    · obtain ⟨⟨s, hs, hs2⟩, _⟩ := hW.way.up rc hr h3
      have hst := sstep_1 T S N C R F K fa fb fd hl hd q ty 1 t0 nw rc st 1 tl w h rfl b g l k hm hqb hqg hk _ rfl s _ _ (cel_parts hs)
      have hno : rch t0 (s, ⟨#[]⟩, false) = false := rch_no.2 fun h0 => by simp only at h0 ⊢; omega
      exact ⟨nw, rc, s, 2, hst 2 (by rw [hno]; rfl), .inl ⟨_, .inr ⟨h1, h2, h3, h4, .inr (.inl ⟨rfl, hr, rfl⟩)⟩, by omega, by omega⟩⟩
    · obtain rfl : rc = t0 := by omega
      obtain ⟨hs, _⟩ := hW.way.low rc h1 (by omega)
      have hst := sstep_1 T S N C R F K fa fb fd hl hd q ty 1 rc nw rc st 1 tl w h rfl b g l k hm hqb hqg hk _ rfl rc _ _ (cel_parts hs)
      have hyes : rch rc (rc, ⟨#[]⟩, false) = true := rch_iff.2 ⟨by simp only; omega, by simp only; omega⟩
      exact ⟨nw, rc, rc, 3, hst 3 (by rw [hyes]; rfl), .inl ⟨0, .inr ⟨h1, h2, h3, h4, .inr (.inr ⟨rfl, rfl, rfl, rfl⟩)⟩, by omega, by omega⟩⟩
  · obtain ⟨_, nx, hn, hn1, hn2⟩ := hW.way.up rc h5 h3
    have hst := sstep_2 T S N C R F K fa fb fd hl hd q ty 1 t0 nw rc st 2 tl w h rfl b g l k hm hqb hqg hk _ rfl nx _ _ (cel_parts hn)
    by_cases hc : nx = 0
    · exact ⟨nw, nx, st, 4, hst 4 (by rw [if_pos hc]), .inr ⟨rfl, by omega⟩⟩
    · exact ⟨nw, nx, st, 1, hst 1 (by rw [if_neg hc]), .inl ⟨_, .inr ⟨by omega, hn1, by omega, by omega, .inl ⟨rfl, rfl⟩⟩, by omega, by omega⟩⟩
  · omega
/-- A Lookup at t0 among the writer's steps, at most e steps from its end. -/
def WlAt (T S N C R F K fa fb fd : Int) (w : World) (q t0 top : Nat) (u : ByteArray × Bool) (e : Nat) : Prop :=
  ∃ nw rc st ph v ok fin, Blk w q 105 (srcv T S N C R F K fa fb fd 1 t0 nw rc st ph [.string v, .bool ok, .bool fin]) ∧ ((fin = true ∧ e = 0 ∧ seen t0 u = (v, ok)) ∨ (fin = false ∧ v = ⟨#[]⟩ ∧ ok = false ∧ ∃ e1, SeaL t0 top nw rc st ph e1 ∧ e = e1 + 1))
theorem WlAt.kept {T S N C R F K fa fb fd : Int} {w w' : World} {q t0 top top' e : Nat} {u : ByteArray × Bool} {Y : Nat → Prop} (h : WlAt T S N C R F K fa fb fd w q t0 top u e) (hk : Kept Y w w') (hq : ¬ Y q) (hh : top ≤ top') : WlAt T S N C R F K fa fb fd w' q t0 top' u e := by
  obtain ⟨nw, rc, st, ph, v, ok, fin, hB, hr⟩ := h
  refine ⟨nw, rc, st, ph, v, ok, fin, hk.blk hB hq, ?_⟩
  rcases hr with hr | ⟨h1, h2, h3, e1, h4, h5⟩
  · exact .inl hr
  · exact .inr ⟨h1, h2, h3, e1, h4.grow hh, h5⟩
theorem wl_step (T S N C R F K fa fb fd : Int) (hl : Lim T S N C R F) (hd : Reach3 fa fb fd) (q e0 : Nat) (w : World) (b g : Nat) (l : List Cel) (k : Nat) (hm : Mem w b g l k) (hqb : q ≠ b) (hqg : q ≠ g) (hk : k < 9223372036854775808) (n : Nat) (hg : Geo C R fb fd n) (top c1 t0 : Nat) (u : ByteArray × Bool) (hW : Wm C R fb fd n l t0 top c1 u) (htop : top ≤ 100) (h : WlAt T S N C R F K fa fb fd w q t0 top u e0) (he : 0 < e0) :
    Calls Try.prog 32 #[.pointer (some ⟨q, 0, none⟩), .pointer (some ⟨b, 0, none⟩)] w fun e w' => ∃ e2, e2 < e0 ∧ e = .returned (.bool (e2 == 0)) ∧ WlAt T S N C R F K fa fb fd w' q t0 top u e2 ∧ Mem w' b g l (k + 1) ∧ Kept (Own3 q b g) w w' := by
  obtain ⟨nw, rc, st, ph, v, ok, fin, hB, ⟨_, h0, _⟩ | ⟨rfl, rfl, rfl, e1, hs, rfl⟩⟩ := h
  · omega
  by_cases hph : ph < 3
  · obtain ⟨nw2, rc2, st2, ph2, hS, hres⟩ := wl_sea T S N C R F K fa fb fd hl hd q 105 nw rc st ph e1 _ w b g l k hm hqb hqg hk n hg top c1 t0 u hW htop hB hs hph
    rcases hres with ⟨e2, h1, h2, h3⟩ | ⟨h1, h2⟩
    · refine (lstep_any T S N C R F K fa fb fd q 1 t0 nw rc st ph ⟨#[]⟩ false w hB hph b g l k hqb hqg nw2 rc2 st2 ph2 false (by simp; omega) hS).mono ?_
      rintro e w' ⟨rfl, hM, hQ, hK⟩
      exact ⟨e2 + 1, by omega, rfl, ⟨nw2, rc2, st2, ph2, _, _, _, hQ, .inr ⟨rfl, rfl, rfl, e2, h1, rfl⟩⟩, hM, hK⟩
    · refine (lstep_any T S N C R F K fa fb fd q 1 t0 nw rc st ph ⟨#[]⟩ false w hB hph b g l k hqb hqg nw2 rc2 st2 ph2 true (by simp; omega) hS).mono ?_
      rintro e w' ⟨rfl, hM, hQ, hK⟩
      exact ⟨0, by omega, rfl, ⟨nw2, rc2, st2, ph2, _, _, _, hQ, .inl ⟨rfl, rfl, by unfold seen; rw [if_pos h2]⟩⟩, hM, hK⟩
  · rcases hs with ⟨rfl, _⟩ | ⟨h1, h2, h3, h4, ⟨rfl, _⟩ | ⟨rfl, _⟩ | ⟨rfl, rfl, rfl, rfl⟩⟩
    · omega
    · omega
    · omega
    · obtain ⟨hv1, hv2⟩ := hW.way.val (by omega)
      obtain ⟨m, hm1, hm2⟩ := del_one hv2
      have hsv : val st [((st, u.1, u.2) : Ve)] = ((seen st u).1, (seen st u).2) := by unfold seen; rw [if_neg (by omega)]
      refine (lstep_load T S N C R F K fa fb fd hl hd q 1 st nw st st 3 ⟨#[]⟩ false w hB rfl b g l k hm hqb hqg hk _ rfl (cellAt l (recAt R fd (st : Int) 1)).1 m u.1 (by rw [← hm1, ← hv1]) u.2 hm2 _ _ hsv).mono ?_
      rintro e w' ⟨rfl, hM, hQ, hK⟩
      exact ⟨0, by omega, rfl, ⟨nw, st, st, 3, _, _, _, hQ, .inl ⟨rfl, rfl, rfl⟩⟩, hM, hK⟩
theorem wl_value (T S N C R F K fa fb fd : Int) (q t0 top : Nat) (u : ByteArray × Bool) (w : World) (h : WlAt T S N C R F K fa fb fd w q t0 top u 0) (s : ByteArray) (bb : Bool) (hv : seen t0 u = (s, bb)) :
    Calls Try.prog 33 #[.pointer (some ⟨q, 0, none⟩)] w fun e w' => e = .returned (.tuple #[.string s, .bool bb]) ∧ Kept (fun _ => False) w w' := by
  obtain ⟨nw, rc, st, ph, v, ok, fin, hB, ⟨_, _, h1⟩ | ⟨_, _, _, e1, _, h0⟩⟩ := h
  · rw [hv] at h1; cases h1
    exact lvalue_get T S N C R F K fa fb fd q 1 t0 nw rc st ph s bb fin w hB
  · omega
theorem wl_new (T S N C R F K fa fb fd : Int) (t0 top : Nat) (u : ByteArray × Bool) (w : World) :
    Calls Try.prog 30 #[.agg #[.int .i64 T, .int .i64 S, .int .i64 N, .int .i64 C, .int .i64 R, .int .i64 F, .int .u64 K, .int .i64 fa, .int .i64 fb, .int .i64 fd], .int .u64 1, .int .u64 (t0 : Int)] w fun e w' => ∃ q, e = .returned (.pointer (some ⟨q, 0, none⟩)) ∧ w.heap.size ≤ q ∧ WlAt T S N C R F K fa fb fd w' q t0 top u 203 ∧ q < w'.heap.size ∧ Kept (fun _ => False) w w' := by
  refine (newLookup_any T S N C R F K fa fb fd 1 t0 w).mono ?_
  rintro e w' ⟨q, rfl, h1, h2, h3⟩
  exact ⟨q, rfl, h1, ⟨0, 0, 0, 0, _, _, _, h2, .inr ⟨rfl, rfl, rfl, _, .inl ⟨rfl, rfl⟩, rfl⟩⟩, h2.lt, h3⟩
end Go.Proofs.Ytpamjbjgckaedaa
