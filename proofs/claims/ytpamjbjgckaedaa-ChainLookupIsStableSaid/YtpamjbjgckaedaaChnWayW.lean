/-
  Truncate and Install of package chain on a memory that a reader looks up meanwhile. Condition: a layout within its limits; fewer than 2^63 accesses so far.
-/
import Derived.Test.YtpamjbjgckaedaaChnWay
namespace Go.Proofs.Ytpamjbjgckaedaa
open Go.RowKit Go.Deep Plain
set_option linter.unusedVariables false

/-- A Truncate at a floor f of at most t0 on its way; fin: it has finished. -/
def WtAt (T S N C R F K fa fb fd : Int) (w : World) (q f t0 top : Nat) (fin : Bool) : Prop :=
  ∃ nw rc st ph de p2, Blk w q 83 (srcv T S N C R F K fa fb fd 1 f nw rc st ph [.bool de, .int .i64 ((p2 : Nat) : Int)]) ∧ ((fin = true ∧ p2 = 4) ∨ (fin = false ∧ ((p2 = 0 ∧ ph < 3 ∧ SeaT t0 top rc ph) ∨ ((p2 = 1 ∨ p2 = 2 ∨ p2 = 3) ∧ 1 ≤ rc ∧ rc ≤ t0))))
theorem WtAt.kept {T S N C R F K fa fb fd : Int} {w w' : World} {q f t0 top : Nat} {fin : Bool} {Y : Nat → Prop} (h : WtAt T S N C R F K fa fb fd w q f t0 top fin) (hk : Kept Y w w') (hq : ¬ Y q) : WtAt T S N C R F K fa fb fd w' q f t0 top fin := by
  obtain ⟨nw, rc, st, ph, de, p2, hB, hr⟩ := h
  exact ⟨nw, rc, st, ph, de, p2, hk.blk hB hq, hr⟩
theorem wt_sea (T S N C R F K fa fb fd : Int) (hl : Lim T S N C R F) (hd : Reach3 fa fb fd) (q : Nat) (ty : TypeId) (f nw rc st ph : Nat) (tl : List Value) (w : World) (b g : Nat) (l : List Cel) (k : Nat) (hm : Mem w b g l k) (hqb : q ≠ b) (hqg : q ≠ g) (hk : k < 9223372036854775808) (n : Nat) (hg : Geo C R fb fd n) (t0 top c1 : Nat) (u : ByteArray × Bool) (hW : Wm C R fb fd n l t0 top c1 u) (hf : f ≤ t0) (h : Blk w q ty (srcv T S N C R F K fa fb fd 1 f nw rc st ph tl)) (hs : SeaT t0 top rc ph) (hph : ph < 3) :
    ∃ (nw2 rc2 st2 ph2 : Nat), (Calls Try.prog 55 #[.pointer (some ⟨q, 0, none⟩), .pointer (some ⟨b, 0, none⟩)] w fun e w' => e = .returned (.int .i64 (ph2 : Int)) ∧ Mem w' b g l (k + 1) ∧ Blk w' q ty (srcv T S N C R F K fa fb fd 1 f nw2 rc2 st2 ph2 tl) ∧ Kept (Own3 q b g) w w') ∧ ((SeaT t0 top rc2 ph2 ∧ ph2 ≤ 3) ∨ ph2 = 4) := by
  have hlo := hW.lo
  have hhi := hW.hi
  rcases hs with rfl | ⟨h1, h2, rfl | rfl | ⟨rfl, _⟩⟩
  · have hst := sstep_0 T S N C R F K fa fb fd hl hd q ty 1 f nw rc st 0 tl w h rfl b g l k hm hqb hqg hk _ rfl c1 _ _ (cel_parts hW.chain)
    by_cases hc : c1 = 0
    · exact ⟨c1, c1, st, 4, hst 4 (by rw [if_pos hc]), .inr rfl⟩
    · exact ⟨c1, c1, st, 1, hst 1 (by rw [if_neg hc]), .inl ⟨.inr ⟨by omega, hhi, .inl rfl⟩, by omega⟩⟩
  · obtain ⟨s, nx, hs, hn, hlt⟩ := hW.at h1 h2
    have hst := sstep_1 T S N C R F K fa fb fd hl hd q ty 1 f nw rc st 1 tl w h rfl b g l k hm hqb hqg hk _ rfl s _ _ (cel_parts hs)
    cases hr : rch f (s, ⟨#[]⟩, false)
    · exact ⟨nw, rc, s, 2, hst 2 (by rw [hr]; rfl), .inl ⟨.inr ⟨h1, h2, .inr (.inl rfl)⟩, by omega⟩⟩
    · have hr2 := rch_iff.1 hr
      have hold := hW.way.old (f := f) h1 h2 hs hr2.1 hr2.2 hf
      exact ⟨nw, rc, s, 3, hst 3 (by rw [hr]; rfl), .inl ⟨.inr ⟨h1, h2, .inr (.inr ⟨rfl, hold⟩)⟩, by omega⟩⟩
  · obtain ⟨s, nx, hs, hn, hlt⟩ := hW.at h1 h2
    have hst := sstep_2 T S N C R F K fa fb fd hl hd q ty 1 f nw rc st 2 tl w h rfl b g l k hm hqb hqg hk _ rfl nx _ _ (cel_parts hn)
    by_cases hc : nx = 0
    · exact ⟨nw, nx, st, 4, hst 4 (by rw [if_pos hc]), .inr rfl⟩
    · exact ⟨nw, nx, st, 1, hst 1 (by rw [if_neg hc]), .inl ⟨.inr ⟨by omega, by omega, .inl rfl⟩, by omega⟩⟩
  · omega
theorem wt_step (T S N C R F K fa fb fd : Int) (hl : Lim T S N C R F) (hd : Reach3 fa fb fd) (q f : Nat) (w : World) (b g : Nat) (l : List Cel) (k : Nat) (hm : Mem w b g l k) (hqb : q ≠ b) (hqg : q ≠ g) (hk : k < 9223372036854775808) (n : Nat) (hg : Geo C R fb fd n) (t0 top c1 : Nat) (u : ByteArray × Bool) (hW : Wm C R fb fd n l t0 top c1 u) (hf : f ≤ t0) (h : WtAt T S N C R F K fa fb fd w q f t0 top false) :
    Calls Try.prog 13 #[.pointer (some ⟨q, 0, none⟩), .pointer (some ⟨b, 0, none⟩)] w fun e w' => ∃ fin l', e = .returned (.bool fin) ∧ WtAt T S N C R F K fa fb fd w' q f t0 top fin ∧ Wm C R fb fd n l' t0 top c1 u ∧ Mem w' b g l' (k + 1) ∧ Kept (Own3 q b g) w w' := by
  have hwhi := hW.way.hi
  have hwle := hW.way.le
  obtain ⟨nw, rc, st, ph, de, p2, hB, ⟨h0, _⟩ | ⟨_, hcase⟩⟩ := h
  · cases h0
  rcases hcase with ⟨rfl, hph, hs⟩ | ⟨hp, hr1, hr2⟩
  · obtain ⟨nw2, rc2, st2, ph2, hS, hres⟩ := wt_sea T S N C R F K fa fb fd hl hd q 83 f nw rc st ph _ w b g l k hm hqb hqg hk n hg t0 top c1 u hW hf hB hs hph
    have hp4 : ph2 ≤ 4 := by rcases hres with ⟨_, h⟩ | h <;> omega
    obtain ⟨p3, hp3⟩ : ∃ p3, trp nw2 rc2 ph2 0 = p3 := ⟨_, rfl⟩
    refine (tstep_0 T S N C R F K fa fb fd q 1 f nw rc st ph 0 de w hB b g l k hqb hqg nw2 rc2 st2 ph2 rfl hS hp4 p3 hp3 _ rfl (p3 == 4) rfl).mono ?_
    rintro e w' ⟨rfl, hM, hQ, hK⟩
    refine ⟨_, l, rfl, ⟨nw2, rc2, st2, ph2, _, p3, hQ, ?_⟩, hW, hM, hK⟩
    unfold trp at hp3
    rcases hres with ⟨hs2, h3⟩ | rfl
    · by_cases h33 : ph2 = 3
      · rw [if_pos h33] at hp3
        rcases hs2 with hs2 | ⟨g1, g2, hs2 | hs2 | ⟨_, hs2⟩⟩
        · omega
        · omega
        · omega
        · have hne : (p3 == 4) = false := by simp; split at hp3 <;> omega
          exact .inr ⟨hne, .inr ⟨by split at hp3 <;> omega, g1, hs2⟩⟩
      · rw [if_neg h33, if_neg (by omega)] at hp3
        subst hp3
        exact .inr ⟨rfl, .inl ⟨rfl, by omega, hs2⟩⟩
    · rw [if_neg (by omega), if_pos rfl] at hp3
      subst hp3
      exact .inl ⟨rfl, rfl⟩
  · have hrR : 1 ≤ rc ∧ (rc : Int) ≤ R := ⟨hr1, by omega⟩
    obtain ⟨s, nx, hs, hn, hlt⟩ := hW.at hr1 (by omega)
    rcases hp with rfl | rfl | rfl
    · obtain ⟨m, hm1⟩ := hW.nat rc hr1 hr2
      refine (tstep_1 T S N C R F K fa fb fd hl hd q 1 f nw rc st ph 1 de w hB rfl b g l k hm hqb hqg hk _ rfl (cellAt l (recAt R fd (rc : Int) 1)).1 m (cellAt l (recAt R fd (rc : Int) 1)).2.1 (by rw [← hm1]) _ rfl _ rfl).mono ?_
      rintro e w' ⟨rfl, hM, hQ, hK⟩
      exact ⟨false, l, rfl, ⟨nw, rc, st, ph, _, 2, hQ, .inr ⟨rfl, .inr ⟨by omega, hr1, hr2⟩⟩⟩, hW, hM, hK⟩
    · by_cases hz : nx = 0
      · refine (tstep_2end T S N C R F K fa fb fd hl hd q 1 f nw rc st ph 2 de w hB rfl b g l k hm hqb hqg hk _ rfl nx _ _ (cel_parts hn) hz).mono ?_
        rintro e w' ⟨rfl, hM, hQ, hK⟩
        exact ⟨true, l, rfl, ⟨nw, rc, st, ph, _, 4, hQ, .inl ⟨rfl, rfl⟩⟩, hW, hM, hK⟩
      · refine (tstep_2on T S N C R F K fa fb fd hl hd q 1 f nw rc st ph 2 de w hB rfl b g l k hm hqb hqg hk _ rfl nx _ _ (cel_parts hn) hz).mono ?_
        rintro e w' ⟨rfl, hM, hQ, hK⟩
        exact ⟨false, l, rfl, ⟨nw, rc, st, ph, _, 3, hQ, .inr ⟨rfl, .inr ⟨by omega, hr1, hr2⟩⟩⟩, hW, hM, hK⟩
    · refine (tstep_3 T S N C R F K fa fb fd hl hd q 1 f nw rc st ph 3 de w hB rfl b g l k hm hqb hqg hk _ rfl).mono ?_
      rintro e w' ⟨rfl, hM, hQ, hK⟩
      exact ⟨true, _, rfl, ⟨nw, rc, st, ph, _, 4, hQ, .inl ⟨rfl, rfl⟩⟩, hW.cut hg ⟨hr1, hr2⟩, hM, hK⟩
theorem wt_new (T S N C R F K fa fb fd : Int) (f t0 top : Nat) (w : World) :
    Calls Try.prog 12 #[.agg #[.int .i64 T, .int .i64 S, .int .i64 N, .int .i64 C, .int .i64 R, .int .i64 F, .int .u64 K, .int .i64 fa, .int .i64 fb, .int .i64 fd], .int .u64 1, .int .u64 (f : Int)] w fun e w' => ∃ q, e = .returned (.pointer (some ⟨q, 0, none⟩)) ∧ w.heap.size ≤ q ∧ WtAt T S N C R F K fa fb fd w' q f t0 top false ∧ q < w'.heap.size ∧ Kept (fun _ => False) w w' := by
  refine (newTruncate_any T S N C R F K fa fb fd 1 f w).mono ?_
  rintro e w' ⟨q, rfl, h1, h2, h3⟩
  exact ⟨q, rfl, h1, ⟨0, 0, 0, 0, _, 0, h2, .inr ⟨rfl, .inl ⟨rfl, by omega, .inl rfl⟩⟩⟩, h2.lt, h3⟩
/-- An Install into record top + 1, at its phase (4: the record is top, and old lies between t0 and top). -/
def WiAt (T S N C R F K fa fb fd : Int) (w : World) (q t0 top : Nat) (l : List Cel) (ph : Nat) : Prop :=
  ∃ (old r M : Nat) (vK : ByteArray), Blk w q 93 (insv T S N C R F K fa fb fd 1 r vK M old ph) ∧ (ph < 4 → r = top + 1) ∧ (1 ≤ ph → ph < 4 → t0 ≤ old ∧ old ≤ top) ∧ (ph = 4 → r = top ∧ t0 ≤ old ∧ old < top) ∧ (ph = 3 → (cellAt l (recAt R fd ((top + 1 : Nat) : Int) 2)).1 = (old : Int)) ∧ ph ≤ 4
theorem WiAt.kept {T S N C R F K fa fb fd : Int} {w w' : World} {q t0 top ph : Nat} {l : List Cel} {Y : Nat → Prop} (h : WiAt T S N C R F K fa fb fd w q t0 top l ph) (hk : Kept Y w w') (hq : ¬ Y q) : WiAt T S N C R F K fa fb fd w' q t0 top l ph := by
  obtain ⟨old, r, M, vK, hB, hr⟩ := h
  exact ⟨old, r, M, vK, hk.blk hB hq, hr⟩
theorem wi_step (T S N C R F K fa fb fd : Int) (hl : Lim T S N C R F) (hd : Reach3 fa fb fd) (q ph : Nat) (w : World) (b g : Nat) (l : List Cel) (k : Nat) (hm : Mem w b g l k) (hqb : q ≠ b) (hqg : q ≠ g) (hk : k < 9223372036854775808) (n : Nat) (hg : Geo C R fb fd n) (t0 top c1 : Nat) (u : ByteArray × Bool) (hW : Wm C R fb fd n l t0 top c1 u) (hR : ((top + 1 : Nat) : Int) ≤ R) (h : WiAt T S N C R F K fa fb fd w q t0 top l ph) (hph : ph < 4) :
    Calls Try.prog 19 #[.pointer (some ⟨q, 0, none⟩), .pointer (some ⟨b, 0, none⟩)] w fun e w' => ∃ l' top' c', e = .returned (.bool (ph + 1 == 4)) ∧ top' = (if ph = 3 then top + 1 else top) ∧ WiAt T S N C R F K fa fb fd w' q t0 top' l' (ph + 1) ∧ Wm C R fb fd n l' t0 top' c' u ∧ Mem w' b g l' (k + 1) ∧ Kept (Own3 q b g) w w' := by
  obtain ⟨old, r, M, vK, hB, hr, ho, _, hnx, _⟩ := h
  obtain rfl := hr hph
  have hlo := hW.lo
  have hhi := hW.hi
  have hC := hl.c1
  have hq : 1 ≤ top + 1 ∧ ((top + 1 : Nat) : Int) ≤ R := ⟨by omega, hR⟩
  rcases (by omega : ph = 0 ∨ ph = 1 ∨ ph = 2 ∨ ph = 3) with rfl | rfl | rfl | rfl
  · refine (istep_0 T S N C R F K fa fb fd hl hd q 1 (top + 1) vK M old 0 w hB rfl b g l k hm hqb hqg hk _ rfl c1 _ _ (cel_parts hW.chain)).mono ?_
    rintro e w' ⟨rfl, hM, hQ, hK⟩
    exact ⟨l, top, c1, rfl, rfl, ⟨c1, top + 1, M, vK, hQ, fun _ => rfl, fun _ _ => ⟨hlo, hhi⟩, fun h => by omega, fun h => by omega, by omega⟩, hW, hM, hK⟩
  · refine (istep_1 T S N C R F K fa fb fd hl hd q 1 (top + 1) vK M old 1 w hB rfl b g l k hm hqb hqg hk _ rfl).mono ?_
    rintro e w' ⟨rfl, hM, hQ, hK⟩
    exact ⟨_, top, c1, rfl, rfl, ⟨old, top + 1, M, vK, hQ, fun _ => rfl, fun _ _ => ho (by omega) (by omega), fun h => by omega, fun h => by omega, by omega⟩, hW.fresh hg (by omega) hR (by omega), hM, hK⟩
  · refine (istep_2 T S N C R F K fa fb fd hl hd q 1 (top + 1) vK M old 2 w hB rfl b g l k hm hqb hqg hk _ rfl).mono ?_
    rintro e w' ⟨rfl, hM, hQ, hK⟩
    have hin := hg.in hq (p := 2) (by omega)
    refine ⟨_, top, c1, rfl, rfl, ⟨old, top + 1, M, vK, hQ, fun _ => rfl, fun _ _ => ho (by omega) (by omega), fun h => by omega, fun _ => ?_, by omega⟩, hW.fresh hg (by omega) hR (by omega) (M := 0), hM, hK⟩
    rw [cellAt_own hin.1 (by rw [hW.len]; exact hin.2)]
  · refine (istep_3 T S N C R F K fa fb fd hl hd q 1 (top + 1) vK M old 3 w hB rfl b g l k hm hqb hqg hk _ rfl).mono ?_
    rintro e w' ⟨rfl, hM, hQ, hK⟩
    have ho2 := ho (by omega) (by omega)
    exact ⟨_, top + 1, top + 1, rfl, rfl, ⟨old, top + 1, M, vK, hQ, fun h => by omega, fun _ h => by omega, fun _ => ⟨rfl, ho2.1, by omega⟩, fun h => by omega, by omega⟩, hW.push hg hC hR (hnx rfl) ho2, hM, hK⟩
theorem wi_old (T S N C R F K fa fb fd : Int) (q t0 top : Nat) (w : World) (l : List Cel) (h : WiAt T S N C R F K fa fb fd w q t0 top l 4) :
    Calls Try.prog 21 #[.pointer (some ⟨q, 0, none⟩)] w fun e w' => ∃ old : Nat, e = .returned (.int .u64 (old : Int)) ∧ (t0 ≤ old ∧ old < top) ∧ w = w' := by
  obtain ⟨old, r, M, vK, hB, _, _, ho, _⟩ := h
  refine (old_yes T S N C R F K fa fb fd q 1 r vK M old 4 w hB rfl).mono ?_
  rintro e w' ⟨rfl, rfl⟩
  exact ⟨old, rfl, (ho rfl).2, rfl⟩
theorem wi_new (T S N C R F K fa fb fd : Int) (t0 top : Nat) (l : List Cel) (key s : ByteArray) (dl : Bool) (w : World) :
    Calls Try.prog 18 #[.agg #[.int .i64 T, .int .i64 S, .int .i64 N, .int .i64 C, .int .i64 R, .int .i64 F, .int .u64 K, .int .i64 fa, .int .i64 fb, .int .i64 fd], .int .u64 1, .int .u64 ((top + 1 : Nat) : Int), .agg #[.string key, .string s, .bool dl]] w fun e w' => ∃ q, e = .returned (.pointer (some ⟨q, 0, none⟩)) ∧ w.heap.size ≤ q ∧ WiAt T S N C R F K fa fb fd w' q t0 top l 0 ∧ q < w'.heap.size ∧ Kept (fun _ => False) w w' := by
  refine (newInstall_any T S N C R F K fa fb fd 1 (top + 1) key s dl _ _ rfl rfl w).mono ?_
  rintro e w' ⟨q, rfl, h1, h2, h3⟩
  exact ⟨q, rfl, h1, ⟨0, _, _, _, h2, fun _ => rfl, fun h => by omega, fun h => by omega, fun h => by omega, by omega⟩, h2.lt, h3⟩
end Go.Proofs.Ytpamjbjgckaedaa
