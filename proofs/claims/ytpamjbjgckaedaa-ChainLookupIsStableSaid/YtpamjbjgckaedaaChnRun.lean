/-
  Lookup, Truncate and Install of package chain on a chain that nobody else changes, a step at a time. Condition: a layout within its limits; fewer than 2^63 accesses so far.
-/
import Derived.Test.YtpamjbjgckaedaaChnDb
import Derived.Test.YtpamjbjgckaedaaChnLoo
import Derived.Test.YtpamjbjgckaedaaChnTru
import Derived.Test.YtpamjbjgckaedaaChnIns
import Derived.Test.YtpamjbjgckaedaaChnPeek
import Derived.Test.YtpamjbjgckaedaaChnOnc
namespace Go.Proofs.Ytpamjbjgckaedaa
open Go.RowKit Go.Deep Plain
set_option linter.unusedVariables false

theorem sea_step (T S N C R F K fa fb fd : Int) (hl : Lim T S N C R F) (hd : Reach3 fa fb fd) (q : Nat) (ty : TypeId) (c t nw rc st ph d : Nat) (tl : List Value) (w : World) (h : Blk w q ty (srcv T S N C R F K fa fb fd c t nw rc st ph tl)) (b g : Nat) (l : List Cel) (k : Nat) (hm : Mem w b g l k) (hqb : q ≠ b) (hqg : q ≠ g) (hk : k < 9223372036854775808) (rs : List (Nat × Ve)) (hN : (cellAt l (chainAt C fb (c : Int))).1 = (num rs 0 : Int)) (hL : Lnk R fd l rs (num rs 0)) (hs : Sea rs t nw rc st ph d) (hph : ph < 3) :
    ∃ (nw2 rc2 st2 ph2 : Nat), (Calls Try.prog 55 #[.pointer (some ⟨q, 0, none⟩), .pointer (some ⟨b, 0, none⟩)] w fun e w' => e = .returned (.int .i64 (ph2 : Int)) ∧ Mem w' b g l (k + 1) ∧ Blk w' q ty (srcv T S N C R F K fa fb fd c t nw2 rc2 st2 ph2 tl) ∧ Kept (Own3 q b g) w w') ∧ ((∃ d2, Sea rs t nw2 rc2 st2 ph2 d2 ∧ d2 < d ∧ ph2 ≤ 3) ∨ End rs t nw2 ph2) := by
  rcases hs with ⟨rfl, rfl⟩ | ⟨hnw, j, x, hx, hj, hcase⟩
  · obtain ⟨ph2, hp2, hres⟩ := go_next (t := t) (nw := num rs 0) (st := st) (d := 2 * rs.length) (j := 0) hL rfl (Nat.zero_le _) (by omega)
    refine ⟨num rs 0, num rs 0, st, ph2, sstep_0 T S N C R F K fa fb fd hl hd q ty c t nw rc st 0 tl w h rfl b g l k hm hqb hqg hk _ rfl (num rs 0) _ _ (cel_parts hN) ph2 hp2, ?_⟩
    rcases hres with ⟨d2, h1, h2, h3⟩ | h1
    · exact .inl ⟨d2, h1, by omega, by omega⟩
    · exact .inr h1
  · have hrec := hL.recs j rc x hx
    have hjl : j < rs.length := (List.getElem?_eq_some_iff.1 hx).1
    rcases hcase with ⟨rfl, hd1⟩ | ⟨rfl, hr, hd1⟩ | ⟨rfl, hr, hst, hd1⟩
    · have hst := sstep_1 T S N C R F K fa fb fd hl hd q ty c t nw rc st 1 tl w h rfl b g l k hm hqb hqg hk _ rfl x.1 _ _ (cel_parts hrec.stamp) _ rfl
      have hrx : rch t (x.1, ⟨#[]⟩, false) = rch t x := rfl
      rw [hrx] at hst
      by_cases hr : rch t x = true
      · rw [if_pos hr] at hst
        exact ⟨nw, rc, x.1, 3, hst, .inl ⟨0, .inr ⟨hnw, j, x, hx, hj, .inr (.inr ⟨rfl, hr, rfl, rfl⟩)⟩, by omega, by omega⟩⟩
      · rw [if_neg hr] at hst
        exact ⟨nw, rc, x.1, 2, hst, .inl ⟨d - 1, .inr ⟨hnw, j, x, hx, hj, .inr (.inl ⟨rfl, by simpa using hr, by omega⟩)⟩, by omega, by omega⟩⟩
    · have hj1 := fnd_miss hj (vrs_at hx) hr
      obtain ⟨ph2, hp2, hres⟩ := go_next (t := t) (nw := nw) (st := st) (d := d - 1) (j := j + 1) hL hnw hj1 (by omega)
      refine ⟨nw, num rs (j + 1), st, ph2, sstep_2 T S N C R F K fa fb fd hl hd q ty c t nw rc st 2 tl w h rfl b g l k hm hqb hqg hk _ rfl (num rs (j + 1)) _ _ (cel_parts hrec.next) ph2 hp2, ?_⟩
      rcases hres with ⟨d2, h1, h2, h3⟩ | h1
      · exact .inl ⟨d2, h1, by omega, by omega⟩
      · exact .inr h1
    · omega

/-! ### Lookup -/
/-- A Lookup on its way through a chain, at most d steps from its end. -/
def LkAt (T S N C R F K fa fb fd : Int) (w : World) (q c t : Nat) (rs : List (Nat × Ve)) (d : Nat) : Prop :=
  ∃ nw rc st ph v ok fin, Blk w q 105 (srcv T S N C R F K fa fb fd c t nw rc st ph [.string v, .bool ok, .bool fin]) ∧ ((fin = true ∧ d = 0 ∧ val t (vrs rs) = (v, ok)) ∨ (fin = false ∧ v = ⟨#[]⟩ ∧ ok = false ∧ ∃ d1, Sea rs t nw rc st ph d1 ∧ d = d1 + 1))
theorem LkAt.kept {T S N C R F K fa fb fd : Int} {w w' : World} {q c t : Nat} {rs : List (Nat × Ve)} {d : Nat} {Y : Nat → Prop} (h : LkAt T S N C R F K fa fb fd w q c t rs d) (hk : Kept Y w w') (hq : ¬ Y q) : LkAt T S N C R F K fa fb fd w' q c t rs d := by
  obtain ⟨nw, rc, st, ph, v, ok, fin, hB, hr⟩ := h
  exact ⟨nw, rc, st, ph, v, ok, fin, hk.blk hB hq, hr⟩
theorem lk_step (T S N C R F K fa fb fd : Int) (hl : Lim T S N C R F) (hd : Reach3 fa fb fd) (q c t d : Nat) (w : World) (rs : List (Nat × Ve)) (h : LkAt T S N C R F K fa fb fd w q c t rs d) (hd0 : 0 < d) (b g : Nat) (l : List Cel) (k : Nat) (hm : Mem w b g l k) (hqb : q ≠ b) (hqg : q ≠ g) (hk : k < 9223372036854775808) (hN : (cellAt l (chainAt C fb (c : Int))).1 = (num rs 0 : Int)) (hL : Lnk R fd l rs (num rs 0)) :
    Calls Try.prog 32 #[.pointer (some ⟨q, 0, none⟩), .pointer (some ⟨b, 0, none⟩)] w fun e w' => ∃ d', d' < d ∧ e = .returned (.bool (d' == 0)) ∧ LkAt T S N C R F K fa fb fd w' q c t rs d' ∧ Mem w' b g l (k + 1) ∧ Kept (Own3 q b g) w w' := by
  obtain ⟨nw, rc, st, ph, v, ok, fin, hB, ⟨_, h0, _⟩ | ⟨rfl, rfl, rfl, d1, hs, rfl⟩⟩ := h
  · omega
  by_cases hph : ph < 3
  · obtain ⟨nw2, rc2, st2, ph2, hS, hres⟩ := sea_step T S N C R F K fa fb fd hl hd q 105 c t nw rc st ph d1 _ w hB b g l k hm hqb hqg hk rs hN hL hs hph
    rcases hres with ⟨d2, h1, h2, h3⟩ | ⟨h1, h2, h3⟩
    · refine (lstep_any T S N C R F K fa fb fd q c t nw rc st ph ⟨#[]⟩ false w hB hph b g l k hqb hqg nw2 rc2 st2 ph2 false (by simp; omega) hS).mono ?_
      rintro e w' ⟨rfl, hM, hQ, hK⟩
      exact ⟨d2 + 1, by omega, rfl, ⟨nw2, rc2, st2, ph2, _, _, _, hQ, .inr ⟨rfl, rfl, rfl, d2, h1, rfl⟩⟩, hM, hK⟩
    · refine (lstep_any T S N C R F K fa fb fd q c t nw rc st ph ⟨#[]⟩ false w hB hph b g l k hqb hqg nw2 rc2 st2 ph2 true (by simp; omega) hS).mono ?_
      rintro e w' ⟨rfl, hM, hQ, hK⟩
      exact ⟨0, by omega, rfl, ⟨nw2, rc2, st2, ph2, _, _, _, hQ, .inl ⟨rfl, rfl, val_none (by rw [vrs_length]; exact h3)⟩⟩, hM, hK⟩
  · rcases hs with ⟨rfl, _⟩ | ⟨hnw, j, x, hx, hj, ⟨rfl, _⟩ | ⟨rfl, _⟩ | ⟨rfl, hr, hst, rfl⟩⟩
    · omega
    · omega
    · omega
    · have hrec := hL.recs j rc x hx
      obtain ⟨m, hm1, hm2⟩ := del_one hrec.del
      have hv : val t [((st, x.2.1, x.2.2) : Ve)] = ((val t (vrs rs)).1, (val t (vrs rs)).2) := by
        rw [val_at hj (vrs_at hx) hr, hst]
      refine (lstep_load T S N C R F K fa fb fd hl hd q c t nw rc st 3 ⟨#[]⟩ false w hB rfl b g l k hm hqb hqg hk _ rfl (cellAt l (recAt R fd (rc : Int) 1)).1 m x.2.1 (by rw [← hm1, ← hrec.val]) x.2.2 hm2 _ _ hv).mono ?_
      rintro e w' ⟨rfl, hM, hQ, hK⟩
      exact ⟨0, by omega, rfl, ⟨nw, rc, st, 3, _, _, _, hQ, .inl ⟨rfl, rfl, rfl⟩⟩, hM, hK⟩
theorem lk_value (T S N C R F K fa fb fd : Int) (q c t : Nat) (w : World) (rs : List (Nat × Ve)) (h : LkAt T S N C R F K fa fb fd w q c t rs 0) (s : ByteArray) (bb : Bool) (hv : val t (vrs rs) = (s, bb)) :
    Calls Try.prog 33 #[.pointer (some ⟨q, 0, none⟩)] w fun e w' => e = .returned (.tuple #[.string s, .bool bb]) ∧ Kept (fun _ => False) w w' := by
  obtain ⟨nw, rc, st, ph, v, ok, fin, hB, ⟨_, _, h1⟩ | ⟨_, _, _, d1, _, h0⟩⟩ := h
  · rw [hv] at h1; cases h1
    exact lvalue_get T S N C R F K fa fb fd q c t nw rc st ph s bb fin w hB
  · omega
theorem lk_new (T S N C R F K fa fb fd : Int) (c t : Nat) (rs : List (Nat × Ve)) (w : World) :
    Calls Try.prog 30 #[.agg #[.int .i64 T, .int .i64 S, .int .i64 N, .int .i64 C, .int .i64 R, .int .i64 F, .int .u64 K, .int .i64 fa, .int .i64 fb, .int .i64 fd], .int .u64 (c : Int), .int .u64 (t : Int)] w fun e w' => ∃ q, e = .returned (.pointer (some ⟨q, 0, none⟩)) ∧ w.heap.size ≤ q ∧ LkAt T S N C R F K fa fb fd w' q c t rs (2 * rs.length + 2) ∧ q < w'.heap.size ∧ Kept (fun _ => False) w w' := by
  refine (newLookup_any T S N C R F K fa fb fd c t w).mono ?_
  rintro e w' ⟨q, rfl, h1, h2, h3⟩
  exact ⟨q, rfl, h1, ⟨0, 0, 0, 0, _, _, _, h2, .inr ⟨rfl, rfl, rfl, _, sea_start rs t 0, rfl⟩⟩, h2.lt, h3⟩

/-! ### Truncate -/
/-- A Truncate on its way, at most d steps from its end; the memory's list is l. -/
def TrAt (T S N C R F K fa fb fd : Int) (w : World) (q c t : Nat) (rs : List (Nat × Ve)) (n nx : Nat) (l : List Cel) (d : Nat) : Prop :=
  ∃ nw rc st ph de p2, Blk w q 83 (srcv T S N C R F K fa fb fd c t nw rc st ph [.bool de, .int .i64 ((p2 : Nat) : Int)]) ∧ Db C R fb fd n l (if d = 0 then rs.take (cutAt t (vrs rs)) else rs) nx ∧
    ((p2 = 0 ∧ de = false ∧ ph < 3 ∧ ∃ d1, Sea rs t nw rc st ph d1 ∧ d = d1 + 3) ∨
     (∃ j x, rs[j]? = some (rc, x) ∧ j ≤ fnd t (vrs rs) ∧ rch t x = true ∧ ((p2 = 1 ∧ j = 0 ∧ st = x.1 ∧ d = 3) ∨ (p2 = 2 ∧ dead t (vrs rs) = de ∧ d = 2) ∨ (p2 = 3 ∧ dead t (vrs rs) = de ∧ d = 1))) ∨
     (p2 = 4 ∧ dead t (vrs rs) = de ∧ d = 0))
theorem TrAt.kept {T S N C R F K fa fb fd : Int} {w w' : World} {q c t n nx : Nat} {rs : List (Nat × Ve)} {l : List Cel} {d : Nat} {Y : Nat → Prop} (h : TrAt T S N C R F K fa fb fd w q c t rs n nx l d) (hk : Kept Y w w') (hq : ¬ Y q) : TrAt T S N C R F K fa fb fd w' q c t rs n nx l d := by
  obtain ⟨nw, rc, st, ph, de, p2, hB, hr⟩ := h
  exact ⟨nw, rc, st, ph, de, p2, hk.blk hB hq, hr⟩
theorem TrAt.db {T S N C R F K fa fb fd : Int} {w : World} {q c t n nx : Nat} {rs : List (Nat × Ve)} {l : List Cel} {d : Nat} (h : TrAt T S N C R F K fa fb fd w q c t rs n nx l d) : Db C R fb fd n l (if d = 0 then rs.take (cutAt t (vrs rs)) else rs) nx := by
  obtain ⟨nw, rc, st, ph, de, p2, hB, hr, _⟩ := h
  exact hr
theorem cut_all {t : Nat} {rs : List (Nat × Ve)} (h : rs.length ≤ fnd t (vrs rs) + 1) : rs.take (cutAt t (vrs rs)) = rs := by
  unfold cutAt
  rw [vrs_length]
  exact List.take_of_length_le (by omega)
theorem cut_here {t j : Nat} {rs : List (Nat × Ve)} {r : Nat × Ve} (hx : rs[j]? = some r) (h : fnd t (vrs rs) = j) : cutAt t (vrs rs) = j + 1 := by
  have := (List.getElem?_eq_some_iff.1 hx).1
  unfold cutAt
  rw [vrs_length]
  omega
theorem tr_step (T S N C R F K fa fb fd : Int) (hl : Lim T S N C R F) (hd : Reach3 fa fb fd) (n : Nat) (hg : Geo C R fb fd n) (q t d nx : Nat) (w : World) (rs : List (Nat × Ve)) (b g : Nat) (l : List Cel) (k : Nat) (hm : Mem w b g l k) (hqb : q ≠ b) (hqg : q ≠ g) (hk : k < 9223372036854775808) (h : TrAt T S N C R F K fa fb fd w q 1 t rs n nx l d) (hd0 : 0 < d) :
    Calls Try.prog 13 #[.pointer (some ⟨q, 0, none⟩), .pointer (some ⟨b, 0, none⟩)] w fun e w' => ∃ d' l', d' < d ∧ e = .returned (.bool (d' == 0)) ∧ TrAt T S N C R F K fa fb fd w' q 1 t rs n nx l' d' ∧ Mem w' b g l' (k + 1) ∧ Kept (Own3 q b g) w w' := by
  obtain ⟨nw, rc, st, ph, de, p2, hB, hDb, hcase⟩ := h
  rw [if_neg (by omega)] at hDb
  rcases hcase with ⟨rfl, rfl, hph, d1, hs, rfl⟩ | ⟨j, x, hx, hj, hr, hcase⟩ | ⟨_, _, h0⟩
  · obtain ⟨nw2, rc2, st2, ph2, hS, hres⟩ := sea_step T S N C R F K fa fb fd hl hd q 83 1 t nw rc st ph d1 _ w hB b g l k hm hqb hqg hk rs hDb.one hDb.lnk hs hph
    rcases hres with ⟨d2, h1, h2, h3⟩ | ⟨rfl, h2, h3⟩
    · by_cases hp3 : ph2 < 3
      · refine (tstep_0 T S N C R F K fa fb fd q 1 t nw rc st ph 0 false w hB b g l k hqb hqg nw2 rc2 st2 ph2 rfl hS (by omega) 0 (by unfold trp; rw [if_neg (by omega), if_neg (by omega)]) false (by unfold trd; rw [if_neg (by omega)]) false rfl).mono ?_
        rintro e w' ⟨rfl, hM, hQ, hK⟩
        exact ⟨d2 + 3, l, by omega, rfl, ⟨nw2, rc2, st2, ph2, _, 0, hQ, by rw [if_neg (by omega)]; exact hDb, .inl ⟨rfl, rfl, hp3, d2, h1, rfl⟩⟩, hM, hK⟩
      · rcases h1 with ⟨rfl, _⟩ | ⟨hnw, j, x, hx, hj, ⟨rfl, _⟩ | ⟨rfl, _⟩ | ⟨rfl, hr, hst, rfl⟩⟩
        · omega
        · omega
        · omega
        · have hjl : j < rs.length := (List.getElem?_eq_some_iff.1 hx).1
          have hf := fnd_hit hj (vrs_at hx) hr
          by_cases htop : rc2 = nw2
          · have hj0 : j = 0 := by
              have h0 : rs[0]? = some rs[0] := List.getElem?_eq_getElem (by omega)
              refine hDb.desc.inj hx h0 ?_
              have := num_some h0
              simp only; omega
            refine (tstep_0 T S N C R F K fa fb fd q 1 t nw rc st ph 0 false w hB b g l k hqb hqg nw2 rc2 st2 3 rfl hS (by omega) 1 (by unfold trp; rw [if_pos rfl, if_pos htop]) false (by unfold trd; rw [if_neg (by omega)]) false rfl).mono ?_
            rintro e w' ⟨rfl, hM, hQ, hK⟩
            exact ⟨3, l, by omega, rfl, ⟨nw2, rc2, st2, 3, _, 1, hQ, by rw [if_neg (by omega)]; exact hDb, .inr (.inl ⟨j, x, hx, hj, hr, .inl ⟨rfl, hj0, hst, rfl⟩⟩)⟩, hM, hK⟩
          · have hj0 : j ≠ 0 := fun e => by
              subst e
              rw [num_some hx] at hnw
              exact htop hnw.symm
            refine (tstep_0 T S N C R F K fa fb fd q 1 t nw rc st ph 0 false w hB b g l k hqb hqg nw2 rc2 st2 3 rfl hS (by omega) 2 (by unfold trp; rw [if_pos rfl, if_neg htop]) false (by unfold trd; rw [if_neg (by omega)]) false rfl).mono ?_
            rintro e w' ⟨rfl, hM, hQ, hK⟩
            exact ⟨2, l, by omega, rfl, ⟨nw2, rc2, st2, 3, _, 2, hQ, by rw [if_neg (by omega)]; exact hDb, .inr (.inl ⟨j, x, hx, hj, hr, .inr (.inl ⟨rfl, dead_not (by rw [vrs_length]; omega) (by omega), rfl⟩)⟩)⟩, hM, hK⟩
    · have hde : dead t (vrs rs) = (nw2 == 0) := by
        by_cases h0 : rs.length = 0
        · obtain rfl := List.eq_nil_of_length_eq_zero h0
          rw [h2]; rfl
        · rw [dead_not (by rw [vrs_length]; omega) (by omega), h2]
          have := (hDb.lnk.pos (i := 0) (by omega)).1
          symm; simp; omega
      refine (tstep_0 T S N C R F K fa fb fd q 1 t nw rc st ph 0 false w hB b g l k hqb hqg nw2 rc2 st2 4 rfl hS (by omega) 4 (by unfold trp; rw [if_neg (by omega), if_pos rfl]) (nw2 == 0) (by unfold trd; rw [if_pos rfl]) true rfl).mono ?_
      rintro e w' ⟨rfl, hM, hQ, hK⟩
      exact ⟨0, l, by omega, rfl, ⟨nw2, rc2, st2, 4, _, 4, hQ, by rw [if_pos rfl, cut_all (by omega)]; exact hDb, .inr (.inr ⟨rfl, hde, rfl⟩)⟩, hM, hK⟩
  · have hrec := hDb.lnk.recs j rc x hx
    have hjl : j < rs.length := (List.getElem?_eq_some_iff.1 hx).1
    have hf := fnd_hit hj (vrs_at hx) hr
    rcases hcase with ⟨rfl, hj0, hst, rfl⟩ | ⟨rfl, hde, rfl⟩ | ⟨rfl, hde, rfl⟩
    · obtain ⟨m, hm1, hm2⟩ := del_one hrec.del
      have hdd : dead t [((st, x.2.1, x.2.2) : Ve)] = dead t (vrs rs) := by
        subst hj0
        cases rs with
        | nil => cases hx
        | cons y r => simp at hx; subst hx; rw [hst]; rfl
      refine (tstep_1 T S N C R F K fa fb fd hl hd q 1 t nw rc st ph 1 de w hB rfl b g l k hm hqb hqg hk _ rfl (cellAt l (recAt R fd (rc : Int) 1)).1 m x.2.1 (by rw [← hm1, ← hrec.val]) x.2.2 hm2 _ hdd).mono ?_
      rintro e w' ⟨rfl, hM, hQ, hK⟩
      exact ⟨2, l, by omega, rfl, ⟨nw, rc, st, ph, _, 2, hQ, by rw [if_neg (by omega)]; exact hDb, .inr (.inl ⟨j, x, hx, hj, hr, .inr (.inl ⟨rfl, rfl, rfl⟩)⟩)⟩, hM, hK⟩
    · by_cases hz : num rs (j + 1) = 0
      · have hlen := hDb.lnk.zero.1 hz
        refine (tstep_2end T S N C R F K fa fb fd hl hd q 1 t nw rc st ph 2 de w hB rfl b g l k hm hqb hqg hk _ rfl (num rs (j + 1)) _ _ (cel_parts hrec.next) hz).mono ?_
        rintro e w' ⟨rfl, hM, hQ, hK⟩
        exact ⟨0, l, by omega, rfl, ⟨nw, rc, st, ph, _, 4, hQ, by rw [if_pos rfl, cut_all (by omega)]; exact hDb, .inr (.inr ⟨rfl, hde, rfl⟩)⟩, hM, hK⟩
      · refine (tstep_2on T S N C R F K fa fb fd hl hd q 1 t nw rc st ph 2 de w hB rfl b g l k hm hqb hqg hk _ rfl (num rs (j + 1)) _ _ (cel_parts hrec.next) hz).mono ?_
        rintro e w' ⟨rfl, hM, hQ, hK⟩
        exact ⟨1, l, by omega, rfl, ⟨nw, rc, st, ph, _, 3, hQ, by rw [if_neg (by omega)]; exact hDb, .inr (.inl ⟨j, x, hx, hj, hr, .inr (.inr ⟨rfl, hde, rfl⟩)⟩)⟩, hM, hK⟩
    · refine (tstep_3 T S N C R F K fa fb fd hl hd q 1 t nw rc st ph 3 de w hB rfl b g l k hm hqb hqg hk _ rfl).mono ?_
      rintro e w' ⟨rfl, hM, hQ, hK⟩
      exact ⟨0, _, by omega, rfl, ⟨nw, rc, st, ph, _, 4, hQ, by rw [if_pos rfl, cut_here hx hf]; exact hDb.cut hg hx, .inr (.inr ⟨rfl, hde, rfl⟩)⟩, hM, hK⟩
  · omega
theorem tr_dead (T S N C R F K fa fb fd : Int) (q c t n nx : Nat) (w : World) (rs : List (Nat × Ve)) (l : List Cel) (h : TrAt T S N C R F K fa fb fd w q c t rs n nx l 0) (de : Bool) (hv : dead t (vrs rs) = de) :
    Calls Try.prog 15 #[.pointer (some ⟨q, 0, none⟩)] w fun e w' => e = .returned (.bool de) ∧ w = w' := by
  obtain ⟨nw, rc, st, ph, d2, p2, hB, hDb, hcase⟩ := h
  rcases hcase with ⟨_, _, _, d1, _, h0⟩ | ⟨j, x, _, _, _, ⟨_, _, _, h0⟩ | ⟨_, _, h0⟩ | ⟨_, _, h0⟩⟩ | ⟨rfl, h1, _⟩
  · omega
  · omega
  · omega
  · omega
  · rw [hv] at h1; subst h1
    exact trudead_any T S N C R F K fa fb fd q c t nw rc st ph 4 de w hB rfl
theorem tr_new (T S N C R F K fa fb fd : Int) (t n nx : Nat) (rs : List (Nat × Ve)) (l : List Cel) (hDb : Db C R fb fd n l rs nx) (w : World) :
    Calls Try.prog 12 #[.agg #[.int .i64 T, .int .i64 S, .int .i64 N, .int .i64 C, .int .i64 R, .int .i64 F, .int .u64 K, .int .i64 fa, .int .i64 fb, .int .i64 fd], .int .u64 1, .int .u64 (t : Int)] w fun e w' => ∃ q, e = .returned (.pointer (some ⟨q, 0, none⟩)) ∧ w.heap.size ≤ q ∧ TrAt T S N C R F K fa fb fd w' q 1 t rs n nx l (2 * rs.length + 4) ∧ q < w'.heap.size ∧ Kept (fun _ => False) w w' := by
  refine (newTruncate_any T S N C R F K fa fb fd 1 t w).mono ?_
  rintro e w' ⟨q, rfl, h1, h2, h3⟩
  exact ⟨q, rfl, h1, ⟨0, 0, 0, 0, _, 0, h2, by rw [if_neg (by omega)]; exact hDb, .inl ⟨rfl, rfl, by omega, _, sea_start rs t 0, rfl⟩⟩, h2.lt, h3⟩

/-! ### Install -/
/-- An Install of the version v into record nx + 1, at its phase. -/
def InAt (T S N C R F K fa fb fd : Int) (w : World) (q : Nat) (rs : List (Nat × Ve)) (n nx : Nat) (l : List Cel) (v : ByteArray × Bool) (ph : Nat) : Prop :=
  ∃ (old M : Nat), Blk w q 93 (insv T S N C R F K fa fb fd 1 (nx + 1) (if v.2 = true then ⟨#[]⟩ else v.1) M old ph) ∧ M = (if v.2 = true then 1 else 0) ∧ (1 ≤ ph → old = num rs 0) ∧ (ph < 4 → Db C R fb fd n l rs nx) ∧
    (2 ≤ ph → ph < 4 → cellAt l (recAt R fd ((nx + 1 : Nat) : Int) 1) = (0, (if v.2 = true then ⟨#[]⟩ else v.1), (M : Int))) ∧ (3 ≤ ph → ph < 4 → (cellAt l (recAt R fd ((nx + 1 : Nat) : Int) 2)).1 = (num rs 0 : Int)) ∧
    (ph = 4 → Db C R fb fd n l ((nx + 1, (0, (if v.2 = true then ⟨#[]⟩ else v.1), v.2)) :: rs) (nx + 1)) ∧ ph ≤ 4
theorem InAt.kept {T S N C R F K fa fb fd : Int} {w w' : World} {q n nx : Nat} {rs : List (Nat × Ve)} {l : List Cel} {v : ByteArray × Bool} {ph : Nat} {Y : Nat → Prop} (h : InAt T S N C R F K fa fb fd w q rs n nx l v ph) (hk : Kept Y w w') (hq : ¬ Y q) : InAt T S N C R F K fa fb fd w' q rs n nx l v ph := by
  obtain ⟨old, M, hB, hr⟩ := h
  exact ⟨old, M, hk.blk hB hq, hr⟩
theorem in_step (T S N C R F K fa fb fd : Int) (hl : Lim T S N C R F) (hd : Reach3 fa fb fd) (n : Nat) (hg : Geo C R fb fd n) (q nx ph : Nat) (w : World) (rs : List (Nat × Ve)) (v : ByteArray × Bool) (b g : Nat) (l : List Cel) (k : Nat) (hm : Mem w b g l k) (hqb : q ≠ b) (hqg : q ≠ g) (hk : k < 9223372036854775808) (h : InAt T S N C R F K fa fb fd w q rs n nx l v ph) (hph : ph < 4) (hR : ((nx + 1 : Nat) : Int) ≤ R) :
    Calls Try.prog 19 #[.pointer (some ⟨q, 0, none⟩), .pointer (some ⟨b, 0, none⟩)] w fun e w' => ∃ l', e = .returned (.bool (ph + 1 == 4)) ∧ InAt T S N C R F K fa fb fd w' q rs n nx l' v (ph + 1) ∧ Mem w' b g l' (k + 1) ∧ Kept (Own3 q b g) w w' := by
  obtain ⟨old, M, hB, hM0, ho, hDb, hval, hnx, h4, _⟩ := h
  have hD := hDb hph
  have hC := hl.c1
  have hq : 1 ≤ nx + 1 ∧ ((nx + 1 : Nat) : Int) ≤ R := ⟨by omega, hR⟩
  rcases (by omega : ph = 0 ∨ ph = 1 ∨ ph = 2 ∨ ph = 3) with rfl | rfl | rfl | rfl
  · refine (istep_0 T S N C R F K fa fb fd hl hd q 1 (nx + 1) _ M old 0 w hB rfl b g l k hm hqb hqg hk _ rfl (num rs 0) _ _ (cel_parts hD.one)).mono ?_
    rintro e w' ⟨rfl, hM, hQ, hK⟩
    exact ⟨l, rfl, ⟨num rs 0, M, hQ, hM0, fun _ => rfl, fun _ => hD, fun h => by omega, fun h => by omega, fun h => by omega, by omega⟩, hM, hK⟩
  · refine (istep_1 T S N C R F K fa fb fd hl hd q 1 (nx + 1) _ M old 1 w hB rfl b g l k hm hqb hqg hk _ rfl).mono ?_
    rintro e w' ⟨rfl, hM, hQ, hK⟩
    have hin := hg.in hq (p := 1) (by omega)
    exact ⟨_, rfl, ⟨old, M, hQ, hM0, fun _ => ho (by omega), fun _ => hD.fresh hg (by omega) hR (by omega) _, fun _ _ => cellAt_own hin.1 (by rw [hD.len]; exact hin.2) _, fun h => by omega, fun h => by omega, by omega⟩, hM, hK⟩
  · refine (istep_2 T S N C R F K fa fb fd hl hd q 1 (nx + 1) _ M old 2 w hB rfl b g l k hm hqb hqg hk _ rfl).mono ?_
    rintro e w' ⟨rfl, hM, hQ, hK⟩
    have hin := hg.in hq (p := 2) (by omega)
    have e2 := ho (by omega)
    refine ⟨_, rfl, ⟨old, M, hQ, hM0, fun _ => e2, fun _ => hD.fresh hg (by omega) hR (by omega) _, fun _ _ => ?_, fun _ _ => ?_, fun h => by omega, by omega⟩, hM, hK⟩
    · rw [cellAt_far (rec_ne hq hq (by omega) (by omega) (.inr (by omega)))]; exact hval (by omega) (by omega)
    · rw [cellAt_own hin.1 (by rw [hD.len]; exact hin.2), e2]
  · refine (istep_3 T S N C R F K fa fb fd hl hd q 1 (nx + 1) _ M old 3 w hB rfl b g l k hm hqb hqg hk _ rfl).mono ?_
    rintro e w' ⟨rfl, hM, hQ, hK⟩
    have e2 := ho (by omega)
    have e3 := hval (by omega) (by omega)
    refine ⟨_, rfl, ⟨old, M, hQ, hM0, fun _ => e2, fun h => by omega, fun _ h => by omega, fun _ h => by omega, fun _ => ?_, by omega⟩, hM, hK⟩
    refine hD.push hg hC hR (v := ((if v.2 = true then ⟨#[]⟩ else v.1), v.2)) (by rw [e3]) ?_ (hnx (by omega) (by omega))
    rw [e3, hM0]; cases v.2 <;> rfl
theorem in_old (T S N C R F K fa fb fd : Int) (q n nx : Nat) (w : World) (rs : List (Nat × Ve)) (l : List Cel) (v : ByteArray × Bool) (h : InAt T S N C R F K fa fb fd w q rs n nx l v 4) :
    Calls Try.prog 21 #[.pointer (some ⟨q, 0, none⟩)] w fun e w' => e = .returned (.int .u64 ((num rs 0 : Nat) : Int)) ∧ w = w' := by
  obtain ⟨old, M, hB, hM0, ho, _⟩ := h
  rw [← ho (by omega)]
  exact old_yes T S N C R F K fa fb fd q 1 (nx + 1) _ M old 4 w hB rfl
theorem in_done (T S N C R F K fa fb fd : Int) (q m n nx : Nat) (w : World) (rs : List (Nat × Ve)) (l : List Cel) (v : ByteArray × Bool) (h : InAt T S N C R F K fa fb fd w q rs n nx l v 4) :
    Calls Try.prog 19 #[.pointer (some ⟨q, 0, none⟩), .pointer (some ⟨m, 0, none⟩)] w fun e w' => e = .returned (.bool true) ∧ w = w' := by
  obtain ⟨old, M, hB, _⟩ := h
  exact istep_4 T S N C R F K fa fb fd q 1 (nx + 1) _ M old 4 m w hB rfl
theorem in_new (T S N C R F K fa fb fd : Int) (n nx : Nat) (rs : List (Nat × Ve)) (l : List Cel) (hDb : Db C R fb fd n l rs nx) (key s : ByteArray) (dl : Bool) (w : World) :
    Calls Try.prog 18 #[.agg #[.int .i64 T, .int .i64 S, .int .i64 N, .int .i64 C, .int .i64 R, .int .i64 F, .int .u64 K, .int .i64 fa, .int .i64 fb, .int .i64 fd], .int .u64 1, .int .u64 ((nx + 1 : Nat) : Int), .agg #[.string key, .string s, .bool dl]] w fun e w' => ∃ q, e = .returned (.pointer (some ⟨q, 0, none⟩)) ∧ w.heap.size ≤ q ∧ InAt T S N C R F K fa fb fd w' q rs n nx l (s, dl) 0 ∧ q < w'.heap.size ∧ Kept (fun _ => False) w w' := by
  refine (newInstall_any T S N C R F K fa fb fd 1 (nx + 1) key s dl _ _ rfl rfl w).mono ?_
  rintro e w' ⟨q, rfl, h1, h2, h3⟩
  exact ⟨q, rfl, h1, ⟨0, _, h2, rfl, fun h => by omega, fun _ => hDb, fun h => by omega, fun h => by omega, fun h => by omega, by omega⟩, h2.lt, h3⟩
end Go.Proofs.Ytpamjbjgckaedaa
