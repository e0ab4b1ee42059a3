/-
  A Find and a Below on a tree that nobody changes: a step at a time, so many steps from its end. Condition: the kit's small configurations; fewer than 2^63 accesses so far.
-/
import Derived.Test.YtboieccjikcdiaaDesStep
namespace Go.Proofs.Ytboieccjikcdiaa
open Go.RowKit Go.Deep Plain
set_option linter.unusedVariables false

/-- What lies behind a Find's walk, and a Below's. -/
def tlF (key : ByteArray) (lvl : Nat) : ByteArray → List Value := fun _ => [.string key, .int .i64 (lvl : Int)]
def tlB (key : ByteArray) (last : Bool) : ByteArray → List Value := fun lo => [.string key, .bool last, .string lo]
/-- What a Find, and a Below, does with a page. -/
def nxF (key : ByteArray) (lvl : Nat) (P : Pg) : Nat × Nat × ByteArray :=
  if P.lv < lvl then (3, 0, ⟨#[]⟩) else if (P.la || ltB key.toList P.hi.toList) = false then (1, P.rt, ⟨#[]⟩) else if lvl < P.lv then (1, (near (before P.xs (if has key P.xs = true then cnt key P.xs + 1 else cnt key P.xs))).2.1, ⟨#[]⟩) else (2, 0, ⟨#[]⟩)
def nxB (key : ByteArray) (last : Bool) (P : Pg) : Nat × Nat × ByteArray :=
  if (!P.la && (last || ltB P.hi.toList key.toList)) = true then (1, P.rt, P.hi) else if 0 < P.lv then (1, (near (before P.xs (if last = true then P.xs.length else cnt key P.xs))).2.1, (near (before P.xs (if last = true then P.xs.length else cnt key P.xs))).1) else (2, 0, ⟨#[]⟩)
theorem nxF_2 {key : ByteArray} {lvl : Nat} {P : Pg} (h : (nxF key lvl P).1 = 2) : lvl = P.lv ∧ (P.la || ltB key.toList P.hi.toList) = true := by
  unfold nxF at h; split at h
  · exact absurd h (by simp)
  · split at h
    · exact absurd h (by simp)
    · split at h
      · exact absurd h (by simp)
      · rename_i h1 h2 h3; exact ⟨by omega, by simpa only [Bool.not_eq_false] using h2⟩
theorem nxF_3 {key : ByteArray} {lvl : Nat} {P : Pg} (h : (nxF key lvl P).1 = 3) : P.lv < lvl := by
  unfold nxF at h; split at h
  · assumption
  · split at h
    · exact absurd h (by simp)
    · split at h <;> exact absurd h (by simp)
theorem nxF_1 {key : ByteArray} {lvl m : Nat} {lo : ByteArray} {P : Pg} (h : nxF key lvl P = (1, m, lo)) : lvl ≤ P.lv ∧ (((P.la || ltB key.toList P.hi.toList) = false ∧ P.rt = m) ∨ ((P.la || ltB key.toList P.hi.toList) = true ∧ lvl < P.lv ∧ (near (before P.xs (if has key P.xs = true then cnt key P.xs + 1 else cnt key P.xs))).2.1 = m)) := by
  unfold nxF at h; split at h
  · cases h
  · rename_i h1; refine ⟨by omega, ?_⟩
    split at h
    · rename_i h2; exact .inl ⟨h2, by injection h with _ h; injection h⟩
    · rename_i h2; split at h
      · rename_i h3; exact .inr ⟨by simpa only [Bool.not_eq_false] using h2, h3, by injection h with _ h; injection h⟩
      · cases h
theorem nxB_2 {key : ByteArray} {last : Bool} {P : Pg} (h : (nxB key last P).1 = 2) : P.lv = 0 ∧ (!P.la && (last || ltB P.hi.toList key.toList)) = false := by
  unfold nxB at h; split at h
  · exact absurd h (by simp)
  · split at h
    · exact absurd h (by simp)
    · rename_i h1 h2; exact ⟨by omega, by simpa only [Bool.not_eq_true] using h1⟩
theorem nxB_3 {key : ByteArray} {last : Bool} {P : Pg} (h : (nxB key last P).1 = 3) : False := by
  unfold nxB at h; split at h
  · exact absurd h (by simp)
  · split at h <;> exact absurd h (by simp)
theorem nxB_1 {key : ByteArray} {last : Bool} {m : Nat} {lo : ByteArray} {P : Pg} (h : nxB key last P = (1, m, lo)) : ((!P.la && (last || ltB P.hi.toList key.toList)) = true ∧ P.rt = m ∧ P.hi = lo) ∨ ((!P.la && (last || ltB P.hi.toList key.toList)) = false ∧ 0 < P.lv ∧ (near (before P.xs (if last = true then P.xs.length else cnt key P.xs))).2.1 = m ∧ (near (before P.xs (if last = true then P.xs.length else cnt key P.xs))).1 = lo) := by
  unfold nxB at h; split at h
  · rename_i h2; injection h with _ h; injection h with h h'; exact .inl ⟨h2, h, h'⟩
  · rename_i h2; split at h
    · rename_i h3; injection h with _ h; injection h with h h'; exact .inr ⟨by simpa only [Bool.not_eq_true] using h2, h3, h, h'⟩
    · cases h
theorem find_step (F : Nat) (h4 : 4 ≤ F) (h6 : F ≤ 6) (fb fd : Int) (hd : Reach3 10 fb fd) (Z : Nat → Prop) (x : Nat) (key : ByteArray) (lvl : Nat) (d t : Nat) (lo : ByteArray) (w : World) (b g : Nat) (l : List Cel) (k : Nat) (hm : Mem w b g l k) (hk : k < 9223372036854775808) (hb : ¬ Z b) (hg : ¬ Z g) (hxb : x ≠ b) (hxg : x ≠ g) (hn : Nats l) (h : WAt Z w F fb fd x 79 (tlF key lvl) (nxF key lvl) l (d + 1) t lo) :
    Calls Try.prog 14 #[.pointer (some ⟨x, 0, none⟩), .pointer (some ⟨b, 0, none⟩)] w fun e w' => e = .returned (.bool (d == 0)) ∧ Mem w' b g l (k + 1) ∧ ∃ Z', WAt Z' w' F fb fd x 79 (tlF key lvl) (nxF key lvl) l d t lo ∧ Kept (fun i => i = x ∨ Z i ∨ i = b ∨ i = g) w w' ∧ (∀ i, Z' i → Z i ∨ w.heap.size ≤ i) := by
  generalize hD : d + 1 = D at h
  cases h with
  | fail h => omega
  | done hp hy hs h => omega
  | start hB hc p =>
    rename_i n P lo1 d0 nid rp M K
    have hl := p.len
    obtain rfl : d = d0 := by omega
    have hx0 := hB.lt
    refine (fs_root F h4 h6 fb fd hd x nid rp _ w hB b g l k hm hk hxb hxg n p.nd.ne M K hc).mono ?_
    rintro e w' ⟨q, rfl, hM, hB, hC, hq, hK⟩
    refine ⟨by rw [show (d == 0) = false from by simp; omega], hM, fun i => i = q, ?_, hK.mono (fun i h => by rcases h with h | h | h; exact .inl h; exact .inr (.inr (.inl h)); exact .inr (.inr (.inr h))), fun i hi => .inr (by omega)⟩
    have := WAt.read (Z := fun i => i = q) (w := w') (F := F) (fb := fb) (fd := fd) (x := x) (ty := 79) (tlf := (tlF key lvl)) (nx := (nxF key lvl)) (j := 0) p (by omega) ⟨q, hB, hC, fun e => by have := hx0; omega⟩
    exact this
  | read p hj hW =>
    rename_i n P lo1 D0 j
    have hlen := p.len
    have hnd := p.nd
    obtain ⟨q, h1, h2, h3⟩ := hW
    have hxl := h1.lt
    have hmid := hnd.mid hn hj
    have HS := fun r hr => rstep_go Z F h4 h6 fb fd hd q n (ralone F n l j) (ralone F n l (j + 1)) w h2 (ralone_ok hn j) b g l k (k + 1) hm hb hg hk hn rfl (if_pos hmid) r hr
    by_cases hl : j + 1 < P.xs.length + 5
    · have hm2 := hnd.mid hn hl
      have HS1 := HS false (by simp; omega)
      refine (fs_go Z F fb fd x n q _ w h1 h3 b g (k + 1) l hxb hxg _ HS1).mono ?_
      rintro e w' ⟨rfl, hM, Z', hW', hK, hN⟩
      refine ⟨by rw [show (d == 0) = false from by simp; omega], hM, Z', ?_, hK, hN⟩
      have := WAt.read (Z := Z') (tlf := (tlF key lvl)) p hl hW'
      rwa [show D0 - (j + 1) = d by omega] at this
    · have hj1 : j + 1 = P.xs.length + 5 := by omega
      obtain ⟨hy3, hpg⟩ := hnd.fin hn
      rw [← hj1] at hy3 hpg
      have HS1 := HS true (by simp [hy3])
      clear HS
      have hlF := hnd.len
      have hasc := hnd.asc
      generalize ralone F n l (j + 1) = y at hy3 hpg HS1
      subst hpg
      have h40 : y.s.xs.length ≤ 1099511627776 := Nat.le_trans hlF (by omega)
      have hj2 : j + 1 = y.s.xs.length + 5 := hj1
      have hl3 : y.s.pg.xs.length = y.s.xs.length := rfl
      rcases p.inv with ⟨hD0, rfl, rfl, e⟩ | ⟨hD0, rfl, rfl, e⟩ | ⟨P2, lo2, m, d2, hD0, e, p2⟩
      · obtain ⟨heq, hwi⟩ := nxF_2 e
        refine (fs_turn2 Z F fb fd x t q (tlF key lvl lo) w h1 h3 b g (k + 1) l hxb hxg y hy3 h40 HS1 (tlF key lvl lo) (fun w' nid2 rp2 => nid2 = t ∧ rp2 = .pointer (some ⟨q, 0, none⟩)) (fun W A c hs hB hR => (fturn_here F h4 h6 fb fd hd x t _ 1 key lvl W hB y.s.lv A c y.s.hi y.s.la y.s.rt y.s.xs _ rfl h40 hR hasc heq hwi).mono (fun e w' ⟨he, hB, hK⟩ => ⟨he, _, _, hB, ⟨rfl, rfl⟩, hK⟩))).mono ?_
        rintro e w' ⟨rfl, hM, nid2, rp2, hB, ⟨rfl, rfl⟩, Z', hC, hZx, hK, hN⟩
        obtain rfl : d = 0 := by omega
        exact ⟨rfl, hM, Z', .done hnd hy3 rfl ⟨q, hB, hC, hZx⟩, hK, hN⟩
      · have hlt := nxF_3 e
        refine (fs_turn3 Z F fb fd x n q (tlF key lvl lo) w h1 h3 b g (k + 1) l hxb hxg y hy3 h40 HS1 (tlF key lvl lo) (fun w' nid2 rp2 => True) (fun W A c hs hB hR => (fturn_low F h4 h6 fb fd hd x n _ 1 key lvl W hB y.s.lv A c y.s.hi y.s.la y.s.rt y.s.xs _ rfl h40 hR hasc hlt).mono (fun e w' ⟨he, hB, hK⟩ => ⟨he, _, _, hB, trivial, hK⟩))).mono ?_
        rintro e w' ⟨rfl, hM, nid2, rp2, hB, -, Z', hC, hZx, hK, hN⟩
        obtain rfl : d = 0 := by omega
        exact ⟨rfl, hM, Z', .fail hB, hK, hN⟩
      · have hl2 := p2.len
        obtain rfl : d = d2 := by omega
        obtain ⟨hle, hor⟩ := nxF_1 e
        have hm0 := p2.nd.ne
        have HT : ∀ (W : World) (A : Option Addr) (c : Nat), w.heap.size ≤ W.heap.size → Blk W x 79 (wkv F fb fd n (.pointer (some ⟨q, 0, none⟩)) 1 (tlF key lvl lo1)) → Rs W A c y.s.xs → Calls Try.prog 33 #[.pointer (some ⟨x, 0, none⟩), .agg #[.int .i64 (y.s.lv : Int), .slice A y.s.xs.length c, .string y.s.hi, .bool y.s.la, .int .u64 (y.s.rt : Int)]] W fun e w' => e = .returned (.tuple #[]) ∧ ∃ nid2 rp2, Blk w' x 79 (wkv F fb fd nid2 rp2 1 (tlF key lvl lo2)) ∧ (fun w' nid2 rp2 => nid2 = m ∧ ∃ q2, rp2 = .pointer (some ⟨q2, 0, none⟩) ∧ Con (fun i => i = q2) w' 1 2 100 100 200 F 1000 10 fb fd q2 121 m cs0 [.int .u64 0, .int .i64 0] ∧ w.heap.size ≤ q2) w' nid2 rp2 ∧ Kept (fun i => i = x) W w' := by
          intro W A c hs hB hR
          rcases hor with ⟨hwi, rfl⟩ | ⟨hwi, hlt, rfl⟩
          · refine (fturn_right F h4 h6 fb fd hd x n _ 1 key lvl W hB y.s.lv A c y.s.hi y.s.la y.s.rt y.s.xs _ rfl h40 hR hasc hle hwi hm0).mono ?_
            rintro e w' ⟨q2, he, hB, hC, hq, hK⟩
            exact ⟨he, _, _, hB, ⟨rfl, q2, rfl, hC, Nat.le_trans hs hq⟩, hK⟩
          · refine (fturn_down F h4 h6 fb fd hd x n _ 1 key lvl W hB y.s.lv A c y.s.hi y.s.la y.s.rt y.s.xs _ rfl h40 hR hasc hlt hwi _ _ _ rfl hm0).mono ?_
            rintro e w' ⟨q2, he, hB, hC, hq, hK⟩
            exact ⟨he, _, _, hB, ⟨rfl, q2, rfl, hC, Nat.le_trans hs hq⟩, hK⟩
        refine (fs_turn1 Z F fb fd x n q (tlF key lvl lo1) w h1 h3 b g (k + 1) l hxb hxg y hy3 h40 HS1 (tlF key lvl lo2) (fun w' nid2 rp2 => nid2 = m ∧ ∃ q2, rp2 = .pointer (some ⟨q2, 0, none⟩) ∧ Con (fun i => i = q2) w' 1 2 100 100 200 F 1000 10 fb fd q2 121 m cs0 [.int .u64 0, .int .i64 0] ∧ w.heap.size ≤ q2) HT).mono ?_
        rintro e w' ⟨rfl, hM, nid2, rp2, hB, ⟨rfl, q2, rfl, hC2, hq2⟩, Z', hC, hZx, hK, hN⟩
        refine ⟨by rw [show (d == 0) = false from by simp; omega], hM, fun i => i = q2, ?_, hK, fun i hi => .inr (by omega)⟩
        exact WAt.read (Z := fun i => i = q2) (w := w') (F := F) (fb := fb) (fd := fd) (x := x) (ty := 79) (tlf := (tlF key lvl)) (nx := (nxF key lvl)) (j := 0) p2 (by omega) ⟨q2, hB, hC2, fun e => by omega⟩

theorem below_step (F : Nat) (h4 : 4 ≤ F) (h6 : F ≤ 6) (fb fd : Int) (hd : Reach3 10 fb fd) (Z : Nat → Prop) (x : Nat) (key : ByteArray) (last : Bool) (d t : Nat) (lo : ByteArray) (w : World) (b g : Nat) (l : List Cel) (k : Nat) (hm : Mem w b g l k) (hk : k < 9223372036854775808) (hb : ¬ Z b) (hg : ¬ Z g) (hxb : x ≠ b) (hxg : x ≠ g) (hn : Nats l) (h : WAt Z w F fb fd x 88 (tlB key last) (nxB key last) l (d + 1) t lo) :
    Calls Try.prog 24 #[.pointer (some ⟨x, 0, none⟩), .pointer (some ⟨b, 0, none⟩)] w fun e w' => e = .returned (.bool (d == 0)) ∧ Mem w' b g l (k + 1) ∧ ∃ Z', WAt Z' w' F fb fd x 88 (tlB key last) (nxB key last) l d t lo ∧ Kept (fun i => i = x ∨ Z i ∨ i = b ∨ i = g) w w' ∧ (∀ i, Z' i → Z i ∨ w.heap.size ≤ i) := by
  generalize hD : d + 1 = D at h
  cases h with
  | fail h => omega
  | done hp hy hs h => omega
  | start hB hc p =>
    rename_i n P lo1 d0 nid rp M K
    have hl := p.len
    obtain rfl : d = d0 := by omega
    have hx0 := hB.lt
    refine (bs_root F h4 h6 fb fd hd x nid rp _ w hB b g l k hm hk hxb hxg n p.nd.ne M K hc).mono ?_
    rintro e w' ⟨q, rfl, hM, hB, hC, hq, hK⟩
    refine ⟨by rw [show (d == 0) = false from by simp; omega], hM, fun i => i = q, ?_, hK.mono (fun i h => by rcases h with h | h | h; exact .inl h; exact .inr (.inr (.inl h)); exact .inr (.inr (.inr h))), fun i hi => .inr (by omega)⟩
    have := WAt.read (Z := fun i => i = q) (w := w') (F := F) (fb := fb) (fd := fd) (x := x) (ty := 88) (tlf := (tlB key last)) (nx := (nxB key last)) (j := 0) p (by omega) ⟨q, hB, hC, fun e => by have := hx0; omega⟩
    exact this
  | read p hj hW =>
    rename_i n P lo1 D0 j
    have hlen := p.len
    have hnd := p.nd
    obtain ⟨q, h1, h2, h3⟩ := hW
    have hxl := h1.lt
    have hmid := hnd.mid hn hj
    have HS := fun r hr => rstep_go Z F h4 h6 fb fd hd q n (ralone F n l j) (ralone F n l (j + 1)) w h2 (ralone_ok hn j) b g l k (k + 1) hm hb hg hk hn rfl (if_pos hmid) r hr
    by_cases hl : j + 1 < P.xs.length + 5
    · have hm2 := hnd.mid hn hl
      have HS1 := HS false (by simp; omega)
      refine (bs_go Z F fb fd x n q _ w h1 h3 b g (k + 1) l hxb hxg _ HS1).mono ?_
      rintro e w' ⟨rfl, hM, Z', hW', hK, hN⟩
      refine ⟨by rw [show (d == 0) = false from by simp; omega], hM, Z', ?_, hK, hN⟩
      have := WAt.read (Z := Z') (tlf := (tlB key last)) p hl hW'
      rwa [show D0 - (j + 1) = d by omega] at this
    · have hj1 : j + 1 = P.xs.length + 5 := by omega
      obtain ⟨hy3, hpg⟩ := hnd.fin hn
      rw [← hj1] at hy3 hpg
      have HS1 := HS true (by simp [hy3])
      clear HS
      have hlF := hnd.len
      have hasc := hnd.asc
      generalize ralone F n l (j + 1) = y at hy3 hpg HS1
      subst hpg
      have h40 : y.s.xs.length ≤ 1099511627776 := Nat.le_trans hlF (by omega)
      have hj2 : j + 1 = y.s.xs.length + 5 := hj1
      have hl3 : y.s.pg.xs.length = y.s.xs.length := rfl
      rcases p.inv with ⟨hD0, rfl, rfl, e⟩ | ⟨hD0, rfl, rfl, e⟩ | ⟨P2, lo2, m, d2, hD0, e, p2⟩
      · obtain ⟨heq, hwi⟩ := nxB_2 e
        refine (bs_turn2 Z F fb fd x t q (tlB key last lo) w h1 h3 b g (k + 1) l hxb hxg y hy3 h40 HS1 (tlB key last lo) (fun w' nid2 rp2 => nid2 = t ∧ rp2 = .pointer (some ⟨q, 0, none⟩)) (fun W A c hs hB hR => (bturn_here F h4 h6 fb fd hd x t _ 1 key lo last W hB y.s.lv A c y.s.hi y.s.la y.s.rt y.s.xs _ rfl h40 hR hasc hwi heq).mono (fun e w' ⟨he, hB, hK⟩ => ⟨he, _, _, hB, ⟨rfl, rfl⟩, hK⟩))).mono ?_
        rintro e w' ⟨rfl, hM, nid2, rp2, hB, ⟨rfl, rfl⟩, Z', hC, hZx, hK, hN⟩
        obtain rfl : d = 0 := by omega
        exact ⟨rfl, hM, Z', .done hnd hy3 rfl ⟨q, hB, hC, hZx⟩, hK, hN⟩
      · exact (nxB_3 e).elim
      · have hl2 := p2.len
        obtain rfl : d = d2 := by omega
        have hor := nxB_1 e
        have hm0 := p2.nd.ne
        have HT : ∀ (W : World) (A : Option Addr) (c : Nat), w.heap.size ≤ W.heap.size → Blk W x 88 (wkv F fb fd n (.pointer (some ⟨q, 0, none⟩)) 1 (tlB key last lo1)) → Rs W A c y.s.xs → Calls Try.prog 43 #[.pointer (some ⟨x, 0, none⟩), .agg #[.int .i64 (y.s.lv : Int), .slice A y.s.xs.length c, .string y.s.hi, .bool y.s.la, .int .u64 (y.s.rt : Int)]] W fun e w' => e = .returned (.tuple #[]) ∧ ∃ nid2 rp2, Blk w' x 88 (wkv F fb fd nid2 rp2 1 (tlB key last lo2)) ∧ (fun w' nid2 rp2 => nid2 = m ∧ ∃ q2, rp2 = .pointer (some ⟨q2, 0, none⟩) ∧ Con (fun i => i = q2) w' 1 2 100 100 200 F 1000 10 fb fd q2 121 m cs0 [.int .u64 0, .int .i64 0] ∧ w.heap.size ≤ q2) w' nid2 rp2 ∧ Kept (fun i => i = x) W w' := by
          intro W A c hs hB hR
          rcases hor with ⟨hee, rfl, rfl⟩ | ⟨hee, hlt, rfl, rfl⟩
          · refine (bturn_right F h4 h6 fb fd hd x n _ 1 key lo1 last W hB y.s.lv A c y.s.hi y.s.la y.s.rt y.s.xs _ rfl h40 hR hasc hee hm0).mono ?_
            rintro e w' ⟨q2, he, hB, hC, hq, hK⟩
            exact ⟨he, _, _, hB, ⟨rfl, q2, rfl, hC, Nat.le_trans hs hq⟩, hK⟩
          · refine (bturn_down F h4 h6 fb fd hd x n _ 1 key lo1 last W hB y.s.lv A c y.s.hi y.s.la y.s.rt y.s.xs _ rfl h40 hR hasc hee hlt _ _ _ rfl hm0).mono ?_
            rintro e w' ⟨q2, he, hB, hC, hq, hK⟩
            exact ⟨he, _, _, hB, ⟨rfl, q2, rfl, hC, Nat.le_trans hs hq⟩, hK⟩
        refine (bs_turn1 Z F fb fd x n q (tlB key last lo1) w h1 h3 b g (k + 1) l hxb hxg y hy3 h40 HS1 (tlB key last lo2) (fun w' nid2 rp2 => nid2 = m ∧ ∃ q2, rp2 = .pointer (some ⟨q2, 0, none⟩) ∧ Con (fun i => i = q2) w' 1 2 100 100 200 F 1000 10 fb fd q2 121 m cs0 [.int .u64 0, .int .i64 0] ∧ w.heap.size ≤ q2) HT).mono ?_
        rintro e w' ⟨rfl, hM, nid2, rp2, hB, ⟨rfl, q2, rfl, hC2, hq2⟩, Z', hC, hZx, hK, hN⟩
        refine ⟨by rw [show (d == 0) = false from by simp; omega], hM, fun i => i = q2, ?_, hK, fun i hi => .inr (by omega)⟩
        exact WAt.read (Z := fun i => i = q2) (w := w') (F := F) (fb := fb) (fd := fd) (x := x) (ty := 88) (tlf := (tlB key last)) (nx := (nxB key last)) (j := 0) p2 (by omega) ⟨q2, hB, hC2, fun e => by omega⟩

set_option maxHeartbeats 1000000 in
theorem newFind_any (F : Nat) (fb fd : Int) (key : ByteArray) (lvl : Nat) (w : World) :
    Calls Try.prog 13 #[.agg #[.int .i64 1, .int .i64 2, .int .i64 100, .int .i64 100, .int .i64 200, .int .i64 (F : Int), .int .u64 1000, .int .i64 10, .int .i64 fb, .int .i64 fd], .string key, .int .i64 (lvl : Int)] w fun e w' => ∃ x, e = .returned (.pointer (some ⟨x, 0, none⟩)) ∧ w.heap.size ≤ x ∧ Blk w' x 79 (wkv F fb fd 0 (.pointer none) 0 (tlF key lvl ⟨#[]⟩)) ∧ Kept (fun _ => False) w w' := by
  go_enter Try.func13, Try.ntmps13
  go_wp2
  go_ret
  have h := Blk.new (w.alloc (.cells #[.int .i64 1, .int .i64 2, .int .i64 100, .int .i64 100, .int .i64 200, .int .i64 (F : Int), .int .u64 1000, .int .i64 10, .int .i64 fb, .int .i64 fd] 27)) (wkv F fb fd 0 (.pointer none) 0 (tlF key lvl ⟨#[]⟩)) 79
  rw [nblk_alloc] at h
  exact ⟨_, rfl, Nat.le_succ _, h, ((Kept.refl _ _).alloc _).alloc _⟩

set_option maxHeartbeats 1000000 in
theorem newBelow_last (F : Nat) (fb fd : Int) (key : ByteArray) (w : World) :
    Calls Try.prog 23 #[.agg #[.int .i64 1, .int .i64 2, .int .i64 100, .int .i64 100, .int .i64 200, .int .i64 (F : Int), .int .u64 1000, .int .i64 10, .int .i64 fb, .int .i64 fd], .string key, .bool true] w fun e w' => ∃ x, e = .returned (.pointer (some ⟨x, 0, none⟩)) ∧ w.heap.size ≤ x ∧ Blk w' x 88 (wkv F fb fd 0 (.pointer none) 0 (tlB key true ⟨#[]⟩)) ∧ Kept (fun _ => False) w w' := by
  by_cases p0 : key.toList = []
  · go_enter Try.func23, Try.ntmps23
    go_wp2
    go_ret
    have h := Blk.new (w.alloc (.cells #[.int .i64 1, .int .i64 2, .int .i64 100, .int .i64 100, .int .i64 200, .int .i64 (F : Int), .int .u64 1000, .int .i64 10, .int .i64 fb, .int .i64 fd] 27)) (wkv F fb fd 0 (.pointer none) 0 (tlB key true ⟨#[]⟩)) 88
    rw [nblk_alloc] at h
    exact ⟨_, rfl, Nat.le_succ _, h, ((Kept.refl _ _).alloc _).alloc _⟩
  · go_enter Try.func23, Try.ntmps23
    go_wp2
    go_ret
    have h := Blk.new (w.alloc (.cells #[.int .i64 1, .int .i64 2, .int .i64 100, .int .i64 100, .int .i64 200, .int .i64 (F : Int), .int .u64 1000, .int .i64 10, .int .i64 fb, .int .i64 fd] 27)) (wkv F fb fd 0 (.pointer none) 0 (tlB key true ⟨#[]⟩)) 88
    rw [nblk_alloc] at h
    exact ⟨_, rfl, Nat.le_succ _, h, ((Kept.refl _ _).alloc _).alloc _⟩

set_option maxHeartbeats 1000000 in
theorem newBelow_key (F : Nat) (fb fd : Int) (key : ByteArray) (last : Bool) (hk0 : ¬ key.toList = []) (w : World) :
    Calls Try.prog 23 #[.agg #[.int .i64 1, .int .i64 2, .int .i64 100, .int .i64 100, .int .i64 200, .int .i64 (F : Int), .int .u64 1000, .int .i64 10, .int .i64 fb, .int .i64 fd], .string key, .bool last] w fun e w' => ∃ x, e = .returned (.pointer (some ⟨x, 0, none⟩)) ∧ w.heap.size ≤ x ∧ Blk w' x 88 (wkv F fb fd 0 (.pointer none) 0 (tlB key last ⟨#[]⟩)) ∧ Kept (fun _ => False) w w' := by
  have p0 : ¬ key.toList = [] := hk0
  go_enter Try.func23, Try.ntmps23
  go_wp2
  go_ret
  have h := Blk.new (w.alloc (.cells #[.int .i64 1, .int .i64 2, .int .i64 100, .int .i64 100, .int .i64 200, .int .i64 (F : Int), .int .u64 1000, .int .i64 10, .int .i64 fb, .int .i64 fd] 27)) (wkv F fb fd 0 (.pointer none) 0 (tlB key last ⟨#[]⟩)) 88
  rw [nblk_alloc] at h
  exact ⟨_, rfl, Nat.le_succ _, h, ((Kept.refl _ _).alloc _).alloc _⟩

set_option maxHeartbeats 1000000 in
theorem newBelow_none (F : Nat) (fb fd : Int) (w : World) :
    Calls Try.prog 23 #[.agg #[.int .i64 1, .int .i64 2, .int .i64 100, .int .i64 100, .int .i64 200, .int .i64 (F : Int), .int .u64 1000, .int .i64 10, .int .i64 fb, .int .i64 fd], .string ⟨#[]⟩, .bool false] w fun e w' => ∃ x, e = .returned (.pointer (some ⟨x, 0, none⟩)) ∧ w.heap.size ≤ x ∧ Blk w' x 88 (wkv F fb fd 0 (.pointer none) 3 (tlB ⟨#[]⟩ false ⟨#[]⟩)) ∧ Kept (fun _ => False) w w' := by
  have e0 : (⟨#[]⟩ : ByteArray).toList = [] := by rw [Lib.toList_data]
  go_enter Try.func23, Try.ntmps23
  go_wp2_with fail
  have h := Blk.new (w.alloc (.cells #[.int .i64 1, .int .i64 2, .int .i64 100, .int .i64 100, .int .i64 200, .int .i64 (F : Int), .int .u64 1000, .int .i64 10, .int .i64 fb, .int .i64 fd] 27)) (wkv F fb fd 0 (.pointer none) 0 (tlB ⟨#[]⟩ false ⟨#[]⟩)) 88
  rw [nblk_alloc] at h
  have HB := Lib.hid h
  have HK := Lib.hid (((Kept.refl (fun _ => False) w).alloc (.cells #[.int .i64 1, .int .i64 2, .int .i64 100, .int .i64 100, .int .i64 200, .int .i64 (F : Int), .int .u64 1000, .int .i64 10, .int .i64 fb, .int .i64 fd] 27)).alloc (.cells ⟨wkv F fb fd 0 (.pointer none) 0 (tlB ⟨#[]⟩ false ⟨#[]⟩)⟩ 88))
  clear h
  refine (fail_any F fb fd (w.heap.size + 1) 88 0 (.pointer none) 0 _ _ HB.out).mono ?_; rintro e w1 ⟨rfl, hB1, hK1⟩
  have HB1 := Lib.hid hB1
  have HK1 := Lib.hid (HK.out.trans hK1 (fun i hi e => by omega))
  clear hB1 hK1 HB HK
  go_wp2
  go_ret
  exact ⟨_, rfl, Nat.le_succ _, HB1.out, HK1.out⟩

set_option maxHeartbeats 1000000 in
theorem below_failed (F : Nat) (fb fd : Int) (x nid : Nat) (rp : Value) (b : Nat) (tl : List Value) (w : World) (h : Blk w x 88 (wkv F fb fd nid (rp) 3 tl)) :
    Calls Try.prog 24 #[.pointer (some ⟨x, 0, none⟩), .pointer (some ⟨b, 0, none⟩)] w fun e w' => e = .returned (.bool true) ∧ w = w' := by
  have HX := Lib.hid h
  clear h
  go_enter Try.func24, Try.ntmps24
  go_wp2_with fail
  refine (wstep_failed F fb fd x 88 nid rp b tl _ HX.out).mono ?_; rintro e w1 ⟨rfl, rfl⟩
  go_wp2_with fail
  refine (ended_3 F fb fd x 88 nid rp tl _ HX.out).mono ?_; rintro e w2 ⟨rfl, rfl⟩
  go_wp2
  go_ret
  exact ⟨rfl, rfl⟩

end Go.Proofs.Ytboieccjikcdiaa
