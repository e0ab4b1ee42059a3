/-
  One step of a Find and of a Below: what is known behind it. Condition: the kit's small configurations; fewer than 2^63 accesses so far.
-/
import Derived.Test.YtboieccjikcdiaaDesTurnB
namespace Go.Proofs.Ytboieccjikcdiaa
open Go.RowKit Go.Deep Plain
set_option linter.unusedVariables false

/-- Node n holds the page P, and its latch is not changing. -/
structure Nd (F : Nat) (l : List Cel) (n : Nat) (P : Pg) : Prop where
  ne : n ≠ 0
  holds : Holds (nad F n) l P
  lat : ∃ wd : Nat, (cellAt l (nla F n)).1 = (wd : Int) ∧ ¬ wd / 2 % 2 = 1
  wf : Wf P
  len : P.xs.length ≤ F
  asc : Asc P.xs
theorem Nd.mid {F n : Nat} {l : List Cel} {P : Pg} (h : Nd F l n P) (hn : Nats l) {j : Nat} (hj : j < P.xs.length + 5) : (ralone F n l j).ph < 3 := by
  obtain ⟨wd, h1, h2⟩ := h.lat
  cases j with
  | zero => show rst0.ph < 3; decide
  | succ k =>
    rw [ralone_at hn h.holds h.wf h.len h1 h2 k (by omega)]
    show (if k = P.xs.length + 3 then 2 else 1) < 3
    split <;> omega
theorem Nd.fin {F n : Nat} {l : List Cel} {P : Pg} (h : Nd F l n P) (hn : Nats l) : (ralone F n l (P.xs.length + 5)).ph = 3 ∧ (ralone F n l (P.xs.length + 5)).s.pg = P := by
  obtain ⟨wd, h1, h2⟩ := h.lat
  have e := ralone_end hn h.holds h.wf h.len h1 h2 0
  rw [Nat.add_zero] at e
  rw [e]
  exact ⟨rfl, got_end P⟩

/-- The way of a walk from node n, whose page is P: so many steps until it ends at node t (0: nowhere). nx says what is done with a page: 1 it goes on to a node with a low key, 2 it has arrived, 3 it ends without a node. -/
inductive WPath (F : Nat) (l : List Cel) (nx : Pg → Nat × Nat × ByteArray) : Nat → Pg → ByteArray → Nat → Nat → ByteArray → Prop
  | here {n : Nat} {P : Pg} {lo : ByteArray} (h : Nd F l n P) (e : (nx P).1 = 2) : WPath F l nx n P lo (P.xs.length + 5) n lo
  | none {n : Nat} {P : Pg} {lo : ByteArray} (h : Nd F l n P) (e : (nx P).1 = 3) : WPath F l nx n P lo (P.xs.length + 5) 0 lo
  | go {n : Nat} {P P2 : Pg} {lo lo2 : ByteArray} {m d t : Nat} {lo3 : ByteArray} (h : Nd F l n P) (e : nx P = (1, m, lo2)) (p : WPath F l nx m P2 lo2 d t lo3) : WPath F l nx n P lo (P.xs.length + 5 + d) t lo3
theorem WPath.nd {F : Nat} {l : List Cel} {nx : Pg → Nat × Nat × ByteArray} {n d t : Nat} {P : Pg} {lo lo2 : ByteArray} (h : WPath F l nx n P lo d t lo2) : Nd F l n P := by
  cases h <;> assumption
theorem WPath.inv {F : Nat} {l : List Cel} {nx : Pg → Nat × Nat × ByteArray} {n d t : Nat} {P : Pg} {lo lo2 : ByteArray} (h : WPath F l nx n P lo d t lo2) :
    (d = P.xs.length + 5 ∧ t = n ∧ lo2 = lo ∧ (nx P).1 = 2) ∨ (d = P.xs.length + 5 ∧ t = 0 ∧ lo2 = lo ∧ (nx P).1 = 3) ∨ ∃ P2 lo' m d2, d = P.xs.length + 5 + d2 ∧ nx P = (1, m, lo') ∧ WPath F l nx m P2 lo' d2 t lo2 := by
  cases h with
  | here h e => exact .inl ⟨rfl, rfl, rfl, e⟩
  | none h e => exact .inr (.inl ⟨rfl, rfl, rfl, e⟩)
  | go h e p => exact .inr (.inr ⟨_, _, _, _, rfl, e, p⟩)
theorem WPath.len {F : Nat} {l : List Cel} {nx : Pg → Nat × Nat × ByteArray} {n d t : Nat} {P : Pg} {lo lo2 : ByteArray} (h : WPath F l nx n P lo d t lo2) : P.xs.length + 5 ≤ d := by
  cases h <;> omega
/-- A walk that reads a node: its block, and its Read. -/
def Wkr (Z : Nat → Prop) (w : World) (F : Nat) (fb fd : Int) (x : Nat) (ty : TypeId) (tl : List Value) (n : Nat) (ph : Int) (y : Rst) : Prop :=
  ∃ q, Blk w x ty (wkv F fb fd n (.pointer (some ⟨q, 0, none⟩)) ph tl) ∧ Con Z w 1 2 100 100 200 F 1000 10 fb fd q 121 n y.s (rtl y) ∧ ¬ Z x
/-- A machine that walks, so many steps from its end, where it will be at node t with the low key lo. -/
inductive WAt (Z : Nat → Prop) (w : World) (F : Nat) (fb fd : Int) (x : Nat) (ty : TypeId) (tlf : ByteArray → List Value) (nx : Pg → Nat × Nat × ByteArray) (l : List Cel) : Nat → Nat → ByteArray → Prop
  | fail {nid : Nat} {rp : Value} {lo : ByteArray} (h : Blk w x ty (wkv F fb fd nid (rp) 3 (tlf lo))) : WAt Z w F fb fd x ty tlf nx l 0 0 lo
  | done {n : Nat} {P : Pg} {y : Rst} {lo : ByteArray} (hp : Nd F l n P) (hy : y.ph = 3) (hs : y.s.pg = P) (h : Wkr Z w F fb fd x ty (tlf lo) n 2 y) : WAt Z w F fb fd x ty tlf nx l 0 n lo
  | read {n : Nat} {P : Pg} {lo lo2 : ByteArray} {D j t : Nat} (p : WPath F l nx n P lo D t lo2) (hj : j < P.xs.length + 5) (h : Wkr Z w F fb fd x ty (tlf lo) n 1 (ralone F n l j)) : WAt Z w F fb fd x ty tlf nx l (D - j) t lo2
  | start {n : Nat} {P : Pg} {lo lo2 : ByteArray} {d t : Nat} {nid : Nat} {rp : Value} {M : Int} {K : ByteArray} (h : Blk w x ty (wkv F fb fd nid (rp) 0 (tlf lo))) (hc : cellAt l 0 = ((n : Int), K, M)) (p : WPath F l nx n P lo d t lo2) : WAt Z w F fb fd x ty tlf nx l (d + 1) t lo2
theorem WAt.kept {Z Y : Nat → Prop} {w w' : World} {F : Nat} {fb fd : Int} {x : Nat} {ty : TypeId} {tlf : ByteArray → List Value} {nx : Pg → Nat × Nat × ByteArray} {l : List Cel} {d t : Nat} {lo : ByteArray} (h : WAt Z w F fb fd x ty tlf nx l d t lo) (hk : Kept Y w w') (hx : ¬ Y x) (hZ : ∀ i, Z i → ¬ Y i) : WAt Z w' F fb fd x ty tlf nx l d t lo := by
  cases h with
  | fail h => exact .fail (hk.blk h hx)
  | done hp hy hs h =>
    obtain ⟨q, h1, h2, h3⟩ := h
    exact .done hp hy hs ⟨q, hk.blk h1 hx, h2.kept hk hZ, h3⟩
  | read p hj h =>
    obtain ⟨q, h1, h2, h3⟩ := h
    exact .read p hj ⟨q, hk.blk h1 hx, h2.kept hk hZ, h3⟩
  | start h hc p => exact .start (hk.blk h hx) hc p
set_option maxHeartbeats 2000000 in
theorem fs_root (F : Nat) (h4 : 4 ≤ F) (h6 : F ≤ 6) (fb fd : Int) (hd : Reach3 10 fb fd) (x nid : Nat) (rp : Value) (tl : List Value) (w : World) (h : Blk w x 79 (wkv F fb fd nid (rp) 0 tl)) (b g : Nat) (l : List Cel) (k : Nat) (hm : Mem w b g l k) (hk : k < 9223372036854775808) (hxb : x ≠ b) (hxg : x ≠ g) (n : Nat) (hn0 : n ≠ 0) (mM : Int) (kK : ByteArray) (hc : cellAt l 0 = ((n : Int), kK, mM)) :
    Calls Try.prog 14 #[.pointer (some ⟨x, 0, none⟩), .pointer (some ⟨b, 0, none⟩)] w fun e w' => ∃ q, e = .returned (.bool false) ∧ Mem w' b g l (k + 1) ∧ Blk w' x 79 (wkv F fb fd n (.pointer (some ⟨q, 0, none⟩)) 1 tl) ∧ Con (fun i => i = q) w' 1 2 100 100 200 F 1000 10 fb fd q 121 n cs0 [.int .u64 0, .int .i64 0] ∧ w.heap.size ≤ q ∧ Kept (fun i => i = x ∨ i = b ∨ i = g) w w' := by
  have HX := Lib.hid h
  have HM := Lib.hid hm
  have HC := Lib.hid hc
  clear h hm hc
  go_enter Try.func14, Try.ntmps14
  go_wp2_with fail
  refine (wstep_root F h4 h6 fb fd hd x 79 nid rp tl _ HX.out b g l k HM.out hk hxb hxg n hn0 mM kK HC.out).mono ?_; rintro e w1 ⟨q, rfl, hM1, hB1, hC1, hq1, hK1⟩
  have HM1 := Lib.hid hM1
  have HB1 := Lib.hid hB1
  have HC1 := Lib.hid hC1
  have HQ1 := Lib.hid hq1
  have HK1 := Lib.hid hK1
  clear hM1 hB1 hC1 hq1 hK1
  go_wp2_with fail
  refine (ended_1 F fb fd x 79 n (.pointer (some ⟨q, 0, none⟩)) tl _ HB1.out).mono ?_; rintro e w2 ⟨rfl, rfl⟩
  go_wp2
  go_ret
  exact ⟨q, rfl, HM1.out, HB1.out, HC1.out, HQ1.out, HK1.out⟩

set_option maxHeartbeats 2000000 in
theorem fs_go (Z : Nat → Prop) (F : Nat) (fb fd : Int) (x nid q : Nat) (tl : List Value) (w : World) (h : Blk w x 79 (wkv F fb fd nid (.pointer (some ⟨q, 0, none⟩)) 1 tl)) (hZx : ¬ Z x) (b g k2 : Nat) (l : List Cel) (hxb : x ≠ b) (hxg : x ≠ g) (y : Rst) (hS : Calls Try.prog 54 #[.pointer (some ⟨q, 0, none⟩), .pointer (some ⟨b, 0, none⟩)] w fun e w' => e = .returned (.bool false) ∧ Mem w' b g l k2 ∧ ∃ Z', Con Z' w' 1 2 100 100 200 F 1000 10 fb fd q 121 nid y.s (rtl y) ∧ Kept (fun i => Z i ∨ i = b ∨ i = g) w w' ∧ (∀ i, Z' i → Z i ∨ w.heap.size ≤ i)) :
    Calls Try.prog 14 #[.pointer (some ⟨x, 0, none⟩), .pointer (some ⟨b, 0, none⟩)] w fun e w' => e = .returned (.bool false) ∧ Mem w' b g l k2 ∧ ∃ Z', Wkr Z' w' F fb fd x 79 tl nid 1 y ∧ Kept (fun i => i = x ∨ Z i ∨ i = b ∨ i = g) w w' ∧ (∀ i, Z' i → Z i ∨ w.heap.size ≤ i) := by
  have HX := Lib.hid h
  have HS := Lib.hid hS
  clear h hS
  go_enter Try.func14, Try.ntmps14
  go_wp2_with fail
  refine (wstep_read F fb fd x 79 nid q b tl _ HX.out false (fun w' => Mem w' b g l k2 ∧ ∃ Z', Con Z' w' 1 2 100 100 200 F 1000 10 fb fd q 121 nid y.s (rtl y) ∧ Kept (fun i => Z i ∨ i = b ∨ i = g) w w' ∧ (∀ i, Z' i → Z i ∨ w.heap.size ≤ i)) HS.out).mono ?_; rintro e w1 ⟨rfl, hM1, Z1, hC1, hK1, hn1⟩
  have hX1 := hK1.blk HX.out (fun e => by rcases e with e | e | e; exact hZx e; exact hxb e; exact hxg e)
  have hxl := HX.out.lt
  have HZ1 := Lib.hid (show ¬ Z1 x from fun e => by rcases hn1 x e with h | h; exact hZx h; omega)
  have HM1 := Lib.hid hM1
  have HC1 := Lib.hid hC1
  have HN1 := Lib.hid hn1
  have HK1 := Lib.hid (hK1.mono (T := fun i => i = x ∨ Z i ∨ i = b ∨ i = g) (fun i e => .inr e))
  have HX1 := Lib.hid hX1
  clear hM1 hC1 hK1 hn1 hX1 hxl HX HS
  go_wp2_with fail
  refine (ended_1 F fb fd x 79 nid (.pointer (some ⟨q, 0, none⟩)) tl _ HX1.out).mono ?_; rintro e w2 ⟨rfl, rfl⟩
  go_wp2
  go_ret
  exact ⟨rfl, HM1.out, Z1, ⟨q, HX1.out, HC1.out, HZ1.out⟩, HK1.out, HN1.out⟩

set_option maxHeartbeats 2000000 in
theorem fs_turn1 (Z : Nat → Prop) (F : Nat) (fb fd : Int) (x nid q : Nat) (tl : List Value) (w : World) (h : Blk w x 79 (wkv F fb fd nid (.pointer (some ⟨q, 0, none⟩)) 1 tl)) (hZx : ¬ Z x) (b g k2 : Nat) (l : List Cel) (hxb : x ≠ b) (hxg : x ≠ g) (y : Rst) (hph : y.ph = 3) (h40 : y.s.xs.length ≤ 1099511627776) (hS : Calls Try.prog 54 #[.pointer (some ⟨q, 0, none⟩), .pointer (some ⟨b, 0, none⟩)] w fun e w' => e = .returned (.bool true) ∧ Mem w' b g l k2 ∧ ∃ Z', Con Z' w' 1 2 100 100 200 F 1000 10 fb fd q 121 nid y.s (rtl y) ∧ Kept (fun i => Z i ∨ i = b ∨ i = g) w w' ∧ (∀ i, Z' i → Z i ∨ w.heap.size ≤ i)) (tl2 : List Value) (X : World → Nat → Value → Prop)
    (hT : ∀ (W : World) (A : Option Addr) (c : Nat), w.heap.size ≤ W.heap.size → Blk W x 79 (wkv F fb fd nid (.pointer (some ⟨q, 0, none⟩)) 1 tl) → Rs W A c y.s.xs → Calls Try.prog 33 #[.pointer (some ⟨x, 0, none⟩), .agg #[.int .i64 (y.s.lv : Int), .slice A y.s.xs.length c, .string y.s.hi, .bool y.s.la, .int .u64 (y.s.rt : Int)]] W fun e w' => e = .returned (.tuple #[]) ∧ ∃ nid2 rp2, Blk w' x 79 (wkv F fb fd nid2 (rp2) 1 tl2) ∧ X w' nid2 rp2 ∧ Kept (fun i => i = x) W w') :
    Calls Try.prog 14 #[.pointer (some ⟨x, 0, none⟩), .pointer (some ⟨b, 0, none⟩)] w fun e w' => e = .returned (.bool false) ∧ Mem w' b g l k2 ∧ ∃ nid2 rp2, Blk w' x 79 (wkv F fb fd nid2 (rp2) 1 tl2) ∧ X w' nid2 rp2 ∧ ∃ Z', Con Z' w' 1 2 100 100 200 F 1000 10 fb fd q 121 nid y.s (rtl y) ∧ ¬ Z' x ∧ Kept (fun i => i = x ∨ Z i ∨ i = b ∨ i = g) w w' ∧ (∀ i, Z' i → Z i ∨ w.heap.size ≤ i) := by
  have HX := Lib.hid h
  have HS := Lib.hid hS
  have HT := Lib.hid hT
  clear h hS hT
  go_enter Try.func14, Try.ntmps14
  go_wp2_with fail
  refine (wstep_read F fb fd x 79 nid q b tl _ HX.out true (fun w' => Mem w' b g l k2 ∧ ∃ Z', Con Z' w' 1 2 100 100 200 F 1000 10 fb fd q 121 nid y.s (rtl y) ∧ Kept (fun i => Z i ∨ i = b ∨ i = g) w w' ∧ (∀ i, Z' i → Z i ∨ w.heap.size ≤ i)) HS.out).mono ?_; rintro e w1 ⟨rfl, hM1, Z1, hC1, hK1, hn1⟩
  have hX1 := hK1.blk HX.out (fun e => by rcases e with e | e | e; exact hZx e; exact hxb e; exact hxg e)
  have hxl := HX.out.lt
  have HZ1 := Lib.hid (show ¬ Z1 x from fun e => by rcases hn1 x e with h | h; exact hZx h; omega)
  have HM1 := Lib.hid hM1
  have HC1 := Lib.hid hC1
  have HN1 := Lib.hid hn1
  have HK1 := Lib.hid (hK1.mono (T := fun i => i = x ∨ Z i ∨ i = b ∨ i = g) (fun i e => .inr e))
  have HX1 := Lib.hid hX1
  clear hM1 hC1 hK1 hn1 hX1 hxl HX HS
  go_wp2_with fail
  refine (wpage_any Z1 F fb fd x 79 nid q 1 tl _ HX1.out y HC1.out hph h40).mono ?_; rintro e w2 ⟨A, c, rfl, hRs, hA, hK2⟩
  have HX2 := Lib.hid (hK2.blk HX1.out (fun h => h))
  have HM2 := Lib.hid (HM1.out.kept hK2 (fun h => h) (fun h => h))
  have HC2 := Lib.hid (HC1.out.kept hK2 (fun _ _ h => h))
  have HK2 := Lib.hid (HK1.out.trans hK2 (fun _ _ h => h.elim))
  have HRs := Lib.hid hRs
  clear hRs hA hK2 HX1 HM1 HC1 HK1
  go_wp2_with fail
  refine (HT.out w2 A c HK2.out.size HX2.out HRs.out).mono ?_; rintro e w3 ⟨rfl, nid2, rp2, hB3, hX3, hK3⟩
  have HB3 := Lib.hid hB3
  have HX3 := Lib.hid hX3
  have HM3 := Lib.hid (HM2.out.kept hK3 (fun e => hxb e.symm) (fun e => hxg e.symm))
  have HC3 := Lib.hid (HC2.out.kept hK3 (fun i hi e => HZ1.out (by subst e; exact hi)))
  have HK3 := Lib.hid (HK2.out.trans hK3 (fun _ _ h => .inl h))
  clear hB3 hX3 hK3 HX2 HM2 HC2 HK2 HT HRs
  go_wp2_with fail
  refine (ended_1 F fb fd x 79 nid2 rp2 tl2 _ HB3.out).mono ?_; rintro e w4 ⟨rfl, rfl⟩
  go_wp2
  go_ret
  exact ⟨rfl, HM3.out, nid2, rp2, HB3.out, HX3.out, Z1, HC3.out, HZ1.out, HK3.out, HN1.out⟩

set_option maxHeartbeats 2000000 in
theorem fs_turn2 (Z : Nat → Prop) (F : Nat) (fb fd : Int) (x nid q : Nat) (tl : List Value) (w : World) (h : Blk w x 79 (wkv F fb fd nid (.pointer (some ⟨q, 0, none⟩)) 1 tl)) (hZx : ¬ Z x) (b g k2 : Nat) (l : List Cel) (hxb : x ≠ b) (hxg : x ≠ g) (y : Rst) (hph : y.ph = 3) (h40 : y.s.xs.length ≤ 1099511627776) (hS : Calls Try.prog 54 #[.pointer (some ⟨q, 0, none⟩), .pointer (some ⟨b, 0, none⟩)] w fun e w' => e = .returned (.bool true) ∧ Mem w' b g l k2 ∧ ∃ Z', Con Z' w' 1 2 100 100 200 F 1000 10 fb fd q 121 nid y.s (rtl y) ∧ Kept (fun i => Z i ∨ i = b ∨ i = g) w w' ∧ (∀ i, Z' i → Z i ∨ w.heap.size ≤ i)) (tl2 : List Value) (X : World → Nat → Value → Prop)
    (hT : ∀ (W : World) (A : Option Addr) (c : Nat), w.heap.size ≤ W.heap.size → Blk W x 79 (wkv F fb fd nid (.pointer (some ⟨q, 0, none⟩)) 1 tl) → Rs W A c y.s.xs → Calls Try.prog 33 #[.pointer (some ⟨x, 0, none⟩), .agg #[.int .i64 (y.s.lv : Int), .slice A y.s.xs.length c, .string y.s.hi, .bool y.s.la, .int .u64 (y.s.rt : Int)]] W fun e w' => e = .returned (.tuple #[]) ∧ ∃ nid2 rp2, Blk w' x 79 (wkv F fb fd nid2 (rp2) 2 tl2) ∧ X w' nid2 rp2 ∧ Kept (fun i => i = x) W w') :
    Calls Try.prog 14 #[.pointer (some ⟨x, 0, none⟩), .pointer (some ⟨b, 0, none⟩)] w fun e w' => e = .returned (.bool true) ∧ Mem w' b g l k2 ∧ ∃ nid2 rp2, Blk w' x 79 (wkv F fb fd nid2 (rp2) 2 tl2) ∧ X w' nid2 rp2 ∧ ∃ Z', Con Z' w' 1 2 100 100 200 F 1000 10 fb fd q 121 nid y.s (rtl y) ∧ ¬ Z' x ∧ Kept (fun i => i = x ∨ Z i ∨ i = b ∨ i = g) w w' ∧ (∀ i, Z' i → Z i ∨ w.heap.size ≤ i) := by
  have HX := Lib.hid h
  have HS := Lib.hid hS
  have HT := Lib.hid hT
  clear h hS hT
  go_enter Try.func14, Try.ntmps14
  go_wp2_with fail
  refine (wstep_read F fb fd x 79 nid q b tl _ HX.out true (fun w' => Mem w' b g l k2 ∧ ∃ Z', Con Z' w' 1 2 100 100 200 F 1000 10 fb fd q 121 nid y.s (rtl y) ∧ Kept (fun i => Z i ∨ i = b ∨ i = g) w w' ∧ (∀ i, Z' i → Z i ∨ w.heap.size ≤ i)) HS.out).mono ?_; rintro e w1 ⟨rfl, hM1, Z1, hC1, hK1, hn1⟩
  have hX1 := hK1.blk HX.out (fun e => by rcases e with e | e | e; exact hZx e; exact hxb e; exact hxg e)
  have hxl := HX.out.lt
  have HZ1 := Lib.hid (show ¬ Z1 x from fun e => by rcases hn1 x e with h | h; exact hZx h; omega)
  have HM1 := Lib.hid hM1
  have HC1 := Lib.hid hC1
  have HN1 := Lib.hid hn1
  have HK1 := Lib.hid (hK1.mono (T := fun i => i = x ∨ Z i ∨ i = b ∨ i = g) (fun i e => .inr e))
  have HX1 := Lib.hid hX1
  clear hM1 hC1 hK1 hn1 hX1 hxl HX HS
  go_wp2_with fail
  refine (wpage_any Z1 F fb fd x 79 nid q 1 tl _ HX1.out y HC1.out hph h40).mono ?_; rintro e w2 ⟨A, c, rfl, hRs, hA, hK2⟩
  have HX2 := Lib.hid (hK2.blk HX1.out (fun h => h))
  have HM2 := Lib.hid (HM1.out.kept hK2 (fun h => h) (fun h => h))
  have HC2 := Lib.hid (HC1.out.kept hK2 (fun _ _ h => h))
  have HK2 := Lib.hid (HK1.out.trans hK2 (fun _ _ h => h.elim))
  have HRs := Lib.hid hRs
  clear hRs hA hK2 HX1 HM1 HC1 HK1
  go_wp2_with fail
  refine (HT.out w2 A c HK2.out.size HX2.out HRs.out).mono ?_; rintro e w3 ⟨rfl, nid2, rp2, hB3, hX3, hK3⟩
  have HB3 := Lib.hid hB3
  have HX3 := Lib.hid hX3
  have HM3 := Lib.hid (HM2.out.kept hK3 (fun e => hxb e.symm) (fun e => hxg e.symm))
  have HC3 := Lib.hid (HC2.out.kept hK3 (fun i hi e => HZ1.out (by subst e; exact hi)))
  have HK3 := Lib.hid (HK2.out.trans hK3 (fun _ _ h => .inl h))
  clear hB3 hX3 hK3 HX2 HM2 HC2 HK2 HT HRs
  go_wp2_with fail
  refine (ended_2 F fb fd x 79 nid2 rp2 tl2 _ HB3.out).mono ?_; rintro e w4 ⟨rfl, rfl⟩
  go_wp2
  go_ret
  exact ⟨rfl, HM3.out, nid2, rp2, HB3.out, HX3.out, Z1, HC3.out, HZ1.out, HK3.out, HN1.out⟩

set_option maxHeartbeats 2000000 in
theorem fs_turn3 (Z : Nat → Prop) (F : Nat) (fb fd : Int) (x nid q : Nat) (tl : List Value) (w : World) (h : Blk w x 79 (wkv F fb fd nid (.pointer (some ⟨q, 0, none⟩)) 1 tl)) (hZx : ¬ Z x) (b g k2 : Nat) (l : List Cel) (hxb : x ≠ b) (hxg : x ≠ g) (y : Rst) (hph : y.ph = 3) (h40 : y.s.xs.length ≤ 1099511627776) (hS : Calls Try.prog 54 #[.pointer (some ⟨q, 0, none⟩), .pointer (some ⟨b, 0, none⟩)] w fun e w' => e = .returned (.bool true) ∧ Mem w' b g l k2 ∧ ∃ Z', Con Z' w' 1 2 100 100 200 F 1000 10 fb fd q 121 nid y.s (rtl y) ∧ Kept (fun i => Z i ∨ i = b ∨ i = g) w w' ∧ (∀ i, Z' i → Z i ∨ w.heap.size ≤ i)) (tl2 : List Value) (X : World → Nat → Value → Prop)
    (hT : ∀ (W : World) (A : Option Addr) (c : Nat), w.heap.size ≤ W.heap.size → Blk W x 79 (wkv F fb fd nid (.pointer (some ⟨q, 0, none⟩)) 1 tl) → Rs W A c y.s.xs → Calls Try.prog 33 #[.pointer (some ⟨x, 0, none⟩), .agg #[.int .i64 (y.s.lv : Int), .slice A y.s.xs.length c, .string y.s.hi, .bool y.s.la, .int .u64 (y.s.rt : Int)]] W fun e w' => e = .returned (.tuple #[]) ∧ ∃ nid2 rp2, Blk w' x 79 (wkv F fb fd nid2 (rp2) 3 tl2) ∧ X w' nid2 rp2 ∧ Kept (fun i => i = x) W w') :
    Calls Try.prog 14 #[.pointer (some ⟨x, 0, none⟩), .pointer (some ⟨b, 0, none⟩)] w fun e w' => e = .returned (.bool true) ∧ Mem w' b g l k2 ∧ ∃ nid2 rp2, Blk w' x 79 (wkv F fb fd nid2 (rp2) 3 tl2) ∧ X w' nid2 rp2 ∧ ∃ Z', Con Z' w' 1 2 100 100 200 F 1000 10 fb fd q 121 nid y.s (rtl y) ∧ ¬ Z' x ∧ Kept (fun i => i = x ∨ Z i ∨ i = b ∨ i = g) w w' ∧ (∀ i, Z' i → Z i ∨ w.heap.size ≤ i) := by
  have HX := Lib.hid h
  have HS := Lib.hid hS
  have HT := Lib.hid hT
  clear h hS hT
  go_enter Try.func14, Try.ntmps14
  go_wp2_with fail
  refine (wstep_read F fb fd x 79 nid q b tl _ HX.out true (fun w' => Mem w' b g l k2 ∧ ∃ Z', Con Z' w' 1 2 100 100 200 F 1000 10 fb fd q 121 nid y.s (rtl y) ∧ Kept (fun i => Z i ∨ i = b ∨ i = g) w w' ∧ (∀ i, Z' i → Z i ∨ w.heap.size ≤ i)) HS.out).mono ?_; rintro e w1 ⟨rfl, hM1, Z1, hC1, hK1, hn1⟩
  have hX1 := hK1.blk HX.out (fun e => by rcases e with e | e | e; exact hZx e; exact hxb e; exact hxg e)
  have hxl := HX.out.lt
  have HZ1 := Lib.hid (show ¬ Z1 x from fun e => by rcases hn1 x e with h | h; exact hZx h; omega)
  have HM1 := Lib.hid hM1
  have HC1 := Lib.hid hC1
  have HN1 := Lib.hid hn1
  have HK1 := Lib.hid (hK1.mono (T := fun i => i = x ∨ Z i ∨ i = b ∨ i = g) (fun i e => .inr e))
  have HX1 := Lib.hid hX1
  clear hM1 hC1 hK1 hn1 hX1 hxl HX HS
  go_wp2_with fail
  refine (wpage_any Z1 F fb fd x 79 nid q 1 tl _ HX1.out y HC1.out hph h40).mono ?_; rintro e w2 ⟨A, c, rfl, hRs, hA, hK2⟩
  have HX2 := Lib.hid (hK2.blk HX1.out (fun h => h))
  have HM2 := Lib.hid (HM1.out.kept hK2 (fun h => h) (fun h => h))
  have HC2 := Lib.hid (HC1.out.kept hK2 (fun _ _ h => h))
  have HK2 := Lib.hid (HK1.out.trans hK2 (fun _ _ h => h.elim))
  have HRs := Lib.hid hRs
  clear hRs hA hK2 HX1 HM1 HC1 HK1
  go_wp2_with fail
  refine (HT.out w2 A c HK2.out.size HX2.out HRs.out).mono ?_; rintro e w3 ⟨rfl, nid2, rp2, hB3, hX3, hK3⟩
  have HB3 := Lib.hid hB3
  have HX3 := Lib.hid hX3
  have HM3 := Lib.hid (HM2.out.kept hK3 (fun e => hxb e.symm) (fun e => hxg e.symm))
  have HC3 := Lib.hid (HC2.out.kept hK3 (fun i hi e => HZ1.out (by subst e; exact hi)))
  have HK3 := Lib.hid (HK2.out.trans hK3 (fun _ _ h => .inl h))
  clear hB3 hX3 hK3 HX2 HM2 HC2 HK2 HT HRs
  go_wp2_with fail
  refine (ended_3 F fb fd x 79 nid2 rp2 tl2 _ HB3.out).mono ?_; rintro e w4 ⟨rfl, rfl⟩
  go_wp2
  go_ret
  exact ⟨rfl, HM3.out, nid2, rp2, HB3.out, HX3.out, Z1, HC3.out, HZ1.out, HK3.out, HN1.out⟩

set_option maxHeartbeats 2000000 in
theorem bs_root (F : Nat) (h4 : 4 ≤ F) (h6 : F ≤ 6) (fb fd : Int) (hd : Reach3 10 fb fd) (x nid : Nat) (rp : Value) (tl : List Value) (w : World) (h : Blk w x 88 (wkv F fb fd nid (rp) 0 tl)) (b g : Nat) (l : List Cel) (k : Nat) (hm : Mem w b g l k) (hk : k < 9223372036854775808) (hxb : x ≠ b) (hxg : x ≠ g) (n : Nat) (hn0 : n ≠ 0) (mM : Int) (kK : ByteArray) (hc : cellAt l 0 = ((n : Int), kK, mM)) :
    Calls Try.prog 24 #[.pointer (some ⟨x, 0, none⟩), .pointer (some ⟨b, 0, none⟩)] w fun e w' => ∃ q, e = .returned (.bool false) ∧ Mem w' b g l (k + 1) ∧ Blk w' x 88 (wkv F fb fd n (.pointer (some ⟨q, 0, none⟩)) 1 tl) ∧ Con (fun i => i = q) w' 1 2 100 100 200 F 1000 10 fb fd q 121 n cs0 [.int .u64 0, .int .i64 0] ∧ w.heap.size ≤ q ∧ Kept (fun i => i = x ∨ i = b ∨ i = g) w w' := by
  have HX := Lib.hid h
  have HM := Lib.hid hm
  have HC := Lib.hid hc
  clear h hm hc
  go_enter Try.func24, Try.ntmps24
  go_wp2_with fail
  refine (wstep_root F h4 h6 fb fd hd x 88 nid rp tl _ HX.out b g l k HM.out hk hxb hxg n hn0 mM kK HC.out).mono ?_; rintro e w1 ⟨q, rfl, hM1, hB1, hC1, hq1, hK1⟩
  have HM1 := Lib.hid hM1
  have HB1 := Lib.hid hB1
  have HC1 := Lib.hid hC1
  have HQ1 := Lib.hid hq1
  have HK1 := Lib.hid hK1
  clear hM1 hB1 hC1 hq1 hK1
  go_wp2_with fail
  refine (ended_1 F fb fd x 88 n (.pointer (some ⟨q, 0, none⟩)) tl _ HB1.out).mono ?_; rintro e w2 ⟨rfl, rfl⟩
  go_wp2
  go_ret
  exact ⟨q, rfl, HM1.out, HB1.out, HC1.out, HQ1.out, HK1.out⟩

set_option maxHeartbeats 2000000 in
theorem bs_go (Z : Nat → Prop) (F : Nat) (fb fd : Int) (x nid q : Nat) (tl : List Value) (w : World) (h : Blk w x 88 (wkv F fb fd nid (.pointer (some ⟨q, 0, none⟩)) 1 tl)) (hZx : ¬ Z x) (b g k2 : Nat) (l : List Cel) (hxb : x ≠ b) (hxg : x ≠ g) (y : Rst) (hS : Calls Try.prog 54 #[.pointer (some ⟨q, 0, none⟩), .pointer (some ⟨b, 0, none⟩)] w fun e w' => e = .returned (.bool false) ∧ Mem w' b g l k2 ∧ ∃ Z', Con Z' w' 1 2 100 100 200 F 1000 10 fb fd q 121 nid y.s (rtl y) ∧ Kept (fun i => Z i ∨ i = b ∨ i = g) w w' ∧ (∀ i, Z' i → Z i ∨ w.heap.size ≤ i)) :
    Calls Try.prog 24 #[.pointer (some ⟨x, 0, none⟩), .pointer (some ⟨b, 0, none⟩)] w fun e w' => e = .returned (.bool false) ∧ Mem w' b g l k2 ∧ ∃ Z', Wkr Z' w' F fb fd x 88 tl nid 1 y ∧ Kept (fun i => i = x ∨ Z i ∨ i = b ∨ i = g) w w' ∧ (∀ i, Z' i → Z i ∨ w.heap.size ≤ i) := by
  have HX := Lib.hid h
  have HS := Lib.hid hS
  clear h hS
  go_enter Try.func24, Try.ntmps24
  go_wp2_with fail
  refine (wstep_read F fb fd x 88 nid q b tl _ HX.out false (fun w' => Mem w' b g l k2 ∧ ∃ Z', Con Z' w' 1 2 100 100 200 F 1000 10 fb fd q 121 nid y.s (rtl y) ∧ Kept (fun i => Z i ∨ i = b ∨ i = g) w w' ∧ (∀ i, Z' i → Z i ∨ w.heap.size ≤ i)) HS.out).mono ?_; rintro e w1 ⟨rfl, hM1, Z1, hC1, hK1, hn1⟩
  have hX1 := hK1.blk HX.out (fun e => by rcases e with e | e | e; exact hZx e; exact hxb e; exact hxg e)
  have hxl := HX.out.lt
  have HZ1 := Lib.hid (show ¬ Z1 x from fun e => by rcases hn1 x e with h | h; exact hZx h; omega)
  have HM1 := Lib.hid hM1
  have HC1 := Lib.hid hC1
  have HN1 := Lib.hid hn1
  have HK1 := Lib.hid (hK1.mono (T := fun i => i = x ∨ Z i ∨ i = b ∨ i = g) (fun i e => .inr e))
  have HX1 := Lib.hid hX1
  clear hM1 hC1 hK1 hn1 hX1 hxl HX HS
  go_wp2_with fail
  refine (ended_1 F fb fd x 88 nid (.pointer (some ⟨q, 0, none⟩)) tl _ HX1.out).mono ?_; rintro e w2 ⟨rfl, rfl⟩
  go_wp2
  go_ret
  exact ⟨rfl, HM1.out, Z1, ⟨q, HX1.out, HC1.out, HZ1.out⟩, HK1.out, HN1.out⟩

set_option maxHeartbeats 2000000 in
theorem bs_turn1 (Z : Nat → Prop) (F : Nat) (fb fd : Int) (x nid q : Nat) (tl : List Value) (w : World) (h : Blk w x 88 (wkv F fb fd nid (.pointer (some ⟨q, 0, none⟩)) 1 tl)) (hZx : ¬ Z x) (b g k2 : Nat) (l : List Cel) (hxb : x ≠ b) (hxg : x ≠ g) (y : Rst) (hph : y.ph = 3) (h40 : y.s.xs.length ≤ 1099511627776) (hS : Calls Try.prog 54 #[.pointer (some ⟨q, 0, none⟩), .pointer (some ⟨b, 0, none⟩)] w fun e w' => e = .returned (.bool true) ∧ Mem w' b g l k2 ∧ ∃ Z', Con Z' w' 1 2 100 100 200 F 1000 10 fb fd q 121 nid y.s (rtl y) ∧ Kept (fun i => Z i ∨ i = b ∨ i = g) w w' ∧ (∀ i, Z' i → Z i ∨ w.heap.size ≤ i)) (tl2 : List Value) (X : World → Nat → Value → Prop)
    (hT : ∀ (W : World) (A : Option Addr) (c : Nat), w.heap.size ≤ W.heap.size → Blk W x 88 (wkv F fb fd nid (.pointer (some ⟨q, 0, none⟩)) 1 tl) → Rs W A c y.s.xs → Calls Try.prog 43 #[.pointer (some ⟨x, 0, none⟩), .agg #[.int .i64 (y.s.lv : Int), .slice A y.s.xs.length c, .string y.s.hi, .bool y.s.la, .int .u64 (y.s.rt : Int)]] W fun e w' => e = .returned (.tuple #[]) ∧ ∃ nid2 rp2, Blk w' x 88 (wkv F fb fd nid2 (rp2) 1 tl2) ∧ X w' nid2 rp2 ∧ Kept (fun i => i = x) W w') :
    Calls Try.prog 24 #[.pointer (some ⟨x, 0, none⟩), .pointer (some ⟨b, 0, none⟩)] w fun e w' => e = .returned (.bool false) ∧ Mem w' b g l k2 ∧ ∃ nid2 rp2, Blk w' x 88 (wkv F fb fd nid2 (rp2) 1 tl2) ∧ X w' nid2 rp2 ∧ ∃ Z', Con Z' w' 1 2 100 100 200 F 1000 10 fb fd q 121 nid y.s (rtl y) ∧ ¬ Z' x ∧ Kept (fun i => i = x ∨ Z i ∨ i = b ∨ i = g) w w' ∧ (∀ i, Z' i → Z i ∨ w.heap.size ≤ i) := by
  have HX := Lib.hid h
  have HS := Lib.hid hS
  have HT := Lib.hid hT
  clear h hS hT
  go_enter Try.func24, Try.ntmps24
  go_wp2_with fail
  refine (wstep_read F fb fd x 88 nid q b tl _ HX.out true (fun w' => Mem w' b g l k2 ∧ ∃ Z', Con Z' w' 1 2 100 100 200 F 1000 10 fb fd q 121 nid y.s (rtl y) ∧ Kept (fun i => Z i ∨ i = b ∨ i = g) w w' ∧ (∀ i, Z' i → Z i ∨ w.heap.size ≤ i)) HS.out).mono ?_; rintro e w1 ⟨rfl, hM1, Z1, hC1, hK1, hn1⟩
  have hX1 := hK1.blk HX.out (fun e => by rcases e with e | e | e; exact hZx e; exact hxb e; exact hxg e)
  have hxl := HX.out.lt
  have HZ1 := Lib.hid (show ¬ Z1 x from fun e => by rcases hn1 x e with h | h; exact hZx h; omega)
  have HM1 := Lib.hid hM1
  have HC1 := Lib.hid hC1
  have HN1 := Lib.hid hn1
  have HK1 := Lib.hid (hK1.mono (T := fun i => i = x ∨ Z i ∨ i = b ∨ i = g) (fun i e => .inr e))
  have HX1 := Lib.hid hX1
  clear hM1 hC1 hK1 hn1 hX1 hxl HX HS
  go_wp2_with fail
  refine (wpage_any Z1 F fb fd x 88 nid q 1 tl _ HX1.out y HC1.out hph h40).mono ?_; rintro e w2 ⟨A, c, rfl, hRs, hA, hK2⟩
  have HX2 := Lib.hid (hK2.blk HX1.out (fun h => h))
  have HM2 := Lib.hid (HM1.out.kept hK2 (fun h => h) (fun h => h))
  have HC2 := Lib.hid (HC1.out.kept hK2 (fun _ _ h => h))
  have HK2 := Lib.hid (HK1.out.trans hK2 (fun _ _ h => h.elim))
  have HRs := Lib.hid hRs
  clear hRs hA hK2 HX1 HM1 HC1 HK1
  go_wp2_with fail
  refine (HT.out w2 A c HK2.out.size HX2.out HRs.out).mono ?_; rintro e w3 ⟨rfl, nid2, rp2, hB3, hX3, hK3⟩
  have HB3 := Lib.hid hB3
  have HX3 := Lib.hid hX3
  have HM3 := Lib.hid (HM2.out.kept hK3 (fun e => hxb e.symm) (fun e => hxg e.symm))
  have HC3 := Lib.hid (HC2.out.kept hK3 (fun i hi e => HZ1.out (by subst e; exact hi)))
  have HK3 := Lib.hid (HK2.out.trans hK3 (fun _ _ h => .inl h))
  clear hB3 hX3 hK3 HX2 HM2 HC2 HK2 HT HRs
  go_wp2_with fail
  refine (ended_1 F fb fd x 88 nid2 rp2 tl2 _ HB3.out).mono ?_; rintro e w4 ⟨rfl, rfl⟩
  go_wp2
  go_ret
  exact ⟨rfl, HM3.out, nid2, rp2, HB3.out, HX3.out, Z1, HC3.out, HZ1.out, HK3.out, HN1.out⟩

set_option maxHeartbeats 2000000 in
theorem bs_turn2 (Z : Nat → Prop) (F : Nat) (fb fd : Int) (x nid q : Nat) (tl : List Value) (w : World) (h : Blk w x 88 (wkv F fb fd nid (.pointer (some ⟨q, 0, none⟩)) 1 tl)) (hZx : ¬ Z x) (b g k2 : Nat) (l : List Cel) (hxb : x ≠ b) (hxg : x ≠ g) (y : Rst) (hph : y.ph = 3) (h40 : y.s.xs.length ≤ 1099511627776) (hS : Calls Try.prog 54 #[.pointer (some ⟨q, 0, none⟩), .pointer (some ⟨b, 0, none⟩)] w fun e w' => e = .returned (.bool true) ∧ Mem w' b g l k2 ∧ ∃ Z', Con Z' w' 1 2 100 100 200 F 1000 10 fb fd q 121 nid y.s (rtl y) ∧ Kept (fun i => Z i ∨ i = b ∨ i = g) w w' ∧ (∀ i, Z' i → Z i ∨ w.heap.size ≤ i)) (tl2 : List Value) (X : World → Nat → Value → Prop)
    (hT : ∀ (W : World) (A : Option Addr) (c : Nat), w.heap.size ≤ W.heap.size → Blk W x 88 (wkv F fb fd nid (.pointer (some ⟨q, 0, none⟩)) 1 tl) → Rs W A c y.s.xs → Calls Try.prog 43 #[.pointer (some ⟨x, 0, none⟩), .agg #[.int .i64 (y.s.lv : Int), .slice A y.s.xs.length c, .string y.s.hi, .bool y.s.la, .int .u64 (y.s.rt : Int)]] W fun e w' => e = .returned (.tuple #[]) ∧ ∃ nid2 rp2, Blk w' x 88 (wkv F fb fd nid2 (rp2) 2 tl2) ∧ X w' nid2 rp2 ∧ Kept (fun i => i = x) W w') :
    Calls Try.prog 24 #[.pointer (some ⟨x, 0, none⟩), .pointer (some ⟨b, 0, none⟩)] w fun e w' => e = .returned (.bool true) ∧ Mem w' b g l k2 ∧ ∃ nid2 rp2, Blk w' x 88 (wkv F fb fd nid2 (rp2) 2 tl2) ∧ X w' nid2 rp2 ∧ ∃ Z', Con Z' w' 1 2 100 100 200 F 1000 10 fb fd q 121 nid y.s (rtl y) ∧ ¬ Z' x ∧ Kept (fun i => i = x ∨ Z i ∨ i = b ∨ i = g) w w' ∧ (∀ i, Z' i → Z i ∨ w.heap.size ≤ i) := by
  have HX := Lib.hid h
  have HS := Lib.hid hS
  have HT := Lib.hid hT
  clear h hS hT
  go_enter Try.func24, Try.ntmps24
  go_wp2_with fail
  refine (wstep_read F fb fd x 88 nid q b tl _ HX.out true (fun w' => Mem w' b g l k2 ∧ ∃ Z', Con Z' w' 1 2 100 100 200 F 1000 10 fb fd q 121 nid y.s (rtl y) ∧ Kept (fun i => Z i ∨ i = b ∨ i = g) w w' ∧ (∀ i, Z' i → Z i ∨ w.heap.size ≤ i)) HS.out).mono ?_; rintro e w1 ⟨rfl, hM1, Z1, hC1, hK1, hn1⟩
  have hX1 := hK1.blk HX.out (fun e => by rcases e with e | e | e; exact hZx e; exact hxb e; exact hxg e)
  have hxl := HX.out.lt
  have HZ1 := Lib.hid (show ¬ Z1 x from fun e => by rcases hn1 x e with h | h; exact hZx h; omega)
  have HM1 := Lib.hid hM1
  have HC1 := Lib.hid hC1
  have HN1 := Lib.hid hn1
  have HK1 := Lib.hid (hK1.mono (T := fun i => i = x ∨ Z i ∨ i = b ∨ i = g) (fun i e => .inr e))
  have HX1 := Lib.hid hX1
  clear hM1 hC1 hK1 hn1 hX1 hxl HX HS
  go_wp2_with fail
  refine (wpage_any Z1 F fb fd x 88 nid q 1 tl _ HX1.out y HC1.out hph h40).mono ?_; rintro e w2 ⟨A, c, rfl, hRs, hA, hK2⟩
  have HX2 := Lib.hid (hK2.blk HX1.out (fun h => h))
  have HM2 := Lib.hid (HM1.out.kept hK2 (fun h => h) (fun h => h))
  have HC2 := Lib.hid (HC1.out.kept hK2 (fun _ _ h => h))
  have HK2 := Lib.hid (HK1.out.trans hK2 (fun _ _ h => h.elim))
  have HRs := Lib.hid hRs
  clear hRs hA hK2 HX1 HM1 HC1 HK1
  go_wp2_with fail
  refine (HT.out w2 A c HK2.out.size HX2.out HRs.out).mono ?_; rintro e w3 ⟨rfl, nid2, rp2, hB3, hX3, hK3⟩
  have HB3 := Lib.hid hB3
  have HX3 := Lib.hid hX3
  have HM3 := Lib.hid (HM2.out.kept hK3 (fun e => hxb e.symm) (fun e => hxg e.symm))
  have HC3 := Lib.hid (HC2.out.kept hK3 (fun i hi e => HZ1.out (by subst e; exact hi)))
  have HK3 := Lib.hid (HK2.out.trans hK3 (fun _ _ h => .inl h))
  clear hB3 hX3 hK3 HX2 HM2 HC2 HK2 HT HRs
  go_wp2_with fail
  refine (ended_2 F fb fd x 88 nid2 rp2 tl2 _ HB3.out).mono ?_; rintro e w4 ⟨rfl, rfl⟩
  go_wp2
  go_ret
  exact ⟨rfl, HM3.out, nid2, rp2, HB3.out, HX3.out, Z1, HC3.out, HZ1.out, HK3.out, HN1.out⟩

set_option maxHeartbeats 2000000 in
theorem bs_turn3 (Z : Nat → Prop) (F : Nat) (fb fd : Int) (x nid q : Nat) (tl : List Value) (w : World) (h : Blk w x 88 (wkv F fb fd nid (.pointer (some ⟨q, 0, none⟩)) 1 tl)) (hZx : ¬ Z x) (b g k2 : Nat) (l : List Cel) (hxb : x ≠ b) (hxg : x ≠ g) (y : Rst) (hph : y.ph = 3) (h40 : y.s.xs.length ≤ 1099511627776) (hS : Calls Try.prog 54 #[.pointer (some ⟨q, 0, none⟩), .pointer (some ⟨b, 0, none⟩)] w fun e w' => e = .returned (.bool true) ∧ Mem w' b g l k2 ∧ ∃ Z', Con Z' w' 1 2 100 100 200 F 1000 10 fb fd q 121 nid y.s (rtl y) ∧ Kept (fun i => Z i ∨ i = b ∨ i = g) w w' ∧ (∀ i, Z' i → Z i ∨ w.heap.size ≤ i)) (tl2 : List Value) (X : World → Nat → Value → Prop)
    (hT : ∀ (W : World) (A : Option Addr) (c : Nat), w.heap.size ≤ W.heap.size → Blk W x 88 (wkv F fb fd nid (.pointer (some ⟨q, 0, none⟩)) 1 tl) → Rs W A c y.s.xs → Calls Try.prog 43 #[.pointer (some ⟨x, 0, none⟩), .agg #[.int .i64 (y.s.lv : Int), .slice A y.s.xs.length c, .string y.s.hi, .bool y.s.la, .int .u64 (y.s.rt : Int)]] W fun e w' => e = .returned (.tuple #[]) ∧ ∃ nid2 rp2, Blk w' x 88 (wkv F fb fd nid2 (rp2) 3 tl2) ∧ X w' nid2 rp2 ∧ Kept (fun i => i = x) W w') :
    Calls Try.prog 24 #[.pointer (some ⟨x, 0, none⟩), .pointer (some ⟨b, 0, none⟩)] w fun e w' => e = .returned (.bool true) ∧ Mem w' b g l k2 ∧ ∃ nid2 rp2, Blk w' x 88 (wkv F fb fd nid2 (rp2) 3 tl2) ∧ X w' nid2 rp2 ∧ ∃ Z', Con Z' w' 1 2 100 100 200 F 1000 10 fb fd q 121 nid y.s (rtl y) ∧ ¬ Z' x ∧ Kept (fun i => i = x ∨ Z i ∨ i = b ∨ i = g) w w' ∧ (∀ i, Z' i → Z i ∨ w.heap.size ≤ i) := by
  have HX := Lib.hid h
  have HS := Lib.hid hS
  have HT := Lib.hid hT
  clear h hS hT
  go_enter Try.func24, Try.ntmps24
  go_wp2_with fail
  refine (wstep_read F fb fd x 88 nid q b tl _ HX.out true (fun w' => Mem w' b g l k2 ∧ ∃ Z', Con Z' w' 1 2 100 100 200 F 1000 10 fb fd q 121 nid y.s (rtl y) ∧ Kept (fun i => Z i ∨ i = b ∨ i = g) w w' ∧ (∀ i, Z' i → Z i ∨ w.heap.size ≤ i)) HS.out).mono ?_; rintro e w1 ⟨rfl, hM1, Z1, hC1, hK1, hn1⟩
  have hX1 := hK1.blk HX.out (fun e => by rcases e with e | e | e; exact hZx e; exact hxb e; exact hxg e)
  have hxl := HX.out.lt
  have HZ1 := Lib.hid (show ¬ Z1 x from fun e => by rcases hn1 x e with h | h; exact hZx h; omega)
  have HM1 := Lib.hid hM1
  have HC1 := Lib.hid hC1
  have HN1 := Lib.hid hn1
  have HK1 := Lib.hid (hK1.mono (T := fun i => i = x ∨ Z i ∨ i = b ∨ i = g) (fun i e => .inr e))
  have HX1 := Lib.hid hX1
  clear hM1 hC1 hK1 hn1 hX1 hxl HX HS
  go_wp2_with fail
  refine (wpage_any Z1 F fb fd x 88 nid q 1 tl _ HX1.out y HC1.out hph h40).mono ?_; rintro e w2 ⟨A, c, rfl, hRs, hA, hK2⟩
  have HX2 := Lib.hid (hK2.blk HX1.out (fun h => h))
  have HM2 := Lib.hid (HM1.out.kept hK2 (fun h => h) (fun h => h))
  have HC2 := Lib.hid (HC1.out.kept hK2 (fun _ _ h => h))
  have HK2 := Lib.hid (HK1.out.trans hK2 (fun _ _ h => h.elim))
  have HRs := Lib.hid hRs
  clear hRs hA hK2 HX1 HM1 HC1 HK1
  go_wp2_with fail
  refine (HT.out w2 A c HK2.out.size HX2.out HRs.out).mono ?_; rintro e w3 ⟨rfl, nid2, rp2, hB3, hX3, hK3⟩
  have HB3 := Lib.hid hB3
  have HX3 := Lib.hid hX3
  have HM3 := Lib.hid (HM2.out.kept hK3 (fun e => hxb e.symm) (fun e => hxg e.symm))
  have HC3 := Lib.hid (HC2.out.kept hK3 (fun i hi e => HZ1.out (by subst e; exact hi)))
  have HK3 := Lib.hid (HK2.out.trans hK3 (fun _ _ h => .inl h))
  clear hB3 hX3 hK3 HX2 HM2 HC2 HK2 HT HRs
  go_wp2_with fail
  refine (ended_3 F fb fd x 88 nid2 rp2 tl2 _ HB3.out).mono ?_; rintro e w4 ⟨rfl, rfl⟩
  go_wp2
  go_ret
  exact ⟨rfl, HM3.out, nid2, rp2, HB3.out, HX3.out, Z1, HC3.out, HZ1.out, HK3.out, HN1.out⟩

end Go.Proofs.Ytboieccjikcdiaa
