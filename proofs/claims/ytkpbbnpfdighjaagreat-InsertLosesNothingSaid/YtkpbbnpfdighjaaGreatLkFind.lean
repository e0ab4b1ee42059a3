/-
  A Find a step at a time, and what it answers. Condition: the kit's small configurations; fewer than 2^63 accesses.
-/
import Derived.Test.YtkpbbnpfdighjaaGreatLkWalk
namespace Go.Proofs.YtkpbbnpfdighjaaGreat
section
open Go.RowKit Go.Deep Plain
set_option linter.unusedVariables false

/-- Node n holds the page P, and its latch is not changing. -/
structure Nd (F : Nat) (l : List Cel) (n : Nat) (P : Pg) : Prop where
  ne : n ≠ 0
  holds : Holds (nad F n) l P
  lat : ∃ wd : Nat, (cellAt l (nla F n)).1 = (wd : Int) ∧ ¬ wd / 2 % 2 = 1
  wf : Wf P
  len : P.xs.length ≤ F
  asc : Asc P.xs
theorem Nd.mid {F n : Nat} {l : List Cel} {P : Pg} (h : Nd F l n P) (hn : Nats l) {j : Nat} (hj : j < P.xs.length + 5) : (ralone F n l j).ph < 3 := by
  obtain ⟨wd, h1, h2⟩ := h.lat
  cases j with
  | zero => show rst0.ph < 3; decide
  | succ k =>
    rw [ralone_at hn h.holds h.wf h.len h1 h2 k (by omega)]
    show (if k = P.xs.length + 3 then 2 else 1) < 3
    split <;> omega
theorem Nd.fin {F n : Nat} {l : List Cel} {P : Pg} (h : Nd F l n P) (hn : Nats l) : (ralone F n l (P.xs.length + 5)).ph = 3 ∧ (ralone F n l (P.xs.length + 5)).s.pg = P := by
  obtain ⟨wd, h1, h2⟩ := h.lat
  have e := ralone_end hn h.holds h.wf h.len h1 h2 0
  rw [Nat.add_zero] at e
  rw [e]
  exact ⟨rfl, got_end P⟩

/-- The way of a walk from node n, whose page is P: so many steps until it ends at node t (0: nowhere). nx says what is done with a page: 1 it goes on to a node with a low key, 2 it has arrived, 3 it ends without a node. -/
inductive WPath (F : Nat) (l : List Cel) (nx : Pg → Nat × Nat × ByteArray) : Nat → Pg → ByteArray → Nat → Nat → ByteArray → Prop
  | here {n : Nat} {P : Pg} {lo : ByteArray} (h : Nd F l n P) (e : (nx P).1 = 2) : WPath F l nx n P lo (P.xs.length + 5) n lo
  | none {n : Nat} {P : Pg} {lo : ByteArray} (h : Nd F l n P) (e : (nx P).1 = 3) : WPath F l nx n P lo (P.xs.length + 5) 0 lo
  | go {n : Nat} {P P2 : Pg} {lo lo2 : ByteArray} {m d t : Nat} {lo3 : ByteArray} (h : Nd F l n P) (e : nx P = (1, m, lo2)) (p : WPath F l nx m P2 lo2 d t lo3) : WPath F l nx n P lo (P.xs.length + 5 + d) t lo3
theorem WPath.nd {F : Nat} {l : List Cel} {nx : Pg → Nat × Nat × ByteArray} {n d t : Nat} {P : Pg} {lo lo2 : ByteArray} (h : WPath F l nx n P lo d t lo2) : Nd F l n P := by
  cases h <;> assumption
theorem WPath.inv {F : Nat} {l : List Cel} {nx : Pg → Nat × Nat × ByteArray} {n d t : Nat} {P : Pg} {lo lo2 : ByteArray} (h : WPath F l nx n P lo d t lo2) :
    (d = P.xs.length + 5 ∧ t = n ∧ lo2 = lo ∧ (nx P).1 = 2) ∨ (d = P.xs.length + 5 ∧ t = 0 ∧ lo2 = lo ∧ (nx P).1 = 3) ∨ ∃ P2 lo' m d2, d = P.xs.length + 5 + d2 ∧ nx P = (1, m, lo') ∧ WPath F l nx m P2 lo' d2 t lo2 := by
  cases h with
  | here h e => exact .inl ⟨rfl, rfl, rfl, e⟩
  | none h e => exact .inr (.inl ⟨rfl, rfl, rfl, e⟩)
  | go h e p => exact .inr (.inr ⟨_, _, _, _, rfl, e, p⟩)
theorem WPath.len {F : Nat} {l : List Cel} {nx : Pg → Nat × Nat × ByteArray} {n d t : Nat} {P : Pg} {lo lo2 : ByteArray} (h : WPath F l nx n P lo d t lo2) : P.xs.length + 5 ≤ d := by
  cases h <;> omega
/-- A walk that reads a node: its block, and its Read. -/
def Wkr (Z : Nat → Prop) (w : World) (F : Nat) (fb fd : Int) (x : Nat) (ty : TypeId) (tl : List Value) (n : Nat) (ph : Int) (y : Rst) : Prop :=
  ∃ q, Blk w x ty (wkv F fb fd n (.pointer (some ⟨q, 0, none⟩)) ph tl) ∧ Con Z w 1 2 100 100 200 F 1000 10 fb fd q 186 n y.s (rtl y) ∧ ¬ Z x
/-- A machine that walks, so many steps from its end, where it will be at node t with the low key lo. -/
inductive WAt (Z : Nat → Prop) (w : World) (F : Nat) (fb fd : Int) (x : Nat) (ty : TypeId) (tlf : ByteArray → List Value) (nx : Pg → Nat × Nat × ByteArray) (l : List Cel) : Nat → Nat → ByteArray → Prop
  | fail {nid : Nat} {rp : Value} {lo : ByteArray} (h : Blk w x ty (wkv F fb fd nid (rp) 3 (tlf lo))) : WAt Z w F fb fd x ty tlf nx l 0 0 lo
  | done {n : Nat} {P : Pg} {y : Rst} {lo : ByteArray} (hp : Nd F l n P) (hy : y.ph = 3) (hs : y.s.pg = P) (h : Wkr Z w F fb fd x ty (tlf lo) n 2 y) : WAt Z w F fb fd x ty tlf nx l 0 n lo
  | read {n : Nat} {P : Pg} {lo lo2 : ByteArray} {D j t : Nat} (p : WPath F l nx n P lo D t lo2) (hj : j < P.xs.length + 5) (h : Wkr Z w F fb fd x ty (tlf lo) n 1 (ralone F n l j)) : WAt Z w F fb fd x ty tlf nx l (D - j) t lo2
  | start {n : Nat} {P : Pg} {lo lo2 : ByteArray} {d t : Nat} {nid : Nat} {rp : Value} {M : Int} {K : ByteArray} (h : Blk w x ty (wkv F fb fd nid (rp) 0 (tlf lo))) (hc : cellAt l 0 = ((n : Int), K, M)) (p : WPath F l nx n P lo d t lo2) : WAt Z w F fb fd x ty tlf nx l (d + 1) t lo2
theorem WAt.kept {Z Y : Nat → Prop} {w w' : World} {F : Nat} {fb fd : Int} {x : Nat} {ty : TypeId} {tlf : ByteArray → List Value} {nx : Pg → Nat × Nat × ByteArray} {l : List Cel} {d t : Nat} {lo : ByteArray} (h : WAt Z w F fb fd x ty tlf nx l d t lo) (hk : Kept Y w w') (hx : ¬ Y x) (hZ : ∀ i, Z i → ¬ Y i) : WAt Z w' F fb fd x ty tlf nx l d t lo := by
  cases h with
  | fail h => exact .fail (hk.blk h hx)
  | done hp hy hs h =>
    obtain ⟨q, h1, h2, h3⟩ := h
    exact .done hp hy hs ⟨q, hk.blk h1 hx, h2.kept hk hZ, h3⟩
  | read p hj h =>
    obtain ⟨q, h1, h2, h3⟩ := h
    exact .read p hj ⟨q, hk.blk h1 hx, h2.kept hk hZ, h3⟩
  | start h hc p => exact .start (hk.blk h hx) hc p
set_option maxHeartbeats 2000000 in
theorem fs_root (F : Nat) (h4 : 4 ≤ F) (h6 : F ≤ 6) (fb fd : Int) (hd : Reach3 10 fb fd) (x nid : Nat) (rp : Value) (tl : List Value) (w : World) (h : Blk w x 126 (wkv F fb fd nid (rp) 0 tl)) (b g : Nat) (l : List Cel) (k : Nat) (hm : Mem w b g l k) (hk : k < 9223372036854775808) (hxb : x ≠ b) (hxg : x ≠ g) (n : Nat) (hn0 : n ≠ 0) (mM : Int) (kK : ByteArray) (hc : cellAt l 0 = ((n : Int), kK, mM)) :
    Calls Tryz.prog 32 #[.pointer (some ⟨x, 0, none⟩), .pointer (some ⟨b, 0, none⟩)] w fun e w' => ∃ q, e = .returned (.bool false) ∧ Mem w' b g l (k + 1) ∧ Blk w' x 126 (wkv F fb fd n (.pointer (some ⟨q, 0, none⟩)) 1 tl) ∧ Con (fun i => i = q) w' 1 2 100 100 200 F 1000 10 fb fd q 186 n cs0 [.int .u64 0, .int .i64 0] ∧ w.heap.size ≤ q ∧ Kept (fun i => i = x ∨ i = b ∨ i = g) w w' := by
  have HX := Lib.hid h
  have HM := Lib.hid hm
  have HC := Lib.hid hc
  clear h hm hc
  go_enter Tryz.func32, Tryz.ntmps32
  go_wp2_with fail
  refine (wstep_root F h4 h6 fb fd hd x 126 nid rp tl _ HX.out b g l k HM.out hk hxb hxg n hn0 mM kK HC.out).mono ?_; rintro e w1 ⟨q, rfl, hM1, hB1, hC1, hq1, hK1⟩
  have HM1 := Lib.hid hM1
  have HB1 := Lib.hid hB1
  have HC1 := Lib.hid hC1
  have HQ1 := Lib.hid hq1
  have HK1 := Lib.hid hK1
  clear hM1 hB1 hC1 hq1 hK1
  go_wp2_with fail
  refine (ended_1 F fb fd x 126 n (.pointer (some ⟨q, 0, none⟩)) tl _ HB1.out).mono ?_; rintro e w2 ⟨rfl, rfl⟩
  go_wp2
  go_ret
  exact ⟨q, rfl, HM1.out, HB1.out, HC1.out, HQ1.out, HK1.out⟩

set_option maxHeartbeats 2000000 in
theorem fs_go (Z : Nat → Prop) (F : Nat) (fb fd : Int) (x nid q : Nat) (tl : List Value) (w : World) (h : Blk w x 126 (wkv F fb fd nid (.pointer (some ⟨q, 0, none⟩)) 1 tl)) (hZx : ¬ Z x) (b g k2 : Nat) (l : List Cel) (hxb : x ≠ b) (hxg : x ≠ g) (y : Rst) (hS : Calls Tryz.prog 116 #[.pointer (some ⟨q, 0, none⟩), .pointer (some ⟨b, 0, none⟩)] w fun e w' => e = .returned (.bool false) ∧ Mem w' b g l k2 ∧ ∃ Z', Con Z' w' 1 2 100 100 200 F 1000 10 fb fd q 186 nid y.s (rtl y) ∧ Kept (fun i => Z i ∨ i = b ∨ i = g) w w' ∧ (∀ i, Z' i → Z i ∨ w.heap.size ≤ i)) :
    Calls Tryz.prog 32 #[.pointer (some ⟨x, 0, none⟩), .pointer (some ⟨b, 0, none⟩)] w fun e w' => e = .returned (.bool false) ∧ Mem w' b g l k2 ∧ ∃ Z', Wkr Z' w' F fb fd x 126 tl nid 1 y ∧ Kept (fun i => i = x ∨ Z i ∨ i = b ∨ i = g) w w' ∧ (∀ i, Z' i → Z i ∨ w.heap.size ≤ i) := by
  have HX := Lib.hid h
  have HS := Lib.hid hS
  clear h hS
  go_enter Tryz.func32, Tryz.ntmps32
  go_wp2_with fail
  refine (wstep_read F fb fd x 126 nid q b tl _ HX.out false (fun w' => Mem w' b g l k2 ∧ ∃ Z', Con Z' w' 1 2 100 100 200 F 1000 10 fb fd q 186 nid y.s (rtl y) ∧ Kept (fun i => Z i ∨ i = b ∨ i = g) w w' ∧ (∀ i, Z' i → Z i ∨ w.heap.size ≤ i)) HS.out).mono ?_; rintro e w1 ⟨rfl, hM1, Z1, hC1, hK1, hn1⟩
  have hX1 := hK1.blk HX.out (fun e => by rcases e with e | e | e; exact hZx e; exact hxb e; exact hxg e)
  have hxl := HX.out.lt
  have HZ1 := Lib.hid (show ¬ Z1 x from fun e => by rcases hn1 x e with h | h; exact hZx h; omega)
  have HM1 := Lib.hid hM1
  have HC1 := Lib.hid hC1
  have HN1 := Lib.hid hn1
  have HK1 := Lib.hid (hK1.mono (T := fun i => i = x ∨ Z i ∨ i = b ∨ i = g) (fun i e => .inr e))
  have HX1 := Lib.hid hX1
  clear hM1 hC1 hK1 hn1 hX1 hxl HX HS
  go_wp2_with fail
  refine (ended_1 F fb fd x 126 nid (.pointer (some ⟨q, 0, none⟩)) tl _ HX1.out).mono ?_; rintro e w2 ⟨rfl, rfl⟩
  go_wp2
  go_ret
  exact ⟨rfl, HM1.out, Z1, ⟨q, HX1.out, HC1.out, HZ1.out⟩, HK1.out, HN1.out⟩

set_option maxHeartbeats 2000000 in
theorem fs_turn1 (Z : Nat → Prop) (F : Nat) (fb fd : Int) (x nid q : Nat) (tl : List Value) (w : World) (h : Blk w x 126 (wkv F fb fd nid (.pointer (some ⟨q, 0, none⟩)) 1 tl)) (hZx : ¬ Z x) (b g k2 : Nat) (l : List Cel) (hxb : x ≠ b) (hxg : x ≠ g) (y : Rst) (hph : y.ph = 3) (h40 : y.s.xs.length ≤ 1099511627776) (hS : Calls Tryz.prog 116 #[.pointer (some ⟨q, 0, none⟩), .pointer (some ⟨b, 0, none⟩)] w fun e w' => e = .returned (.bool true) ∧ Mem w' b g l k2 ∧ ∃ Z', Con Z' w' 1 2 100 100 200 F 1000 10 fb fd q 186 nid y.s (rtl y) ∧ Kept (fun i => Z i ∨ i = b ∨ i = g) w w' ∧ (∀ i, Z' i → Z i ∨ w.heap.size ≤ i)) (tl2 : List Value) (X : World → Nat → Value → Prop)
    (hT : ∀ (W : World) (A : Option Addr) (c : Nat), w.heap.size ≤ W.heap.size → Blk W x 126 (wkv F fb fd nid (.pointer (some ⟨q, 0, none⟩)) 1 tl) → Rs W A c y.s.xs → Calls Tryz.prog 75 #[.pointer (some ⟨x, 0, none⟩), .agg #[.int .i64 (y.s.lv : Int), .slice A y.s.xs.length c, .string y.s.hi, .bool y.s.la, .int .u64 (y.s.rt : Int)]] W fun e w' => e = .returned (.tuple #[]) ∧ ∃ nid2 rp2, Blk w' x 126 (wkv F fb fd nid2 (rp2) 1 tl2) ∧ X w' nid2 rp2 ∧ Kept (fun i => i = x) W w') :
    Calls Tryz.prog 32 #[.pointer (some ⟨x, 0, none⟩), .pointer (some ⟨b, 0, none⟩)] w fun e w' => e = .returned (.bool false) ∧ Mem w' b g l k2 ∧ ∃ nid2 rp2, Blk w' x 126 (wkv F fb fd nid2 (rp2) 1 tl2) ∧ X w' nid2 rp2 ∧ ∃ Z', Con Z' w' 1 2 100 100 200 F 1000 10 fb fd q 186 nid y.s (rtl y) ∧ ¬ Z' x ∧ Kept (fun i => i = x ∨ Z i ∨ i = b ∨ i = g) w w' ∧ (∀ i, Z' i → Z i ∨ w.heap.size ≤ i) := by
  have HX := Lib.hid h
  have HS := Lib.hid hS
  have HT := Lib.hid hT
  clear h hS hT
  go_enter Tryz.func32, Tryz.ntmps32
  go_wp2_with fail
  refine (wstep_read F fb fd x 126 nid q b tl _ HX.out true (fun w' => Mem w' b g l k2 ∧ ∃ Z', Con Z' w' 1 2 100 100 200 F 1000 10 fb fd q 186 nid y.s (rtl y) ∧ Kept (fun i => Z i ∨ i = b ∨ i = g) w w' ∧ (∀ i, Z' i → Z i ∨ w.heap.size ≤ i)) HS.out).mono ?_; rintro e w1 ⟨rfl, hM1, Z1, hC1, hK1, hn1⟩
  have hX1 := hK1.blk HX.out (fun e => by rcases e with e | e | e; exact hZx e; exact hxb e; exact hxg e)
  have hxl := HX.out.lt
  have HZ1 := Lib.hid (show ¬ Z1 x from fun e => by rcases hn1 x e with h | h; exact hZx h; omega)
  have HM1 := Lib.hid hM1
  have HC1 := Lib.hid hC1
  have HN1 := Lib.hid hn1
  have HK1 := Lib.hid (hK1.mono (T := fun i => i = x ∨ Z i ∨ i = b ∨ i = g) (fun i e => .inr e))
  have HX1 := Lib.hid hX1
  clear hM1 hC1 hK1 hn1 hX1 hxl HX HS
  go_wp2_with fail
  refine (wpage_any Z1 F fb fd x 126 nid q 1 tl _ HX1.out y HC1.out hph h40).mono ?_; rintro e w2 ⟨A, c, rfl, hRs, hA, hK2⟩
  have HX2 := Lib.hid (hK2.blk HX1.out (fun h => h))
  have HM2 := Lib.hid (HM1.out.kept hK2 (fun h => h) (fun h => h))
  have HC2 := Lib.hid (HC1.out.kept hK2 (fun _ _ h => h))
  have HK2 := Lib.hid (HK1.out.trans hK2 (fun _ _ h => h.elim))
  have HRs := Lib.hid hRs
  clear hRs hA hK2 HX1 HM1 HC1 HK1
  go_wp2_with fail
  refine (HT.out w2 A c HK2.out.size HX2.out HRs.out).mono ?_; rintro e w3 ⟨rfl, nid2, rp2, hB3, hX3, hK3⟩
  have HB3 := Lib.hid hB3
  have HX3 := Lib.hid hX3
  have HM3 := Lib.hid (HM2.out.kept hK3 (fun e => hxb e.symm) (fun e => hxg e.symm))
  have HC3 := Lib.hid (HC2.out.kept hK3 (fun i hi e => HZ1.out (by subst e; exact hi)))
  have HK3 := Lib.hid (HK2.out.trans hK3 (fun _ _ h => .inl h))
  clear hB3 hX3 hK3 HX2 HM2 HC2 HK2 HT HRs
  go_wp2_with fail
  refine (ended_1 F fb fd x 126 nid2 rp2 tl2 _ HB3.out).mono ?_; rintro e w4 ⟨rfl, rfl⟩
  go_wp2
  go_ret
  exact ⟨rfl, HM3.out, nid2, rp2, HB3.out, HX3.out, Z1, HC3.out, HZ1.out, HK3.out, HN1.out⟩

set_option maxHeartbeats 2000000 in
theorem fs_turn2 (Z : Nat → Prop) (F : Nat) (fb fd : Int) (x nid q : Nat) (tl : List Value) (w : World) (h : Blk w x 126 (wkv F fb fd nid (.pointer (some ⟨q, 0, none⟩)) 1 tl)) (hZx : ¬ Z x) (b g k2 : Nat) (l : List Cel) (hxb : x ≠ b) (hxg : x ≠ g) (y : Rst) (hph : y.ph = 3) (h40 : y.s.xs.length ≤ 1099511627776) (hS : Calls Tryz.prog 116 #[.pointer (some ⟨q, 0, none⟩), .pointer (some ⟨b, 0, none⟩)] w fun e w' => e = .returned (.bool true) ∧ Mem w' b g l k2 ∧ ∃ Z', Con Z' w' 1 2 100 100 200 F 1000 10 fb fd q 186 nid y.s (rtl y) ∧ Kept (fun i => Z i ∨ i = b ∨ i = g) w w' ∧ (∀ i, Z' i → Z i ∨ w.heap.size ≤ i)) (tl2 : List Value) (X : World → Nat → Value → Prop)
    (hT : ∀ (W : World) (A : Option Addr) (c : Nat), w.heap.size ≤ W.heap.size → Blk W x 126 (wkv F fb fd nid (.pointer (some ⟨q, 0, none⟩)) 1 tl) → Rs W A c y.s.xs → Calls Tryz.prog 75 #[.pointer (some ⟨x, 0, none⟩), .agg #[.int .i64 (y.s.lv : Int), .slice A y.s.xs.length c, .string y.s.hi, .bool y.s.la, .int .u64 (y.s.rt : Int)]] W fun e w' => e = .returned (.tuple #[]) ∧ ∃ nid2 rp2, Blk w' x 126 (wkv F fb fd nid2 (rp2) 2 tl2) ∧ X w' nid2 rp2 ∧ Kept (fun i => i = x) W w') :
    Calls Tryz.prog 32 #[.pointer (some ⟨x, 0, none⟩), .pointer (some ⟨b, 0, none⟩)] w fun e w' => e = .returned (.bool true) ∧ Mem w' b g l k2 ∧ ∃ nid2 rp2, Blk w' x 126 (wkv F fb fd nid2 (rp2) 2 tl2) ∧ X w' nid2 rp2 ∧ ∃ Z', Con Z' w' 1 2 100 100 200 F 1000 10 fb fd q 186 nid y.s (rtl y) ∧ ¬ Z' x ∧ Kept (fun i => i = x ∨ Z i ∨ i = b ∨ i = g) w w' ∧ (∀ i, Z' i → Z i ∨ w.heap.size ≤ i) := by
  have HX := Lib.hid h
  have HS := Lib.hid hS
  have HT := Lib.hid hT
  clear h hS hT
  go_enter Tryz.func32, Tryz.ntmps32
  go_wp2_with fail
  refine (wstep_read F fb fd x 126 nid q b tl _ HX.out true (fun w' => Mem w' b g l k2 ∧ ∃ Z', Con Z' w' 1 2 100 100 200 F 1000 10 fb fd q 186 nid y.s (rtl y) ∧ Kept (fun i => Z i ∨ i = b ∨ i = g) w w' ∧ (∀ i, Z' i → Z i ∨ w.heap.size ≤ i)) HS.out).mono ?_; rintro e w1 ⟨rfl, hM1, Z1, hC1, hK1, hn1⟩
  have hX1 := hK1.blk HX.out (fun e => by rcases e with e | e | e; exact hZx e; exact hxb e; exact hxg e)
  have hxl := HX.out.lt
  have HZ1 := Lib.hid (show ¬ Z1 x from fun e => by rcases hn1 x e with h | h; exact hZx h; omega)
  have HM1 := Lib.hid hM1
  have HC1 := Lib.hid hC1
  have HN1 := Lib.hid hn1
  have HK1 := Lib.hid (hK1.mono (T := fun i => i = x ∨ Z i ∨ i = b ∨ i = g) (fun i e => .inr e))
  have HX1 := Lib.hid hX1
  clear hM1 hC1 hK1 hn1 hX1 hxl HX HS
  go_wp2_with fail
  refine (wpage_any Z1 F fb fd x 126 nid q 1 tl _ HX1.out y HC1.out hph h40).mono ?_; rintro e w2 ⟨A, c, rfl, hRs, hA, hK2⟩
  have HX2 := Lib.hid (hK2.blk HX1.out (fun h => h))
  have HM2 := Lib.hid (HM1.out.kept hK2 (fun h => h) (fun h => h))
  have HC2 := Lib.hid (HC1.out.kept hK2 (fun _ _ h => h))
  have HK2 := Lib.hid (HK1.out.trans hK2 (fun _ _ h => h.elim))
  have HRs := Lib.hid hRs
  clear hRs hA hK2 HX1 HM1 HC1 HK1
  go_wp2_with fail
  refine (HT.out w2 A c HK2.out.size HX2.out HRs.out).mono ?_; rintro e w3 ⟨rfl, nid2, rp2, hB3, hX3, hK3⟩
  have HB3 := Lib.hid hB3
  have HX3 := Lib.hid hX3
  have HM3 := Lib.hid (HM2.out.kept hK3 (fun e => hxb e.symm) (fun e => hxg e.symm))
  have HC3 := Lib.hid (HC2.out.kept hK3 (fun i hi e => HZ1.out (by subst e; exact hi)))
  have HK3 := Lib.hid (HK2.out.trans hK3 (fun _ _ h => .inl h))
  clear hB3 hX3 hK3 HX2 HM2 HC2 HK2 HT HRs
  go_wp2_with fail
  refine (ended_2 F fb fd x 126 nid2 rp2 tl2 _ HB3.out).mono ?_; rintro e w4 ⟨rfl, rfl⟩
  go_wp2
  go_ret
  exact ⟨rfl, HM3.out, nid2, rp2, HB3.out, HX3.out, Z1, HC3.out, HZ1.out, HK3.out, HN1.out⟩

set_option maxHeartbeats 2000000 in
theorem fs_turn3 (Z : Nat → Prop) (F : Nat) (fb fd : Int) (x nid q : Nat) (tl : List Value) (w : World) (h : Blk w x 126 (wkv F fb fd nid (.pointer (some ⟨q, 0, none⟩)) 1 tl)) (hZx : ¬ Z x) (b g k2 : Nat) (l : List Cel) (hxb : x ≠ b) (hxg : x ≠ g) (y : Rst) (hph : y.ph = 3) (h40 : y.s.xs.length ≤ 1099511627776) (hS : Calls Tryz.prog 116 #[.pointer (some ⟨q, 0, none⟩), .pointer (some ⟨b, 0, none⟩)] w fun e w' => e = .returned (.bool true) ∧ Mem w' b g l k2 ∧ ∃ Z', Con Z' w' 1 2 100 100 200 F 1000 10 fb fd q 186 nid y.s (rtl y) ∧ Kept (fun i => Z i ∨ i = b ∨ i = g) w w' ∧ (∀ i, Z' i → Z i ∨ w.heap.size ≤ i)) (tl2 : List Value) (X : World → Nat → Value → Prop)
    (hT : ∀ (W : World) (A : Option Addr) (c : Nat), w.heap.size ≤ W.heap.size → Blk W x 126 (wkv F fb fd nid (.pointer (some ⟨q, 0, none⟩)) 1 tl) → Rs W A c y.s.xs → Calls Tryz.prog 75 #[.pointer (some ⟨x, 0, none⟩), .agg #[.int .i64 (y.s.lv : Int), .slice A y.s.xs.length c, .string y.s.hi, .bool y.s.la, .int .u64 (y.s.rt : Int)]] W fun e w' => e = .returned (.tuple #[]) ∧ ∃ nid2 rp2, Blk w' x 126 (wkv F fb fd nid2 (rp2) 3 tl2) ∧ X w' nid2 rp2 ∧ Kept (fun i => i = x) W w') :
    Calls Tryz.prog 32 #[.pointer (some ⟨x, 0, none⟩), .pointer (some ⟨b, 0, none⟩)] w fun e w' => e = .returned (.bool true) ∧ Mem w' b g l k2 ∧ ∃ nid2 rp2, Blk w' x 126 (wkv F fb fd nid2 (rp2) 3 tl2) ∧ X w' nid2 rp2 ∧ ∃ Z', Con Z' w' 1 2 100 100 200 F 1000 10 fb fd q 186 nid y.s (rtl y) ∧ ¬ Z' x ∧ Kept (fun i => i = x ∨ Z i ∨ i = b ∨ i = g) w w' ∧ (∀ i, Z' i → Z i ∨ w.heap.size ≤ i) := by
  have HX := Lib.hid h
  have HS := Lib.hid hS
  have HT := Lib.hid hT
  clear h hS hT
  go_enter Tryz.func32, Tryz.ntmps32
  go_wp2_with fail
  refine (wstep_read F fb fd x 126 nid q b tl _ HX.out true (fun w' => Mem w' b g l k2 ∧ ∃ Z', Con Z' w' 1 2 100 100 200 F 1000 10 fb fd q 186 nid y.s (rtl y) ∧ Kept (fun i => Z i ∨ i = b ∨ i = g) w w' ∧ (∀ i, Z' i → Z i ∨ w.heap.size ≤ i)) HS.out).mono ?_; rintro e w1 ⟨rfl, hM1, Z1, hC1, hK1, hn1⟩
  have hX1 := hK1.blk HX.out (fun e => by rcases e with e | e | e; exact hZx e; exact hxb e; exact hxg e)
  have hxl := HX.out.lt
  have HZ1 := Lib.hid (show ¬ Z1 x from fun e => by rcases hn1 x e with h | h; exact hZx h; omega)
  have HM1 := Lib.hid hM1
  have HC1 := Lib.hid hC1
  have HN1 := Lib.hid hn1
  have HK1 := Lib.hid (hK1.mono (T := fun i => i = x ∨ Z i ∨ i = b ∨ i = g) (fun i e => .inr e))
  have HX1 := Lib.hid hX1
  clear hM1 hC1 hK1 hn1 hX1 hxl HX HS
  go_wp2_with fail
  refine (wpage_any Z1 F fb fd x 126 nid q 1 tl _ HX1.out y HC1.out hph h40).mono ?_; rintro e w2 ⟨A, c, rfl, hRs, hA, hK2⟩
  have HX2 := Lib.hid (hK2.blk HX1.out (fun h => h))
  have HM2 := Lib.hid (HM1.out.kept hK2 (fun h => h) (fun h => h))
  have HC2 := Lib.hid (HC1.out.kept hK2 (fun _ _ h => h))
  have HK2 := Lib.hid (HK1.out.trans hK2 (fun _ _ h => h.elim))
  have HRs := Lib.hid hRs
  clear hRs hA hK2 HX1 HM1 HC1 HK1
  go_wp2_with fail
  refine (HT.out w2 A c HK2.out.size HX2.out HRs.out).mono ?_; rintro e w3 ⟨rfl, nid2, rp2, hB3, hX3, hK3⟩
  have HB3 := Lib.hid hB3
  have HX3 := Lib.hid hX3
  have HM3 := Lib.hid (HM2.out.kept hK3 (fun e => hxb e.symm) (fun e => hxg e.symm))
  have HC3 := Lib.hid (HC2.out.kept hK3 (fun i hi e => HZ1.out (by subst e; exact hi)))
  have HK3 := Lib.hid (HK2.out.trans hK3 (fun _ _ h => .inl h))
  clear hB3 hX3 hK3 HX2 HM2 HC2 HK2 HT HRs
  go_wp2_with fail
  refine (ended_3 F fb fd x 126 nid2 rp2 tl2 _ HB3.out).mono ?_; rintro e w4 ⟨rfl, rfl⟩
  go_wp2
  go_ret
  exact ⟨rfl, HM3.out, nid2, rp2, HB3.out, HX3.out, Z1, HC3.out, HZ1.out, HK3.out, HN1.out⟩
end

section
open Go.RowKit Go.Deep Plain
set_option linter.unusedVariables false

/-- What lies behind a Find's walk, and a Below's. -/
def tlF (key : ByteArray) (lvl : Nat) : ByteArray → List Value := fun _ => [.string key, .int .i64 (lvl : Int)]
def tlB (key : ByteArray) (last : Bool) : ByteArray → List Value := fun lo => [.string key, .bool last, .string lo]
/-- What a Find, and a Below, does with a page. -/
def nxF (key : ByteArray) (lvl : Nat) (P : Pg) : Nat × Nat × ByteArray :=
  if P.lv < lvl then (3, 0, ⟨#[]⟩) else if (P.la || ltB key.toList P.hi.toList) = false then (1, P.rt, ⟨#[]⟩) else if lvl < P.lv then (1, (near (before P.xs (if has key P.xs = true then cnt key P.xs + 1 else cnt key P.xs))).2.1, ⟨#[]⟩) else (2, 0, ⟨#[]⟩)
def nxB (key : ByteArray) (last : Bool) (P : Pg) : Nat × Nat × ByteArray :=
  if (!P.la && (last || ltB P.hi.toList key.toList)) = true then (1, P.rt, P.hi) else if 0 < P.lv then (1, (near (before P.xs (if last = true then P.xs.length else cnt key P.xs))).2.1, (near (before P.xs (if last = true then P.xs.length else cnt key P.xs))).1) else (2, 0, ⟨#[]⟩)
theorem nxF_2 {key : ByteArray} {lvl : Nat} {P : Pg} (h : (nxF key lvl P).1 = 2) : lvl = P.lv ∧ (P.la || ltB key.toList P.hi.toList) = true := by
  unfold nxF at h; split at h
  · exact absurd h (by simp)
  · split at h
    · exact absurd h (by simp)
    · split at h
      · exact absurd h (by simp)
      · rename_i h1 h2 h3; exact ⟨by omega, by simpa only [Bool.not_eq_false] using h2⟩
theorem nxF_3 {key : ByteArray} {lvl : Nat} {P : Pg} (h : (nxF key lvl P).1 = 3) : P.lv < lvl := by
  unfold nxF at h; split at h
  · assumption
  · split at h
    · exact absurd h (by simp)
    · split at h <;> exact absurd h (by simp)
theorem nxF_1 {key : ByteArray} {lvl m : Nat} {lo : ByteArray} {P : Pg} (h : nxF key lvl P = (1, m, lo)) : lvl ≤ P.lv ∧ (((P.la || ltB key.toList P.hi.toList) = false ∧ P.rt = m) ∨ ((P.la || ltB key.toList P.hi.toList) = true ∧ lvl < P.lv ∧ (near (before P.xs (if has key P.xs = true then cnt key P.xs + 1 else cnt key P.xs))).2.1 = m)) := by
  unfold nxF at h; split at h
  · cases h
  · rename_i h1; refine ⟨by omega, ?_⟩
    split at h
    · rename_i h2; exact .inl ⟨h2, by injection h with _ h; injection h⟩
    · rename_i h2; split at h
      · rename_i h3; exact .inr ⟨by simpa only [Bool.not_eq_false] using h2, h3, by injection h with _ h; injection h⟩
      · cases h
theorem nxB_2 {key : ByteArray} {last : Bool} {P : Pg} (h : (nxB key last P).1 = 2) : P.lv = 0 ∧ (!P.la && (last || ltB P.hi.toList key.toList)) = false := by
  unfold nxB at h; split at h
  · exact absurd h (by simp)
  · split at h
    · exact absurd h (by simp)
    · rename_i h1 h2; exact ⟨by omega, by simpa only [Bool.not_eq_true] using h1⟩
theorem nxB_3 {key : ByteArray} {last : Bool} {P : Pg} (h : (nxB key last P).1 = 3) : False := by
  unfold nxB at h; split at h
  · exact absurd h (by simp)
  · split at h <;> exact absurd h (by simp)
theorem nxB_1 {key : ByteArray} {last : Bool} {m : Nat} {lo : ByteArray} {P : Pg} (h : nxB key last P = (1, m, lo)) : ((!P.la && (last || ltB P.hi.toList key.toList)) = true ∧ P.rt = m ∧ P.hi = lo) ∨ ((!P.la && (last || ltB P.hi.toList key.toList)) = false ∧ 0 < P.lv ∧ (near (before P.xs (if last = true then P.xs.length else cnt key P.xs))).2.1 = m ∧ (near (before P.xs (if last = true then P.xs.length else cnt key P.xs))).1 = lo) := by
  unfold nxB at h; split at h
  · rename_i h2; injection h with _ h; injection h with h h'; exact .inl ⟨h2, h, h'⟩
  · rename_i h2; split at h
    · rename_i h3; injection h with _ h; injection h with h h'; exact .inr ⟨by simpa only [Bool.not_eq_true] using h2, h3, h, h'⟩
    · cases h
theorem find_step (F : Nat) (h4 : 4 ≤ F) (h6 : F ≤ 6) (fb fd : Int) (hd : Reach3 10 fb fd) (Z : Nat → Prop) (x : Nat) (key : ByteArray) (lvl : Nat) (d t : Nat) (lo : ByteArray) (w : World) (b g : Nat) (l : List Cel) (k : Nat) (hm : Mem w b g l k) (hk : k < 9223372036854775808) (hb : ¬ Z b) (hg : ¬ Z g) (hxb : x ≠ b) (hxg : x ≠ g) (hn : Nats l) (h : WAt Z w F fb fd x 126 (tlF key lvl) (nxF key lvl) l (d + 1) t lo) :
    Calls Tryz.prog 32 #[.pointer (some ⟨x, 0, none⟩), .pointer (some ⟨b, 0, none⟩)] w fun e w' => e = .returned (.bool (d == 0)) ∧ Mem w' b g l (k + 1) ∧ ∃ Z', WAt Z' w' F fb fd x 126 (tlF key lvl) (nxF key lvl) l d t lo ∧ Kept (fun i => i = x ∨ Z i ∨ i = b ∨ i = g) w w' ∧ (∀ i, Z' i → Z i ∨ w.heap.size ≤ i) := by
  generalize hD : d + 1 = D at h
  cases h with
  | fail h => omega
  | done hp hy hs h => omega
  | start hB hc p =>
    rename_i n P lo1 d0 nid rp M K
    have hl := p.len
    obtain rfl : d = d0 := by omega
    have hx0 := hB.lt
    refine (fs_root F h4 h6 fb fd hd x nid rp _ w hB b g l k hm hk hxb hxg n p.nd.ne M K hc).mono ?_
    rintro e w' ⟨q, rfl, hM, hB, hC, hq, hK⟩
    refine ⟨by rw [show (d == 0) = false from by simp; omega], hM, fun i => i = q, ?_, hK.mono (fun i h => by rcases h with h | h | h; exact .inl h; exact .inr (.inr (.inl h)); exact .inr (.inr (.inr h))), fun i hi => .inr (by omega)⟩
    have := WAt.read (Z := fun i => i = q) (w := w') (F := F) (fb := fb) (fd := fd) (x := x) (ty := 126) (tlf := (tlF key lvl)) (nx := (nxF key lvl)) (j := 0) p (by omega) ⟨q, hB, hC, fun e => by have := hx0; omega⟩
    exact this
  | read p hj hW =>
    rename_i n P lo1 D0 j
    have hlen := p.len
    have hnd := p.nd
    obtain ⟨q, h1, h2, h3⟩ := hW
    have hxl := h1.lt
    have hmid := hnd.mid hn hj
    have HS := fun r hr => rstep_go Z F h4 h6 fb fd hd q n (ralone F n l j) (ralone F n l (j + 1)) w h2 (ralone_ok hn j) b g l k (k + 1) hm hb hg hk hn rfl (if_pos hmid) r hr
    by_cases hl : j + 1 < P.xs.length + 5
    · have hm2 := hnd.mid hn hl
      have HS1 := HS false (by simp; omega)
      refine (fs_go Z F fb fd x n q _ w h1 h3 b g (k + 1) l hxb hxg _ HS1).mono ?_
      rintro e w' ⟨rfl, hM, Z', hW', hK, hN⟩
      refine ⟨by rw [show (d == 0) = false from by simp; omega], hM, Z', ?_, hK, hN⟩
      have := WAt.read (Z := Z') (tlf := (tlF key lvl)) p hl hW'
      rwa [show D0 - (j + 1) = d by omega] at this
    · have hj1 : j + 1 = P.xs.length + 5 := by omega
      obtain ⟨hy3, hpg⟩ := hnd.fin hn
      rw [← hj1] at hy3 hpg
      have HS1 := HS true (by simp [hy3])
      clear HS
      have hlF := hnd.len
      have hasc := hnd.asc
      generalize ralone F n l (j + 1) = y at hy3 hpg HS1
      subst hpg
      have h40 : y.s.xs.length ≤ 1099511627776 := Nat.le_trans hlF (by omega)
      have hj2 : j + 1 = y.s.xs.length + 5 := hj1
      have hl3 : y.s.pg.xs.length = y.s.xs.length := rfl
      rcases p.inv with ⟨hD0, rfl, rfl, e⟩ | ⟨hD0, rfl, rfl, e⟩ | ⟨P2, lo2, m, d2, hD0, e, p2⟩
      · obtain ⟨heq, hwi⟩ := nxF_2 e
        refine (fs_turn2 Z F fb fd x t q (tlF key lvl lo) w h1 h3 b g (k + 1) l hxb hxg y hy3 h40 HS1 (tlF key lvl lo) (fun w' nid2 rp2 => nid2 = t ∧ rp2 = .pointer (some ⟨q, 0, none⟩)) (fun W A c hs hB hR => (fturn_here F h4 h6 fb fd hd x t _ 1 key lvl W hB y.s.lv A c y.s.hi y.s.la y.s.rt y.s.xs _ rfl h40 hR hasc heq hwi).mono (fun e w' ⟨he, hB, hK⟩ => ⟨he, _, _, hB, ⟨rfl, rfl⟩, hK⟩))).mono ?_
        rintro e w' ⟨rfl, hM, nid2, rp2, hB, ⟨rfl, rfl⟩, Z', hC, hZx, hK, hN⟩
        obtain rfl : d = 0 := by omega
        exact ⟨rfl, hM, Z', .done hnd hy3 rfl ⟨q, hB, hC, hZx⟩, hK, hN⟩
      · have hlt := nxF_3 e
        refine (fs_turn3 Z F fb fd x n q (tlF key lvl lo) w h1 h3 b g (k + 1) l hxb hxg y hy3 h40 HS1 (tlF key lvl lo) (fun w' nid2 rp2 => True) (fun W A c hs hB hR => (fturn_low F h4 h6 fb fd hd x n _ 1 key lvl W hB y.s.lv A c y.s.hi y.s.la y.s.rt y.s.xs _ rfl h40 hR hasc hlt).mono (fun e w' ⟨he, hB, hK⟩ => ⟨he, _, _, hB, trivial, hK⟩))).mono ?_
        rintro e w' ⟨rfl, hM, nid2, rp2, hB, -, Z', hC, hZx, hK, hN⟩
        obtain rfl : d = 0 := by omega
        exact ⟨rfl, hM, Z', .fail hB, hK, hN⟩
      · have hl2 := p2.len
        obtain rfl : d = d2 := by omega
        obtain ⟨hle, hor⟩ := nxF_1 e
        have hm0 := p2.nd.ne
        have HT : ∀ (W : World) (A : Option Addr) (c : Nat), w.heap.size ≤ W.heap.size → Blk W x 126 (wkv F fb fd n (.pointer (some ⟨q, 0, none⟩)) 1 (tlF key lvl lo1)) → Rs W A c y.s.xs → Calls Tryz.prog 75 #[.pointer (some ⟨x, 0, none⟩), .agg #[.int .i64 (y.s.lv : Int), .slice A y.s.xs.length c, .string y.s.hi, .bool y.s.la, .int .u64 (y.s.rt : Int)]] W fun e w' => e = .returned (.tuple #[]) ∧ ∃ nid2 rp2, Blk w' x 126 (wkv F fb fd nid2 rp2 1 (tlF key lvl lo2)) ∧ (fun w' nid2 rp2 => nid2 = m ∧ ∃ q2, rp2 = .pointer (some ⟨q2, 0, none⟩) ∧ Con (fun i => i = q2) w' 1 2 100 100 200 F 1000 10 fb fd q2 186 m cs0 [.int .u64 0, .int .i64 0] ∧ w.heap.size ≤ q2) w' nid2 rp2 ∧ Kept (fun i => i = x) W w' := by
          intro W A c hs hB hR
          rcases hor with ⟨hwi, rfl⟩ | ⟨hwi, hlt, rfl⟩
          · refine (fturn_right F h4 h6 fb fd hd x n _ 1 key lvl W hB y.s.lv A c y.s.hi y.s.la y.s.rt y.s.xs _ rfl h40 hR hasc hle hwi hm0).mono ?_
            rintro e w' ⟨q2, he, hB, hC, hq, hK⟩
            exact ⟨he, _, _, hB, ⟨rfl, q2, rfl, hC, Nat.le_trans hs hq⟩, hK⟩
          · refine (fturn_down F h4 h6 fb fd hd x n _ 1 key lvl W hB y.s.lv A c y.s.hi y.s.la y.s.rt y.s.xs _ rfl h40 hR hasc hlt hwi _ _ _ rfl hm0).mono ?_
            rintro e w' ⟨q2, he, hB, hC, hq, hK⟩
            exact ⟨he, _, _, hB, ⟨rfl, q2, rfl, hC, Nat.le_trans hs hq⟩, hK⟩
        refine (fs_turn1 Z F fb fd x n q (tlF key lvl lo1) w h1 h3 b g (k + 1) l hxb hxg y hy3 h40 HS1 (tlF key lvl lo2) (fun w' nid2 rp2 => nid2 = m ∧ ∃ q2, rp2 = .pointer (some ⟨q2, 0, none⟩) ∧ Con (fun i => i = q2) w' 1 2 100 100 200 F 1000 10 fb fd q2 186 m cs0 [.int .u64 0, .int .i64 0] ∧ w.heap.size ≤ q2) HT).mono ?_
        rintro e w' ⟨rfl, hM, nid2, rp2, hB, ⟨rfl, q2, rfl, hC2, hq2⟩, Z', hC, hZx, hK, hN⟩
        refine ⟨by rw [show (d == 0) = false from by simp; omega], hM, fun i => i = q2, ?_, hK, fun i hi => .inr (by omega)⟩
        exact WAt.read (Z := fun i => i = q2) (w := w') (F := F) (fb := fb) (fd := fd) (x := x) (ty := 126) (tlf := (tlF key lvl)) (nx := (nxF key lvl)) (j := 0) p2 (by omega) ⟨q2, hB, hC2, fun e => by omega⟩

set_option maxHeartbeats 1000000 in
theorem newFind_any (F : Nat) (fb fd : Int) (key : ByteArray) (lvl : Nat) (w : World) :
    Calls Tryz.prog 30 #[.agg #[.int .i64 1, .int .i64 2, .int .i64 100, .int .i64 100, .int .i64 200, .int .i64 (F : Int), .int .u64 1000, .int .i64 10, .int .i64 fb, .int .i64 fd], .string key, .int .i64 (lvl : Int)] w fun e w' => ∃ x, e = .returned (.pointer (some ⟨x, 0, none⟩)) ∧ w.heap.size ≤ x ∧ Blk w' x 126 (wkv F fb fd 0 (.pointer none) 0 (tlF key lvl ⟨#[]⟩)) ∧ Kept (fun _ => False) w w' := by
  go_enter Tryz.func30, Tryz.ntmps30
  go_wp2
  go_ret
  have h := Blk.new (w.alloc (.cells #[.int .i64 1, .int .i64 2, .int .i64 100, .int .i64 100, .int .i64 200, .int .i64 (F : Int), .int .u64 1000, .int .i64 10, .int .i64 fb, .int .i64 fd] 29)) (wkv F fb fd 0 (.pointer none) 0 (tlF key lvl ⟨#[]⟩)) 126
  rw [nblk_alloc] at h
  exact ⟨_, rfl, Nat.le_succ _, h, ((Kept.refl _ _).alloc _).alloc _⟩
end

section
open Go.RowKit Go.Deep Plain
set_option linter.unusedVariables false

set_option maxHeartbeats 2000000 in
theorem fnode_got (Z : Nat → Prop) (F : Nat) (fb fd : Int) (x nid q : Nat) (tl : List Value) (w : World) (h : Blk w x 126 (wkv F fb fd nid (.pointer (some ⟨q, 0, none⟩)) 2 tl)) (y : Rst) (hr : Con Z w 1 2 100 100 200 F 1000 10 fb fd q 186 nid y.s (rtl y)) (hph : y.ph = 3) (h40 : y.s.xs.length ≤ 1099511627776) :
    Calls Tryz.prog 33 #[.pointer (some ⟨x, 0, none⟩)] w fun e w' => ∃ A c, e = .returned (.tuple #[.int .u64 (nid : Int), .agg #[.int .i64 (y.s.lv : Int), .slice A y.s.xs.length c, .string y.s.hi, .bool y.s.la, .int .u64 (y.s.rt : Int)]]) ∧ Rs w' A c y.s.xs ∧ (∀ a, A = some a → w.heap.size ≤ a.block) ∧ Kept (fun _ => False) w w' := by
  have hxl := h.lt
  have HX := Lib.hid h
  have HR := Lib.hid hr
  clear h hr
  go_enter Tryz.func33, Tryz.ntmps33
  go_wp2_with fail
  have hal := (Kept.refl (fun _ => False) w).alloc (.cells #[.int .i64 0, .slice none 0 0, .string ⟨#[]⟩, .bool false, .int .u64 0] 40)
  have HK1 := Lib.hid hal
  have HNB := Lib.hid (Blk.new w [.int .i64 0, .slice none 0 0, .string ⟨#[]⟩, .bool false, .int .u64 0] 40)
  replace HX := Lib.hid (hal.blk HX.out (fun h => h))
  replace HR := Lib.hid (HR.out.kept hal (fun _ _ h => h))
  have hsz : w.heap.size < (w.alloc (.cells #[.int .i64 0, .slice none 0 0, .string ⟨#[]⟩, .bool false, .int .u64 0] 40)).heap.size := by rw [nblk_alloc]; omega
  clear hal
  generalize hr0 : w.heap.size = r0 at *
  have HR0 := Lib.hid hr0
  clear hr0
  generalize w.alloc (.cells #[.int .i64 0, .slice none 0 0, .string ⟨#[]⟩, .bool false, .int .u64 0] 40) = W at *
  refine (wnode_got Z F fb fd x 126 nid q tl W HX.out y HR.out hph h40).mono ?_; rintro e w2 ⟨A, c, rfl, hRs, hA, hK2⟩
  have hb2 := hK2.blk HNB.out (fun h => h)
  have x0 := hb2.cell (i := 0) rfl
  have x1 := hb2.cell (i := 1) rfl
  have x2 := hb2.cell (i := 2) rfl
  have x3 := hb2.cell (i := 3) rfl
  have x4 := hb2.cell (i := 4) rfl
  have z0 := hb2.frozen 0
  have z1 := hb2.frozen 1
  have z2 := hb2.frozen 2
  have z3 := hb2.frozen 3
  have z4 := hb2.frozen 4
  have hK5 := (((((Kept.refl (fun i => i = r0) w2).setCell (a := ⟨r0, 0, none⟩) (fun _ => rfl) (.int .i64 (y.s.lv : Int))).setCell (a := ⟨r0, 1, none⟩) (fun _ => rfl) (.slice A y.s.xs.length c)).setCell (a := ⟨r0, 2, none⟩) (fun _ => rfl) (.string y.s.hi)).setCell (a := ⟨r0, 3, none⟩) (fun _ => rfl) (.bool y.s.la)).setCell (a := ⟨r0, 4, none⟩) (fun _ => rfl) (.int .u64 (y.s.rt : Int))
  have HNc := Lib.hid ((((((hb2).set 0 (.int .i64 (y.s.lv : Int))).set 1 (.slice A y.s.xs.length c)).set 2 (.string y.s.hi)).set 3 (.bool y.s.la)).set 4 (.int .u64 (y.s.rt : Int)))
  have HRs := Lib.hid (hRs.keptF hK5 (fun a ha e => by have := hA a ha; omega))
  have HKc := Lib.hid ((hK2.mono (T := fun i => i = r0) (fun _ h => h.elim)).trans hK5 (fun _ _ h => h))
  have HA := Lib.hid (show ∀ a, A = some a → r0 ≤ a.block from fun a ha => by have := hA a ha; omega)
  clear hb2 hK5 hRs hA hK2 HNB HR
  go_wp2
  have q0 := HNc.out.cell (i := 0) rfl
  have q1 := HNc.out.cell (i := 1) rfl
  have q2 := HNc.out.cell (i := 2) rfl
  have q3 := HNc.out.cell (i := 3) rfl
  have q4 := HNc.out.cell (i := 4) rfl
  refine bodyPost_ret (v := .tuple #[.int .u64 (nid : Int), .agg #[.int .i64 (y.s.lv : Int), .slice A y.s.xs.length c, .string y.s.hi, .bool y.s.la, .int .u64 (y.s.rt : Int)]]) ?_ rfl ?_
  · simp [results, Tryz.results33, go_sem, q0, q1, q2, q3, q4]
  refine ⟨A, c, rfl, HRs.out, fun a ha => by have := HA.out a ha; have := HR0.out; omega, ?_⟩
  have hKK := (HK1.out.mono (T := fun i => i = r0) (fun _ h => h.elim)).trans HKc.out (fun _ _ h => h)
  exact ⟨hKK.os, hKK.tape, hKK.output, hKK.size, fun i hi _ => hKK.block i hi (fun e => by have := HR0.out; omega)⟩

set_option maxHeartbeats 2000000 in
theorem fnode_failed (F : Nat) (fb fd : Int) (x nid : Nat) (rp : Value) (tl : List Value) (w : World) (h : Blk w x 126 (wkv F fb fd nid (rp) 3 tl)) :
    Calls Tryz.prog 33 #[.pointer (some ⟨x, 0, none⟩)] w fun e w' => e = .returned (.tuple #[.int .u64 0, .agg #[.int .i64 0, .slice none 0 0, .string ⟨#[]⟩, .bool false, .int .u64 0]]) ∧ Kept (fun _ => False) w w' := by
  have HX := Lib.hid h
  clear h
  go_enter Tryz.func33, Tryz.ntmps33
  go_wp2_with fail
  have hal := (Kept.refl (fun _ => False) w).alloc (.cells #[.int .i64 0, .slice none 0 0, .string ⟨#[]⟩, .bool false, .int .u64 0] 40)
  have HK1 := Lib.hid hal
  have HNB := Lib.hid (Blk.new w [.int .i64 0, .slice none 0 0, .string ⟨#[]⟩, .bool false, .int .u64 0] 40)
  replace HX := Lib.hid (hal.blk HX.out (fun h => h))
  clear hal
  generalize hr0 : w.heap.size = r0 at *
  have HR0 := Lib.hid hr0
  clear hr0
  generalize w.alloc (.cells #[.int .i64 0, .slice none 0 0, .string ⟨#[]⟩, .bool false, .int .u64 0] 40) = W at *
  refine (wnode_failed F fb fd x 126 nid rp tl W HX.out).mono ?_; rintro e w2 ⟨rfl, hK2⟩
  have hb2 := hK2.blk HNB.out (fun h => h)
  have x0 := hb2.cell (i := 0) rfl
  have x1 := hb2.cell (i := 1) rfl
  have x2 := hb2.cell (i := 2) rfl
  have x3 := hb2.cell (i := 3) rfl
  have x4 := hb2.cell (i := 4) rfl
  have z0 := hb2.frozen 0
  have z1 := hb2.frozen 1
  have z2 := hb2.frozen 2
  have z3 := hb2.frozen 3
  have z4 := hb2.frozen 4
  have hK5 := (((((Kept.refl (fun i => i = r0) w2).setCell (a := ⟨r0, 0, none⟩) (fun _ => rfl) (.int .i64 0)).setCell (a := ⟨r0, 1, none⟩) (fun _ => rfl) (.slice none 0 0)).setCell (a := ⟨r0, 2, none⟩) (fun _ => rfl) (.string ⟨#[]⟩)).setCell (a := ⟨r0, 3, none⟩) (fun _ => rfl) (.bool false)).setCell (a := ⟨r0, 4, none⟩) (fun _ => rfl) (.int .u64 0)
  have HNc := Lib.hid ((((((hb2).set 0 (.int .i64 0)).set 1 (.slice none 0 0)).set 2 (.string ⟨#[]⟩)).set 3 (.bool false)).set 4 (.int .u64 0))
  have HKc := Lib.hid ((hK2.mono (T := fun i => i = r0) (fun _ h => h.elim)).trans hK5 (fun _ _ h => h))
  clear hb2 hK5 hK2 HNB
  go_wp2
  have q0 := HNc.out.cell (i := 0) rfl
  have q1 := HNc.out.cell (i := 1) rfl
  have q2 := HNc.out.cell (i := 2) rfl
  have q3 := HNc.out.cell (i := 3) rfl
  have q4 := HNc.out.cell (i := 4) rfl
  refine bodyPost_ret (v := .tuple #[.int .u64 0, .agg #[.int .i64 0, .slice none 0 0, .string ⟨#[]⟩, .bool false, .int .u64 0]]) ?_ rfl ⟨rfl, ?_⟩
  · simp [results, Tryz.results33, go_sem, q0, q1, q2, q3, q4]
  have hKK := (HK1.out.mono (T := fun i => i = r0) (fun _ h => h.elim)).trans HKc.out (fun _ _ h => h)
  exact ⟨hKK.os, hKK.tape, hKK.output, hKK.size, fun i hi _ => hKK.block i hi (fun e => by have := HR0.out; omega)⟩
end
end Go.Proofs.YtkpbbnpfdighjaaGreat
