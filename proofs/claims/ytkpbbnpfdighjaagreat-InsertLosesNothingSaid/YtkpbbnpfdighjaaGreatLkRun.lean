/-
  A Find and a Lock as plain states: their steps in whatever memory. Condition: the kit's small configurations; fewer than 2^63 accesses so far.
-/
import Derived.Test.YtkpbbnpfdighjaaGreatLkLock
namespace Go.Proofs.YtkpbbnpfdighjaaGreat
open Go.RowKit Go.Deep Plain
set_option linter.unusedVariables false

/-- A Find's state: it loads the root's number; it reads a node; it has arrived; it has failed. -/
inductive Fs
  | root
  | rd (n : Nat) (y : Rst)
  | arr (n : Nat) (y : Rst)
  | no
def Fs.fin : Fs → Bool
  | .arr _ _ => true
  | .no => true
  | _ => false
/-- What it does behind a step of its Read. -/
def fdo (key : ByteArray) (lvl n : Nat) (y : Rst) : Fs :=
  if y.ph = 3 then (if (nxF key lvl y.s.pg).1 = 1 then .rd (nxF key lvl y.s.pg).2.1 rst0 else if (nxF key lvl y.s.pg).1 = 2 then .arr n y else .no) else .rd n y
/-- A step in a memory. -/
def fgo (F : Nat) (key : ByteArray) (lvl : Nat) (l : List Cel) : Fs → Fs
  | .root => .rd (cellAt l 0).1.toNat rst0
  | .rd n y => fdo key lvl n (rgo F n l y)
  | s => s
/-- When it may make a step: pages that it gets have ascending keys, and lead to nodes. -/
def Fok (F : Nat) (key : ByteArray) (lvl : Nat) (l : List Cel) : Fs → Prop
  | .root => (cellAt l 0).1.toNat ≠ 0
  | .rd n y => Okr F y ∧ y.ph < 3 ∧ ((rgo F n l y).ph = 3 → Asc (rgo F n l y).s.xs ∧ ((nxF key lvl (rgo F n l y).s.pg).1 = 1 → (nxF key lvl (rgo F n l y).s.pg).2.1 ≠ 0))
  | _ => False
/-- A Find in this state. -/
inductive FAt (Z : Nat → Prop) (w : World) (F : Nat) (fb fd : Int) (x : Nat) (key : ByteArray) (lvl : Nat) : Fs → Prop
  | root {nid : Nat} {rp : Value} (hz : ∀ i, Z i → i < w.heap.size) (hx : ¬ Z x) (h : Blk w x 126 (wkv F fb fd nid rp 0 (tlF key lvl ⟨#[]⟩))) : FAt Z w F fb fd x key lvl .root
  | rd {n : Nat} {y : Rst} (h : Wkr Z w F fb fd x 126 (tlF key lvl ⟨#[]⟩) n 1 y) : FAt Z w F fb fd x key lvl (.rd n y)
  | arr {n : Nat} {y : Rst} (hy : y.ph = 3) (h : Wkr Z w F fb fd x 126 (tlF key lvl ⟨#[]⟩) n 2 y) (hok : Okr F y) : FAt Z w F fb fd x key lvl (.arr n y)
  | no {nid : Nat} {rp : Value} (hz : ∀ i, Z i → i < w.heap.size) (hx : ¬ Z x) (h : Blk w x 126 (wkv F fb fd nid rp 3 (tlF key lvl ⟨#[]⟩))) : FAt Z w F fb fd x key lvl .no
theorem FAt.lt {Z : Nat → Prop} {w : World} {F : Nat} {fb fd : Int} {x : Nat} {key : ByteArray} {lvl : Nat} {s : Fs} (h : FAt Z w F fb fd x key lvl s) : ∀ i, Z i → i < w.heap.size := by
  cases h with
  | root hz _ _ => exact hz
  | rd h => obtain ⟨q, _, h2, _⟩ := h; exact h2.lt
  | arr _ h _ => obtain ⟨q, _, h2, _⟩ := h; exact h2.lt
  | no hz _ _ => exact hz
theorem FAt.out {Z : Nat → Prop} {w : World} {F : Nat} {fb fd : Int} {x : Nat} {key : ByteArray} {lvl : Nat} {s : Fs} (h : FAt Z w F fb fd x key lvl s) : ¬ Z x ∧ x < w.heap.size := by
  cases h with
  | root _ hx h => exact ⟨hx, h.lt⟩
  | rd h => obtain ⟨q, h1, _, h3⟩ := h; exact ⟨h3, h1.lt⟩
  | arr _ h _ => obtain ⟨q, h1, _, h3⟩ := h; exact ⟨h3, h1.lt⟩
  | no _ hx h => exact ⟨hx, h.lt⟩
theorem FAt.kept {Z Y : Nat → Prop} {w w' : World} {F : Nat} {fb fd : Int} {x : Nat} {key : ByteArray} {lvl : Nat} {s : Fs} (h : FAt Z w F fb fd x key lvl s) (hk : Kept Y w w') (hx : ¬ Y x) (hZ : ∀ i, Z i → ¬ Y i) : FAt Z w' F fb fd x key lvl s := by
  cases h with
  | root hz ho h => exact .root (fun i hi => Nat.lt_of_lt_of_le (hz i hi) hk.size) ho (hk.blk h hx)
  | rd h => obtain ⟨q, h1, h2, h3⟩ := h; exact .rd ⟨q, hk.blk h1 hx, h2.kept hk hZ, h3⟩
  | arr hy h ho => obtain ⟨q, h1, h2, h3⟩ := h; exact .arr hy ⟨q, hk.blk h1 hx, h2.kept hk hZ, h3⟩ ho
  | no hz ho h => exact .no (fun i hi => Nat.lt_of_lt_of_le (hz i hi) hk.size) ho (hk.blk h hx)
theorem Oks.len40 {F : Nat} {s : Cs} (h : Oks F s) (h6 : F ≤ 6) : s.xs.length ≤ 1099511627776 := by
  have := h.xs; have := h.lt; omega
theorem nxF_cases (key : ByteArray) (lvl : Nat) (P : Pg) : (nxF key lvl P).1 = 1 ∨ (nxF key lvl P).1 = 2 ∨ (nxF key lvl P).1 = 3 := by
  unfold nxF; split
  · exact .inr (.inr rfl)
  · split
    · exact .inl rfl
    · split
      · exact .inl rfl
      · exact .inr (.inl rfl)
/-- A Find's step in whatever memory. -/
theorem find_go (F : Nat) (h4 : 4 ≤ F) (h6 : F ≤ 6) (fb fd : Int) (hd : Reach3 10 fb fd) (Z : Nat → Prop) (x : Nat) (key : ByteArray) (lvl : Nat) (s : Fs) (w : World) (b g : Nat) (l : List Cel) (k : Nat) (hm : Mem w b g l k) (hk : k < 9223372036854775808) (hb : ¬ Z b) (hg : ¬ Z g) (hxb : x ≠ b) (hxg : x ≠ g) (hn : Nats l) (hok : Fok F key lvl l s) (h : FAt Z w F fb fd x key lvl s) :
    Calls Tryz.prog 32 #[.pointer (some ⟨x, 0, none⟩), .pointer (some ⟨b, 0, none⟩)] w fun e w' => e = .returned (.bool (fgo F key lvl l s).fin) ∧ Mem w' b g l (k + 1) ∧ ∃ Z', FAt Z' w' F fb fd x key lvl (fgo F key lvl l s) ∧ Kept (fun i => i = x ∨ Z i ∨ i = b ∨ i = g) w w' ∧ (∀ i, Z' i → Z i ∨ w.heap.size ≤ i) := by
  cases h with
  | no _ _ h => exact hok.elim
  | arr _ h _ => exact hok.elim
  | root hz ho hB =>
    rename_i nid rp
    have hx0 := hB.lt
    obtain ⟨N, M, K, hc, hN, hM⟩ := hn 0
    have e1 : (cellAt l 0).1.toNat = N := by rw [hc]; rfl
    have hN0 : N ≠ 0 := by have : (cellAt l 0).1.toNat ≠ 0 := hok; rwa [e1] at this
    refine (fs_root F h4 h6 fb fd hd x nid rp _ w hB b g l k hm hk hxb hxg N hN0 M K hc).mono ?_
    rintro e w' ⟨q, rfl, hM, hB, hC, hq, hK⟩
    have e2 : fgo F key lvl l .root = .rd N rst0 := by show Fs.rd _ _ = _; rw [e1]
    rw [e2]
    exact ⟨rfl, hM, fun i => i = q, .rd ⟨q, hB, hC, fun e => by omega⟩, hK.mono (fun i h => by rcases h with h | h | h; exact .inl h; exact .inr (.inr (.inl h)); exact .inr (.inr (.inr h))), fun i hi => .inr (by omega)⟩
  | rd hW =>
    rename_i n y0
    obtain ⟨ho, hp, hfin⟩ := hok
    obtain ⟨q, h1, h2, h3⟩ := hW
    have hxl := h1.lt
    have hok1 : Okr F (rgo F n l y0) := rgo_ok ho hn
    have HS := fun r hr => rstep_go Z F h4 h6 fb fd hd q n y0 (rgo F n l y0) w h2 ho b g l k (k + 1) hm hb hg hk hn rfl (if_pos hp) r hr
    have e0 : fgo F key lvl l (.rd n y0) = fdo key lvl n (rgo F n l y0) := rfl
    rw [e0]
    generalize rgo F n l y0 = y at *
    by_cases hy3 : y.ph = 3
    · have HS1 := HS true (by simp [hy3])
      clear HS
      have h40 := hok1.s.len40 h6
      obtain ⟨hasc, hne⟩ := hfin hy3
      have e1 : fdo key lvl n y = (if (nxF key lvl y.s.pg).1 = 1 then .rd (nxF key lvl y.s.pg).2.1 rst0 else if (nxF key lvl y.s.pg).1 = 2 then .arr n y else .no) := if_pos hy3
      rw [e1]
      rcases nxF_cases key lvl y.s.pg with hx | hx | hx
      · rw [if_pos hx]
        obtain ⟨m, hm0⟩ : ∃ m, (nxF key lvl y.s.pg).2.1 = m := ⟨_, rfl⟩
        obtain ⟨lo, hlo⟩ : ∃ lo, nxF key lvl y.s.pg = (1, m, lo) := ⟨(nxF key lvl y.s.pg).2.2, by rw [← hx, ← hm0]⟩
        obtain ⟨hle, hor⟩ := nxF_1 hlo
        have hmz : m ≠ 0 := by rw [← hm0]; exact hne hx
        rw [hm0]
        have HT : ∀ (W : World) (A : Option Addr) (c : Nat), w.heap.size ≤ W.heap.size → Blk W x 126 (wkv F fb fd n (.pointer (some ⟨q, 0, none⟩)) 1 (tlF key lvl ⟨#[]⟩)) → Rs W A c y.s.xs → Calls Tryz.prog 75 #[.pointer (some ⟨x, 0, none⟩), .agg #[.int .i64 (y.s.lv : Int), .slice A y.s.xs.length c, .string y.s.hi, .bool y.s.la, .int .u64 (y.s.rt : Int)]] W fun e w' => e = .returned (.tuple #[]) ∧ ∃ nid2 rp2, Blk w' x 126 (wkv F fb fd nid2 rp2 1 (tlF key lvl ⟨#[]⟩)) ∧ (fun w' nid2 rp2 => nid2 = m ∧ ∃ q2, rp2 = .pointer (some ⟨q2, 0, none⟩) ∧ Con (fun i => i = q2) w' 1 2 100 100 200 F 1000 10 fb fd q2 186 m cs0 [.int .u64 0, .int .i64 0] ∧ w.heap.size ≤ q2) w' nid2 rp2 ∧ Kept (fun i => i = x) W w' := by
          intro W A c hs hB hR
          rcases hor with ⟨hwi, rfl⟩ | ⟨hwi, hlt, rfl⟩
          · refine (fturn_right F h4 h6 fb fd hd x n _ 1 key lvl W hB y.s.lv A c y.s.hi y.s.la y.s.rt y.s.xs _ rfl h40 hR hasc hle hwi hmz).mono ?_
            rintro e w' ⟨q2, he, hB, hC, hq, hK⟩
            exact ⟨he, _, _, hB, ⟨rfl, q2, rfl, hC, Nat.le_trans hs hq⟩, hK⟩
          · refine (fturn_down F h4 h6 fb fd hd x n _ 1 key lvl W hB y.s.lv A c y.s.hi y.s.la y.s.rt y.s.xs _ rfl h40 hR hasc hlt hwi _ _ _ rfl hmz).mono ?_
            rintro e w' ⟨q2, he, hB, hC, hq, hK⟩
            exact ⟨he, _, _, hB, ⟨rfl, q2, rfl, hC, Nat.le_trans hs hq⟩, hK⟩
        refine (fs_turn1 Z F fb fd x n q (tlF key lvl ⟨#[]⟩) w h1 h3 b g (k + 1) l hxb hxg y hy3 h40 HS1 (tlF key lvl ⟨#[]⟩) (fun w' nid2 rp2 => nid2 = m ∧ ∃ q2, rp2 = .pointer (some ⟨q2, 0, none⟩) ∧ Con (fun i => i = q2) w' 1 2 100 100 200 F 1000 10 fb fd q2 186 m cs0 [.int .u64 0, .int .i64 0] ∧ w.heap.size ≤ q2) HT).mono ?_
        rintro e w' ⟨rfl, hM, nid2, rp2, hB, ⟨rfl, q2, rfl, hC2, hq2⟩, Z', hC, hZx, hK, hN⟩
        exact ⟨rfl, hM, fun i => i = q2, .rd ⟨q2, hB, hC2, fun e => by omega⟩, hK, fun i hi => .inr (by omega)⟩
      · rw [if_neg (by omega), if_pos hx]
        obtain ⟨heq, hwi⟩ := nxF_2 hx
        refine (fs_turn2 Z F fb fd x n q (tlF key lvl ⟨#[]⟩) w h1 h3 b g (k + 1) l hxb hxg y hy3 h40 HS1 (tlF key lvl ⟨#[]⟩) (fun w' nid2 rp2 => nid2 = n ∧ rp2 = .pointer (some ⟨q, 0, none⟩)) (fun W A c hs hB hR => (fturn_here F h4 h6 fb fd hd x n _ 1 key lvl W hB y.s.lv A c y.s.hi y.s.la y.s.rt y.s.xs _ rfl h40 hR hasc heq hwi).mono (fun e w' ⟨he, hB, hK⟩ => ⟨he, _, _, hB, ⟨rfl, rfl⟩, hK⟩))).mono ?_
        rintro e w' ⟨rfl, hM, nid2, rp2, hB, ⟨rfl, rfl⟩, Z', hC, hZx, hK, hN⟩
        exact ⟨rfl, hM, Z', .arr hy3 ⟨q, hB, hC, hZx⟩ hok1, hK, hN⟩
      · rw [if_neg (by omega), if_neg (by omega)]
        have hlt := nxF_3 hx
        refine (fs_turn3 Z F fb fd x n q (tlF key lvl ⟨#[]⟩) w h1 h3 b g (k + 1) l hxb hxg y hy3 h40 HS1 (tlF key lvl ⟨#[]⟩) (fun w' nid2 rp2 => True) (fun W A c hs hB hR => (fturn_low F h4 h6 fb fd hd x n _ 1 key lvl W hB y.s.lv A c y.s.hi y.s.la y.s.rt y.s.xs _ rfl h40 hR hasc hlt).mono (fun e w' ⟨he, hB, hK⟩ => ⟨he, _, _, hB, trivial, hK⟩))).mono ?_
        rintro e w' ⟨rfl, hM, nid2, rp2, hB, -, Z', hC, hZx, hK, hN⟩
        exact ⟨rfl, hM, Z', .no hC.lt hZx hB, hK, hN⟩
    · have HS1 := HS false (by simpa using hy3)
      have e1 : fdo key lvl n y = .rd n y := if_neg hy3
      rw [e1]
      refine (fs_go Z F fb fd x n q _ w h1 h3 b g (k + 1) l hxb hxg _ HS1).mono ?_
      rintro e w' ⟨rfl, hM, Z', hW', hK, hN⟩
      exact ⟨rfl, hM, Z', .rd hW', hK, hN⟩
/-- A Lock's state. -/
inductive Ls
  | fnd (s : Fs)
  | acq (n : Nat) (fr : Bool) (N : Nat) (K : ByteArray) (M : Int)
  | own (n wd : Nat) (s : Cs)
  | rel (n wd : Nat) (s : Cs)
  | lck (n wd : Nat) (s : Cs)
  | bad
def Ls.fin : Ls → Bool
  | .lck _ _ _ => true
  | .bad => true
  | _ => false
/-- It goes to a node. -/
def lto (n : Nat) : Ls := if 1 ≤ n ∧ n ≤ 100 then .acq n false 0 ⟨#[]⟩ 0 else .bad
def lown (key : ByteArray) (n wd : Nat) (s : Cs) : Ls := if s.rd = s.en then (if (s.la || ltB key.toList s.hi.toList) = true then .lck n wd s else .rel n wd s) else .own n wd s
/-- Behind a step of its Find. -/
def ldo : Fs → Ls
  | .arr n _ => lto n
  | .no => .bad
  | .root => .fnd .root
  | .rd n y => .fnd (.rd n y)
/-- A step of a Lock in a memory. -/
def lgo (F : Nat) (key : ByteArray) (lvl : Nat) (l : List Cel) : Ls → Ls
  | .fnd s => ldo (fgo F key lvl l s)
  | .acq n false _ _ _ => .acq n ((cellAt l (nla F n)).1.toNat % 2 == 0) (cellAt l (nla F n)).1.toNat (cellAt l (nla F n)).2.1 (cellAt l (nla F n)).2.2
  | .acq n true N K M => if swaps l (nla F n) (N : Int) then .own n (lockW N) cs0 else .acq n false N K M
  | .own n wd s => lown key n wd (tk F s (cellAt l (nad F n s.rd)).1.toNat (cellAt l (nad F n s.rd)).2.1 (cellAt l (nad F n s.rd)).2.2.toNat)
  | .rel _ _ s => lto s.rt
  | s => s
/-- The memory behind it. -/
def lmem (F : Nat) (l : List Cel) : Ls → List Cel
  | .acq n true N K M => if swaps l (nla F n) (N : Int) then putAt l (nla F n) ((lockW N : Nat), K, M) else l
  | .rel n wd _ => putAt l (nla F n) ((unlockW wd : Nat), ⟨#[]⟩, 0)
  | _ => l
/-- When it may make a step. -/
def Lok (F : Nat) (key : ByteArray) (lvl : Nat) (l : List Cel) : Ls → Prop
  | .fnd s => Fok F key lvl l s
  | .acq _ _ N _ _ => N < 18446744073709551616
  | .own _ _ s => Oks F s ∧ (s.rd = 0 ∨ s.rd < s.en)
  | .rel _ wd s => wd < 18446744073709551616 ∧ Oks F s
  | _ => True
/-- A Lock in this state; Z are its own blocks. -/
inductive LAt (Z : Nat → Prop) (w : World) (F : Nat) (fb fd : Int) (x : Nat) (key : ByteArray) (lvl : Nat) : Ls → Prop
  | fnd {Zf : Nat → Prop} {xf nid : Nat} {ap op rp : Value} {s : Fs} (h : Blk w x 98 (lkv F fb fd key 0 (.pointer (some ⟨xf, 0, none⟩)) nid ap op rp)) (hf : FAt Zf w F fb fd xf key lvl s) (hx : Z x) (hxf : Z xf) (hz : ∀ i, Zf i → Z i) (hne : xf ≠ x) (ho : ¬ Zf x) : LAt Z w F fb fd x key lvl (.fnd s)
  | acq {fp op rp : Value} {n q : Nat} {fr : Bool} {N : Nat} {K : ByteArray} {M : Int} (h : Blk w x 98 (lkv F fb fd key 1 fp n (.pointer (some ⟨q, 0, none⟩)) op rp)) (ha : AcqB w q (nla F n) N K M fr false) (hx : Z x) (hq : Z q) (hne : q ≠ x) : LAt Z w F fb fd x key lvl (.acq n fr N K M)
  | own {Zo : Nat → Prop} {fp ap rp : Value} {n q wd : Nat} {s : Cs} (h : Blk w x 98 (lkv F fb fd key 2 fp n ap (.pointer (some ⟨q, 0, none⟩)) rp)) (hc : Con Zo w 1 2 100 100 200 F 1000 10 fb fd q 149 n s [.int .u64 (wd : Int), .bool false]) (hx : Z x) (hz : ∀ i, Zo i → Z i) (ho : ¬ Zo x) : LAt Z w F fb fd x key lvl (.own n wd s)
  | rel {Zo : Nat → Prop} {fp ap : Value} {n q r wd : Nat} {s : Cs} (h : Blk w x 98 (lkv F fb fd key 3 fp n ap (.pointer (some ⟨q, 0, none⟩)) (.pointer (some ⟨r, 0, none⟩)))) (hc : Con Zo w 1 2 100 100 200 F 1000 10 fb fd q 149 n s [.int .u64 (wd : Int), .bool true]) (hr : RelB w r (nla F n) wd false) (hx : Z x) (hz : ∀ i, Zo i → Z i) (ho : ¬ Zo x) (hrz : Z r) (hrx : r ≠ x) (hro : ¬ Zo r) : LAt Z w F fb fd x key lvl (.rel n wd s)
  | lck {Zo : Nat → Prop} {fp ap rp : Value} {n q wd : Nat} {s : Cs} (h : Blk w x 98 (lkv F fb fd key 4 fp n ap (.pointer (some ⟨q, 0, none⟩)) rp)) (hc : Con Zo w 1 2 100 100 200 F 1000 10 fb fd q 149 n s [.int .u64 (wd : Int), .bool true]) (hx : Z x) (hz : ∀ i, Zo i → Z i) (ho : ¬ Zo x) (hok : Oks F s) : LAt Z w F fb fd x key lvl (.lck n wd s)
  | bad {fp ap op rp : Value} {nid : Nat} (h : Blk w x 98 (lkv F fb fd key 5 fp nid ap op rp)) (hx : Z x) : LAt Z w F fb fd x key lvl .bad
section
variable {Z Y : Nat → Prop} {w w' : World} {F : Nat} {fb fd : Int} {x : Nat} {key : ByteArray} {lvl : Nat} {s : Ls}
theorem LAt.kept (h : LAt Z w F fb fd x key lvl s) (hk : Kept Y w w') (hZ : ∀ i, Z i → ¬ Y i) : LAt Z w' F fb fd x key lvl s := by
  cases h with
  | fnd h hf hx hxf hz hne ho => exact .fnd (hk.blk h (hZ _ hx)) (hf.kept hk (hZ _ hxf) (fun i hi => hZ i (hz i hi))) hx hxf hz hne ho
  | acq h ha hx hq hne => exact .acq (hk.blk h (hZ _ hx)) (hk.blk ha (hZ _ hq)) hx hq hne
  | own h hc hx hz ho => exact .own (hk.blk h (hZ _ hx)) (hc.kept hk (fun i hi => hZ i (hz i hi))) hx hz ho
  | rel h hc hr hx hz ho hrz hrx hro => exact .rel (hk.blk h (hZ _ hx)) (hc.kept hk (fun i hi => hZ i (hz i hi))) (hk.blk hr (hZ _ hrz)) hx hz ho hrz hrx hro
  | lck h hc hx hz ho hok => exact .lck (hk.blk h (hZ _ hx)) (hc.kept hk (fun i hi => hZ i (hz i hi))) hx hz ho hok
  | bad h hx => exact .bad (hk.blk h (hZ _ hx)) hx
end
/-- The blocks that a machine has behind a step: its elder ones, and the new ones. -/
def Zn (Z : Nat → Prop) (w w' : World) : Nat → Prop := fun i => Z i ∨ (w.heap.size ≤ i ∧ i < w'.heap.size)
theorem nla_in1 (F n : Nat) : nla F n = -1 ∨ (1 ≤ n ∧ n ≤ 100) := by
  by_cases h : 1 ≤ n ∧ n ≤ 100
  · exact .inr h
  · exact .inl (nla_out (by omega))
/-- What Held answers. -/
def hval (A : Option Addr) (c n wd : Nat) (s : Cs) : Value := .agg #[.int .u64 (n : Int), .int .u64 (wd : Int), .int .i64 (s.lv : Int), .slice A s.xs.length c, .string s.hi, .bool s.la, .int .u64 (s.rt : Int)]
end Go.Proofs.YtkpbbnpfdighjaaGreat
