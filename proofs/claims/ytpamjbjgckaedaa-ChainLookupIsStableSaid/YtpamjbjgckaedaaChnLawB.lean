/-
  write, Stamp, Restore, Peek, Truncate and Install in the world of a statement of layer 10; the start. Condition: fewer than 2^63 accesses so far.
-/
import Derived.Test.YtpamjbjgckaedaaChnLaw
namespace Go.Proofs.Ytpamjbjgckaedaa
open Go.RowKit Go.Deep Plain
set_option linter.unusedVariables false

/-- The value that a step writes. -/
def wstr (v : ByteArray) (dl : Bool) : ByteArray := if dl = true then ⟨#[]⟩ else if v.size ≤ 64 then v else v.extract 0 64
theorem wstr_del (v : ByteArray) {dl : Bool} (h : dl = true) : wstr v dl = ⟨#[]⟩ := by unfold wstr; rw [if_pos h]
set_option maxHeartbeats 1000000 in
theorem write_del (kd fl : Int) (v : ByteArray) (w : World) :
    Calls Try.prog 17 #[.agg #[.int .i64 kd, .string v, .bool true, .int .u8 fl]] w fun e w' => e = .returned (.agg #[.string ⟨#[]⟩, .string ⟨#[]⟩, .bool true]) ∧ Kept (fun _ => False) w w' := by
  go_enter Try.func17, Try.ntmps17
  go_wp2
  all_goals first | (refine bodyPost_ret (v := .agg #[.string ⟨#[]⟩, .string ⟨#[]⟩, .bool true]) ?_ rfl ⟨rfl, ((Kept.refl _ _).alloc _).alloc _⟩; first | (simp [results, Try.results17, go_sem]; done) | (simp [results, Try.results17, go_sem, *]; done)) | (exfalso; omega)

set_option maxHeartbeats 1000000 in
theorem write_short (kd fl : Int) (v : ByteArray) (h64 : v.size ≤ 64) (w : World) :
    Calls Try.prog 17 #[.agg #[.int .i64 kd, .string v, .bool false, .int .u8 fl]] w fun e w' => e = .returned (.agg #[.string ⟨#[]⟩, .string v, .bool false]) ∧ Kept (fun _ => False) w w' := by
  go_enter Try.func17, Try.ntmps17
  go_wp2
  all_goals first | (refine bodyPost_ret (v := .agg #[.string ⟨#[]⟩, .string v, .bool false]) ?_ rfl ⟨rfl, ((Kept.refl _ _).alloc _).alloc _⟩; first | (simp [results, Try.results17, go_sem]; done) | (simp [results, Try.results17, go_sem, *]; done)) | (exfalso; omega)

set_option maxHeartbeats 1000000 in
theorem write_long (kd fl : Int) (v : ByteArray) (h64 : 64 < v.size) (w : World) :
    Calls Try.prog 17 #[.agg #[.int .i64 kd, .string v, .bool false, .int .u8 fl]] w fun e w' => e = .returned (.agg #[.string ⟨#[]⟩, .string (v.extract 0 64), .bool false]) ∧ Kept (fun _ => False) w w' := by
  go_enter Try.func17, Try.ntmps17
  go_wp2
  all_goals first | (refine bodyPost_ret (v := .agg #[.string ⟨#[]⟩, .string (v.extract 0 64), .bool false]) ?_ rfl ⟨rfl, ((Kept.refl _ _).alloc _).alloc _⟩; first | (simp [results, Try.results17, go_sem]; done) | (simp [results, Try.results17, go_sem, *]; done)) | (exfalso; omega)

theorem write_val (kd fl : Int) (v : ByteArray) (dl : Bool) (w : World) :
    Calls Try.prog 17 #[.agg #[.int .i64 kd, .string v, .bool dl, .int .u8 fl]] w fun e w' => e = .returned (.agg #[.string ⟨#[]⟩, .string (wstr v dl), .bool dl]) ∧ Kept (fun _ => False) w w' := by
  cases dl
  · by_cases h : v.size ≤ 64
    · have e1 : wstr v false = v := by unfold wstr; rw [if_neg (by decide), if_pos h]
      rw [e1]; exact write_short kd fl v h w
    · have e1 : wstr v false = v.extract 0 64 := by unfold wstr; rw [if_neg (by decide), if_neg h]
      rw [e1]; exact write_long kd fl v (by omega) w
  · exact write_del kd fl v w
theorem write_any (kd fl : Int) (v : ByteArray) (dl : Bool) (w : World) :
    Calls Try.prog 17 #[.agg #[.int .i64 kd, .string v, .bool dl, .int .u8 fl]] w fun e w' => ∃ s, e = .returned (.agg #[.string ⟨#[]⟩, .string s, .bool dl]) ∧ (dl = true → s = ⟨#[]⟩) ∧ Kept (fun _ => False) w w' := by
  refine (write_val kd fl v dl w).mono ?_; rintro e w' ⟨rfl, hK⟩
  exact ⟨_, rfl, fun h => wstr_del v h, hK⟩

theorem start_db : KDb (startCells 1 2 100 100 200 4) [] 0 := by
  have hlen := startCells_length 1 2 100 100 200 4 klim
  have hall : allCells 1 2 100 100 200 4 = 1510 := by unfold allCells firstRecord firstChain firstNode; omega
  have hz : ∀ i : Int, i < 0 ∨ 13 ≤ i → cellAt (startCells 1 2 100 100 200 4) i = cel0 := fun i hi => by
    have he : nodeAt 100 4 (firstNode 1 2) 1 2 = 12 := by unfold nodeAt firstNode; rw [if_pos (by omega)]; omega
    unfold startCells
    rw [he, cellAt_far (by omega), cellAt_far (by omega), cellAt_far (by omega)]
    exact cellAt_zero _ _
  have hc : ∀ c : Nat, (cellAt (startCells 1 2 100 100 200 4) (chainAt 100 810 (c : Int))).1 = 0 := fun c => by
    rw [hz _ (by unfold chainAt; split <;> omega)]; rfl
  exact ⟨by omega, by rw [hc]; rfl, fun c _ => hc c, Lnk.nil _ _ _, fun i x y h => by simp at h, Nat.le_refl _, fun q h1 h2 => by rw [hz _ (by rw [rec_at (by omega) h2]; omega)]; rfl⟩
theorem kitMem (w : World) :
    Calls Try.prog 7 #[.agg #[.int .i64 1, .int .i64 2, .int .i64 100, .int .i64 100, .int .i64 200, .int .i64 4, .int .u64 1000]] w fun e w' => ∃ (b g : Nat) (l : List Cel), e = .returned (.tuple #[.agg #[.int .i64 1, .int .i64 2, .int .i64 100, .int .i64 100, .int .i64 200, .int .i64 4, .int .u64 1000, .int .i64 10, .int .i64 810, .int .i64 910], .pointer (some ⟨b, 0, none⟩)]) ∧ Mem w' b g l 0 ∧ KDb l [] 0 ∧ w.heap.size ≤ b ∧ w.heap.size ≤ g ∧ Kept (fun _ => False) w w' := by
  refine (kitMemory_yes 1 2 100 100 200 4 1000 klim (by omega) (by omega) w).mono ?_
  rintro e w' ⟨b, g, he, hM, hb, hg, hK⟩
  have h1 : firstNode 1 2 = 10 := by unfold firstNode; omega
  have h2 : firstChain 1 2 100 4 = 810 := by unfold firstChain firstNode; omega
  have h3 : firstRecord 1 2 100 100 4 = 910 := by unfold firstRecord firstChain firstNode; omega
  rw [h1, h2, h3] at he
  exact ⟨b, g, _, he, hM, start_db, hb, hg, hK⟩
/-- The memory with its layout in a block of its own. -/
theorem Wx.start {B : Nat} {w : World} {b g k nx : Nat} {l : List Cel} {rs : List (Nat × Ve)} (hm : Mem w b g l k) (hd : KDb l rs nx) (hb : B ≤ b) (hg : B ≤ g) : Wx B (w.alloc (.cells #[.int .i64 1, .int .i64 2, .int .i64 100, .int .i64 100, .int .i64 200, .int .i64 4, .int .u64 1000, .int .i64 10, .int .i64 810, .int .i64 910] 27)) w.heap.size b g k nx rs :=
  ⟨⟨l, hm.alloc _, hd⟩, Blk.new w [.int .i64 1, .int .i64 2, .int .i64 100, .int .i64 100, .int .i64 200, .int .i64 4, .int .u64 1000, .int .i64 10, .int .i64 810, .int .i64 910] 27, ⟨hb, hg, by have := hm.obj.lt; omega⟩, by have := hm.obj.lt; omega, by have := hm.row.lt; omega⟩
/-- A Step of a Stamp that is just made. -/
theorem vstamp {B : Nat} {w : World} {s b g k nx q : Nat} {r : Nat} {v : Ve} {rs : List (Nat × Ve)} (h : Wx B w s b g k nx ((r, v) :: rs)) (t : Nat) (ha : Blk w q 101 (oncv (recAt 200 910 (r : Int) 0) t false)) (hq : q ≠ b ∧ q ≠ g ∧ s ≠ q) (hk : k < 9223372036854775808) :
    Calls Try.prog 26 #[.pointer (some ⟨q, 0, none⟩), .pointer (some ⟨b, 0, none⟩)] w fun e w' => e = .returned (.bool true) ∧ Wx B w' s b g (k + 1) nx ((r, (t, v.2)) :: rs) ∧ Kept (Own3 q b g) w w' := by
  obtain ⟨l, hm, hd⟩ := h.db
  refine (stepStamp_any q _ t w ha b g l k hm hq.1 hq.2.1 hk).mono ?_; rintro e w' ⟨rfl, hM, hQ, hK⟩
  exact ⟨rfl, h.put hM (hd.stamp kgeo t) hK hq.2.2, hK⟩
theorem vrestore {B : Nat} {w : World} {s b g k nx q : Nat} {r : Nat} {v : Ve} {rs : List (Nat × Ve)} (h : Wx B w s b g k nx ((r, v) :: rs)) (ha : Blk w q 100 (oncv (chainAt 100 810 ((1 : Nat) : Int)) (num rs 0) false)) (hq : q ≠ b ∧ q ≠ g ∧ s ≠ q) (hk : k < 9223372036854775808) :
    Calls Try.prog 24 #[.pointer (some ⟨q, 0, none⟩), .pointer (some ⟨b, 0, none⟩)] w fun e w' => e = .returned (.bool true) ∧ Wx B w' s b g (k + 1) nx rs ∧ Kept (Own3 q b g) w w' := by
  obtain ⟨l, hm, hd⟩ := h.db
  refine (stepRestore_any q _ (num rs 0) w ha b g l k hm hq.1 hq.2.1 hk).mono ?_; rintro e w' ⟨rfl, hM, hQ, hK⟩
  exact ⟨rfl, h.put hM (hd.restore kgeo (by omega)) hK hq.2.2, hK⟩
theorem vpeek_far {B : Nat} {w : World} {s b g k nx : Nat} {rs : List (Nat × Ve)} (h : Wx B w s b g k nx rs) (n : Nat) (hn : rs.length = n) (h2 : n ≤ 200) (xs : List Ve) (hxs : vrs rs = xs) :
    Calls Try.prog 20 #[.agg #[.int .i64 1, .int .i64 2, .int .i64 100, .int .i64 100, .int .i64 200, .int .i64 4, .int .u64 1000, .int .i64 10, .int .i64 810, .int .i64 910], .pointer (some ⟨b, 0, none⟩), .int .u64 1] w fun e w' => ∃ A c', e = .returned (.slice A n c') ∧ Rv w' A c' xs ∧ Below w.heap.size w w' ∧ (∀ a, A = some a → w.heap.size ≤ a.block) := by
  obtain ⟨l, hm, hd⟩ := h.db
  exact chpeek_any 1 2 100 100 200 4 1000 10 810 910 klim kreach 1 w b g l k hm rs n hn (by omega) hd.one hd.lnk xs hxs
theorem vpeek {B : Nat} {w : World} {s b g k nx : Nat} {rs : List (Nat × Ve)} (h : Wx B w s b g k nx rs) (n : Nat) (hn : rs.length = n) (h2 : n ≤ 200) (xs : List Ve) (hxs : vrs rs = xs) :
    Calls Try.prog 20 #[.agg #[.int .i64 1, .int .i64 2, .int .i64 100, .int .i64 100, .int .i64 200, .int .i64 4, .int .u64 1000, .int .i64 10, .int .i64 810, .int .i64 910], .pointer (some ⟨b, 0, none⟩), .int .u64 1] w fun e w' => ∃ A c', e = .returned (.slice A n c') ∧ Rv w' A c' xs ∧ Below w.heap.size w w' := by
  refine (vpeek_far h n hn h2 xs hxs).mono ?_; rintro e w' ⟨A, c', rfl, h1, h2, _⟩
  exact ⟨A, c', rfl, h1, h2⟩
theorem vpeek_none {B : Nat} {w : World} {s b g k nx : Nat} {rs : List (Nat × Ve)} (h : Wx B w s b g k nx rs) (c : Nat) (hc : c ≠ 1) :
    Calls Try.prog 20 #[.agg #[.int .i64 1, .int .i64 2, .int .i64 100, .int .i64 100, .int .i64 200, .int .i64 4, .int .u64 1000, .int .i64 10, .int .i64 810, .int .i64 910], .pointer (some ⟨b, 0, none⟩), .int .u64 (c : Int)] w fun e w' => ∃ A c', e = .returned (.slice A 0 c') ∧ Rv w' A c' [] ∧ Below w.heap.size w w' := by
  obtain ⟨l, hm, hd⟩ := h.db
  refine (chpeek_any 1 2 100 100 200 4 1000 10 810 910 klim kreach c w b g l k hm [] 0 rfl (by omega) (hd.oth c hc) (Lnk.nil _ _ _) [] rfl).mono ?_; rintro e w' ⟨A, c', rfl, h1, h2, _⟩
  exact ⟨A, c', rfl, h1, h2⟩
theorem newStamp_k (r n : Nat) (w : World) :
    Calls Try.prog 25 #[.agg #[.int .i64 1, .int .i64 2, .int .i64 100, .int .i64 100, .int .i64 200, .int .i64 4, .int .u64 1000, .int .i64 10, .int .i64 810, .int .i64 910], .int .u64 (r : Int), .int .u64 (n : Int)] w fun e w' => ∃ q, e = .returned (.pointer (some ⟨q, 0, none⟩)) ∧ w.heap.size ≤ q ∧ Blk w' q 101 (oncv (recAt 200 910 (r : Int) 0) n false) ∧ Kept (fun _ => False) w w' := newStamp_any 1 2 100 100 200 4 1000 10 810 910 klim kreach r n _ rfl w
theorem newRestore_k (n : Nat) (w : World) :
    Calls Try.prog 23 #[.agg #[.int .i64 1, .int .i64 2, .int .i64 100, .int .i64 100, .int .i64 200, .int .i64 4, .int .u64 1000, .int .i64 10, .int .i64 810, .int .i64 910], .int .u64 1, .int .u64 (n : Int)] w fun e w' => ∃ q, e = .returned (.pointer (some ⟨q, 0, none⟩)) ∧ w.heap.size ≤ q ∧ Blk w' q 100 (oncv (chainAt 100 810 ((1 : Nat) : Int)) n false) ∧ Kept (fun _ => False) w w' := newRestore_any 1 2 100 100 200 4 1000 10 810 910 klim kreach 1 n _ rfl w
theorem vtrunc {w : World} {b g k nx q t d : Nat} {rs : List (Nat × Ve)} {l : List Cel} (hm : Mem w b g l k) (h : KTr w q t rs nx l d) (hd0 : 0 < d) (hq : q ≠ b ∧ q ≠ g) (hk : k < 9223372036854775808) :
    Calls Try.prog 13 #[.pointer (some ⟨q, 0, none⟩), .pointer (some ⟨b, 0, none⟩)] w fun e w' => ∃ d' l', d' < d ∧ e = .returned (.bool (d' == 0)) ∧ KTr w' q t rs nx l' d' ∧ Mem w' b g l' (k + 1) ∧ Kept (Own3 q b g) w w' :=
  tr_step 1 2 100 100 200 4 1000 10 810 910 klim kreach 1510 kgeo q t d nx w rs b g l k hm hq.1 hq.2 hk h hd0
theorem vinst {w : World} {b g k nx q ph : Nat} {rs : List (Nat × Ve)} {l : List Cel} {v : ByteArray × Bool} (hm : Mem w b g l k) (h : KIn w q rs nx l v ph) (hph : ph < 4) (hR : ((nx + 1 : Nat) : Int) ≤ 200) (hq : q ≠ b ∧ q ≠ g) (hk : k < 9223372036854775808) :
    Calls Try.prog 19 #[.pointer (some ⟨q, 0, none⟩), .pointer (some ⟨b, 0, none⟩)] w fun e w' => ∃ l', e = .returned (.bool (ph + 1 == 4)) ∧ KIn w' q rs nx l' v (ph + 1) ∧ Mem w' b g l' (k + 1) ∧ Kept (Own3 q b g) w w' :=
  in_step 1 2 100 100 200 4 1000 10 810 910 klim kreach 1510 kgeo q nx ph w rs v b g l k hm hq.1 hq.2 hk h hph hR
theorem val_stamped (q t : Nat) (v : ByteArray × Bool) (tt : Nat) (h : t ≤ tt) (h0 : t ≠ 0) (hv : v.2 = false) : val tt (vrs [(q, (t, v))]) = (v.1, true) := by
  rw [vrs_cons]
  have hr : rch tt (t, v) = true := rch_iff.2 ⟨h0, h⟩
  have := val_one (t := tt) (st := t) (K := v.1) (D := v.2) hr
  rw [hv] at this
  have e2 : ((t, v) : Ve) = (t, v.1, false) := by rw [← hv]
  rw [e2]; exact this
end Go.Proofs.Ytpamjbjgckaedaa
