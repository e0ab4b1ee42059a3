/-
  The world of a statement of layer 10, and what its read and install do in it. Condition: fewer than 2^62 accesses so far.
-/
import Derived.Test.YtpamjbjgckaedaaChnRun
namespace Go.Proofs.Ytpamjbjgckaedaa
open Go.RowKit Go.Deep Plain
set_option linter.unusedVariables false

theorem klim : Lim 1 2 100 100 200 4 := by constructor <;> omega
theorem kreach : Reach3 10 810 910 := by constructor <;> omega
theorem kgeo : Geo 100 200 810 910 1510 := by constructor <;> omega
abbrev KDb (l : List Cel) (rs : List (Nat × Ve)) (nx : Nat) : Prop := Db 100 200 810 910 1510 l rs nx
abbrev KLk (w : World) (q t : Nat) (rs : List (Nat × Ve)) (d : Nat) : Prop := LkAt 1 2 100 100 200 4 1000 10 810 910 w q 1 t rs d
abbrev KTr (w : World) (q t : Nat) (rs : List (Nat × Ve)) (nx : Nat) (l : List Cel) (d : Nat) : Prop := TrAt 1 2 100 100 200 4 1000 10 810 910 w q 1 t rs 1510 nx l d
abbrev KIn (w : World) (q : Nat) (rs : List (Nat × Ve)) (nx : Nat) (l : List Cel) (v : ByteArray × Bool) (ph : Nat) : Prop := InAt 1 2 100 100 200 4 1000 10 810 910 w q rs 1510 nx l v ph
theorem one_step {q b g : Nat} {w0 w w' : World} (h : Kept (Own b g) w0 w) (hk : Kept (Own3 q b g) w w') (hq : w0.heap.size ≤ q) : Kept (Own b g) w0 w' := h.trans hk (fun i hi e => by rcases e with rfl | rfl | rfl; exact absurd hi (by omega); exact .inl rfl; exact .inr rfl)
/-- The world of a law: its memory with k accesses and these records in chain 1, the layout in block s. -/
structure Wx (B : Nat) (w : World) (s b g k nx : Nat) (rs : List (Nat × Ve)) : Prop where
  db : ∃ l, Mem w b g l k ∧ KDb l rs nx
  box : Blk w s 27 [.int .i64 1, .int .i64 2, .int .i64 100, .int .i64 100, .int .i64 200, .int .i64 4, .int .u64 1000, .int .i64 10, .int .i64 810, .int .i64 910]
  lo : B ≤ b ∧ B ≤ g ∧ B ≤ s
  ne : s ≠ b ∧ s ≠ g
theorem Wx.kept {B : Nat} {w w' : World} {s b g k nx : Nat} {rs : List (Nat × Ve)} (h : Wx B w s b g k nx rs) (hk : Kept (fun _ => False) w w') : Wx B w' s b g k nx rs := by
  obtain ⟨l, hm, hd⟩ := h.db
  exact ⟨⟨l, hm.kept hk (fun h => h) (fun h => h), hd⟩, hk.blk h.box (fun h => h), h.lo, h.ne⟩
theorem Wx.lt {B : Nat} {w : World} {s b g k nx : Nat} {rs : List (Nat × Ve)} (h : Wx B w s b g k nx rs) : b < w.heap.size ∧ g < w.heap.size ∧ s < w.heap.size := by
  obtain ⟨l, hm, hd⟩ := h.db
  exact ⟨hm.obj.lt, hm.row.lt, h.box.lt⟩
theorem Wx.drew {B : Nat} {w : World} {s b g k nx : Nat} {rs : List (Nat × Ve)} (h : Wx B w s b g k nx rs) : Wx B w.drew s b g k nx rs := h.kept (Kept.refl _ _).drew
theorem Wx.put {B : Nat} {w w' : World} {s b g k k' nx nx' q : Nat} {rs rs' : List (Nat × Ve)} {l : List Cel} (h : Wx B w s b g k nx rs) (hm : Mem w' b g l k') (hd : KDb l rs' nx') (hk : Kept (Own3 q b g) w w') (hq : s ≠ q) : Wx B w' s b g k' nx' rs' :=
  ⟨⟨l, hm, hd⟩, hk.blk h.box (by have := h.ne; unfold Own3; omega), h.lo, h.ne⟩
theorem Wx.below {B : Nat} {w w' : World} {s b g k nx : Nat} {rs : List (Nat × Ve)} (h : Wx B w s b g k nx rs) (hB : B ≤ w.heap.size) (hk : Kept (Own b g) w w') : Below B w w' := hk.below hB (fun i e => by have := h.lo; rcases e with rfl | rfl; exact this.1; exact this.2.1)

set_option maxRecDepth 100000 in
set_option maxHeartbeats 4000000 in
theorem readl_any (w : World) (b g k nx : Nat) (l : List Cel) (rs : List (Nat × Ve)) (hm : Mem w b g l k) (hdb : KDb l rs nx) (hlen : 2 * rs.length + 2 ≤ 500) (hk : k + 500 < 9223372036854775808) (t : Nat) (s : ByteArray) (bb : Bool) (hv : val t (vrs rs) = (s, bb)) :
    Calls Try.prog 27 #[.agg #[.int .i64 1, .int .i64 2, .int .i64 100, .int .i64 100, .int .i64 200, .int .i64 4, .int .u64 1000, .int .i64 10, .int .i64 810, .int .i64 910], .pointer (some ⟨b, 0, none⟩), .int .u64 1, .int .u64 (t : Int)] w fun e w' => e = .returned (.tuple #[.string s, .bool bb]) ∧ ∃ k', k' ≤ k + 500 ∧ Mem w' b g l k' ∧ Kept (Own b g) w w' := by
  have hqb := hm.obj.lt
  have hqg := hm.row.lt
  have HD := Lib.hid hdb
  have HM := Lib.hid (hm.alloc (.cells #[.int .i64 1, .int .i64 2, .int .i64 100, .int .i64 100, .int .i64 200, .int .i64 4, .int .u64 1000, .int .i64 10, .int .i64 810, .int .i64 910] 27))
  have HK := Lib.hid ((Kept.refl (Own b g) w).alloc (.cells #[.int .i64 1, .int .i64 2, .int .i64 100, .int .i64 100, .int .i64 200, .int .i64 4, .int .u64 1000, .int .i64 10, .int .i64 810, .int .i64 910] 27))
  have HV := Lib.hid hv
  have hsz : (w.alloc (.cells #[.int .i64 1, .int .i64 2, .int .i64 100, .int .i64 100, .int .i64 200, .int .i64 4, .int .u64 1000, .int .i64 10, .int .i64 810, .int .i64 910] 27)).heap.size = w.heap.size + 1 := nblk_alloc _ _
  clear hm hdb hv
  go_enter Try.func27, Try.ntmps27
  go_wp2_with fail
  refine (lk_new 1 2 100 100 200 4 1000 10 810 910 1 t rs _).mono ?_; rintro e w1 ⟨q, rfl, hq1, hL1, hq2, hK1⟩
  have HM1 := Lib.hid (HM.out.kept hK1 (fun h => h) (fun h => h))
  have HL1 := Lib.hid hL1
  have HK1 := Lib.hid (HK.out.trans hK1 (fun _ _ h => h.elim))
  have hqn : q ≠ b ∧ q ≠ g := by omega
  have hqw : w.heap.size ≤ q := by omega
  clear hL1 hK1 HM HK hsz hq1 hq2
  go_wp2_with fail
  go_loopw [11] (fun i wr => ∃ j d k' : Nat, i = .int .i64 j ∧ 0 < d ∧ j + d ≤ 2 * rs.length + 2 ∧ k' ≤ k + j ∧ KLk wr q t rs d ∧ Mem wr b g l k' ∧ Kept (Own b g) w wr) (fun i _ => 500 - (intOf i).toNat)
  case atStart => exact ⟨0, 2 * rs.length + 2, k, rfl, by omega, by omega, by omega, HL1.out, HM1.out, HK1.out⟩
  case round =>
    obtain ⟨j, d, k', rfl, hd0, hjd, hk', hL, hM, hK⟩ := hrel
    have HL := Lib.hid hL
    have HM := Lib.hid hM
    have HK := Lib.hid hK
    have hj5 : (j : Int) < 500 := by omega
    have hqr : q ≠ b ∧ q ≠ g := hqn
    clear hL hM hK
    go_wp2_with fail
    refine (lk_step 1 2 100 100 200 4 1000 10 810 910 klim kreach q 1 t d _ rs HL.out hd0 b g l k' HM.out hqr.1 hqr.2 (by omega) HD.out.one HD.out.lnk).mono ?_; rintro e w2 ⟨d', hd', rfl, hL2, hM2, hK2⟩
    have HL2 := Lib.hid hL2
    have HM2 := Lib.hid hM2
    have HK2 := Lib.hid (one_step HK.out hK2 hqw)
    clear hL2 hM2 hK2 HL HM HK
    by_cases hz : d' = 0
    · subst hz
      go_wp2_with fail
      refine (lk_value 1 2 100 100 200 4 1000 10 810 910 q 1 t _ rs HL2.out s bb HV.out).mono ?_; rintro e w3 ⟨rfl, hK3⟩
      have HM3 := Lib.hid (HM2.out.kept hK3 (fun h => h) (fun h => h))
      have HK3 := Lib.hid (HK2.out.trans hK3 (fun _ _ h => h.elim))
      clear hK3 HM2 HK2 HL2
      go_wp2
      go_ret2
      exact ⟨rfl, k' + 1, by omega, HM3.out, HK3.out⟩
    · have hz2 : (d' == 0) = false := by simp; omega
      rw [hz2]
      go_wp2
      go_roundw
      case rel => exact ⟨j + 1, d', k' + 1, by go_num, by omega, by omega, by omega, HL2.out, HM2.out, HK2.out⟩
      case measure => simp [intOf]; omega

theorem read_any (B : Nat) (w : World) (sb b g k nx : Nat) (rs : List (Nat × Ve)) (h : Wx B w sb b g k nx rs) (hlen : 2 * rs.length + 2 ≤ 500) (hk : k + 500 < 9223372036854775808) (t : Nat) (s : ByteArray) (bb : Bool) (hv : val t (vrs rs) = (s, bb)) :
    Calls Try.prog 27 #[.agg #[.int .i64 1, .int .i64 2, .int .i64 100, .int .i64 100, .int .i64 200, .int .i64 4, .int .u64 1000, .int .i64 10, .int .i64 810, .int .i64 910], .pointer (some ⟨b, 0, none⟩), .int .u64 1, .int .u64 (t : Int)] w fun e w' => e = .returned (.tuple #[.string s, .bool bb]) ∧ ∃ k', k' ≤ k + 500 ∧ Wx B w' sb b g k' nx rs ∧ Kept (Own b g) w w' := by
  obtain ⟨l, hm, hd⟩ := h.db
  refine (readl_any w b g k nx l rs hm hd hlen hk t s bb hv).mono ?_; rintro e w' ⟨rfl, k', hk', hM, hK⟩
  exact ⟨rfl, k', hk', ⟨⟨l, hM, hd⟩, hK.blk h.box (by have := h.ne; unfold Own; omega), h.lo, h.ne⟩, hK⟩

set_option maxRecDepth 100000 in
set_option maxHeartbeats 4000000 in
theorem install_any (B : Nat) (w : World) (sb b g k nx : Nat) (rs : List (Nat × Ve)) (h : Wx B w sb b g k nx rs) (hnx : ((nx + 1 : Nat) : Int) ≤ 200) (hk : k + 500 < 9223372036854775808) (key s : ByteArray) (dl : Bool) (hdl : dl = true → s = ⟨#[]⟩) :
    Calls Try.prog 29 #[.agg #[.int .i64 1, .int .i64 2, .int .i64 100, .int .i64 100, .int .i64 200, .int .i64 4, .int .u64 1000, .int .i64 10, .int .i64 810, .int .i64 910], .pointer (some ⟨b, 0, none⟩), .int .u64 ((nx + 1 : Nat) : Int), .agg #[.string key, .string s, .bool dl]] w fun e w' => e = .returned (.tuple #[]) ∧ Wx B w' sb b g (k + 4) (nx + 1) ((nx + 1, (0, s, dl)) :: rs) ∧ Kept (Own b g) w w' := by
  obtain ⟨l, hm, hdb⟩ := h.db
  have hqb := hm.obj.lt
  have hqg := hm.row.lt
  have HM := Lib.hid ((hm.alloc (.cells #[.int .i64 1, .int .i64 2, .int .i64 100, .int .i64 100, .int .i64 200, .int .i64 4, .int .u64 1000, .int .i64 10, .int .i64 810, .int .i64 910] 27)).alloc (.cells #[.string key, .string s, .bool dl] 45))
  have HH := Lib.hid h
  have HD := Lib.hid hdb
  have HK := Lib.hid (((Kept.refl (Own b g) w).alloc (.cells #[.int .i64 1, .int .i64 2, .int .i64 100, .int .i64 100, .int .i64 200, .int .i64 4, .int .u64 1000, .int .i64 10, .int .i64 810, .int .i64 910] 27)).alloc (.cells #[.string key, .string s, .bool dl] 45))
  have hsz : ((w.alloc (.cells #[.int .i64 1, .int .i64 2, .int .i64 100, .int .i64 100, .int .i64 200, .int .i64 4, .int .u64 1000, .int .i64 10, .int .i64 810, .int .i64 910] 27)).alloc (.cells #[.string key, .string s, .bool dl] 45)).heap.size = w.heap.size + 1 + 1 := by rw [nblk_alloc, nblk_alloc]
  clear hm hdb h
  go_enter Try.func29, Try.ntmps29
  go_wp2_with fail
  refine (in_new 1 2 100 100 200 4 1000 10 810 910 1510 nx rs l HD.out key s dl _).mono ?_; rintro e w1 ⟨q, rfl, hq1, hI1, hq2, hK1⟩
  have HM1 := Lib.hid (HM.out.kept hK1 (fun h => h) (fun h => h))
  have HI1 := Lib.hid hI1
  have HK1 := Lib.hid (HK.out.trans hK1 (fun _ _ h => h.elim))
  have hqn : q ≠ b ∧ q ≠ g := by omega
  have hqw : w.heap.size ≤ q := by omega
  clear hI1 hK1 HM HK hsz hq1 hq2 HD
  go_wp2_with fail
  go_loopw [9] (fun i wr => ∃ (j : Nat) (l' : List Cel), i = .int .i64 j ∧ j < 4 ∧ KIn wr q rs nx l' (s, dl) j ∧ Mem wr b g l' (k + j) ∧ Kept (Own b g) w wr) (fun i _ => 500 - (intOf i).toNat)
  case atStart => exact ⟨0, l, rfl, by omega, HI1.out, HM1.out, HK1.out⟩
  case round =>
    obtain ⟨j, l', rfl, hj4, hI, hM, hK⟩ := hrel
    have HI := Lib.hid hI
    have HM := Lib.hid hM
    have HK := Lib.hid hK
    have hj5 : (j : Int) < 50 := by omega
    clear hI hM hK
    go_wp2_with fail
    refine (in_step 1 2 100 100 200 4 1000 10 810 910 klim kreach 1510 kgeo q nx j _ rs (s, dl) b g l' (k + j) HM.out hqn.1 hqn.2 (by omega) HI.out hj4 hnx).mono ?_; rintro e w2 ⟨l2, rfl, hI2, hM2, hK2⟩
    have HI2 := Lib.hid hI2
    have HM2 := Lib.hid hM2
    have HK2 := Lib.hid (one_step HK.out hK2 hqw)
    clear hI2 hM2 hK2 HI HM HK
    by_cases hz : j + 1 = 4
    · have hz2 : (j + 1 == 4) = true := by simp; omega
      rw [hz2]
      go_wp2
      go_end0
      obtain rfl : j = 3 := by omega
      obtain ⟨old, M, -, -, -, -, -, -, h4, -⟩ := HI2.out
      refine ⟨rfl, ⟨⟨l2, HM2.out, ?_⟩, HK2.out.blk HH.out.box (by have := HH.out.ne; unfold Own; omega), HH.out.lo, HH.out.ne⟩, HK2.out⟩
      have h5 := h4 rfl
      cases dl
      · exact h5
      · rw [hdl rfl]; exact h5
    · have hz2 : (j + 1 == 4) = false := by simp; omega
      rw [hz2]
      go_wp2
      go_roundw
      case rel => exact ⟨j + 1, l2, by go_num, by omega, HI2.out, HM2.out, HK2.out⟩
      case measure => simp [intOf]; omega

end Go.Proofs.Ytpamjbjgckaedaa
