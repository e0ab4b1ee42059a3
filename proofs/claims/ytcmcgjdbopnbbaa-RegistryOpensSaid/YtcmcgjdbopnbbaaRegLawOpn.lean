/-
  The walk of the statement of layer 18 'Open takes three steps'. Condition: a word below 2^64, bytes below 256.
-/
import Derived.Test.YtcmcgjdbopnbbaaRegSt
import Derived.Test.YtcmcgjdbopnbbaaKeptRegion
import Derived.Deep.RegionWith
import Derived.Deep.CutBlock
namespace Go.Proofs.Ytcmcgjdbopnbbaa
open Go.RowKit Go.Deep
set_option linter.unusedVariables false

theorem kitConfig_of (X : Int) (T : Nat) (h : X = (T : Int)) (w : World) :
    Calls Try.prog 8 #[.int .i64 X, .int .i64 0] w fun e w' => e = .returned (.agg #[.int .i64 (T : Int), .int .i64 2, .int .i64 100, .int .i64 100, .int .i64 200, .int .i64 4, .int .u64 1000]) ∧ Kept (fun _ => False) w w' := by
  subst h; exact kitConfig_any T w
theorem kitMem_of (X Y : Int) (T S : Nat) (hX : X = (T : Int)) (hY : Y = (S : Int)) (hl : Lim (T : Int) (S : Int) 100 100 200 4) (w : World) :
    Calls Try.prog 10 #[.agg #[.int .i64 X, .int .i64 Y, .int .i64 100, .int .i64 100, .int .i64 200, .int .i64 4, .int .u64 1000]] w (MemOk T S w) := by
  subst hX hY; exact kitMem T S hl w
theorem set_same (xs : List Value) (i : Nat) (v : Value) (h : xs[i]? = some v) : xs.set i v = xs := by
  obtain ⟨hl, rfl⟩ := List.getElem?_eq_some_iff.1 h
  exact List.set_getElem_self hl
theorem modT (x : Int) (X : Int) (n r : Nat) (hX : X = (n : Int)) (hn : 0 < n) (hn2 : n ≤ 64) (h : x % (n : Int) = (r : Int)) (w : World) :
    Calls Try.prog 9 #[.int .i64 x, .int .i64 X] w fun e w' => e = .returned (.int .i64 (r : Int)) ∧ w = w' := by
  subst hX; exact mod_of x n r w (by omega) (by omega) h

set_option maxRecDepth 100000 in
set_option maxHeartbeats 8000000 in
theorem lawOpn (th sn ta ja : Int) (tm : Nat) (htm : tm < 18446744073709551616) (m0 m1 m2 : Nat) (hm0 : m0 < 256) (hm1 : m1 < 256) (hm2 : m2 < 256) (w : World) :
    Calls Try.prog 3 #[.int .i64 th, .int .i64 sn, .int .i64 ta, .int .i64 ja, .int .u64 (tm : Int), .agg #[.int .u8 (m0 : Int), .int .u8 (m1 : Int), .int .u8 (m2 : Int)]] w fun e w' => e = .returned (.bool true) ∧ Below w.heap.size w w' := by
  obtain ⟨r, hr, hr4⟩ := mod_ex th 5 (by omega)
  obtain ⟨T, hT⟩ : ∃ T, T = r + 1 := ⟨_, rfl⟩
  obtain ⟨r2, hr2, hr5⟩ := mod_ex sn 5 (by omega)
  obtain ⟨S, hS⟩ : ∃ S, S = r2 + 1 := ⟨_, rfl⟩
  have hT1 : 1 ≤ T := by omega
  have hT4 : T ≤ 5 := by omega
  have hS1 : 1 ≤ S := by omega
  have hS4 : S ≤ 5 := by omega
  obtain ⟨tt, htt, htl⟩ := mod_ex ta (T : Int) (by omega)
  obtain ⟨jj, hjj, hjl⟩ := mod_ex ja (S : Int) (by omega)
  obtain ⟨k, hk⟩ : ∃ k, k = tt * S + jj := ⟨_, rfl⟩
  have hkn : k < T * S := by
    have h1 : (tt + 1) * S ≤ T * S := Nat.mul_le_mul_right S (by omega)
    rw [Nat.succ_mul] at h1; omega
  obtain ⟨t0, ht0⟩ : ∃ t0, t0 = tm % 1099511627776 := ⟨_, rfl⟩
  have ht1 : t0 < 1099511627776 := by omega
  have ht2 : (tm : Int) % 1099511627776 = (t0 : Int) := by omega
  have HTR := Lib.hid (show 1 + (r : Int) = (T : Int) by omega)
  have HSR := Lib.hid (show 1 + (r2 : Int) = (S : Int) by omega)
  have HL := Lib.hid (lim_of (T := T) (S := S) (by omega) (by omega) (by omega) (by omega))
  have HR := Lib.hid hr
  have HR2 := Lib.hid hr2
  have HTT := Lib.hid htt
  have HJJ := Lib.hid hjj
  have HKK := Lib.hid hk
  have HKN := Lib.hid hkn
  clear hr hr2 htt hjj hk hkn hT hS ht0
  have hB0 := Blk.new w [.int .u8 (m0 : Int), .int .u8 (m1 : Int), .int .u8 (m2 : Int)] 23
  have HB0 := Lib.hid hB0
  have HK0 := Lib.hid ((Kept.refl (fun _ => False) w).alloc (.cells #[.int .u8 (m0 : Int), .int .u8 (m1 : Int), .int .u8 (m2 : Int)] 23))
  clear hB0
  go_enter Try.func3, Try.ntmps3
  go_wp2_with fail
  generalize w.alloc (.cells #[.int .u8 (m0 : Int), .int .u8 (m1 : Int), .int .u8 (m2 : Int)] 23) = W0 at *
  generalize hmb : w.heap.size = mb at *
  have HMB := Lib.hid hmb
  clear hmb
  refine (mod_of _ _ r _ (by omega) (by omega) HR.out).mono ?_; rintro e w0 ⟨rfl, rfl⟩
  go_wp2_with fail
  refine (kitConfig_of _ T (by have := HTR.out; omega) _).mono ?_; rintro e w1 ⟨rfl, hK1⟩
  have hK1a := (HK0.out.trans hK1 (fun _ _ h => h)).alloc (.cells #[.int .i64 (T : Int), .int .i64 2, .int .i64 100, .int .i64 100, .int .i64 200, .int .i64 4, .int .u64 1000] 25)
  have hC1 := Blk.new w1 [.int .i64 (T : Int), .int .i64 2, .int .i64 100, .int .i64 100, .int .i64 200, .int .i64 4, .int .u64 1000] 25
  have hB1 := (hK1.blk HB0.out id).alloc (.cells #[.int .i64 (T : Int), .int .i64 2, .int .i64 100, .int .i64 100, .int .i64 200, .int .i64 4, .int .u64 1000] 25)
  have hwz : w.heap.size ≤ w1.heap.size := (HK0.out.trans hK1 (fun _ _ h => h)).size
  have hmc : mb < w1.heap.size := (hK1.blk HB0.out id).lt
  have HK1 := Lib.hid hK1a
  have HC1 := Lib.hid hC1
  have HB1 := Lib.hid hB1
  have y0 := hC1.cell (i := 0) rfl
  have y1 := hC1.cell (i := 1) rfl
  have y2 := hC1.cell (i := 2) rfl
  have y3 := hC1.cell (i := 3) rfl
  have y4 := hC1.cell (i := 4) rfl
  have y5 := hC1.cell (i := 5) rfl
  have y6 := hC1.cell (i := 6) rfl
  have z1 := hC1.frozen 1
  clear hK1 hK1a hC1 hB1 HR HTR hr4 HB0 HK0
  go_wp2_with fail
  generalize w1.alloc (.cells #[.int .i64 (T : Int), .int .i64 2, .int .i64 100, .int .i64 100, .int .i64 200, .int .i64 4, .int .u64 1000] 25) = W1 at *
  generalize hhh : w1.heap.size = cb at *
  refine (mod_of _ _ r2 _ (by omega) (by omega) HR2.out).mono ?_; rintro e w0 ⟨rfl, rfl⟩
  go_wp2_with fail
  simp only [show (1 + (r2 : Int)) = (S : Int) from HSR.out]
  have HC2 : Hid (Blk (W1.setCell ⟨cb, 1, none⟩ (.int .i64 (S : Int))) cb 25 [.int .i64 (T : Int), .int .i64 (S : Int), .int .i64 100, .int .i64 100, .int .i64 200, .int .i64 4, .int .u64 1000]) := Lib.hid (HC1.out.set 1 _)
  have hne : mb ≠ cb := by omega
  have HB2 := Lib.hid (HB1.out.other (a := ⟨cb, 1, none⟩) hne (.int .i64 (S : Int)))
  have HK2 := Lib.hid (HK1.out.setCell (a := ⟨cb, 1, none⟩) (fun h => by simp only at h; omega) (.int .i64 (S : Int)))
  have hcl := HC1.out.lt
  have hml := HB1.out.lt
  clear HC1 HB1 HK1 HR2 HSR hr5 y0 y1 y2 y3 y4 y5 y6 z1
  have hsz : (W1.setCell ⟨cb, 1, none⟩ (.int .i64 (S : Int))).heap.size = W1.heap.size := by simp [World.setCell]
  generalize W1.setCell ⟨cb, 1, none⟩ (.int .i64 (S : Int)) = W2 at *
  refine (kitMem T S HL.out _).mono ?_
  intro e w2 hok
  obtain ⟨b, g, l, fa, fb, fd, rfl, hM2, hS2, hb2, hg2, hK2⟩ := hok
  have hz := HK2.out.size
  have HM2 := Lib.hid hM2
  have HS2 := Lib.hid hS2
  have HC3 := Lib.hid (hK2.blk HC2.out id)
  have HB3 := Lib.hid (hK2.blk HB2.out id)
  have HNE := Lib.hid (show w.heap.size ≤ b ∧ w.heap.size ≤ g ∧ b ≠ cb ∧ g ≠ cb ∧ mb ≠ b ∧ mb ≠ g ∧ w.heap.size ≤ cb by omega)
  have HK3 := Lib.hid (HK2.out.trans hK2 (fun _ _ h => h))
  clear hM2 hS2 hb2 hg2 hz hK2 HC2 HB2 HK2 hcl hml hsz hhh hwz hne
  go_wp2_with fail
  have HLY := Lib.hid (Blk.new w2 [.int .i64 (T : Int), .int .i64 (S : Int), .int .i64 100, .int .i64 100, .int .i64 200, .int .i64 4, .int .u64 1000, .int .i64 fa, .int .i64 fb, .int .i64 fd] 29)
  have HM4 := Lib.hid (HM2.out.alloc (.cells #[.int .i64 (T : Int), .int .i64 (S : Int), .int .i64 100, .int .i64 100, .int .i64 200, .int .i64 4, .int .u64 1000, .int .i64 fa, .int .i64 fb, .int .i64 fd] 29))
  have HC4 := Lib.hid (HC3.out.alloc (.cells #[.int .i64 (T : Int), .int .i64 (S : Int), .int .i64 100, .int .i64 100, .int .i64 200, .int .i64 4, .int .u64 1000, .int .i64 fa, .int .i64 fb, .int .i64 fd] 29))
  have HB4 := Lib.hid (HB3.out.alloc (.cells #[.int .i64 (T : Int), .int .i64 (S : Int), .int .i64 100, .int .i64 100, .int .i64 200, .int .i64 4, .int .u64 1000, .int .i64 fa, .int .i64 fb, .int .i64 fd] 29))
  have HK4 := Lib.hid (HK3.out.alloc (.cells #[.int .i64 (T : Int), .int .i64 (S : Int), .int .i64 100, .int .i64 100, .int .i64 200, .int .i64 4, .int .u64 1000, .int .i64 fa, .int .i64 fb, .int .i64 fd] 29))
  have HNS := Lib.hid (show w2.heap.size ≠ b ∧ w2.heap.size ≠ g by have := HM2.out.obj.lt; have := HM2.out.row.lt; omega)
  clear HM2 HC3 HB3 HK3
  generalize w2.alloc (.cells #[.int .i64 (T : Int), .int .i64 (S : Int), .int .i64 100, .int .i64 100, .int .i64 200, .int .i64 4, .int .u64 1000, .int .i64 fa, .int .i64 fb, .int .i64 fd] 29) = W4 at *
  generalize w2.heap.size = s at *
  refine (awake_any _).mono ?_; rintro e w5 ⟨rfl, hK5⟩
  have hc5 := hK5.blk HC4.out id
  have y0 := hc5.cell (i := 0) rfl
  have y1 := hc5.cell (i := 1) rfl
  have y2 := hc5.cell (i := 2) rfl
  have y3 := hc5.cell (i := 3) rfl
  have y4 := hc5.cell (i := 4) rfl
  have y5 := hc5.cell (i := 5) rfl
  have y6 := hc5.cell (i := 6) rfl
  have HL5 := Lib.hid (hK5.blk HLY.out id)
  have HM5 := Lib.hid (HM4.out.kept hK5 id id)
  have HC5 := Lib.hid hc5
  have HB5 := Lib.hid (hK5.blk HB4.out id)
  have HK5 := Lib.hid (HK4.out.trans hK5 (fun _ _ h => h))
  clear hc5 hK5 HLY HM4 HC4 HB4 HK4
  go_wp2_with fail
  go_quiet ((go_at_call 9; (first | (with_reducible exact Calls.still (mod_of ta (T : Int) tt _ (by omega) (by omega) HTT.out)) | (with_reducible exact Calls.still (mod_of ja (S : Int) jj _ (by omega) (by omega) HJJ.out)))))
  go_wp2_with fail
  have hs := refSnap_yes T S 100 100 200 4 1000 tt jj HL.out (by omega) (by omega) (by omega) (by omega) (w5.drewN nq)
  rw [snapAt_nat T S tt jj (by omega) (by omega), ← HKK.out] at hs
  refine hs.mono ?_; rintro e w6 ⟨rfl, hK6⟩
  have hKx := ((Kept.refl (fun _ => False) w5).drewN nq).trans hK6 (fun _ _ h => h)
  have HL6 := Lib.hid (hKx.blk HL5.out id)
  have HM6 := Lib.hid (HM5.out.kept hKx id id)
  have HB6 := Lib.hid (hKx.blk HB5.out id)
  have HK6 := Lib.hid (HK5.out.trans hKx (fun _ _ h => h))
  clear hs hK6 hKx HL5 HM5 HB5 HK5 HC5 y0 y1 y2 y3 y4 y5 y6
  go_wp2_with fail
  refine (kitCells_any b g l 0 _ HM6.out (by have := HS2.out.top; omega)).mono ?_; rintro e w7 ⟨rfl, hB7, hK7⟩
  have hl7 := hK7.blk HL6.out id
  have HSH := Lib.hid (show s ≠ w6.heap.size by have := HL6.out.lt; omega)
  have HH := Lib.hid (show w.heap.size ≤ w6.heap.size ∧ b < w6.heap.size ∧ g < w6.heap.size by have := HM6.out.obj.lt; have := HM6.out.row.lt; have := HK6.out.size; omega)
  have HV7 : Hid (OV w w7 b g s w6.heap.size mb k 0 0 0 l [.int .i64 (T : Int), .int .i64 (S : Int), .int .i64 100, .int .i64 100, .int .i64 200, .int .i64 4, .int .u64 1000, .int .i64 fa, .int .i64 fb, .int .i64 fd] [.int .u8 (m0 : Int), .int .u8 (m1 : Int), .int .u8 (m2 : Int)]) := Lib.hid ⟨by rw [St.start HS2.out HKN.out]; exact HM6.out.kept hK7 id id, hl7, hB7, hK7.blk HB6.out id, by have := HH.out; have := HNE.out; omega, by have := HH.out; have := HNE.out; have := HNS.out; omega, HK6.out.trans hK7 (fun _ _ h => h)⟩
  have x0 := hl7.cell (i := 0) rfl
  have x1 := hl7.cell (i := 1) rfl
  have x2 := hl7.cell (i := 2) rfl
  have x3 := hl7.cell (i := 3) rfl
  have x4 := hl7.cell (i := 4) rfl
  have x5 := hl7.cell (i := 5) rfl
  have x6 := hl7.cell (i := 6) rfl
  have x7 := hl7.cell (i := 7) rfl
  have x8 := hl7.cell (i := 8) rfl
  have x9 := hl7.cell (i := 9) rfl
  clear hl7 hB7 hK7 HL6 HM6 HB6 HK6 HH
  generalize w6.heap.size = h at *
  go_wp2_with fail
  have hop := op_new T S HL.out fa fb fd tt jj (by omega) (by omega) w7
  rw [← HKK.out] at hop
  refine hop.mono ?_; rintro e w8 ⟨o, q, rfl, hO8, hq8, ho8, hK8⟩
  have hlt := HV7.out.lts
  have HSEP : Hid (∀ i, i = b ∨ i = g ∨ i = s ∨ i = h ∨ i = mb ∨ i < w.heap.size → o ≠ i ∧ q ≠ i) := Lib.hid (fun i hi => by omega)
  obtain ⟨t1, ht1'⟩ : ∃ t1, t1 = t0 + m0 := ⟨_, rfl⟩
  obtain ⟨t2, ht2'⟩ : ∃ t2, t2 = t1 + m1 := ⟨_, rfl⟩
  obtain ⟨t3, ht3'⟩ : ∃ t3, t3 = t2 + m2 := ⟨_, rfl⟩
  have HV8 := Lib.hid (HV7.out.same0 hK8)
  have HO8 := Lib.hid (hO8.zero (by omega) t2)
  clear hop x0 x1 x2 x3 x4 x5 x6 x7 x8 x9 hO8 hq8 ho8 hK8 HV7 hlt HNE HNS
  have hb1 : t1 < 1099511628032 := by omega
  have hb2 : t2 < 1099511628288 := by omega
  have hb3 : t3 < 1099511628544 := by omega
  have HQ1 := Lib.hid ht1'
  have HQ2 := Lib.hid ht2'
  have HQ3 := Lib.hid ht3'
  clear ht1' ht2' ht3' ht2
  go_wp2_with fail
  go_loopw [4, 21, 22] (fun u wn i wr => (i = .int .i64 0 ∧ u = .int .u64 (t0 : Int) ∧ wn = .int .u64 0 ∧ OV w wr b g s h mb k 0 0 0 l [.int .i64 (T : Int), .int .i64 (S : Int), .int .i64 100, .int .i64 100, .int .i64 200, .int .i64 4, .int .u64 1000, .int .i64 fa, .int .i64 fb, .int .i64 fd] [.int .u8 (m0 : Int), .int .u8 (m1 : Int), .int .u8 (m2 : Int)] ∧ OpAt wr o q 0 ((8 + k : Nat) : Int) t2) ∨ (i = .int .i64 1 ∧ u = .int .u64 (t1 : Int) ∧ wn = .int .u64 0 ∧ OV w wr b g s h mb k 1 t1 1 l [.int .i64 (T : Int), .int .i64 (S : Int), .int .i64 100, .int .i64 100, .int .i64 200, .int .i64 4, .int .u64 1000, .int .i64 fa, .int .i64 fb, .int .i64 fd] [.int .u8 (m0 : Int), .int .u8 (m1 : Int), .int .u8 (m2 : Int)] ∧ OpAt wr o q 1 ((8 + k : Nat) : Int) t2) ∨ (i = .int .i64 2 ∧ u = .int .u64 (t2 : Int) ∧ wn = .int .u64 (t2 : Int) ∧ OV w wr b g s h mb k 2 t2 1 l [.int .i64 (T : Int), .int .i64 (S : Int), .int .i64 100, .int .i64 100, .int .i64 200, .int .i64 4, .int .u64 1000, .int .i64 fa, .int .i64 fb, .int .i64 fd] [.int .u8 (m0 : Int), .int .u8 (m1 : Int), .int .u8 (m2 : Int)] ∧ OpAt wr o q 2 ((8 + k : Nat) : Int) t2) ∨ (i = .int .i64 3 ∧ u = .int .u64 (t3 : Int) ∧ wn = .int .u64 (t2 : Int) ∧ OV w wr b g s h mb k 3 t3 (t2 + 1) l [.int .i64 (T : Int), .int .i64 (S : Int), .int .i64 100, .int .i64 100, .int .i64 200, .int .i64 4, .int .u64 1000, .int .i64 fa, .int .i64 fb, .int .i64 fd] [.int .u8 (m0 : Int), .int .u8 (m1 : Int), .int .u8 (m2 : Int)] ∧ OpAt wr o q 3 ((8 + k : Nat) : Int) t2)) (fun _ _ i _ => 3 - (intOf i).toNat)
  case atStart => exact .inl ⟨rfl, rfl, rfl, HV8.out, HO8.out⟩
  case round =>
    rcases hrel with ⟨rfl, rfl, rfl, hv, ho⟩ | ⟨rfl, rfl, rfl, hv, ho⟩ | ⟨rfl, rfl, rfl, hv, ho⟩ | ⟨rfl, rfl, rfl, hv, ho⟩
    · have HV := Lib.hid hv
      have HO := Lib.hid ho
      have r0 := hv.mo.cell (i := 0) rfl
      clear hv ho HV8 HO8
      go_wp2_with fail
      refine (ov_poke HV.out _ t1 (by have := HQ1.out; omega)).mono ?_; rintro e w9 ⟨rfl, hv9, hk9⟩
      have hsb := HSEP.out b (by omega)
      have hsg := HSEP.out g (by omega)
      have HV9 := Lib.hid hv9
      have HO9 := Lib.hid (HO.out.kept hk9 (by unfold Own; omega) (by unfold Own; omega))
      clear hv9 hk9 hsb hsg HV HO r0
      go_wp2_with fail
      refine (marks_any o q 0 _ (by omega) _ HO9.out.obj).mono ?_; rintro e w10 ⟨rfl, rfl⟩
      have hmx : max ((-1 : Int)) 0 = 0 := by decide
      have hmn : min ((0 : Int)) 1 = 0 := by decide
      go_wp2_with fail
      refine (ov_step HS2.out HKN.out HV9.out HO9.out (by omega) (by omega) HSEP.out (by omega) rfl (fun h => by omega) rfl).mono ?_; rintro e w11 ⟨rfl, hv11, ho11⟩
      have HV11 := Lib.hid hv11
      have HO11 := Lib.hid ho11
      clear hv11 ho11 HV9 HO9
      go_wp2_with fail
      refine (accesses_any b g _ _ _ HV11.out.mem).mono ?_; rintro e w12 ⟨rfl, rfl⟩
      go_wp2_with fail
      refine (ov_peek HS2.out HKN.out HV11.out _ (by first | rfl | omega) rfl).mono ?_; rintro e w13 ⟨rfl, hK13⟩
      have hsb := HSEP.out b (by omega)
      have HV13 := Lib.hid (HV11.out.same0 hK13)
      have HO13 := Lib.hid (HO11.out.kept hK13 id id)
      clear hK13 HV11 HO11
      have hfd := field0 1 0 ⟨#[]⟩
      go_wp2
      go_roundw
      case rel => exact .inr (.inl ⟨by first | rfl | go_num, by first | rfl | (have := HQ1.out; congr 1; omega), by first | rfl | (have := HQ1.out; congr 1; omega), HV13.out, HO13.out⟩)
      case measure => simp [intOf]
    · have HV := Lib.hid hv
      have HO := Lib.hid ho
      have r0 := hv.mo.cell (i := 1) rfl
      clear hv ho HV8 HO8
      go_wp2_with fail
      refine (ov_poke HV.out _ t2 (by have := HQ2.out; omega)).mono ?_; rintro e w9 ⟨rfl, hv9, hk9⟩
      have hsb := HSEP.out b (by omega)
      have hsg := HSEP.out g (by omega)
      have HV9 := Lib.hid hv9
      have HO9 := Lib.hid (HO.out.kept hk9 (by unfold Own; omega) (by unfold Own; omega))
      clear hv9 hk9 hsb hsg HV HO r0
      go_wp2_with fail
      refine (marks_any o q 1 _ (by omega) _ HO9.out.obj).mono ?_; rintro e w10 ⟨rfl, rfl⟩
      have hmx : max ((0 : Int)) 0 = 0 := by decide
      have hmn : min ((0 : Int)) 1 = 0 := by decide
      go_wp2_with fail
      refine (ov_step HS2.out HKN.out HV9.out HO9.out (by omega) (by omega) HSEP.out (by omega) rfl (fun h => by rfl) rfl).mono ?_; rintro e w11 ⟨rfl, hv11, ho11⟩
      have HV11 := Lib.hid hv11
      have HO11 := Lib.hid ho11
      clear hv11 ho11 HV9 HO9
      go_wp2_with fail
      refine (accesses_any b g _ _ _ HV11.out.mem).mono ?_; rintro e w12 ⟨rfl, rfl⟩
      go_wp2_with fail
      refine (ov_peek HS2.out HKN.out HV11.out _ (by first | rfl | omega) rfl).mono ?_; rintro e w13 ⟨rfl, hK13⟩
      have hsb := HSEP.out b (by omega)
      have HV13 := Lib.hid (HV11.out.same0 hK13)
      have HO13 := Lib.hid (HO11.out.kept hK13 id id)
      clear hK13 HV11 HO11
      have hfd := field0 1 0 ⟨#[]⟩
      go_wp2
      go_roundw
      case rel => exact .inr (.inr (.inl ⟨by first | rfl | go_num, by first | rfl | (have := HQ2.out; congr 1; omega), by first | rfl | (have := HQ2.out; congr 1; omega), HV13.out, HO13.out⟩))
      case measure => simp [intOf]
    · have HV := Lib.hid hv
      have HO := Lib.hid ho
      have r0 := hv.mo.cell (i := 2) rfl
      clear hv ho HV8 HO8
      go_wp2_with fail
      refine (ov_poke HV.out _ t3 (by have := HQ3.out; omega)).mono ?_; rintro e w9 ⟨rfl, hv9, hk9⟩
      have hsb := HSEP.out b (by omega)
      have hsg := HSEP.out g (by omega)
      have HV9 := Lib.hid hv9
      have HO9 := Lib.hid (HO.out.kept hk9 (by unfold Own; omega) (by unfold Own; omega))
      clear hv9 hk9 hsb hsg HV HO r0
      go_wp2_with fail
      refine (marks_any o q 2 _ (by omega) _ HO9.out.obj).mono ?_; rintro e w10 ⟨rfl, rfl⟩
      have hmx : max ((1 : Int)) 0 = 1 := by decide
      have hmn : min ((1 : Int)) 1 = 1 := by decide
      go_wp2_with fail
      refine (ov_step HS2.out HKN.out HV9.out HO9.out (by omega) (by omega) HSEP.out (by omega) rfl (fun h => by omega) rfl).mono ?_; rintro e w11 ⟨rfl, hv11, ho11⟩
      have HV11 := Lib.hid hv11
      have HO11 := Lib.hid ho11
      clear hv11 ho11 HV9 HO9
      go_wp2_with fail
      refine (accesses_any b g _ _ _ HV11.out.mem).mono ?_; rintro e w12 ⟨rfl, rfl⟩
      go_wp2_with fail
      refine (ov_peek HS2.out HKN.out HV11.out _ (by first | rfl | omega) rfl).mono ?_; rintro e w13 ⟨rfl, hK13⟩
      have hsb := HSEP.out b (by omega)
      have HV13 := Lib.hid (HV11.out.same0 hK13)
      have HO13 := Lib.hid (HO11.out.kept hK13 id id)
      clear hK13 HV11 HO11
      have hfd := field0 ((t2 : Int) + 1) 0 ⟨#[]⟩
      go_wp2
      go_roundw
      case rel => exact .inr (.inr (.inr (⟨by first | rfl | go_num, by first | rfl | (have := HQ3.out; congr 1; omega), by first | rfl | (have := HQ3.out; congr 1; omega), HV13.out, HO13.out⟩)))
      case measure => simp [intOf]
    · have HV := Lib.hid hv
      have HO := Lib.hid ho
      clear hv ho HV8 HO8
      go_wp2_with fail
      refine (op_time HO.out).mono ?_; rintro e w9 ⟨rfl, rfl⟩
      go_wp2_with fail
      refine (marks_any o q 3 _ (by omega) _ HO.out.obj).mono ?_; rintro e w10 ⟨rfl, rfl⟩
      have hL := HV.out.lay
      have x0 := hL.cell (i := 0) rfl
      have x1 := hL.cell (i := 1) rfl
      have x2 := hL.cell (i := 2) rfl
      have x3 := hL.cell (i := 3) rfl
      have x4 := hL.cell (i := 4) rfl
      have x5 := hL.cell (i := 5) rfl
      have x6 := hL.cell (i := 6) rfl
      have x7 := hL.cell (i := 7) rfl
      have x8 := hL.cell (i := 8) rfl
      have x9 := hL.cell (i := 9) rfl
      clear hL
      have hLL : (putAt l 2 ((t3 : Int), ⟨#[]⟩, 0)).length = l.length := putAt_length _ _ _
      have hltop := HS2.out.top
      have HLL := Lib.hid hLL
      have HLT := Lib.hid hltop
      clear hLL hltop
      have hsn3 := St.sn HS2.out HKN.out t3 (t2 + 1)
      go_wp2_with fail
      refine (live_asc T S 100 100 200 4 1000 fa fb fd HL.out b g _ _ _ (T * S) rfl (hsn3.snaps (fun i _ => by show (if i = k then t2 + 1 else 0) < _; split <;> omega)) [t2] (raw_one k t2 _ HKN.out) (by simp) (asc_one t2) _ HV.out.mem).mono ?_
      rintro e w11 ⟨A, c, rfl, hR11, hB11⟩
      have hk11 := Below.kept hB11 (S := fun _ => False) (fun i h1 h2 => by omega)
      have HV11 := Lib.hid (HV.out.same0 hk11)
      have HR11 := Lib.hid hR11
      clear hsn3 hR11 hB11 hk11 x0 x1 x2 x3 x4 x5 x6 x7 x8 x9 HV HO
      go_wp2_with fail
      have hR12 := HR11.out.alloc (.cells ⟨words [t2]⟩ 22)
      have hN12 := Rw.new w11 [t2] (by unfold maxLen; simp)
      refine (sameW_any A _ c 1 [t2] _ 1 rfl (by omega) hR12 hN12).mono ?_; rintro e w12 ⟨rfl, hB12⟩
      have hk12 := ((Kept.refl (fun _ => False) w11).alloc (.cells ⟨words [t2]⟩ 22)).trans (Below.kept hB12 (S := fun _ => False) (fun i h1 h2 => by omega)) (fun _ _ h => h)
      have hv12 := HV11.out.same0 hk12
      have HV12 := Lib.hid hv12
      have hL := hv12.lay
      have x0 := hL.cell (i := 0) rfl
      have x1 := hL.cell (i := 1) rfl
      have x2 := hL.cell (i := 2) rfl
      have x3 := hL.cell (i := 3) rfl
      have x4 := hL.cell (i := 4) rfl
      have x5 := hL.cell (i := 5) rfl
      have x6 := hL.cell (i := 6) rfl
      have x7 := hL.cell (i := 7) rfl
      have x8 := hL.cell (i := 8) rfl
      have x9 := hL.cell (i := 9) rfl
      clear hL hv12 hR12 hN12 hB12 hk12 HV11 HR11
      go_wp2_with fail
      have hrl := rel_new T S HL.out fa fb fd tt jj (by omega) (by omega) w12
      rw [← HKK.out] at hrl
      refine hrl.mono ?_; rintro e w13 ⟨o2, rfl, hO13, ho13, hK13⟩
      have hv13 := HV12.out.same0 hK13
      have hlt := HV12.out.lts
      have hne2 : o2 ≠ b ∧ o2 ≠ g ∧ o2 ≠ h ∧ o2 ≠ s := by omega
      have f6 : (flat3 l)[2 * 3]? = some (.int .u64 0) ∧ (flat3 l)[2 * 3 + 1]? = some (.string ⟨#[]⟩) ∧ (flat3 l)[2 * 3 + 2]? = some (.int .u64 0) := by
        have hp : cellAt l ((2 : Nat) : Int) = (((0 : Nat) : Int), ⟨#[]⟩, 0) := HS2.out.pub
        have hl8 := HS2.out.len
        rw [cellAt_in l 2 (by omega)] at hp
        exact flat3_at l 2 _ (by rw [List.getElem?_eq_getElem (by omega), hp])
      have hst : (flat3 l).set 6 (.int .u64 (t3 : Int)) = flat3 (putAt l 2 ((t3 : Int), ⟨#[]⟩, 0)) := by
        have e := flat3_set l 2 ((t3 : Int), ⟨#[]⟩, 0)
        rw [show putAt l 2 ((t3 : Int), ⟨#[]⟩, 0) = l.set 2 ((t3 : Int), ⟨#[]⟩, 0) from putAt_in l 2 _, e]
        rw [set_same _ (2 * 3 + 1) _ (by rw [List.getElem?_set_ne (by omega)]; exact f6.2.1), set_same _ (2 * 3 + 2) _ (by rw [List.getElem?_set_ne (by omega)]; exact f6.2.2)]
      have c6 := hv13.was.cell (i := 6) f6.1
      have z6 := hv13.was.frozen 6
      have hM14 := hv13.mem.setFar (fun e => hv13.ne.1 e.symm) (fun e => hv13.ne.2.1 e.symm) 6 (.int .u64 (t3 : Int))
      have hW14 := hv13.was.set 6 (.int .u64 (t3 : Int))
      rw [hst] at hW14
      have hO14 := hO13.other (a := ⟨h, 6, none⟩) hne2.2.2.1 (.int .u64 (t3 : Int))
      have hsh : s ≠ h := HSH.out
      have hL14 := hv13.lay.other (a := ⟨h, 6, none⟩) hsh (.int .u64 (t3 : Int))
      have hK14 := hv13.kept.setCell (a := ⟨h, 6, none⟩) (fun hh => by have := hv13.lt; simp only at hh; omega) (.int .u64 (t3 : Int))
      have hl22 : 2 < l.length := by have := HS2.out.len; omega
      have HW14 := Lib.hid hW14
      have HM14 := Lib.hid hM14
      have HO14 := Lib.hid hO14
      have HL14 := Lib.hid hL14
      have HK14 := Lib.hid hK14
      have HN14 := Lib.hid (show b ≠ h ∧ g ≠ h ∧ s ≠ b ∧ s ≠ g ∧ w.heap.size ≤ b ∧ w.heap.size ≤ g ∧ w.heap.size ≤ o2 by have := hv13.ne; have := hv13.lt; omega)
      clear f6 hst hM14 hW14 hO14 hL14 hK14 hv13 hrl hO13 ho13 hK13 hlt HV12 x0 x1 x2 x3 x4 x5 x6 x7 x8 x9
      go_wp2_with fail
      refine (release_any o2 b g _ _ _ _ HO14.out HM14.out hne2.1 hne2.2.1 (by omega)).mono ?_; rintro e w15 ⟨rfl, hM15, hK15⟩
      have hst4 := St.put l k t3 (t2 + 1) 0
      rw [St.zero HS2.out HKN.out] at hst4
      replace hM15 : Mem w15 b g (putAt l 2 ((t3 : Int), ⟨#[]⟩, 0)) (3 + 1) := by rw [← hst4]; exact hM15
      have hno : ¬ Own3 o2 b g h := by have := HN14.out; unfold Own3; omega
      have hns : ¬ Own3 o2 b g s := by have := HN14.out; unfold Own3; omega
      have HM15 := Lib.hid hM15
      have HW15 := Lib.hid (hK15.blk HW14.out hno)
      have HL15 := Lib.hid (hK15.blk HL14.out hns)
      have HK15 := Lib.hid (HK14.out.trans hK15 (fun i hi h => by have := HN14.out; unfold Own3 at h; omega))
      clear hM15 hK15 HM14 HW14 HO14 HL14 HK14 c6 z6 hno hns
      go_wp2_with fail
      refine (accesses_any b g _ _ _ HM15.out).mono ?_; rintro e w16 ⟨rfl, rfl⟩
      go_wp2_with fail
      refine (kitCells_any b g _ _ _ HM15.out (by have := HLL.out; have := HLT.out; omega)).mono ?_; rintro e w17 ⟨rfl, hB17, hK17⟩
      have hW17 := hK17.blk HW15.out id
      have HM17 := Lib.hid (HM15.out.kept hK17 id id)
      have HL17 := Lib.hid (hK17.blk HL15.out id)
      have HK17 := Lib.hid (HK15.out.trans hK17 (fun _ _ h => h))
      have hsm := same_yes _ h (putAt l 2 ((t3 : Int), ⟨#[]⟩, 0)).length l.length _ w17 (fun i u h => hB17.cell h) (fun i u h => hW17.cell h) (by have := HLL.out; have := HLT.out; omega)
      rw [HLL.out] at hsm
      have HSM := Lib.hid hsm
      clear hsm hB17 hW17 hK17 HM15 HL15 HK15 HW15
      go_wp2_with fail
      rw [HLL.out]
      refine HSM.out.mono ?_; rintro e w18 ⟨rfl, nq2, rfl⟩
      have hL := HL17.out
      have x0 := hL.cell (i := 0) rfl
      have x1 := hL.cell (i := 1) rfl
      have x2 := hL.cell (i := 2) rfl
      have x3 := hL.cell (i := 3) rfl
      have x4 := hL.cell (i := 4) rfl
      have x5 := hL.cell (i := 5) rfl
      have x6 := hL.cell (i := 6) rfl
      have x7 := hL.cell (i := 7) rfl
      have x8 := hL.cell (i := 8) rfl
      have x9 := hL.cell (i := 9) rfl
      clear hL
      go_wp2_with fail
      have hsn4 := (HS2.out.pub2 t3)
      refine (live_asc T S 100 100 200 4 1000 fa fb fd HL.out b g _ _ _ (T * S) rfl (hsn4.snaps (fun i _ => by omega)) [] (raw_none _ _ (fun _ _ => rfl)) (by simp) asc_nil _ (HM17.out.kept ((Kept.refl (fun _ => False) w17).drewN nq2) id id)).mono ?_
      rintro e w19 ⟨A2, c2, rfl, hR19, hB19⟩
      have HK19 := Lib.hid ((HK17.out.drewN nq2).trans (Below.kept hB19 (S := fun _ => False) (fun i h1 h2 => by omega)) (fun _ _ h => h))
      clear hR19 hB19
      go_wp2
      go_ret
      exact ⟨rfl, HK19.out.below (Nat.le_refl _) (fun _ h => h.elim)⟩

theorem lawOpn_all (w : World) (th sn ta ja : Int) (tm : Nat) (htm : tm < 18446744073709551616) (m0 m1 m2 : Nat) (hm0 : m0 < 256) (hm1 : m1 < 256) (hm2 : m2 < 256) :
    Calls Try.prog 3 #[.int .i64 th, .int .i64 sn, .int .i64 ta, .int .i64 ja, .int .u64 (tm : Int), .agg #[.int .u8 (m0 : Int), .int .u8 (m1 : Int), .int .u8 (m2 : Int)]] w fun e w' => e = .returned (.bool true) ∧ Below w.heap.size w w' := lawOpn th sn ta ja tm htm m0 m1 m2 hm0 hm1 hm2 w

end Go.Proofs.Ytcmcgjdbopnbbaa
