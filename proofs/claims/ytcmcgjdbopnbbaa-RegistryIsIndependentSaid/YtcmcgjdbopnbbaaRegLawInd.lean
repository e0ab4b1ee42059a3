/-
  The walk of the statement of layer 18 'opening and releasing snapshots of different threads'. Condition: bytes below 256.
-/
import Derived.Test.YtcmcgjdbopnbbaaRegMach
import Derived.Test.YtcmcgjdbopnbbaaKeptRegion
import Derived.Deep.RegionWith
import Derived.Deep.CutBlock
namespace Go.Proofs.Ytcmcgjdbopnbbaa
open Go.RowKit Go.Deep
set_option linter.unusedVariables false

theorem made_row (z : Value) (n : Nat) : madeCells #[z] n = ⟨List.replicate n z⟩ := by
  apply Array.ext'
  apply List.ext_getElem?
  intro i
  by_cases hi : i < n
  · simp [madeCells, hi, Nat.mod_one]
  · rw [List.getElem?_eq_none (by simp [madeCells]; omega), List.getElem?_eq_none (by simp; omega)]
theorem make_u64 (n : Nat) (hn : n ≤ 1099511627776) (w : World) :
    (Instr.makeSlice 47 (.int .i64 (n : Int)) (.int .i64 (n : Int))).run Try.prog w = .ok (.slice (some ⟨w.heap.size, 0, none⟩) n n) (w.alloc (.cells ⟨words (rowN (fun _ => 0) n)⟩ 22)) := by
  rw [run_make_row' (P := Try.prog) 47 22 _ 8 Try.underlying47 Try.info22 rfl .i64 .i64 n (by omega) (by omega) w, made_row, rowN_zero]

theorem make_of (X : Int) (n : Nat) (h : X = (n : Int)) (hn : n ≤ 1099511627776) (w : World) :
    (Instr.makeSlice 47 (.int .i64 X) (.int .i64 X)).run Try.prog w = .ok (.slice (some ⟨w.heap.size, 0, none⟩) n n) (w.alloc (.cells ⟨words (rowN (fun _ => 0) n)⟩ 22)) := by
  subst h; exact make_u64 n hn w

theorem idx_of (p T : Nat) : (p : Int) / 4 % (2 * (T : Int)) = ((p / 4 % (T * 2) : Nat) : Int) := by
  rw [Nat.mul_comm]; simp
theorem op_new2 (T : Nat) (hl : Lim (T : Int) ((2 : Nat) : Int) 100 100 200 4) (fa fb fd : Int) (i : Nat) (hi : i < T * 2) (X Y : Int) (hX : X = ((i / 2 : Nat) : Int)) (hY : Y = ((i % 2 : Nat) : Int)) (w : World) :
    Calls Try.prog 14 #[.agg #[.int .i64 (T : Int), .int .i64 ((2 : Nat) : Int), .int .i64 100, .int .i64 100, .int .i64 200, .int .i64 4, .int .u64 1000, .int .i64 fa, .int .i64 fb, .int .i64 fd], .int .i64 X, .int .i64 Y] w fun e w' => ∃ o q, e = .returned (.pointer (some ⟨o, 0, none⟩)) ∧ OpAt w' o q 0 ((8 + i : Nat) : Int) 0 ∧ w.heap.size ≤ q ∧ w.heap.size ≤ o ∧ Kept (fun _ => False) w w' := by
  subst hX hY
  have := op_new T 2 hl fa fb fd (i / 2) (i % 2) (by omega) (by omega) w
  rwa [show i / 2 * 2 + i % 2 = i by omega] at this
theorem rel_new2 (T : Nat) (hl : Lim (T : Int) ((2 : Nat) : Int) 100 100 200 4) (fa fb fd : Int) (i : Nat) (hi : i < T * 2) (X Y : Int) (hX : X = ((i / 2 : Nat) : Int)) (hY : Y = ((i % 2 : Nat) : Int)) (w : World) :
    Calls Try.prog 23 #[.agg #[.int .i64 (T : Int), .int .i64 ((2 : Nat) : Int), .int .i64 100, .int .i64 100, .int .i64 200, .int .i64 4, .int .u64 1000, .int .i64 fa, .int .i64 fb, .int .i64 fd], .int .i64 X, .int .i64 Y] w fun e w' => ∃ o, e = .returned (.pointer (some ⟨o, 0, none⟩)) ∧ Blk w' o 80 (relv ((8 + i : Nat) : Int) false) ∧ w.heap.size ≤ o ∧ Kept (fun _ => False) w w' := by
  subst hX hY
  have := rel_new T 2 hl fa fb fd (i / 2) (i % 2) (by omega) (by omega) w
  rwa [show i / 2 * 2 + i % 2 = i by omega] at this
/-- The snapshots while an Open of snapshot i has made p steps, and what it has loaded. -/
def opXs (x : Nat → Nat) (i V p : Nat) : Nat → Nat := if p = 0 then x else if p ≤ 2 then upd x i 1 else upd x i (V + 1)
def opVs (V p : Nat) : Nat := if p ≤ 1 then 0 else V
theorem opXs_next (x : Nat → Nat) (i V p : Nat) (hp : p ≤ 2) : opX p (opVs V p) (opXs x i V p) i = opXs x i V (p + 1) := by
  rcases (by omega : p = 0 ∨ p = 1 ∨ p = 2) with rfl | rfl | rfl
  · rfl
  · rfl
  · show upd (upd x i 1) i (V + 1) = upd x i (V + 1); exact upd_upd _ _ _ _
theorem opVs_next (V p : Nat) (hp : p ≤ 2) : opV p (opVs V p) V = opVs V (p + 1) := by
  rcases (by omega : p = 0 ∨ p = 1 ∨ p = 2) with rfl | rfl | rfl <;> rfl

set_option maxRecDepth 100000 in
set_option maxHeartbeats 8000000 in
theorem lawInd (th : Int) (A : Option Addr) (cp : Nat) (ps : List Nat) (m : Nat) (hps : ps.length = m) (hmx : m ≤ maxLen) (hb : ∀ p ∈ ps, p < 256) (w : World)
    (hA : 0 < m → ∃ ga off, A = some ⟨ga, off, none⟩ ∧ ga < w.heap.size ∧ ∀ (i p : Nat), ps[i]? = some p → w.cell? ⟨ga, off + i, none⟩ = some (.int .u8 (p : Int))) :
    Calls Try.prog 7 #[.int .i64 th, .slice A m cp] w fun e w' => e = .returned (.bool true) ∧ Below w.heap.size w w' := by
  obtain ⟨r, hr, hr4⟩ := mod_ex th 4 (by omega)
  obtain ⟨T, hT⟩ : ∃ T, T = r + 1 := ⟨_, rfl⟩
  have HR := Lib.hid hr
  have HA := Lib.hid hA
  have HP := Lib.hid hps
  have HB := Lib.hid hb
  unfold maxLen at hmx
  clear hr hA hps hb
  go_enter Try.func7, Try.ntmps7
  go_upto_region 1 with fail
  go_cut [5] (fun x wx => x = .int .i64 (T : Int) ∧ wx = w)
  case first =>
    go_wp2_with fail
    refine (mod_of _ _ r _ (by omega) (by omega) HR.out).mono ?_; rintro e w2 ⟨rfl, rfl⟩
    go_wp2
    go_meet
    exact ⟨by rw [hT]; first | rfl | (congr 1; omega) | go_num, rfl⟩
  case rest =>
    obtain ⟨rfl, rfl⟩ := hcut
    rename World => w
    clear HR
    have hT1 : 1 ≤ T := by omega
    have hT4 : T ≤ 4 := by omega
    clear hT hr4
    have hl := lim_of (T := T) (S := 2) (by omega) (by omega) (by omega) (by omega)
    have HL := Lib.hid hl
    clear hl
    go_wp2_with fail
    refine (kitConfig_any T _).mono ?_; rintro e w1 ⟨rfl, hK1⟩
    go_wp2_with fail
    refine (kitMem T 2 HL.out _).mono ?_
    intro e w2 hok
    obtain ⟨b, g, l, fa, fb, fd, rfl, hM2, hS2, hb2, hg2, hK2⟩ := hok
    have hz := hK1.size
    have HM2 := Lib.hid hM2
    have HS2 := Lib.hid hS2
    have HB2 := Lib.hid (show w.heap.size ≤ b ∧ w.heap.size ≤ g by omega)
    have HK2 := Lib.hid (hK1.trans hK2 (fun _ _ h => h))
    clear hM2 hS2 hb2 hg2 hz hK1 hK2
    go_wp2_with fail
    have HLY := Lib.hid (Blk.new w2 [.int .i64 (T : Int), .int .i64 ((2 : Nat) : Int), .int .i64 100, .int .i64 100, .int .i64 200, .int .i64 4, .int .u64 1000, .int .i64 fa, .int .i64 fb, .int .i64 fd] 29)
    have HM3 := Lib.hid (HM2.out.alloc (.cells #[.int .i64 (T : Int), .int .i64 ((2 : Nat) : Int), .int .i64 100, .int .i64 100, .int .i64 200, .int .i64 4, .int .u64 1000, .int .i64 fa, .int .i64 fb, .int .i64 fd] 29))
    have HK3 := Lib.hid (HK2.out.alloc (.cells #[.int .i64 (T : Int), .int .i64 ((2 : Nat) : Int), .int .i64 100, .int .i64 100, .int .i64 200, .int .i64 4, .int .u64 1000, .int .i64 fa, .int .i64 fb, .int .i64 fd] 29))
    have HBS : Hid (b < w2.heap.size ∧ g < w2.heap.size ∧ w.heap.size ≤ w2.heap.size) := Lib.hid ⟨HM2.out.obj.lt, HM2.out.row.lt, HK2.out.size⟩
    clear HM2 HK2
    generalize w2.alloc (.cells #[.int .i64 (T : Int), .int .i64 ((2 : Nat) : Int), .int .i64 100, .int .i64 100, .int .i64 200, .int .i64 4, .int .u64 1000, .int .i64 fa, .int .i64 fb, .int .i64 fd] 29) = W3 at *
    generalize w2.heap.size = s at *
    refine (awake_any _).mono ?_; rintro e w4 ⟨rfl, hK4⟩
    have HL4 := Lib.hid (hK4.blk HLY.out id)
    have HM4 := Lib.hid (HM3.out.kept hK4 id id)
    have HK4 := Lib.hid (HK3.out.trans hK4 (fun _ _ h => h))
    clear hK4 HLY HM3 HK3
    by_cases h60 : 60 < m
    · go_wp2_with fail
      refine (awake_any _).mono ?_; rintro e w5 ⟨rfl, hK5⟩
      have HK5 := Lib.hid (HK4.out.trans hK5 (fun _ _ h => h))
      clear hK5
      go_wp2
      go_ret
      exact ⟨rfl, HK5.out.below (Nat.le_refl _) (fun _ h => h.elim)⟩
    · have hmk := make_of (2 * (T : Int)) (T * 2) (by omega) (by omega) w4
      have hv := (show IV w (w4.alloc (.cells ⟨words (rowN (fun _ => 0) (T * 2))⟩ 22)) b g s w4.heap.size T 2 0 0 [.int .i64 (T : Int), .int .i64 ((2 : Nat) : Int), .int .i64 100, .int .i64 100, .int .i64 200, .int .i64 4, .int .u64 1000, .int .i64 fa, .int .i64 fb, .int .i64 fd] (fun _ => 0) (fun _ => 0) from
        ⟨⟨l, HM4.out.alloc _, HS2.out⟩, HL4.out.alloc _, Blk.new w4 _ _, by have := HB2.out; have := HK4.out.size; omega, by have := HM4.out.obj.lt; have := HM4.out.row.lt; have := HL4.out.lt; have := HBS.out; omega, HK4.out.alloc _⟩)
      have HV := Lib.hid hv
      have hbl := HM4.out.obj.lt
      clear hv HM4 HL4 HK4 HBS HB2 HS2
      go_wp2_with fail
      generalize w4.alloc (.cells ⟨words (rowN (fun _ => 0) (T * 2))⟩ 22) = W5 at *
      generalize w4.heap.size = h at *
      clear hmk
      go_loopw [9, 10] (fun u v wr => ∃ (j V c : Nat) (x : Nat → Nat), j ≤ m ∧ V ≤ j ∧ c ≤ 3 * j ∧ (∀ k : Nat, x k ≤ V + 1) ∧ u = .int .u64 (V : Int) ∧ v = .int .i64 (j : Int) ∧ IV w wr b g s h T 2 c V [.int .i64 (T : Int), .int .i64 ((2 : Nat) : Int), .int .i64 100, .int .i64 100, .int .i64 200, .int .i64 4, .int .u64 1000, .int .i64 fa, .int .i64 fb, .int .i64 fd] x x) (fun _ i _ => m - (intOf i).toNat)
      case atStart => exact ⟨0, 0, 0, fun _ => 0, by omega, by omega, by omega, fun _ => Nat.zero_le _, rfl, rfl, HV.out⟩
      case round =>
        obtain ⟨j, V, c, x, hj, hVj, hcj, hxk, rfl, rfl, hv⟩ := hrel
        clear HV
        have HV := Lib.hid hv
        have HX := Lib.hid hxk
        clear hv hxk
        by_cases hlt : j < m
        · obtain ⟨ga, off, rfl, hga, hcell⟩ := HA.out (by omega)
          obtain ⟨p, hp⟩ : ∃ p, ps[j]? = some p := ⟨_, List.getElem?_eq_getElem (by have := HP.out; omega)⟩
          have hp2 := HB.out p (List.mem_of_getElem? hp)
          have c0 := (HV.out.kept.cell (p := ⟨ga, off + j, none⟩) hga id).trans (hcell j p hp)
          obtain ⟨i, hi⟩ : ∃ i, i = p / 4 % (T * 2) := ⟨_, rfl⟩
          have hi2 : i < T * 2 := by rw [hi]; exact Nat.mod_lt _ (by omega)
          have HI := Lib.hid hi
          clear hcell hp hi
          go_upto_region 10 with fail
          go_cut [11] (fun v wx => v = .int .i64 (i : Int) ∧ wx = wr)
          case first =>
            go_wp2_with fail
            go_meet
            exact ⟨by rw [HI.out, idx_of], rfl⟩
          case rest =>
            obtain ⟨rfl, rfl⟩ := hcut
            clear HI
            go_upto_block 2 with fail
            go_cut [9] (fun v wx => ∃ (V' c' : Nat) (x' : Nat → Nat), V' ≤ j + 1 ∧ c' ≤ 3 * (j + 1) ∧ (∀ k : Nat, x' k ≤ V' + 1) ∧ v = .int .u64 (V' : Int) ∧ IV w wx b g s h T 2 c' V' [.int .i64 (T : Int), .int .i64 ((2 : Nat) : Int), .int .i64 100, .int .i64 100, .int .i64 200, .int .i64 4, .int .u64 1000, .int .i64 fa, .int .i64 fb, .int .i64 fd] x' x')
            case first =>
              by_cases hp4 : p % 4 = 0
              · have hp4i : (p : Int) % 4 = 0 := by omega
                go_wp2_with fail
                refine (iv_poke HV.out (V + 1)).mono ?_; rintro e w6 ⟨rfl, hv6⟩
                have HV6 := Lib.hid hv6
                clear hv6 HV
                go_wp2
                go_meet
                exact ⟨V + 1, c, x, by omega, by omega, fun k => by have := HX.out k; omega, by first | rfl | go_num, HV6.out⟩
              · have hp4i : ¬ (p : Int) % 4 = 0 := by omega
                have r0 := HV.out.row.cell (rowN_at x hi2)
                obtain ⟨u, hu⟩ : ∃ u, x i = u := ⟨_, rfl⟩
                rw [hu] at r0
                have hL := HV.out.lay
                have x0 := hL.cell (i := 0) rfl
                have x1 := hL.cell (i := 1) rfl
                have x2 := hL.cell (i := 2) rfl
                have x3 := hL.cell (i := 3) rfl
                have x4 := hL.cell (i := 4) rfl
                have x5 := hL.cell (i := 5) rfl
                have x6 := hL.cell (i := 6) rfl
                have x7 := hL.cell (i := 7) rfl
                have x8 := hL.cell (i := 8) rfl
                have x9 := hL.cell (i := 9) rfl
                clear hL
                by_cases hx0 : u = 0
                · subst hx0
                  go_wp2_with fail
                  refine (op_new2 T HL.out fa fb fd i hi2 _ _ (by first | rfl | omega) (by first | rfl | omega) _).mono ?_; rintro e w6 ⟨o, q, rfl, hO, hq, ho, hK6⟩
                  have hlt := HV.out.lts
                  have HSEP : Hid (∀ i, i = b ∨ i = g ∨ i = s ∨ i = h ∨ i < w.heap.size → o ≠ i ∧ q ≠ i) := Lib.hid (fun i hi => by omega)
                  have HV6 := Lib.hid (HV.out.same0 hK6)
                  have HO6 := Lib.hid hO
                  clear x0 x1 x2 x3 x4 x5 x6 x7 x8 x9 hO hq ho hK6 HV hlt r0
                  go_wp2_with fail
                  go_loopw [13] (fun v wr => ∃ p : Nat, p ≤ 3 ∧ v = .int .i64 (p : Int) ∧ IV w wr b g s h T 2 (c + p) V [.int .i64 (T : Int), .int .i64 ((2 : Nat) : Int), .int .i64 100, .int .i64 100, .int .i64 200, .int .i64 4, .int .u64 1000, .int .i64 fa, .int .i64 fb, .int .i64 fd] (opXs x i V p) x ∧ OpAt wr o q p ((8 + i : Nat) : Int) (opVs V p)) (fun v _ => 3 - (intOf v).toNat)
                  case atStart => exact ⟨0, by omega, rfl, HV6.out, HO6.out⟩
                  case round =>
                    obtain ⟨p, hp, rfl, hv7, hO7⟩ := hrel
                    clear HV6 HO6
                    have HV7 := Lib.hid hv7
                    have HO7 := Lib.hid hO7
                    clear hv7 hO7
                    by_cases hp3 : p < 3
                    · go_wp2_with fail
                      refine (iv_step HV7.out HO7.out hi2 (by omega) (by unfold opVs; split <;> omega) HSEP.out (by omega) rfl (opVs_next V p (by omega)) (opXs_next x i V p (by omega))).mono ?_; rintro e w8 ⟨rfl, hv8, hO8⟩
                      have HV8 := Lib.hid hv8
                      have HO8 := Lib.hid hO8
                      clear hv8 hO8 HV7 HO7
                      go_wp2
                      go_roundw
                      case rel => exact ⟨p + 1, by omega, by go_num, HV8.out, HO8.out⟩
                      case measure => simp [intOf]; omega
                    · obtain rfl : p = 3 := by omega
                      have hO7 : OpAt wr o q 3 ((8 + i : Nat) : Int) V := HO7.out
                      have HOA := Lib.hid hO7
                      have hi2c := HV7.out.row.cell (rowN_at x hi2)
                      have hzf := HV7.out.row.frozen i
                      have hset := HV7.out.set i (V + 1)
                      have hos := hO7.kept ((Kept.refl (fun k => k = h) _).setCell (a := ⟨h, i, none⟩) (fun _ => rfl) (.int .u64 ((V + 1 : Nat) : Int))) (by have := HSEP.out h (by omega); omega) (by have := HSEP.out h (by omega); omega)
                      have HST := Lib.hid hset
                      have HOS := Lib.hid hos
                      clear hset hos hO7
                      go_wp2_with fail
                      refine (op_time HOA.out).mono ?_; rintro e w9 ⟨rfl, rfl⟩
                      go_wp2_with fail
                      refine (op_time HOS.out).mono ?_; rintro e w10 ⟨rfl, rfl⟩
                      go_wp2
                      go_meet
                      exact ⟨V, c + 3, upd x i (V + 1), by omega, by omega, fun k => by have := HX.out k; unfold upd; split <;> omega, rfl, HST.out⟩
                · have hx0i : ¬ (u : Int) = 0 := by omega
                  go_wp2_with fail
                  refine (rel_new2 T HL.out fa fb fd i hi2 _ _ (by first | rfl | omega) (by first | rfl | omega) _).mono ?_; rintro e w6 ⟨o, rfl, hO, ho, hK6⟩
                  have hlt := HV.out.lts
                  have HSEP : Hid (∀ i, i = b ∨ i = g ∨ i = s ∨ i = h ∨ i < w.heap.size → o ≠ i) := Lib.hid (fun i hi => by omega)
                  have HV6 := Lib.hid (HV.out.same0 hK6)
                  have HO6 := Lib.hid hO
                  clear x0 x1 x2 x3 x4 x5 x6 x7 x8 x9 hO ho hK6 HV hlt r0
                  go_wp2_with fail
                  refine (iv_rel HV6.out HO6.out hi2 HSEP.out (by omega)).mono ?_; rintro e w8 ⟨rfl, hv8⟩
                  have hi2c := hv8.row.cell (rowN_at x hi2)
                  have hzf := hv8.row.frozen i
                  have HST := Lib.hid (hv8.set i 0)
                  clear hv8 HV6 HO6
                  go_wp2
                  go_meet
                  exact ⟨V, c + 1, upd x i 0, by omega, by omega, fun k => by have := HX.out k; unfold upd; split <;> omega, rfl, HST.out⟩
            case rest =>
              obtain ⟨V2, c2, x2, hV2, hc2, hx2, rfl, hv2⟩ := hcut
              have HV2 := Lib.hid hv2
              have HX2 := Lib.hid hx2
              clear hv2 hx2 HV HX
              go_wp2_with fail
              go_loopw [15] (fun v wr => ∃ t : Nat, t ≤ T * 2 ∧ v = .int .i64 (t : Int) ∧ IV w wr b g s h T 2 c2 V2 [.int .i64 (T : Int), .int .i64 ((2 : Nat) : Int), .int .i64 100, .int .i64 100, .int .i64 200, .int .i64 4, .int .u64 1000, .int .i64 fa, .int .i64 fb, .int .i64 fd] x2 x2) (fun v _ => T * 2 - (intOf v).toNat)
              case atStart => exact ⟨0, by omega, rfl, HV2.out⟩
              case round =>
                obtain ⟨t, ht, rfl, hv3⟩ := hrel
                clear HV2
                have HV3 := Lib.hid hv3
                clear hv3
                by_cases htl : t < T * 2
                · clear ht
                  have ht : t < T * 2 := htl
                  obtain ⟨u, hu⟩ : ∃ u, x2 t = u := ⟨_, rfl⟩
                  have r0 := HV3.out.row.cell (rowN_at x2 ht)
                  rw [hu] at r0
                  have hw8 : IntKind.i64.wrap (8 + (t : Int)) = 8 + (t : Int) := by simp [IntKind.wrap, IntKind.bits, IntKind.signed]; omega
                  have ht0 : (0 : Int) ≤ (t : Int) := by omega
                  have hfd := field0 (u : Int) 0 ⟨#[]⟩
                  go_upto_region 29 with fail
                  refine qregion (fun w' => IV w w' b g s h T 2 c2 V2 [.int .i64 (T : Int), .int .i64 ((2 : Nat) : Int), .int .i64 100, .int .i64 100, .int .i64 200, .int .i64 4, .int .u64 1000, .int .i64 fa, .int .i64 fb, .int .i64 fd] x2 x2 ∧ w'.cell? ⟨h, t, none⟩ = some (.int .u64 (u : Int))) (by kernel_rfl) (by kernel_rfl) ⟨HV3.out.same0 ((Kept.refl _ _).drew), r0⟩ ?_
                  refine qstep (o := ⟨some 119, _, _, _, _, _⟩) (v := ?_) (by rfl) (fun wq hSw => ?_) ?_
                  rotate_left
                  · (try dsimp only at hSw); go_simp; try with_reducible rfl
                  try simp only [Act.put, List.setIfInBounds_toArray, List.set_cons_zero, List.set_cons_succ]
                  refine qstep (o := ⟨some 120, _, _, _, _, _⟩) (v := ?_) (by rfl) (fun wq hSw => ?_) ?_
                  rotate_left
                  · (try dsimp only at hSw); go_simp; try with_reducible rfl
                  try simp only [Act.put, List.setIfInBounds_toArray, List.set_cons_zero, List.set_cons_succ]
                  refine qstep (o := ⟨some 121, _, _, _, _, _⟩) (v := .int .i64 ((8 + t : Nat) : Int)) (by rfl) (fun wq hSw => ?_) ?_
                  · (try dsimp only at hSw); go_simp; try first | (with_reducible rfl) | (simp; omega) | (intros; omega) | simp [*]
                  try simp only [Act.put, List.setIfInBounds_toArray, List.set_cons_zero, List.set_cons_succ]
                  refine qcall (o := ⟨some 122, _, _, _, _, _⟩) (v := .agg #[.int .u64 (u : Int), .string ⟨#[]⟩, .int .u64 0]) (by rfl) (fun wq hSw => ?_) (fun wq hSw => Calls.mono (iv_peek_of hSw.1 ht hu) ?_) ?_
                  · (try dsimp only at hSw); go_simp; try with_reducible rfl
                  · rintro e w9 ⟨rfl, hk⟩; exact ⟨rfl, ⟨hSw.1.same0 hk, (hk.cell (p := ⟨h, t, none⟩) hSw.1.lts.2.2.2.1 id).trans hSw.2⟩⟩
                  try simp only [Act.put, List.setIfInBounds_toArray, List.set_cons_zero, List.set_cons_succ]
                  refine qstep (o := ⟨some 123, _, _, _, _, _⟩) (v := .int .u64 (u : Int)) (by rfl) (fun wq hSw => ?_) ?_
                  · (try dsimp only at hSw); go_simp; try first | (with_reducible rfl) | (simp; omega) | (intros; omega) | simp [*]
                  try simp only [Act.put, List.setIfInBounds_toArray, List.set_cons_zero, List.set_cons_succ]
                  refine qstep (o := ⟨some 124, _, _, _, _, _⟩) (v := ?_) (by rfl) (fun wq hSw => ?_) ?_
                  rotate_left
                  · (try dsimp only at hSw); go_simp; try with_reducible rfl
                  try simp only [Act.put, List.setIfInBounds_toArray, List.set_cons_zero, List.set_cons_succ]
                  refine qstep (o := ⟨some 125, _, _, _, _, _⟩) (v := ?_) (by rfl) (fun wq hSw => ?_) ?_
                  rotate_left
                  · (try dsimp only at hSw); go_simp; try with_reducible rfl
                  try simp only [Act.put, List.setIfInBounds_toArray, List.set_cons_zero, List.set_cons_succ]
                  refine qstep (o := ⟨some 126, _, _, _, _, _⟩) (v := .pointer (some ⟨h, t, none⟩)) (by rfl) (fun wq hSw => ?_) ?_
                  · (try dsimp only at hSw); go_simp; try first | (with_reducible rfl) | (simp; omega) | (intros; omega) | simp [*]
                  try simp only [Act.put, List.setIfInBounds_toArray, List.set_cons_zero, List.set_cons_succ]
                  refine qstep (o := ⟨some 127, _, _, _, _, _⟩) (v := .int .u64 (u : Int)) (by rfl) (fun wq hSw => ?_) ?_
                  · (try dsimp only at hSw); go_simp; try first | (with_reducible rfl) | (simp; omega) | (intros; omega) | simp [*]
                  try simp only [Act.put, List.setIfInBounds_toArray, List.set_cons_zero, List.set_cons_succ]
                  refine qstep (o := ⟨some 128, _, _, _, _, _⟩) (v := .bool false) (by rfl) (fun wq hSw => ?_) ?_
                  · (try dsimp only at hSw); go_simp; try first | (with_reducible rfl) | (simp; omega) | (intros; omega) | simp [*]
                  try simp only [Act.put, List.setIfInBounds_toArray, List.set_cons_zero, List.set_cons_succ]
                  refine wpQuiet_nil ?_
                  intro wz hHeld
                  obtain ⟨hv4, -⟩ := hHeld
                  have HV4 := Lib.hid hv4
                  clear hv4 HV3 r0 hfd
                  go_wp2
                  go_roundw
                  case rel => exact ⟨t + 1, by omega, by go_num, HV4.out⟩
                  case measure => simp [intOf]; omega
                · obtain rfl : t = T * 2 := by omega
                  go_wp2
                  go_roundw
                  case rel => exact ⟨j + 1, V2, c2, x2, by omega, by omega, by omega, HX2.out, rfl, by go_num, HV3.out⟩
                  case measure => simp [intOf]; omega
        · obtain rfl : j = m := by omega
          go_wp2
          go_ret
          exact ⟨rfl, HV.out.kept.below (Nat.le_refl _) (fun _ h => h.elim)⟩

theorem lawInd_all (w : World) (th : Int) (A : Option Addr) (c : Nat) (ps : List Nat) (hm : ps.length ≤ maxLen) (hr : ∀ p ∈ ps, p < 256) (hc : 0 < ps.length → ∃ ga off, A = some ⟨ga, off, none⟩ ∧ ga < w.heap.size ∧ ∀ (i p : Nat), ps[i]? = some p → w.cell? ⟨ga, off + i, none⟩ = some (.int .u8 (p : Int))) :
    Calls Try.prog 7 #[.int .i64 th, .slice A ps.length c] w fun e w' => e = .returned (.bool true) ∧ Below w.heap.size w w' := lawInd th A c ps _ rfl hm hr w hc

end Go.Proofs.Ytcmcgjdbopnbbaa
