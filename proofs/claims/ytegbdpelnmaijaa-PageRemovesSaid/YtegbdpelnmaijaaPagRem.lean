/-
  What Remove of package page and of its reference answer: the slots whose keys are not named, in a new row; what was there stays as it was. Condition: rows of at most 2^40 slots, at most 2^40 keys named.
-/
import Derived.Test.YtegbdpelnmaijaaPagMem
import Derived.Maps.OwnOps
import Derived.Maps.OwnSet
import Derived.Maps.Views
import Derived.Maps.Keyed
namespace Go.Proofs.Ytegbdpelnmaijaa
open Go.RowKit Go.Deep Plain
set_option linter.unusedVariables false

/-- A slice that reads as these strings. -/
structure Rk (w : World) (A : Option Addr) (ks : List ByteArray) : Prop where
  at' : 0 < ks.length → ∃ g off, A = some ⟨g, off, none⟩ ∧ g < w.heap.size ∧ ∀ (i : Nat) (k : ByteArray), ks[i]? = some k → w.cell? ⟨g, off + i, none⟩ = some (.string k)
theorem Rk.below {w w' : World} {A : Option Addr} {ks : List ByteArray} {B : Nat} (h : Rk w A ks) (hb : Below B w w') (hB : w.heap.size ≤ B) : Rk w' A ks :=
  ⟨fun hp => by
    obtain ⟨g, off, e, hg, hc⟩ := h.at' hp
    exact ⟨g, off, e, Nat.lt_of_lt_of_le hg hb.size, fun i k hk => (hb.cell (p := ⟨g, off + i, none⟩) (Nat.lt_of_lt_of_le hg hB)).trans (hc i k hk)⟩⟩

theorem keyed : Go.Maps.Keyed Try.prog 9 := Go.Maps.string_keyed Try.underlying9
theorem zero_bool (w : World) : (zeroValue 4).run Try.prog w = .ok (.bool false) w := by kernel_rfl
theorem key_string {s : ByteArray} (h : s.size ≤ maxLen) : keyOf Try.prog 9 (.string s) = some (.string s.toList) := by
  rw [Lib.toList_data]
  have hu := Try.underlying9
  simp [keyOf, mapKey, hu, h]
theorem make_map (n : Int) (w : World) : (Instr.makeMap 58 (some (.int .i64 n))).run Try.prog w = .ok (.map (some w.heap.size)) (w.alloc (.map #[] 0)) := by
  have hu := Try.underlying58
  simp [Instr.makeMap, run_underlying hu, asInt, asIntOf, newObj, Result.andThen]
  rfl
theorem map_below {w w1 : World} {b n B : Nat} {D : DataW Unit} (h : w.ownsMap Try.prog 9 (plainElem (H := Unit) Try.prog 4) b n D) (hb : Below B w w1) (hB : b < B) : w1.ownsMap Try.prog 9 (plainElem (H := Unit) Try.prog 4) b n D := by
  obtain ⟨es, clock, h1, h2⟩ := h
  exact ⟨es, clock, (hb.block b hB).trans h1, h2⟩

theorem wpList_lookup_own_bool {P : Program} (w : World) {ops : Array Oper} {rest : List Oper} {o : Oper} {a : Act} {Q : Exit → Act → World → Prop}
    (hg : o.guard = none) (m x : Operand) (t : TypeId) (hop : o.op = Op.lookup t m x false)
    (k e : TypeId) (K : Go.Maps.Keyed P k) (ht : P.underlying t = some (.map k e)) (he : P.underlying e = some .bool) (hz : (zeroValue e).run P w = .ok (.bool false) w) (b n : Nat) (D : DataW Unit)
    (hm : a.eval m = .map (some b)) (hown : w.ownsMap P k (plainElem P e) b n D) (key : Value) (kl : Lit) (hx : a.eval x = key) (hkey : keyOf P k key = some kl) (c : Bool)
    (hc : D.atKey kl (.lit (.bool false)) = .lit (.bool c)) (hK : wpList P ops Q rest (a.put o.dst (.bool c)) w) :
    wpList P ops Q (o :: rest) a w := by
  refine wpList_plain hg fun K' hK' => ?_
  obtain ⟨v, ps, hrun, hv⟩ := hown.lookup K ht hz (plainElem_bool he false) hkey
  rw [hc] at hv
  have hvc : v = .bool c := by
    unfold plainElem at hv
    rw [he] at hv
    cases v <;> simp at hv
    rw [hv.1]
  subst hvc
  unfold Oper.wp
  simp [execOp, hop, hm, hx, hrun, Result.andThen]
  exact hK' _ _ hK

/-- The map says of each key whether it is among those named so far. -/
def Says (D : DataW Unit) (ks : List ByteArray) : Prop := Go.Maps.IsMap D ∧ ∀ s : List UInt8, D.atKey (.string s) (.lit (.bool false)) = .lit (.bool (ks.any fun k => k.toList == s))
theorem Says.nil : Says (.map []) [] := ⟨Go.Maps.isMap_empty, fun s => rfl⟩
theorem Says.put {D : DataW Unit} {ks : List ByteArray} (h : Says D ks) (k : ByteArray) : Says (D.put (.string k.toList) (.lit (.bool true))) (ks ++ [k]) :=
  ⟨h.1.put _ _, fun s => by
    by_cases hs : s = k.toList
    · subst hs
      rw [Go.Maps.atKey_put_same (k := .string k.toList) h.1 trivial]; simp
    · rw [Go.Maps.atKey_put_other (by intro e; cases e; exact hs rfl), h.2 s, List.any_append]
      have : (k.toList == s) = false := by
        cases hx : k.toList == s
        · rfl
        · rw [beq_iff_eq] at hx; exact absurd hx.symm hs
      simp [this]⟩

theorem Rs.one_at (w : World) (k : ByteArray) (r b : Nat) (h : w.heap.size = b) : Rs (w.alloc (.cells #[.string k, .int .u64 (r : Int)] 32)) (some ⟨b, 0, none⟩) 1 [(k, r)] := by subst h; exact Rs.one w k r
theorem rem_take {ks : List ByteArray} {xs : List Sl} {j : Nat} {x : Sl} (h : xs[j]? = some x) : rem ks (xs.take (j + 1)) = if gone ks x = true then rem ks (xs.take j) else rem ks (xs.take j) ++ [x] := by
  rw [take_step h]; unfold rem; rw [List.filter_append]
  cases hg : gone ks x <;> simp [hg]

set_option maxHeartbeats 4000000 in
theorem remove_any (lv : Int) (A : Option Addr) (c : Nat) (hi : ByteArray) (la : Bool) (rt : Nat) (xs : List Sl) (AK : Option Addr) (nk ck : Nat) (ks : List ByteArray) (w : World) (n : Nat) (hn : xs.length = n) (h40 : n ≤ 1099511627776) (hR : Rs w A c xs) (hk : ks.length = nk) (hk40 : nk ≤ 1099511627776) (hK : Rk w AK ks) (hks : ∀ k ∈ ks, k.size ≤ maxLen) (hxs : ∀ x ∈ xs, x.1.size ≤ maxLen)
    (ys : List Sl) (hys : rem ks xs = ys) (m : Nat) (hm : ys.length = m) :
    Calls Try.prog 25 #[.agg #[.int .i64 lv, .slice A n c, .string hi, .bool la, .int .u64 (rt : Int)], .slice AK nk ck] w fun e w' => ∃ A' c', e = .returned (.agg #[.int .i64 lv, .slice A' m c', .string hi, .bool la, .int .u64 (rt : Int)]) ∧
      w'.ownsRow w.heap.size 32 2 (.slice A' m c') m (flat ys) ∧ Below w.heap.size w w' := by
  obtain ⟨P0, S0, B0, Z0⟩ := box_two w [.int .i64 lv, .slice A n c, .string hi, .bool la, .int .u64 (rt : Int)] [.int .i64 0, .slice none 0 0, .string ⟨#[]⟩, .bool false, .int .u64 0] 25 25
  have R0 := hR.below B0 (Nat.le_refl _)
  have K0 := hK.below B0 (Nat.le_refl _)
  have HY := Lib.hid hys
  have HM := Lib.hid hm
  have HKS := Lib.hid hks
  have HXS := Lib.hid hxs
  have hmm := fun n w => make_map n w
  go_enter Try.func25, Try.ntmps25
  go_wp2_with fail
  generalize (w.alloc (.cells #[.int .i64 lv, .slice A n c, .string hi, .bool la, .int .u64 (rt : Int)] 25)).alloc (.cells #[.int .i64 0, .slice none 0 0, .string ⟨#[]⟩, .bool false, .int .u64 0] 25) = W0 at *
  have HR0 := Lib.hid R0
  have HK0 := Lib.hid K0
  have HP0 := Lib.hid P0
  have HS0 := Lib.hid S0
  have HB0 := Lib.hid B0
  have HZ0 := Lib.hid Z0
  clear hys hm hR hK hks hxs P0 S0 B0 Z0 R0 K0 hmm
  go_loopw [16] (fun i wr => ∃ (j : Nat) (D : DataW Unit), j ≤ nk ∧ i = .int .i64 j ∧ wr.ownsMap Try.prog 9 (plainElem (H := Unit) Try.prog 4) (w.heap.size + 2) j D ∧ Says D (ks.take j) ∧ Below W0.heap.size W0 wr) (fun i _ => nk - (intOf i).toNat)
  case atStart => exact ⟨0, .map [], Nat.zero_le _, rfl, by have := World.ownsMap_made W0 Try.prog 9 (plainElem (H := Unit) Try.prog 4); rw [HZ0.out] at this; exact this, Says.nil, (Below.refl _ _).alloc (Nat.le_refl _) _⟩
  case round =>
    obtain ⟨j, D, hj, rfl, hown, hsay, hB⟩ := hrel
    have HO := Lib.hid hown
    have HB := Lib.hid hB
    have HD := Lib.hid hsay
    clear hown hsay
    by_cases hjn : j < nk
    · obtain ⟨k, hkj⟩ : ∃ k, ks[j]? = some k := ⟨_, List.getElem?_eq_getElem (by omega)⟩
      obtain ⟨g, off, rfl, hg, hcell⟩ := HK0.out.at' (by omega)
      have c0 := (hB.cell (p := ⟨g, off + j, none⟩) hg).trans (hcell j k hkj)
      have hkey := key_string (HKS.out k (List.mem_of_getElem? hkj))
      have hst : ks.take (j + 1) = ks.take j ++ [k] := by
        obtain ⟨h1, rfl⟩ := List.getElem?_eq_some_iff.1 hkj
        exact List.take_succ_eq_append_getElem h1
      have HST := Lib.hid hst
      have HKEY := Lib.hid hkey
      clear hst hkey hcell hkj hB
      go_wp2_with (at_mapUpdate; go_must (refine wpList_mapUpdate_own _ rfl _ _ _ 58 rfl 9 4 keyed Try.underlying58 (plainElem (H := Unit) Try.prog 4) (w.heap.size + 2) j D rfl HO.out (by unfold maxLen; omega) _ _ _ rfl rfl HKEY.out (.lit (.bool true)) [] (plainElem_bool Try.underlying4 true) ?_))
      intro w1 hown1 hgr1
      have HO1 := Lib.hid hown1
      have HB1 := Lib.hid (HB.out.grown hgr1 HB.out.size (fun k hk => by cases hk; have := HZ0.out; omega))
      have HD1 := Lib.hid (HD.out.put k)
      clear hown1 hgr1
      go_wp2
      go_roundw
      case rel => exact ⟨j + 1, _, by omega, by go_num, HO1.out, by rw [HST.out]; exact HD1.out, HB1.out⟩
      case measure => simp [intOf]; omega
    · obtain rfl : j = nk := by omega
      have hsay := HD.out
      rw [List.take_of_length_le (by omega)] at hsay
      have HD := Lib.hid hsay
      have P1 := HP0.out.below HB.out (by have := HZ0.out; omega)
      have hb1 := P1.cell (i := 1) rfl
      have hmb : w.heap.size + 2 < wr.heap.size := HO.out.lt
      have HR1 := Lib.hid (HR0.out.below HB.out (Nat.le_refl _))
      rename World => W1
      have HP1 := Lib.hid P1
      have HS1 := Lib.hid (HS0.out.below HB.out (by have := HZ0.out; omega))
      have HB1 := Lib.hid (HB0.out.trans (HB.out.mono (by have := HZ0.out; omega)))
      have hz0 := HZ0.out
      clear hsay HK0 HKS HB P1 hB HP0 HS0 HB0 HZ0 HR0
      go_wp2_with fail
      go_loopw [8, 26] (fun l i wr => ∃ (j t : Nat) (zs : List Sl), j ≤ n ∧ i = .int .i64 j ∧ rem ks (xs.take j) = zs ∧ zs.length = t ∧ wr.ownsRow W1.heap.size 32 2 l t (flat zs) ∧ Below W1.heap.size W1 wr) (fun _ i _ => n - (intOf i).toNat)
      case atStart => exact ⟨0, 0, [], by omega, rfl, rfl, rfl, World.ownsRow_nil _ _ _ _, Below.refl _ _⟩
      case round =>
        obtain ⟨j2, t, zs, hj2, rfl, hzs, ht, hown, hB⟩ := hrel
        have hszr := hB.size
        have HO2 := Lib.hid hown
        have HB := Lib.hid hB
        have htl : t ≤ j2 := by rw [← ht, ← hzs]; have := rem_length ks (xs.take j2); rw [List.length_take] at this; omega
        clear hown
        by_cases hlt : j2 < n
        · obtain ⟨x, hx⟩ : ∃ x, xs[j2]? = some x := ⟨_, List.getElem?_eq_getElem (by omega)⟩
          have hrt := rem_take (ks := ks) hx
          rw [hzs] at hrt
          obtain ⟨g, off, rfl, hg, hcell⟩ := HR1.out.at (by omega)
          obtain ⟨c0, c1⟩ := hcell j2 x hx
          have c0 := (hB.cell (p := ⟨g, off + j2 * 2, none⟩) hg).trans c0
          have c1 := (hB.cell (p := ⟨g, off + j2 * 2 + 1, none⟩) hg).trans c1
          have hkey := key_string (HXS.out x (List.mem_of_getElem? hx))
          have hat := HD.out.2 x.1.toList
          have hmap := (map_below HO.out hB hmb).alloc (.cells #[.string x.1, .int .u64 (x.2 : Int)] 32)
          change _ = DataW.lit (.bool (gone ks x)) at hat
          have HAT := Lib.hid hat
          have HKEY := Lib.hid hkey
          have HMAP := Lib.hid hmap
          have HRT := Lib.hid hrt
          clear hat hkey hmap hrt hcell hx hzs hB
          cases hgx : gone ks x
          · have hat2 := HAT.out
            rw [hgx] at hat2
            have HAT2 := Lib.hid hat2
            have hr2 := HRT.out
            rw [hgx] at hr2
            have HR2 := Lib.hid hr2
            clear hat2 hr2 HAT HRT
            go_wp2_with (first
              | (at_lookup; go_must (refine wpList_lookup_own_bool _ rfl _ _ 58 rfl 9 4 keyed Try.underlying58 Try.underlying4 (zero_bool _) (w.heap.size + 2) _ D rfl HMAP.out _ _ rfl HKEY.out false HAT2.out ?_))
              | (at_builtin; go_must (refine wpList_app rfl (.tmp 35) (.tmp 37) rfl W1.heap.size _ t zs rfl ((HO2.out.alloc _).alloc _) (some ⟨wr.heap.size + 1, 0, none⟩) 1 1 [x] rfl rfl (Rs.one_at _ x.1 x.2 _ (nblk_alloc _ _)) (by omega) (by rw [nblk_alloc, nblk_alloc]; omega) ?_))
              | go_in)
            intro v2 w2 hown2 hB2
            have hB3 := ((HB.out.alloc hszr _).alloc (by rw [nblk_alloc]; omega) _).trans hB2
            obtain ⟨A2, c2, rfl, hl2, hR2', hb2⟩ := Rs.own hown2
            have HB3 := Lib.hid hB3
            have HO3 := Lib.hid hown2
            clear hown2 hB2 hB3 hR2' hb2 HO2 HB HMAP
            go_wp2
            go_roundw
            case rel => exact ⟨j2 + 1, t + 1, zs ++ [x], by omega, by go_num, by rw [HR2.out]; rfl, by rw [List.length_append, ht]; rfl, HO3.out, HB3.out⟩
            case measure => simp [intOf]; omega
          · have hat2 := HAT.out
            rw [hgx] at hat2
            have HAT2 := Lib.hid hat2
            have hr2 := HRT.out
            rw [hgx] at hr2
            have HR2 := Lib.hid hr2
            clear hat2 hr2 HAT HRT
            go_wp2_with (first
              | (at_lookup; go_must (refine wpList_lookup_own_bool _ rfl _ _ 58 rfl 9 4 keyed Try.underlying58 Try.underlying4 (zero_bool _) (w.heap.size + 2) _ D rfl HMAP.out _ _ rfl HKEY.out true HAT2.out ?_))
              | go_in)
            go_roundw
            case rel => exact ⟨j2 + 1, t, zs, by omega, by go_num, by rw [HR2.out]; rfl, ht, HO2.out.alloc _, HB.out.alloc hszr _⟩
            case measure => simp [intOf]; omega
        · have hzy : zs = ys := by rw [← hzs, ← HY.out, List.take_of_length_le (by omega)]
          have htm : t = m := by rw [← ht, hzy]; exact HM.out
          subst htm
          have hown := HO2.out
          rw [hzy] at hown
          obtain ⟨A2, c2, rfl, hl2, hR2', hb2⟩ := Rs.own hown
          have hPr := HP1.out.below hB (by omega)
          have hSr := HS1.out.below hB (by omega)
          have x0 := hPr.cell (i := 0) rfl
          have x1 := hPr.cell (i := 1) rfl
          have x2 := hPr.cell (i := 2) rfl
          have x3 := hPr.cell (i := 3) rfl
          have x4 := hPr.cell (i := 4) rfl
          have xf := hPr.frozen 1
          have y0 := hSr.cell (i := 0) rfl
          have y1 := hSr.cell (i := 1) rfl
          have y2 := hSr.cell (i := 2) rfl
          have y3 := hSr.cell (i := 3) rfl
          have y4 := hSr.cell (i := 4) rfl
          have z0 := hSr.frozen 0
          have z1 := hSr.frozen 1
          have z2 := hSr.frozen 2
          have z3 := hSr.frozen 3
          have z4 := hSr.frozen 4
          have HO3 := Lib.hid hown
          have HBF := Lib.hid (HB1.out.trans (hB.mono (by omega)))
          clear hB hPr hSr hown hR2' hb2 hzs hzy ht HO2 HB hl2 hb1
          go_wp2
          all_goals
            refine bodyPost_ret (v := .agg #[.int .i64 lv, .slice A2 t c2, .string hi, .bool la, .int .u64 (rt : Int)]) (by simp [results, Try.results25, go_sem, *]) rfl ?_
            exact ⟨_, _, rfl, own_less (own_page HO3.out (by omega) (by omega) _ _ _ _ _ _) (by omega), below_page HBF.out (Nat.le_refl _) (Nat.le_succ _) _ _ _ _ _ _⟩

/-- Nothing but draws lies between. -/
def Drawn2 (W wr : World) : Prop := ∃ q, wr = W.drewN q
theorem Drawn2.more {W wr : World} (h : Drawn2 W wr) (q : Nat) : Drawn2 W (wr.drewN q) := by obtain ⟨p, rfl⟩ := h; exact ⟨p + q, by rw [World.drewN_drewN]⟩
theorem Drawn2.below {W wr : World} (h : Drawn2 W wr) (B : Nat) : Below B W wr := by obtain ⟨q, rfl⟩ := h; exact below_drewN (Below.refl B W) q
theorem Drawn2.own {W wr : World} {base e size n : Nat} {v : Value} {xs : List Value} (h : Drawn2 W wr) (ho : W.ownsRow base e size v n xs) : wr.ownsRow base e size v n xs := by obtain ⟨q, rfl⟩ := h; exact ho
theorem gone_fold {ks : List ByteArray} {x : Sl} {i : Nat} {k : ByteArray} (h : ks[i]? = some k) : gone (ks.take (i + 1)) x = (gone (ks.take i) x || k.toList == x.1.toList) := by
  obtain ⟨hi, rfl⟩ := List.getElem?_eq_some_iff.1 h
  unfold gone; rw [List.take_succ_eq_append_getElem hi, List.any_append]; simp

set_option maxHeartbeats 4000000 in
theorem refRemove_any (lv : Int) (A : Option Addr) (c : Nat) (hi : ByteArray) (la : Bool) (rt : Nat) (xs : List Sl) (AK : Option Addr) (nk ck : Nat) (ks : List ByteArray) (w : World) (n : Nat) (hn : xs.length = n) (h40 : n ≤ 1099511627776) (hR : Rs w A c xs) (hk : ks.length = nk) (hk40 : nk ≤ 1099511627776) (hK : Rk w AK ks) 
    (ys : List Sl) (hys : rem ks xs = ys) (m : Nat) (hm : ys.length = m) :
    Calls Try.prog 26 #[.agg #[.int .i64 lv, .slice A n c, .string hi, .bool la, .int .u64 (rt : Int)], .slice AK nk ck] w fun e w' => ∃ A' c', e = .returned (.agg #[.int .i64 lv, .slice A' m c', .string hi, .bool la, .int .u64 (rt : Int)]) ∧
      w'.ownsRow w.heap.size 32 2 (.slice A' m c') m (flat ys) ∧ Below w.heap.size w w' := by
  obtain ⟨P0, S0, B0, Z0⟩ := box_two w [.int .i64 lv, .slice A n c, .string hi, .bool la, .int .u64 (rt : Int)] [.int .i64 0, .slice none 0 0, .string ⟨#[]⟩, .bool false, .int .u64 0] 25 25
  have R0 := hR.below B0 (Nat.le_refl _)
  have K0 := hK.below B0 (Nat.le_refl _)
  have HY := Lib.hid hys
  have HM := Lib.hid hm
  go_enter Try.func26, Try.ntmps26
  go_wp2_with fail
  generalize (w.alloc (.cells #[.int .i64 lv, .slice A n c, .string hi, .bool la, .int .u64 (rt : Int)] 25)).alloc (.cells #[.int .i64 0, .slice none 0 0, .string ⟨#[]⟩, .bool false, .int .u64 0] 25) = W1 at *
  have HR1 := Lib.hid R0
  have HK1 := Lib.hid K0
  have HP1 := Lib.hid P0
  have HS1 := Lib.hid S0
  have HB1 := Lib.hid B0
  have hz0 : w.heap.size + 2 ≤ W1.heap.size := by omega
  clear hys hm hR hK P0 S0 B0 Z0 R0 K0
  go_loopw [5, 6] (fun l i wr => ∃ (j t : Nat) (zs : List Sl), j ≤ n ∧ i = .int .i64 j ∧ rem ks (xs.take j) = zs ∧ zs.length = t ∧ wr.ownsRow W1.heap.size 32 2 l t (flat zs) ∧ Below W1.heap.size W1 wr) (fun _ i _ => n - (intOf i).toNat)
  case atStart => exact ⟨0, 0, [], by omega, rfl, rfl, rfl, World.ownsRow_nil _ _ _ _, Below.refl _ _⟩
  case round =>
    obtain ⟨j, t, zs, hj, rfl, hzs, ht, hown, hB⟩ := hrel
    have hszr := hB.size
    have HO := Lib.hid hown
    have HB := Lib.hid hB
    have htl : t ≤ j := by rw [← ht, ← hzs]; have := rem_length ks (xs.take j); rw [List.length_take] at this; omega
    have hPr := HP1.out.below hB (by omega)
    have b1 := hPr.cell (i := 1) rfl
    clear hown
    by_cases hlt : j < n
    · obtain ⟨x, hx⟩ : ∃ x, xs[j]? = some x := ⟨_, List.getElem?_eq_getElem (by omega)⟩
      have hrt := rem_take (ks := ks) hx
      rw [hzs] at hrt
      have HRT := Lib.hid hrt
      have HX := Lib.hid hx
      have HZS := Lib.hid hzs
      have HPR := Lib.hid hPr
      clear hrt hx hzs hPr hB
      rename World => V
      go_wp2_with fail
      go_loopw [7, 8] (fun b i wf => ∃ q : Nat, q ≤ nk ∧ i = .int .i64 q ∧ b = .bool (gone (ks.take q) x) ∧ Drawn2 V wf) (fun _ i _ => nk - (intOf i).toNat)
      case atStart => exact ⟨0, Nat.zero_le _, rfl, rfl, 0, rfl⟩
      case round =>
        obtain ⟨q, hq, rfl, rfl, hd⟩ := hrel
        have hdB := hd.below V.heap.size
        have hPw := HPR.out.below hdB (by omega)
        have b1 := hPw.cell (i := 1) rfl
        have hBf := HB.out.trans (hd.below _)
        obtain ⟨g, off, rfl, hg, hcell⟩ := HR1.out.at (by omega)
        obtain ⟨c0, c1⟩ := hcell j x HX.out
        have c0 := (hBf.cell (p := ⟨g, off + j * 2, none⟩) hg).trans c0
        have c1 := (hBf.cell (p := ⟨g, off + j * 2 + 1, none⟩) hg).trans c1
        have HD := Lib.hid hd
        clear hcell
        by_cases hqk : q < nk
        · obtain ⟨k, hkq⟩ : ∃ k, ks[q]? = some k := ⟨_, List.getElem?_eq_getElem (by omega)⟩
          obtain ⟨gk, offk, rfl, hgk, hcellk⟩ := HK1.out.at' (by omega)
          have d0 := (hBf.cell (p := ⟨gk, offk + q, none⟩) hgk).trans (hcellk q k hkq)
          have hst := gone_fold (x := x) hkq
          generalize gone (ks.take q) x = bb at hst ⊢
          generalize hlit : (k.toList == x.1.toList) = b2 at hst
          have HST := Lib.hid hst
          clear hst hcellk hkq hd hdB hBf hPw
          cases bb
          · cases b2
            all_goals
              go_wp2_with fail
              go_quiet (fail)
              go_wp2
              go_roundw
              case rel => exact ⟨q + 1, by omega, by go_num, by rw [HST.out]; rfl, HD.out.more _⟩
              case measure => simp [intOf]; omega
          · go_wp2_with fail
            go_quiet (fail)
            go_wp2
            go_roundw
            case rel => exact ⟨q + 1, by omega, by go_num, by rw [HST.out]; rfl, HD.out.more _⟩
            case measure => simp [intOf]; omega
        · obtain rfl : q = nk := by omega
          rw [List.take_of_length_le (by omega)]
          have hrt := HRT.out
          have hsz : V.heap.size = wr.heap.size := by obtain ⟨q, rfl⟩ := hd; rfl
          have HO2 := Lib.hid (hd.own HO.out)
          have HB2 := Lib.hid hBf
          have HZ := Lib.hid HZS.out
          cases hgx : gone ks x
          · rw [hgx] at hrt
            have HR2 := Lib.hid hrt
            clear hrt hd hdB hBf hPw HRT HO HB HPR
            go_wp2_with (first
              | (at_builtin; go_must (refine wpList_app rfl (.tmp 38) (.tmp 44) rfl W1.heap.size _ t zs rfl (HO2.out.alloc _) (some ⟨wr.heap.size, 0, none⟩) 1 1 [x] rfl rfl (Rs.one _ x.1 x.2) (by omega) (by rw [nblk_alloc]; omega) ?_))
              | go_in)
            intro v2 w2 hown2 hB2'
            have hB3 := (HB2.out.alloc (by omega) _).trans hB2'
            obtain ⟨A2, c2, rfl, hl2, hR2', hb2⟩ := Rs.own hown2
            have HB3 := Lib.hid hB3
            have HO3 := Lib.hid hown2
            clear hown2 hB2' hB3 hR2' hb2 HO2 HB2
            go_wp2
            go_roundw
            case rel => exact ⟨j + 1, t + 1, zs ++ [x], by omega, by go_num, by rw [HR2.out]; rfl, by rw [List.length_append, ht]; rfl, HO3.out, HB3.out⟩
            case measure => simp [intOf]; omega
          · rw [hgx] at hrt
            have HR2 := Lib.hid hrt
            clear hrt hd hdB hBf hPw HRT HO HB HPR
            go_wp2
            go_roundw
            case rel => exact ⟨j + 1, t, zs, by omega, by go_num, by rw [HR2.out]; rfl, ht, HO2.out, HB2.out⟩
            case measure => simp [intOf]; omega
    · have hzy : zs = ys := by rw [← hzs, ← HY.out, List.take_of_length_le (by omega)]
      have htm : t = m := by rw [← ht, hzy]; exact HM.out
      subst htm
      have hown := HO.out
      rw [hzy] at hown
      obtain ⟨A2, c2, rfl, hl2, hR2', hb2⟩ := Rs.own hown
      have hSr := HS1.out.below hB (by omega)
      have x0 := hPr.cell (i := 0) rfl
      have x2 := hPr.cell (i := 2) rfl
      have x3 := hPr.cell (i := 3) rfl
      have x4 := hPr.cell (i := 4) rfl
      have xf := hPr.frozen 1
      have y0 := hSr.cell (i := 0) rfl
      have y1 := hSr.cell (i := 1) rfl
      have y2 := hSr.cell (i := 2) rfl
      have y3 := hSr.cell (i := 3) rfl
      have y4 := hSr.cell (i := 4) rfl
      have z0 := hSr.frozen 0
      have z1 := hSr.frozen 1
      have z2 := hSr.frozen 2
      have z3 := hSr.frozen 3
      have z4 := hSr.frozen 4
      have HO3 := Lib.hid hown
      have HBF := Lib.hid (HB1.out.trans (hB.mono (by omega)))
      clear hB hPr hSr hown hR2' hb2 hzs hzy ht HO HB hl2
      go_wp2
      all_goals
        refine bodyPost_ret (v := .agg #[.int .i64 lv, .slice A2 t c2, .string hi, .bool la, .int .u64 (rt : Int)]) (by simp [results, Try.results26, go_sem, *]) rfl ?_
        exact ⟨_, _, rfl, own_less (own_page HO3.out (by omega) (by omega) _ _ _ _ _ _) (by omega), below_page HBF.out (Nat.le_refl _) (Nat.le_succ _) _ _ _ _ _ _⟩
end Go.Proofs.Ytegbdpelnmaijaa
