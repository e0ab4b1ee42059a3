/-
  What Normalize, Normal and the reference's Normalize answer. Condition: batches of at most a million writes, strings within the model's reach.
-/
import Derived.Test.YtdhobiiejokglaaBatApp
import Derived.Test.YtdhobiiejokglaaBatSame
import Derived.Test.YtdhobiiejokglaaBatFit
namespace Go.Proofs.Ytdhobiiejokglaa
open Go.RowKit Go.Deep Plain PlainE
set_option linter.unusedVariables false

/-- What Normalize hands back. -/
def nrm (b : List Wri) : List Wri := if chk b = 0 then normL b else []
theorem nrm_ok {b : List Wri} (h : chk b = 0) : nrm b = normL b := by unfold nrm; rw [if_pos h]
theorem nrm_no {b : List Wri} (h : chk b ≠ 0) : nrm b = [] := by unfold nrm; rw [if_neg h]
set_option maxHeartbeats 1000000 in
theorem normalize_any (A : Option Addr) (c : Nat) (b : List Wri) (w : World) (n : Nat) (hn : b.length = n) (h40 : n ≤ 1000000) (hR : RW w A c b) (hs : ∀ x ∈ b, Sz x) (e0 : Int) (he : chk b = e0) (r : Nat) (hr : (nrm b).length = r) :
    Calls Try.prog 12 #[.slice A n c] w fun e w' => ∃ A' c', e = .returned (.tuple #[.slice A' r c', .int .i64 e0]) ∧ RW w' A' c' (nrm b) ∧ Below w.heap.size w w' := by
  have HR := Lib.hid hR
  have HE := Lib.hid he
  have HRR := Lib.hid hr
  clear hR he hr
  go_enter Try.func12, Try.ntmps12
  go_wp2_with fail
  refine (check_any A c b _ n hn (by omega) HR.out hs e0 HE.out).mono ?_; rintro e w1 ⟨rfl, hB1⟩
  have HR1 := Lib.hid (HR.out.below hB1 (Nat.le_refl _))
  have HB1 := Lib.hid hB1
  have hs1 := hB1.size
  clear hB1
  by_cases h0 : e0 = 0
  · have hk : nrm b = normL b := nrm_ok (by rw [HE.out]; exact h0)
    have HK := Lib.hid hk
    subst h0
    go_wp2_with fail
    refine (lastWrites_any A c b _ n hn h40 HR1.out hs r (by rw [← HK.out]; exact HRR.out)).mono ?_; rintro e w2 ⟨A2, c2, rfl, hR2, hB2⟩
    rw [← HK.out] at hR2
    have HR2 := Lib.hid hR2
    have HB2 := Lib.hid (HB1.out.trans (hB2.mono hs1))
    clear hR2 hB2 hk
    go_wp2
    go_ret2
    exact ⟨_, _, rfl, HR2.out, HB2.out⟩
  · have hk : nrm b = [] := nrm_no (by rw [HE.out]; exact h0)
    have HK := Lib.hid hk
    obtain rfl : r = 0 := by rw [← HRR.out, hk]; rfl
    have h1 : (e0 == 0) = false := by simpa using h0
    have h2 : (e0 != 0) = true := by simpa using h0
    clear hk
    go_wp2
    go_ret2
    exact ⟨_, _, rfl, by rw [HK.out]; exact RW.nil _, HB1.out⟩

set_option maxHeartbeats 1000000 in
theorem normal_any (A : Option Addr) (c : Nat) (b : List Wri) (w : World) (n : Nat) (hn : b.length = n) (h40 : n ≤ 1000000) (hR : RW w A c b) (hs : ∀ x ∈ b, Sz x) (v : Bool) (hv : (decide (chk b = 0) && decide (nrm b = b)) = v) :
    Calls Try.prog 20 #[.slice A n c] w fun e w' => e = .returned (.bool v) ∧ Below w.heap.size w w' := by
  obtain ⟨e0, he⟩ : ∃ e0, chk b = e0 := ⟨_, rfl⟩
  obtain ⟨r, hr⟩ : ∃ r, (nrm b).length = r := ⟨_, rfl⟩
  have hr4 : r ≤ 1000000 := by
    rw [← hr]
    unfold nrm
    split
    · rw [normL_length]
      have : ∀ b : List Wri, (keysB b).length ≤ b.length := snoc_ind (Nat.le_refl _) fun b w ih => by
        rw [keysB_len_snoc, List.length_append]; split <;> simp <;> omega
      have := this b; omega
    · simp
  have HR := Lib.hid hR
  have HE := Lib.hid he
  have HRR := Lib.hid hr
  have HV := Lib.hid hv
  clear hR he hr hv
  go_enter Try.func20, Try.ntmps20
  go_wp2_with fail
  refine (normalize_any A c b _ n hn h40 HR.out hs e0 HE.out r HRR.out).mono ?_; rintro e w1 ⟨A1, c1, rfl, hR1, hB1⟩
  have HR0 := Lib.hid (HR.out.below hB1 (Nat.le_refl _))
  have HR1 := Lib.hid hR1
  have HB1 := Lib.hid hB1
  have hs1 := hB1.size
  clear hB1 hR1
  by_cases h0 : e0 = 0
  · have hv2 : decide (nrm b = b) = v := by rw [← HV.out, HE.out, h0]; simp
    have HV2 := Lib.hid hv2
    subst h0
    clear hv2
    go_wp2_with fail
    refine (equalW_any A1 A c1 c (nrm b) b _ r n HRR.out hn (by omega) (by omega) HR1.out HR0.out v HV2.out).mono ?_; rintro e w2 ⟨rfl, hB2⟩
    have HB2 := Lib.hid (HB1.out.trans (hB2.mono hs1))
    clear hB2
    go_wp2
    go_ret
    exact ⟨by first | rfl | simp, HB2.out⟩
  · obtain rfl : v = false := by rw [← HV.out, HE.out]; simp [h0]
    have h1 : (e0 == 0) = false := by simpa using h0
    go_wp2
    go_ret
    exact ⟨by first | rfl | simp, HB1.out⟩

def normTo (b : List Wri) (k : Nat) : List Wri := ((keysB b).take k).filterMap fun e => lastW b e.1
theorem normTo_all (b : List Wri) : normTo b (keysB b).length = normL b := by unfold normTo normL; rw [List.take_length]
theorem normTo_nx {b : List Wri} {k : Nat} {e : Ent} {x : Wri} (h : (keysB b)[k]? = some e) (hx : lastW b e.1 = some x) : normTo b (k + 1) = normTo b k ++ [x] := by
  unfold normTo
  rw [take_nx h, List.filterMap_append]
  simp [hx]
theorem normTo_len {b : List Wri} : ∀ {k : Nat}, k ≤ (keysB b).length → (normTo b k).length = k
  | 0, _ => rfl
  | k + 1, h => by
    obtain ⟨e, he⟩ : ∃ e, (keysB b)[k]? = some e := ⟨_, List.getElem?_eq_getElem (by omega)⟩
    obtain ⟨x, hx⟩ := keysB_mem (List.mem_of_getElem? he)
    rw [normTo_nx he hx, List.length_append, normTo_len (by omega)]; rfl
theorem keysB_len (b : List Wri) : (keysB b).length ≤ b.length := snoc_ind (p := fun b => (keysB b).length ≤ b.length) (Nat.le_refl _) (fun b w ih => by
  rw [keysB_len_snoc, List.length_append]; split <;> simp <;> omega) b
theorem keysB_take {b : List Wri} {j : Nat} {x : Wri} (h : b[j]? = some x) : keysB (b.take (j + 1)) = putL (keysB (b.take j)) (x.1, ⟨#[]⟩) := by rw [take_nx h, keysB_snoc]
theorem lastW_drop {b : List Wri} {i : Nat} {x : Wri} {k : ByteArray} (h : b[i]? = some x) (hn : lastW (b.drop (i + 1)) k = none) : lastW (b.drop i) k = if eqk x.1 k = true then some x else none := by
  rw [drop_nx h, lastW, hn]
theorem lastW_of_drop {b : List Wri} {i : Nat} {x : Wri} {k : ByteArray} (h : lastW (b.drop i) k = some x) : lastW b k = some x := by
  conv => lhs; rw [← List.take_append_drop i b]
  rw [lastW_append, h]
set_option maxRecDepth 100000 in
set_option maxHeartbeats 4000000 in
theorem refNormalize_any (A : Option Addr) (c : Nat) (b : List Wri) (w : World) (n : Nat) (hn : b.length = n) (h40 : n ≤ 1000000) (hR : RW w A c b) (r : Nat) (hr : (normL b).length = r) :
    Calls Try.prog 18 #[.slice A n c] w fun e w' => ∃ A' c', e = .returned (.slice A' r c') ∧ RW w' A' c' (normL b) ∧ Below w.heap.size w w' := by
  have HR := Lib.hid hR
  have HN := Lib.hid hn
  have hrk : (keysB b).length = r := by rw [← normL_length]; exact hr
  have hrn : r ≤ n := by rw [← hrk, ← hn]; exact keysB_len b
  have HK := Lib.hid hrk
  clear hR hn hr hrk
  go_enter Try.func18, Try.ntmps18
  go_wp2_with fail
  go_loopw [3, 4] (fun o i wr => ∃ (j q : Nat) (A1 : Option Addr) (c1 : Nat), j ≤ n ∧ q ≤ j ∧ i = .int .i64 j ∧ o = .slice A1 q c1 ∧ (keysB (b.take j)).length = q ∧ RE wr A1 c1 (keysB (b.take j)) ∧ Below w.heap.size w wr) (fun _ i _ => n - (intOf i).toNat)
  case atStart => exact ⟨0, 0, none, 0, Nat.zero_le _, Nat.le_refl _, rfl, rfl, rfl, RE.nil _, Below.refl _ _⟩
  case round =>
    obtain ⟨j, q, A1, c1, hj, hq, rfl, rfl, hl, hR1, hbel⟩ := hrel
    have HL := Lib.hid hl
    have HR1 := Lib.hid hR1
    have HB := Lib.hid hbel
    have hs := hbel.size
    clear hl hR1
    by_cases hlt : j < n
    · obtain ⟨x, hx⟩ : ∃ x, b[j]? = some x := ⟨_, List.getElem?_eq_getElem (by have := HN.out; omega)⟩
      obtain ⟨g, off, rfl, hg, hcell⟩ := (HR.out.below hbel (Nat.le_refl _)).at (by have := HN.out; omega)
      obtain ⟨c0, c1', c2'⟩ := hcell j x hx
      have hst := keysB_take hx
      obtain ⟨q2, hq2⟩ : ∃ q2, (putL (keysB (b.take j)) (x.1, ⟨#[]⟩)).length = q2 := ⟨_, rfl⟩
      have hq2n : q2 ≤ q + 1 := by rw [← hq2, ← HL.out]; exact putL_len _ _
      have HST := Lib.hid hst
      have HQ2 := Lib.hid hq2
      clear hcell hx hst hbel hq2
      go_wp2_with fail
      refine (put_yes A1 q c1 _ x.1 ⟨#[]⟩ _ HL.out (by omega) HR1.out q2 HQ2.out).mono ?_; rintro e w1 ⟨A2, c2, rfl, hR3, hB1⟩
      have HB1 := Lib.hid (HB.out.trans (hB1.mono hs))
      have HR3 := Lib.hid hR3
      clear hB1 hR3
      go_wp2
      go_roundw
      case rel => exact ⟨j + 1, q2, _, _, by omega, by omega, by go_num, rfl, by rw [HST.out]; exact HQ2.out, by rw [HST.out]; exact HR3.out, HB1.out⟩
      case measure => simp [intOf]; omega
    · have hfull : b.take j = b := List.take_of_length_le (by have := HN.out; omega)
      have hqr : q = r := by rw [← HL.out, hfull]; exact HK.out
      have hR2 := HR1.out
      rw [hfull] at hR2
      have HR2 := Lib.hid hR2
      subst hqr
      have HRb := Lib.hid (HR.out.below hbel (Nat.le_refl _))
      clear hfull hR2 HR1 HL hbel
      rename World => V1
      go_wp2_with fail
      go_loopw [5, 6] (fun o i wr2 => ∃ (k : Nat) (vo : Value), vo = o ∧ k ≤ q ∧ i = .int .i64 k ∧ wr2.ownsRow V1.heap.size 38 3 vo k (flatW (normTo b k)) ∧ Below V1.heap.size V1 wr2) (fun _ i _ => q - (intOf i).toNat)
      case atStart => exact ⟨0, _, rfl, Nat.zero_le _, rfl, World.ownsRow_nil _ _ _ _, Below.refl _ _⟩
      case round =>
        obtain ⟨k, vo, rfl, hk, rfl, hown, hbel2⟩ := hrel
        rename World => V2
        have HO := Lib.hid hown
        have HB2 := Lib.hid hbel2
        have hs2 := hbel2.size
        clear hown
        by_cases hlt2 : k < q
        · obtain ⟨e, he⟩ : ∃ e, (keysB b)[k]? = some e := ⟨_, List.getElem?_eq_getElem (by rw [HK.out]; exact hlt2)⟩
          obtain ⟨x, hx⟩ := keysB_mem (List.mem_of_getElem? he)
          obtain ⟨g1, off1, rfl, hg1, hcell1⟩ := (HR2.out.below hbel2 (Nat.le_refl _)).at (by rw [HK.out]; omega)
          obtain ⟨k0, _⟩ := hcell1 k e he
          have hnx := normTo_nx he hx
          have HNX := Lib.hid hnx
          have HX := Lib.hid hx
          obtain ⟨key, hkey⟩ : ∃ key, e.1 = key := ⟨_, rfl⟩
          rw [hkey] at k0
          have HKEY := Lib.hid hkey
          have hRw := Lib.hid (HRb.out.below hbel2 (Nat.le_refl _))
          clear hcell1 he hx hnx hkey hbel2
          go_wp2_with fail
          go_loopw [5, 7] (fun o i wr3 => ∃ z : Nat, o = vo ∧ z ≤ n ∧ i = .int .i64 ((z : Int) - 1) ∧ lastW (b.drop z) key = none ∧ Below V2.heap.size V2 wr3) (fun _ i _ => (intOf i + 1).toNat)
          case atStart => exact ⟨n, rfl, Nat.le_refl _, by first | rfl | go_num, by rw [List.drop_of_length_le (by have := HN.out; omega)]; rfl, Below.refl _ _⟩
          case round =>
            obtain ⟨z, rfl, hz, rfl, hlast, hbel3⟩ := hrel
            rename World => V3
            have HLA := Lib.hid hlast
            have HB3 := Lib.hid hbel3
            have hs3 := hbel3.size
            clear hlast
            by_cases hz0 : 0 < z
            · obtain ⟨y, rfl⟩ : ∃ y, z = y + 1 := ⟨z - 1, by omega⟩
              obtain ⟨v, hv⟩ : ∃ v, b[y]? = some v := ⟨_, List.getElem?_eq_getElem (by have := HN.out; omega)⟩
              obtain ⟨g, off, rfl, hg, hcell⟩ := (hRw.out.below hbel3 (Nat.le_refl _)).at (by have := HN.out; omega)
              obtain ⟨d0, d1, d2⟩ := hcell y v hv
              have k1 := (hbel3.cell (p := ⟨g1, off1 + k * 2, none⟩) hg1).trans k0
              have hld := lastW_drop hv HLA.out
              obtain ⟨bb, hbb⟩ : ∃ bb, (v.1.toList == key.toList) = bb := ⟨_, rfl⟩
              have hb2 : eqk v.1 key = bb := hbb
              rw [hb2] at hld
              have HLD := Lib.hid hld
              have hyz : (((y + 1 : Nat) : Int) - 1) = (y : Int) := by omega
              rw [hyz]
              clear hcell hv hld hb2 hbel3 hyz hz0
              cases bb
              · have hld2 : lastW (b.drop y) key = none := by rw [HLD.out]; rfl
                have HLD2 := Lib.hid hld2
                clear hld2
                go_wp2_with fail
                go_quiet (fail)
                go_wp2
                go_roundw
                case rel => exact ⟨y, rfl, by omega, by first | rfl | go_num, HLD2.out, below_drewN HB3.out _⟩
                case measure => simp [intOf]
              · obtain rfl : v = x := by
                  have h1 := lastW_of_drop (b := b) (i := y) (x := v) (k := key) (by rw [HLD.out]; rfl)
                  rw [← HKEY.out, HX.out] at h1
                  exact (Option.some.inj h1).symm
                clear HLD
                go_wp2_with fail
                go_quiet (fail)
                go_wp2_with (at_builtin; go_must (refine wpList_appW rfl (.tmp 46) (.tmp 51) rfl V1.heap.size _ k (normTo b k) rfl ((own_below HO.out HB3.out (Nat.le_refl _)).alloc _) _ 1 1 [v] rfl rfl (RW.one _ v _) (by omega) (by rw [nblk_alloc]; show V1.heap.size ≤ V3.heap.size + 1; omega) ?_))
                intro v9 w9 hown9 hB9
                rw [← HNX.out] at hown9
                have HO9 := Lib.hid hown9
                have HB9 := Lib.hid (HB2.out.trans ((HB3.out.mono hs2).trans (((below_drewN (Below.refl V1.heap.size V3) _).alloc (by show V1.heap.size ≤ V3.heap.size; omega) _).trans hB9)))
                clear hown9 hB9 d0 d1 d2 k1
                go_wp2
                go_roundw
                case rel => exact ⟨k + 1, _, rfl, by omega, by go_num, HO9.out, HB9.out⟩
                case measure => simp [intOf]; omega
            · exfalso
              obtain rfl : z = 0 := by omega
              have h1 := HLA.out
              rw [List.drop_zero, ← HKEY.out, HX.out] at h1
              cases h1
        · have hkq : k = q := by omega
          have hO := HO.out
          rw [hkq, show normTo b q = normL b by rw [← HK.out]; exact normTo_all b] at hO
          obtain ⟨A2, c2, rfl, hl2, hR3, _⟩ := RW.own hO
          have HR3 := Lib.hid hR3
          have HB4 := Lib.hid (HB.out.trans (HB2.out.mono hs))
          clear hO hR3 hl2
          go_wp2
          go_ret
          exact ⟨_, _, rfl, HR3.out, HB4.out⟩
end Go.Proofs.Ytdhobiiejokglaa
