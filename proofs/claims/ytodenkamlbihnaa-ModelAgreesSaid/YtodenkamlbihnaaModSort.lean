/-
  What slices.SortFunc over compareEntries leaves of a row of entries: a permutation in ascending order of keys; nothing else is changed. Condition: rows of fewer than 2^40 entries.
-/
import Derived.Test.YtodenkamlbihnaaBatRef
import Derived.Test.YtodenkamlbihnaaBatFns
import Derived.Shelf.SlSortCmp.NoneTotal
import Derived.Ground.SlsfProg
import Derived.Test.YtodenkamlbihnaaProg
namespace Go.Proofs
open Go.Shelf
def Ytodenkamlbihnaa.sortE_ren : Go.Shelf.Ren := ⟨fun | 6 => 38 | 14 => 48 | 15 => 49 | 20 => 61 | 21 => 62 | 22 => 63 | 23 => 64 | 24 => 65 | 25 => 66 | 26 => 67 | 27 => 68 | 28 => 69 | 29 => 70 | 46 => 87 | 47 => 88 | 48 => 89 | 49 => 90 | 50 => 91 | 57 => 103 | n => n, fun | 22 => 53 | 24 => 57 | 25 => 85 | 3 => 3 | 39 => 94 | 0 => 0 | 53 => 114 | 55 => 23 | 4 => 4 | 46 => 108 | 45 => 107 | 50 => 89 | 5 => 5 | 9 => 9 | 66 => 125 | 70 => 128 | 76 => 137 | 77 => 138 | n => n, fun | n => n⟩
theorem Ytodenkamlbihnaa.sortE : Go.Proofs.SlLaysF0.n6 Try.prog Ytodenkamlbihnaa.sortE_ren := {
  mixed := by kernel_rfl
  f6 := ⟨Try.f38.name, by decide, Try.func38.trans (congrArg some (by kernel_rfl))⟩
  f14 := ⟨Try.f48.name, by decide, Try.func48.trans (congrArg some (by kernel_rfl))⟩
  f15 := Try.func49.trans (congrArg some (by kernel_rfl))
  f20 := ⟨Try.f61.name, by decide, Try.func61.trans (congrArg some (by kernel_rfl))⟩
  f21 := ⟨Try.f62.name, by decide, Try.func62.trans (congrArg some (by kernel_rfl))⟩
  f22 := ⟨Try.f63.name, by decide, Try.func63.trans (congrArg some (by kernel_rfl))⟩
  f23 := ⟨Try.f64.name, by decide, Try.func64.trans (congrArg some (by kernel_rfl))⟩
  f24 := ⟨Try.f65.name, by decide, Try.func65.trans (congrArg some (by kernel_rfl))⟩
  f25 := ⟨Try.f66.name, by decide, Try.func66.trans (congrArg some (by kernel_rfl))⟩
  f26 := ⟨Try.f67.name, by decide, Try.func67.trans (congrArg some (by kernel_rfl))⟩
  f27 := ⟨Try.f68.name, by decide, Try.func68.trans (congrArg some (by kernel_rfl))⟩
  f28 := Try.func69.trans (congrArg some (by kernel_rfl))
  f29 := Try.func70.trans (congrArg some (by kernel_rfl))
  f46 := ⟨Try.f87.name, by decide, Try.func87.trans (congrArg some (by kernel_rfl))⟩
  f47 := Try.func88.trans (congrArg some (by kernel_rfl))
  f48 := Try.func89.trans (congrArg some (by kernel_rfl))
  f49 := ⟨Try.f90.name, by decide, Try.func90.trans (congrArg some (by kernel_rfl))⟩
  f50 := ⟨Try.f91.name, by decide, Try.func91.trans (congrArg some (by kernel_rfl))⟩
  f57 := ⟨Try.f103.name, by decide, Try.func103.trans (congrArg some (by kernel_rfl))⟩
  t0 := Try.underlying0
  a0 := Try.isAgg0
  z0 := Try.sizeOf0
  v0 := Try.zeroValue0
  t3 := Try.underlying3
  a3 := Try.isAgg3
  z3 := Try.sizeOf3
  v3 := Try.zeroValue3
  t4 := Try.underlying4
  a4 := Try.isAgg4
  z4 := Try.sizeOf4
  v4 := Try.zeroValue4
  t5 := Try.underlying5
  a5 := Try.isAgg5
  z5 := Try.sizeOf5
  v5 := Try.zeroValue5
  t9 := Try.underlying9
  a9 := Try.isAgg9
  z9 := Try.sizeOf9
  v9 := Try.zeroValue9
  t22 := Try.underlying53
  a22 := Try.isAgg53
  z22 := Try.sizeOf53
  v22 := Try.zeroValue53
  t25 := Try.underlying85
  a25 := Try.isAgg85
  z25 := Try.sizeOf85
  v25 := Try.zeroValue85
  t39 := Try.underlying94
  a39 := Try.isAgg94
  z39 := Try.sizeOf94
  v39 := Try.zeroValue94
  t45 := Try.underlying107
  a45 := Try.isAgg107
  z45 := Try.sizeOf107
  v45 := Try.zeroValue107
  t46 := Try.underlying108
  a46 := Try.isAgg108
  z46 := Try.sizeOf108
  v46 := Try.zeroValue108
  t50 := Try.underlying89
  a50 := Try.isAgg89
  z50 := Try.sizeOf89
  v50 := Try.zeroValue89
  t53 := Try.underlying114
  a53 := Try.isAgg114
  z53 := Try.sizeOf114
  v53 := Try.zeroValue114
  t55 := Try.underlying23
  a55 := Try.isAgg23
  z55 := Try.sizeOf23
  v55 := Try.zeroValue23
  t66 := Try.underlying125
  a66 := Try.isAgg125
  z66 := Try.sizeOf125
  v66 := Try.zeroValue125
  t70 := Try.underlying128
  a70 := Try.isAgg128
  z70 := Try.sizeOf128
  v70 := Try.zeroValue128
  t76 := Try.underlying137
  a76 := Try.isAgg137
  z76 := Try.sizeOf137
  v76 := Try.zeroValue137
  t77 := Try.underlying138
  a77 := Try.isAgg138
  z77 := Try.sizeOf138
  v77 := Try.zeroValue138 }

end Go.Proofs
namespace Go.Proofs.Ytodenkamlbihnaa
open Go.Shelf Go.RowKit Go.Lib Go.Sort Go.Deep Plain PlainE
set_option linter.unusedVariables false

/-- An entry's cells. -/
def encE (x : Ent) : List Value := [.string x.1, .string x.2]
def cfE (x y : Ent) : Int := Plain.cmp x.1.toList y.1.toList
theorem ltOf_cfE (x y : Ent) : ltOf cfE x y = ltB x.1.toList y.1.toList := by
  unfold ltOf cfE Plain.cmp
  cases h : ltB x.1.toList y.1.toList
  · cases k : ltB y.1.toList x.1.toList <;> simp
  · simp
theorem swoE : SWO (ltOf cfE) where
  irrefl x := by rw [ltOf_cfE]; exact ltB_self _
  trans x y z h1 h2 := by rw [ltOf_cfE] at *; exact ltB_trans _ _ _ h1 h2
  ntrans x y z h1 h2 := by rw [ltOf_cfE] at *; exact le_le _ _ _ h2 h1

set_option maxHeartbeats 400000 in
theorem nanS_any (a : ByteArray) (w : World) :
    Calls Try.prog 71 #[.string a] w fun e w' => e = .returned (.bool false) ∧ w = w' := by
  go_enter Try.func71, Try.ntmps71
  go_wp2
  go_ret
  exact ⟨by simp, rfl⟩
set_option maxHeartbeats 800000 in
theorem cmpS_any (a b : ByteArray) (w : World) :
    Calls Try.prog 50 #[.string a, .string b] w fun e w' => e = .returned (.int .i64 (cmp a.toList b.toList)) ∧ w = w' := by
  have e1 := bytesLess_ltB a.toList b.toList
  unfold cmp
  cases h : ltB a.toList b.toList
  · rw [h] at e1
    cases k : ltB b.toList a.toList
    · have he : (a.toList == b.toList) = true := by rw [ltB_tri _ _ h k]; simp
      clear h k
      go_enter Try.func50, Try.ntmps50
      go_wp2_with fail
      refine (nanS_any a _).mono ?_; rintro e w1 ⟨rfl, rfl⟩
      go_wp2_with fail
      refine (nanS_any b _).mono ?_; rintro e w1 ⟨rfl, rfl⟩
      go_wp2
      go_ret
      exact ⟨by simp, rfl⟩
    · have he : (a.toList == b.toList) = false := by
        cases hx : a.toList == b.toList
        · rfl
        · rw [beq_iff_eq] at hx; rw [hx, ltB_self] at k; exact absurd k (by decide)
      clear h k
      go_enter Try.func50, Try.ntmps50
      go_wp2_with fail
      refine (nanS_any a _).mono ?_; rintro e w1 ⟨rfl, rfl⟩
      go_wp2_with fail
      refine (nanS_any b _).mono ?_; rintro e w1 ⟨rfl, rfl⟩
      go_wp2
      go_ret
      exact ⟨by simp, rfl⟩
  · rw [h] at e1
    clear h
    go_enter Try.func50, Try.ntmps50
    go_wp2_with fail
    refine (nanS_any a _).mono ?_; rintro e w1 ⟨rfl, rfl⟩
    go_wp2_with fail
    refine (nanS_any b _).mono ?_; rintro e w1 ⟨rfl, rfl⟩
    go_wp2
    go_ret
    exact ⟨by simp, rfl⟩
set_option maxHeartbeats 1000000 in
theorem compareEntries_any (x y : Ent) (W : World) :
    Calls Try.prog 39 #[.agg #[.string x.1, .string x.2], .agg #[.string y.1, .string y.2]] W fun e w' => e = .returned (.int .i64 (cfE x y)) ∧ ∃ q os', w' = grow (W.drewN q) os' := by
  have con := fun W' => cmpS_any x.1 y.1 W'
  unfold cfE
  generalize Plain.cmp x.1.toList y.1.toList = r at con ⊢
  go_enter Try.func39, Try.ntmps39
  go_wp2_with fail
  refine (con _).mono ?_; rintro e w' ⟨rfl, rfl⟩
  go_wp2
  go_ret
  exact ⟨rfl, 0, _, by rw [alloc_eq_grow, alloc_eq_grow, grow_grow]; rfl⟩
theorem cmpLaysE (blk off size : Nat) (w : World) : CmpLays Try.prog 39 #[] encE 2 cfE blk off size w := fun _ _ _ _ x y => compareEntries_any x y _

theorem flatK_cellsE (l : List Ent) (j : Nat) (hj : j < l.length * 2) : (flatE l)[j]? = some ((flatK encE 2 l.toArray)[j]!) := by
  rw [get_flatK encE 2 l.toArray j (by simpa using hj)]
  obtain ⟨x, hx⟩ : ∃ x, l[j / 2]? = some x := ⟨_, List.getElem?_eq_getElem (by omega)⟩
  have hx2 : l.toArray[j / 2]! = x := by
    obtain ⟨hl, e⟩ := List.getElem?_eq_some_iff.1 hx
    rw [getElem!_pos l.toArray (j / 2) (by simpa using hl)]
    simpa using e
  rw [hx2]
  obtain ⟨f0, f1⟩ := flatE_at l (j / 2) x hx
  rcases (by omega : j % 2 = 0 ∨ j % 2 = 1) with h | h
  · rw [show j / 2 * 2 = j by omega] at f0; rw [f0, h]; rfl
  · rw [show j / 2 * 2 + 1 = j by omega] at f1; rw [f1, h]; rfl

/-- slices.SortFunc over compareEnttes: of a row of the call's own. -/
theorem sortE_any (v : Value) (base n : Nat) (l : List Ent) (w : World) (hn : n ≤ 1099511627776) (hO : w.ownsRow base 57 2 v n (flatE l)) :
    Calls Try.prog 38 #[v, .func (.func 39) #[] #[]] w fun e w' => e = .returned (.tuple #[]) ∧
      ∃ A c l', v = .slice A n c ∧ l'.length = n ∧ RE w' A c l' ∧ l'.Perm l ∧ (∀ (i j : Nat) (x y : Ent), i < j → l'[i]? = some x → l'[j]? = some y → ltB y.1.toList x.1.toList = false) ∧ Below base w w' := by
  have hl : l.length = n := by have := hO.1; rw [flatE_length] at this; omega
  rcases hO.2 with ⟨rfl, rfl⟩ | ⟨g, cap, cur, rfl, hb, hg, hc, hm, rest⟩
  · have h := AnyF.slices_SortFunc_none Ytodenkamlbihnaa.sortE none 0 (.func (.func 39) #[] #[]) w
    change Calls Try.prog 38 _ _ _ at h
    refine h.mono ?_; rintro e w' ⟨rfl, rfl⟩
    have h0 : l = [] := List.eq_nil_of_length_eq_zero hl
    subst h0
    exact ⟨rfl, none, 0, [], rfl, rfl, RE.nil _, List.Perm.refl _, fun i j x y _ hx => by simp at hx, Below.refl _ _⟩
  · have hgl : g < w.heap.size := (Array.getElem?_eq_some_iff.1 hg).1
    have hcell := fun j u hu => hO.cells (g := g) rfl j u hu
    have hH : HoldsK encE 2 w g 0 l.toArray := fun j hj => by
      rw [size_flatK] at hj
      have hj2 : j < l.length * 2 := by simpa using hj
      have h1 := hcell j _ (flatK_cellsE l j hj2)
      rw [Addr.add_lit] at h1
      refine ⟨h1, ?_⟩
      unfold World.frozen?
      rw [hg]; simp
    have hs : l.toArray.size = n := by simpa using hl
    have eg : ∀ args w, (callFunc 39 args).run Try.prog w = .ok (.enter 39 args) w := enters_of Try.func39 (by kernel_rfl) rfl
    have h := AnyQ.slices_SortFunc Ytodenkamlbihnaa.sortE 2 Try.isAgg57 Try.sizeOf57 encE (fun _ => rfl) (fun x v hv => by simp [encE] at hv; rcases hv with rfl | rfl <;> rfl) cfE swoE 39 #[] g 0 cap l.toArray w eg (cmpLaysE g 0 l.toArray.size w) hH hgl (by rw [hs]; omega)
    rw [hs] at h
    change Calls Try.prog 38 _ _ _ at h
    refine h.mono ?_; rintro e w' ⟨rfl, d', nn, os, hp, hsd, rfl⟩
    have hd : d'.size = n := by rw [hp.1, hs]
    have hperm : d'.toList.Perm l := by
      have h3 := hp.2.2
      have e1 : d'.extract 0 n = d' := by rw [← hd]; simp
      have e2 : l.toArray.extract 0 n = l.toArray := by rw [← hs]; simp
      rw [e1, e2] at h3
      simpa using h3
    have hK := (SWK.holds (W := sortWorldK encE 2 w g 0 nn d' os) ⟨nn, os, rfl⟩ hgl hH (by rw [hp.1]))
    have hsz : w.heap.size ≤ (sortWorldK encE 2 w g 0 nn d' os).heap.size := by
      unfold sortWorldK; rw [size_grow, size_putRowK]; exact Nat.le_add_right _ _
    refine ⟨rfl, some ⟨g, 0, none⟩, cap, d'.toList, rfl, by simpa using hd, ⟨by simpa [hd] using hc, hm, fun h => (by cases h), fun _ => ⟨g, 0, rfl, Nat.lt_of_lt_of_le hgl hsz, fun j u hu => ?_⟩⟩, hperm, fun i j x y hij hx hy => ?_, ⟨rfl, rfl, rfl, hsz, fun k hk => ?_⟩⟩
    · have hj : j < d'.toList.length * 2 := by have := (List.getElem?_eq_some_iff.1 hu).1; rwa [flatE_length] at this
      rw [flatK_cellsE d'.toList j hj] at hu
      cases hu
      have h1 := (hK j (by rw [size_flatK]; simpa using hj)).1
      simpa using h1
    · obtain ⟨hi, rfl⟩ := List.getElem?_eq_some_iff.1 hx
      obtain ⟨hj, rfl⟩ := List.getElem?_eq_some_iff.1 hy
      have h1 := hsd i j (Nat.zero_le _) hij (by rw [← hd]; simpa using hj)
      rw [ltOf_cfE, getElem!_pos d' j (by simpa using hj), getElem!_pos d' i (by simpa using hi)] at h1
      simpa using h1
    · have hkg : k ≠ g := by omega
      have hkl : k < w.heap.size := by omega
      unfold sortWorldK
      rw [heap_grow_old _ _ (by rw [size_putRowK]; exact hkl)]
      show (w.heap.modify g _)[k]? = w.heap[k]?
      rw [Array.getElem?_modify, if_neg (fun e => hkg e.symm)]
end Go.Proofs.Ytodenkamlbihnaa
