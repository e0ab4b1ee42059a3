/-
  What slices.SortFunc over compareWrites leaves of a row of writes: a permutation in ascending order of keys; nothing else is changed. Condition: rows of fewer than 2^40 writes.
-/
import Derived.Test.YtodenkamlbihnaaBatRef
import Derived.Shelf.SlSortCmp.NoneTotal
import Derived.Ground.SlsfProg
import Derived.Test.YtodenkamlbihnaaProg
namespace Go.Proofs
open Go.Shelf
def Ytodenkamlbihnaa.sortW_ren : Go.Shelf.Ren := ⟨fun | 6 => 54 | 14 => 75 | 15 => 49 | 20 => 92 | 21 => 93 | 22 => 94 | 23 => 95 | 24 => 96 | 25 => 97 | 26 => 98 | 27 => 99 | 28 => 69 | 29 => 70 | 46 => 104 | 47 => 88 | 48 => 89 | 49 => 105 | 50 => 106 | 57 => 108 | n => n, fun | 22 => 34 | 24 => 44 | 25 => 100 | 3 => 3 | 39 => 94 | 0 => 0 | 53 => 114 | 55 => 23 | 4 => 4 | 46 => 108 | 45 => 107 | 50 => 89 | 5 => 5 | 9 => 9 | 66 => 125 | 70 => 128 | 76 => 137 | 77 => 138 | n => n, fun | n => n⟩
theorem Ytodenkamlbihnaa.sortW : Go.Proofs.SlLaysF0.n6 Try.prog Ytodenkamlbihnaa.sortW_ren := {
  mixed := by kernel_rfl
  f6 := ⟨Try.f54.name, by decide, Try.func54.trans (congrArg some (by kernel_rfl))⟩
  f14 := ⟨Try.f75.name, by decide, Try.func75.trans (congrArg some (by kernel_rfl))⟩
  f15 := Try.func49.trans (congrArg some (by kernel_rfl))
  f20 := ⟨Try.f92.name, by decide, Try.func92.trans (congrArg some (by kernel_rfl))⟩
  f21 := ⟨Try.f93.name, by decide, Try.func93.trans (congrArg some (by kernel_rfl))⟩
  f22 := ⟨Try.f94.name, by decide, Try.func94.trans (congrArg some (by kernel_rfl))⟩
  f23 := ⟨Try.f95.name, by decide, Try.func95.trans (congrArg some (by kernel_rfl))⟩
  f24 := ⟨Try.f96.name, by decide, Try.func96.trans (congrArg some (by kernel_rfl))⟩
  f25 := ⟨Try.f97.name, by decide, Try.func97.trans (congrArg some (by kernel_rfl))⟩
  f26 := ⟨Try.f98.name, by decide, Try.func98.trans (congrArg some (by kernel_rfl))⟩
  f27 := ⟨Try.f99.name, by decide, Try.func99.trans (congrArg some (by kernel_rfl))⟩
  f28 := Try.func69.trans (congrArg some (by kernel_rfl))
  f29 := Try.func70.trans (congrArg some (by kernel_rfl))
  f46 := ⟨Try.f104.name, by decide, Try.func104.trans (congrArg some (by kernel_rfl))⟩
  f47 := Try.func88.trans (congrArg some (by kernel_rfl))
  f48 := Try.func89.trans (congrArg some (by kernel_rfl))
  f49 := ⟨Try.f105.name, by decide, Try.func105.trans (congrArg some (by kernel_rfl))⟩
  f50 := ⟨Try.f106.name, by decide, Try.func106.trans (congrArg some (by kernel_rfl))⟩
  f57 := ⟨Try.f108.name, by decide, Try.func108.trans (congrArg some (by kernel_rfl))⟩
  t0 := Try.underlying0
  a0 := Try.isAgg0
  z0 := Try.sizeOf0
  v0 := Try.zeroValue0
  t3 := Try.underlying3
  a3 := Try.isAgg3
  z3 := Try.sizeOf3
  v3 := Try.zeroValue3
  t4 := Try.underlying4
  a4 := Try.isAgg4
  z4 := Try.sizeOf4
  v4 := Try.zeroValue4
  t5 := Try.underlying5
  a5 := Try.isAgg5
  z5 := Try.sizeOf5
  v5 := Try.zeroValue5
  t9 := Try.underlying9
  a9 := Try.isAgg9
  z9 := Try.sizeOf9
  v9 := Try.zeroValue9
  t22 := Try.underlying34
  a22 := Try.isAgg34
  z22 := Try.sizeOf34
  v22 := Try.zeroValue34
  t25 := Try.underlying100
  a25 := Try.isAgg100
  z25 := Try.sizeOf100
  v25 := Try.zeroValue100
  t39 := Try.underlying94
  a39 := Try.isAgg94
  z39 := Try.sizeOf94
  v39 := Try.zeroValue94
  t45 := Try.underlying107
  a45 := Try.isAgg107
  z45 := Try.sizeOf107
  v45 := Try.zeroValue107
  t46 := Try.underlying108
  a46 := Try.isAgg108
  z46 := Try.sizeOf108
  v46 := Try.zeroValue108
  t50 := Try.underlying89
  a50 := Try.isAgg89
  z50 := Try.sizeOf89
  v50 := Try.zeroValue89
  t53 := Try.underlying114
  a53 := Try.isAgg114
  z53 := Try.sizeOf114
  v53 := Try.zeroValue114
  t55 := Try.underlying23
  a55 := Try.isAgg23
  z55 := Try.sizeOf23
  v55 := Try.zeroValue23
  t66 := Try.underlying125
  a66 := Try.isAgg125
  z66 := Try.sizeOf125
  v66 := Try.zeroValue125
  t70 := Try.underlying128
  a70 := Try.isAgg128
  z70 := Try.sizeOf128
  v70 := Try.zeroValue128
  t76 := Try.underlying137
  a76 := Try.isAgg137
  z76 := Try.sizeOf137
  v76 := Try.zeroValue137
  t77 := Try.underlying138
  a77 := Try.isAgg138
  z77 := Try.sizeOf138
  v77 := Try.zeroValue138 }

end Go.Proofs
namespace Go.Proofs.Ytodenkamlbihnaa
open Go.Shelf Go.RowKit Go.Lib Go.Sort Go.Deep Plain PlainE
set_option linter.unusedVariables false

/-- A write's cells. -/
def encW (x : Wri) : List Value := [.string x.1, .string x.2.1, .bool x.2.2]
def cfW (x y : Wri) : Int := Plain.cmp x.1.toList y.1.toList
theorem ltOf_cf (x y : Wri) : ltOf cfW x y = ltB x.1.toList y.1.toList := by
  unfold ltOf cfW Plain.cmp
  cases h : ltB x.1.toList y.1.toList
  · cases k : ltB y.1.toList x.1.toList <;> simp
  · simp
theorem swoW : SWO (ltOf cfW) where
  irrefl x := by rw [ltOf_cf]; exact ltB_self _
  trans x y z h1 h2 := by rw [ltOf_cf] at *; exact ltB_trans _ _ _ h1 h2
  ntrans x y z h1 h2 := by rw [ltOf_cf] at *; exact le_le _ _ _ h2 h1

set_option maxHeartbeats 1000000 in
theorem compareWrites_any (x y : Wri) (W : World) :
    Calls Try.prog 55 #[.agg #[.string x.1, .string x.2.1, .bool x.2.2], .agg #[.string y.1, .string y.2.1, .bool y.2.2]] W fun e w' => e = .returned (.int .i64 (cfW x y)) ∧ ∃ q os', w' = grow (W.drewN q) os' := by
  have con := fun W' => cmp_any x.1 y.1 W'
  unfold cfW
  generalize Plain.cmp x.1.toList y.1.toList = r at con ⊢
  go_enter Try.func55, Try.ntmps55
  go_wp2_with fail
  refine (con _).mono ?_; rintro e w' ⟨rfl, rfl⟩
  go_wp2
  go_ret
  exact ⟨rfl, 0, _, by rw [alloc_eq_grow, alloc_eq_grow, grow_grow]; rfl⟩
theorem cmpLaysW (blk off size : Nat) (w : World) : CmpLays Try.prog 55 #[] encW 3 cfW blk off size w := fun _ _ _ _ x y => compareWrites_any x y _

theorem flatK_cells (l : List Wri) (j : Nat) (hj : j < l.length * 3) : (flatW l)[j]? = some ((flatK encW 3 l.toArray)[j]!) := by
  rw [get_flatK encW 3 l.toArray j (by simpa using hj)]
  obtain ⟨x, hx⟩ : ∃ x, l[j / 3]? = some x := ⟨_, List.getElem?_eq_getElem (by omega)⟩
  have hx2 : l.toArray[j / 3]! = x := by
    obtain ⟨hl, e⟩ := List.getElem?_eq_some_iff.1 hx
    rw [getElem!_pos l.toArray (j / 3) (by simpa using hl)]
    simpa using e
  rw [hx2]
  obtain ⟨f0, f1, f2⟩ := flatW_at l (j / 3) x hx
  rcases (by omega : j % 3 = 0 ∨ j % 3 = 1 ∨ j % 3 = 2) with h | h | h
  · rw [show j / 3 * 3 = j by omega] at f0; rw [f0, h]; rfl
  · rw [show j / 3 * 3 + 1 = j by omega] at f1; rw [f1, h]; rfl
  · rw [show j / 3 * 3 + 2 = j by omega] at f2; rw [f2, h]; rfl

/-- slices.SortFunc over compareWrites: of a row of the call's own. -/
theorem sort_any (v : Value) (base n : Nat) (l : List Wri) (w : World) (hn : n ≤ 1099511627776) (hO : w.ownsRow base 44 3 v n (flatW l)) :
    Calls Try.prog 54 #[v, .func (.func 55) #[] #[]] w fun e w' => e = .returned (.tuple #[]) ∧
      ∃ A c l', v = .slice A n c ∧ l'.length = n ∧ RW w' A c l' ∧ l'.Perm l ∧ (∀ (i j : Nat) (x y : Wri), i < j → l'[i]? = some x → l'[j]? = some y → ltB y.1.toList x.1.toList = false) ∧ Below base w w' := by
  have hl : l.length = n := by have := hO.1; rw [flatW_length] at this; omega
  rcases hO.2 with ⟨rfl, rfl⟩ | ⟨g, cap, cur, rfl, hb, hg, hc, hm, rest⟩
  · have h := AnyF.slices_SortFunc_none Ytodenkamlbihnaa.sortW none 0 (.func (.func 55) #[] #[]) w
    change Calls Try.prog 54 _ _ _ at h
    refine h.mono ?_; rintro e w' ⟨rfl, rfl⟩
    have h0 : l = [] := List.eq_nil_of_length_eq_zero hl
    subst h0
    exact ⟨rfl, none, 0, [], rfl, rfl, RW.nil _, List.Perm.refl _, fun i j x y _ hx => by simp at hx, Below.refl _ _⟩
  · have hgl : g < w.heap.size := (Array.getElem?_eq_some_iff.1 hg).1
    have hcell := fun j u hu => hO.cells (g := g) rfl j u hu
    have hH : HoldsK encW 3 w g 0 l.toArray := fun j hj => by
      rw [size_flatK] at hj
      have hj2 : j < l.length * 3 := by simpa using hj
      have h1 := hcell j _ (flatK_cells l j hj2)
      rw [Addr.add_lit] at h1
      refine ⟨h1, ?_⟩
      unfold World.frozen?
      rw [hg]; simp
    have hs : l.toArray.size = n := by simpa using hl
    have eg : ∀ args w, (callFunc 55 args).run Try.prog w = .ok (.enter 55 args) w := enters_of Try.func55 (by kernel_rfl) rfl
    have h := AnyQ.slices_SortFunc Ytodenkamlbihnaa.sortW 3 Try.isAgg44 Try.sizeOf44 encW (fun _ => rfl) (fun x v hv => by simp [encW] at hv; rcases hv with rfl | rfl | rfl <;> rfl) cfW swoW 55 #[] g 0 cap l.toArray w eg (cmpLaysW g 0 l.toArray.size w) hH hgl (by rw [hs]; omega)
    rw [hs] at h
    change Calls Try.prog 54 _ _ _ at h
    refine h.mono ?_; rintro e w' ⟨rfl, d', nn, os, hp, hsd, rfl⟩
    have hd : d'.size = n := by rw [hp.1, hs]
    have hperm : d'.toList.Perm l := by
      have h3 := hp.2.2
      have e1 : d'.extract 0 n = d' := by rw [← hd]; simp
      have e2 : l.toArray.extract 0 n = l.toArray := by rw [← hs]; simp
      rw [e1, e2] at h3
      simpa using h3
    have hK := (SWK.holds (W := sortWorldK encW 3 w g 0 nn d' os) ⟨nn, os, rfl⟩ hgl hH (by rw [hp.1]))
    have hsz : w.heap.size ≤ (sortWorldK encW 3 w g 0 nn d' os).heap.size := by
      unfold sortWorldK; rw [size_grow, size_putRowK]; exact Nat.le_add_right _ _
    refine ⟨rfl, some ⟨g, 0, none⟩, cap, d'.toList, rfl, by simpa using hd, ⟨by simpa [hd] using hc, hm, fun h => (by cases h), fun _ => ⟨g, 0, rfl, Nat.lt_of_lt_of_le hgl hsz, fun j u hu => ?_⟩⟩, hperm, fun i j x y hij hx hy => ?_, ⟨rfl, rfl, rfl, hsz, fun k hk => ?_⟩⟩
    · have hj : j < d'.toList.length * 3 := by have := (List.getElem?_eq_some_iff.1 hu).1; rwa [flatW_length] at this
      rw [flatK_cells d'.toList j hj] at hu
      cases hu
      have h1 := (hK j (by rw [size_flatK]; simpa using hj)).1
      simpa using h1
    · obtain ⟨hi, rfl⟩ := List.getElem?_eq_some_iff.1 hx
      obtain ⟨hj, rfl⟩ := List.getElem?_eq_some_iff.1 hy
      have h1 := hsd i j (Nat.zero_le _) hij (by rw [← hd]; simpa using hj)
      rw [ltOf_cf, getElem!_pos d' j (by simpa using hj), getElem!_pos d' i (by simpa using hi)] at h1
      simpa using h1
    · have hkg : k ≠ g := by omega
      have hkl : k < w.heap.size := by omega
      unfold sortWorldK
      rw [heap_grow_old _ _ (by rw [size_putRowK]; exact hkl)]
      show (w.heap.modify g _)[k]? = w.heap[k]?
      rw [Array.getElem?_modify, if_neg (fun e => hkg e.symm)]
end Go.Proofs.Ytodenkamlbihnaa
