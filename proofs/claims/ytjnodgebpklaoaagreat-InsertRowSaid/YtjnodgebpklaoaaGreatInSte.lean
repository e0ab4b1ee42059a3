/-
 Package insert: an Insert's step from place to place. Condition: a layout within its limits; fewer than 2^63 accesses.
-/
import Derived.Test.YtjnodgebpklaoaaGreatInIns
namespace Go.Proofs.YtjnodgebpklaoaaGreat
set_option maxHeartbeats 8000000
set_option maxRecDepth 100000
open Go.RowKit Go.Deep Plain
set_option linter.unusedVariables false

section
open Go.RowKit Go.Deep Plain
set_option linter.unusedVariables false

def frsN (F : Nat) (N : Int) (X : Pg) (m num : Nat) : List Sto := (pst (adr N F 10 num) (rpg X m) ++ [(nodeAt N (F : Int) 10 (num : Int) 0, ((1 : Int), (⟨#[]⟩ : ByteArray), (0 : Int)))])
def wrsN (F : Nat) (N : Int) (id wd : Nat) (P Y : Pg) : List Sto := (wsto (nodeAt N (F : Int) 10 (id : Int) 0) (beginW wd) (endW (beginW wd)) (chg (pst (adr N F 10 id) P) (pst (adr N F 10 id) Y)))
inductive Is
 | tak (ld : Bool) (Nv : Nat) (K : ByteArray) (M : Int)
 | fil (num j : Nat)
 | wri (fo : Option Nat) (j : Nat)
 | don (fo : Option Nat)
 | ful
inductive IAt (Z : Nat → Prop) (w : World) (F : Nat) (N fb fd : Int) (i id wd : Nat) (P X : Pg) (m : Nat) (sp : ByteArray) (lim : Nat) : Is → Prop
 | tak {q : Nat} {A : Option Addr} {c : Nat} {A2 : Option Addr} {c2 : Nat} {ld : Bool} {Nv : Nat} {K : ByteArray} {M : Int} (h : Blk w i 104 (insv N F fb fd id wd P A c X A2 c2 0 (.pointer (some ⟨q, 0, none⟩)) (.pointer none) (.pointer none) ⟨#[]⟩)) (hq : Blk w q 152 (macv 4 Nv K M ld lim false false)) (hi : Z i) (hqz : Z q) (hne : q ≠ i) (hR : Rs w A c P.xs) (hR2 : Rs w A2 c2 X.xs) (hA : ∀ a, A = some a → 0 < P.xs.length → Z a.block ∧ a.block ≠ i ∧ a.block ≠ q) (hA2 : ∀ a, A2 = some a → Z a.block ∧ a.block ≠ i ∧ a.block ≠ q) : IAt Z w F N fb fd i id wd P X m sp lim (.tak ld Nv K M)
 | fil {q r num j : Nat} {Zf : Nat → Prop} {A : Option Addr} {c : Nat} {A3 : Option Addr} {c3 : Nat} (h : Blk w i 104 (insv N F fb fd id wd P A c (lpg X m sp num) A3 c3 1 (.pointer (some ⟨q, 0, none⟩)) (.pointer (some ⟨r, 0, none⟩)) (.pointer none) sp)) (hf : Stm Zf w r 165 (frsN F N X m num) j num 1 (rpg X m)) (hi : Z i) (hz : ∀ k, Zf k → Z k ∧ k ≠ i) (hR : Rs w A c P.xs) (hR3 : Rs w A3 c3 (lpg X m sp num).xs) (hA : ∀ a, A = some a → 0 < P.xs.length → Z a.block ∧ a.block ≠ i ∧ ¬ Zf a.block) (hA3 : ∀ a, A3 = some a → 0 < (lpg X m sp num).xs.length → Z a.block ∧ a.block ≠ i ∧ ¬ Zf a.block) : IAt Z w F N fb fd i id wd P X m sp lim (.fil num j)
 | wri0 {q2 j : Nat} {tk : Value} {Zw : Nat → Prop} {A : Option Addr} {c : Nat} {A2 : Option Addr} {c2 : Nat} (h : Blk w i 104 (insv N F fb fd id wd P A c X A2 c2 2 tk (.pointer none) (.pointer (some ⟨q2, 0, none⟩)) ⟨#[]⟩)) (hw : Stm Zw w q2 166 (wrsN F N id wd P X) j id (endW (beginW wd)) X) (hi : Z i) (hz : ∀ k, Zw k → Z k ∧ k ≠ i) : IAt Z w F N fb fd i id wd P X m sp lim (.wri none j)
 | wri1 {q2 r num j : Nat} {tk : Value} {Zf Zw : Nat → Prop} {A : Option Addr} {c : Nat} {A3 : Option Addr} {c3 : Nat} (h : Blk w i 104 (insv N F fb fd id wd P A c (lpg X m sp num) A3 c3 2 tk (.pointer (some ⟨r, 0, none⟩)) (.pointer (some ⟨q2, 0, none⟩)) sp)) (hf : Stm Zf w r 165 (frsN F N X m num) (frsN F N X m num).length num 1 (rpg X m)) (hw : Stm Zw w q2 166 (wrsN F N id wd P (lpg X m sp num)) j id (endW (beginW wd)) (lpg X m sp num)) (hi : Z i) (hzf : ∀ k, Zf k → Z k ∧ k ≠ i) (hzw : ∀ k, Zw k → Z k ∧ k ≠ i) (hd : ∀ k, Zf k → ¬ Zw k) : IAt Z w F N fb fd i id wd P X m sp lim (.wri (some num) j)
 | don0 {q2 : Nat} {tk : Value} {Zw : Nat → Prop} {A : Option Addr} {c : Nat} {A2 : Option Addr} {c2 : Nat} (h : Blk w i 104 (insv N F fb fd id wd P A c X A2 c2 3 tk (.pointer none) (.pointer (some ⟨q2, 0, none⟩)) ⟨#[]⟩)) (hw : Stm Zw w q2 166 (wrsN F N id wd P X) (wrsN F N id wd P X).length id (endW (beginW wd)) X) (hi : Z i) (hz : ∀ k, Zw k → Z k ∧ k ≠ i) : IAt Z w F N fb fd i id wd P X m sp lim (.don none)
 | don1 {q2 r num : Nat} {tk : Value} {Zf Zw : Nat → Prop} {A : Option Addr} {c : Nat} {A3 : Option Addr} {c3 : Nat} (h : Blk w i 104 (insv N F fb fd id wd P A c (lpg X m sp num) A3 c3 3 tk (.pointer (some ⟨r, 0, none⟩)) (.pointer (some ⟨q2, 0, none⟩)) sp)) (hf : Stm Zf w r 165 (frsN F N X m num) (frsN F N X m num).length num 1 (rpg X m)) (hw : Stm Zw w q2 166 (wrsN F N id wd P (lpg X m sp num)) (wrsN F N id wd P (lpg X m sp num)).length id (endW (beginW wd)) (lpg X m sp num)) (hi : Z i) (hzf : ∀ k, Zf k → Z k ∧ k ≠ i) (hzw : ∀ k, Zw k → Z k ∧ k ≠ i) (hd : ∀ k, Zf k → ¬ Zw k) : IAt Z w F N fb fd i id wd P X m sp lim (.don (some num))
 | ful {tk fr wp : Value} {A : Option Addr} {c : Nat} {A2 : Option Addr} {c2 : Nat} {s0 : ByteArray} (h : Blk w i 104 (insv N F fb fd id wd P A c X A2 c2 4 tk fr wp s0)) (hi : Z i) (hR : Rs w A c P.xs) (hA : ∀ a, A = some a → 0 < P.xs.length → Z a.block ∧ a.block ≠ i) : IAt Z w F N fb fd i id wd P X m sp lim .ful
section
variable {Z Y : Nat → Prop} {w w' : World} {F : Nat} {N fb fd : Int} {i id wd : Nat} {P X : Pg} {m : Nat} {sp : ByteArray} {lim : Nat} {s : Is}
theorem IAt.kept (h : IAt Z w F N fb fd i id wd P X m sp lim s) (hk : Kept Y w w') (hZ : ∀ k, Z k → ¬ Y k) : IAt Z w' F N fb fd i id wd P X m sp lim s := by
 cases h with
 | tak h hq hi hqz hne hR hR2 hA hA2 => exact .tak (hk.blk h (hZ _ hi)) (hk.blk hq (hZ _ hqz)) hi hqz hne (hR.keptP hk (fun hp a ha => hZ _ (hA a ha hp).1)) (hR2.keptF hk (fun a ha => hZ _ (hA2 a ha).1)) hA hA2
 | fil h hf hi hz hR hR3 hA hA3 => exact .fil (hk.blk h (hZ _ hi)) (hf.kept hk (fun k e => hZ _ (hz k e).1)) hi hz (hR.keptP hk (fun hp a ha => hZ _ (hA a ha hp).1)) (hR3.keptP hk (fun hp a ha => hZ _ (hA3 a ha hp).1)) hA hA3
 | wri0 h hw hi hz => exact .wri0 (hk.blk h (hZ _ hi)) (hw.kept hk (fun k e => hZ _ (hz k e).1)) hi hz
 | wri1 h hf hw hi hzf hzw hd => exact .wri1 (hk.blk h (hZ _ hi)) (hf.kept hk (fun k e => hZ _ (hzf k e).1)) (hw.kept hk (fun k e => hZ _ (hzw k e).1)) hi hzf hzw hd
 | don0 h hw hi hz => exact .don0 (hk.blk h (hZ _ hi)) (hw.kept hk (fun k e => hZ _ (hz k e).1)) hi hz
 | don1 h hf hw hi hzf hzw hd => exact .don1 (hk.blk h (hZ _ hi)) (hf.kept hk (fun k e => hZ _ (hzf k e).1)) (hw.kept hk (fun k e => hZ _ (hzw k e).1)) hi hzf hzw hd
 | ful h hi hR hA => exact .ful (hk.blk h (hZ _ hi)) hi (hR.keptP hk (fun hp a ha => hZ _ (hA a ha hp).1)) hA
end
def Zm (Z : Nat → Prop) (w w' : World) : Nat → Prop := fun i => Z i ∨ (w.heap.size ≤ i ∧ i < w'.heap.size)
theorem is_load (F : Nat) (N fb fd : Int) (i id wd : Nat) (P X : Pg) (m : Nat) (sp : ByteArray) (lim : Nat) (Z : Nat → Prop) (hl : Lim 1 2 N 100 200 (F : Int)) (hd : Reach3 10 fb fd) (N0 Nv : Nat) (K0 K : ByteArray) (M0 M : Int) (w : World) (h : IAt Z w F N fb fd i id wd P X m sp lim (.tak false N0 K0 M0)) (b g : Nat) (l : List Cel) (k : Nat) (hm : Mem w b g l k) (hb : ¬ Z b) (hg : ¬ Z g) (hk : k < 9223372036854775808) (hc : cellAt l 4 = ((Nv : Int), K, M)) (hv : Nv < lim) :
  Calls Tryz.prog 19 #[.pointer (some ⟨i, 0, none⟩), .pointer (some ⟨b, 0, none⟩)] w fun e w' => e = .returned (.bool false) ∧ Mem w' b g l (k + 1) ∧ IAt (Zm Z w w') w' F N fb fd i id wd P X m sp lim (.tak true Nv K M) ∧ Kept (fun j => Z j ∨ j = b ∨ j = g) w w' := by
 cases h with
 | tak h hq hi hqz hne hR hR2 hA hA2 =>
  rename_i q A c A2 c2
  have hqb : q ≠ b := fun e => hb (e ▸ hqz)
  have hqg : q ≠ g := fun e => hg (e ▸ hqz)
  have hib : i ≠ b := fun e => hb (e ▸ hi)
  have hig : i ≠ g := fun e => hg (e ▸ hi)
  have HI := Hd h
  have HQ := Hd hq
  have HM := Hd hm
  have HC := Hd hc
  have HZ := Hd (show Z i ∧ Z q ∧ ¬ Z b ∧ ¬ Z g ∧ q ≠ i from ⟨hi, hqz, hb, hg, hne⟩)
  have HR := Hd hR
  have HR2 := Hd hR2
  have HA := Hd hA
  have HA2 := Hd hA2
  have HV := Hd (show decide (lim ≤ Nv) = false from by simp; omega)
  have x22 := h.k 22 rfl; have x23 := h.k 23 rfl
  clear h hq hm hc hi hqz hb hg hne hR hR2 hA hA2 hv
  go_enter Tryz.func19, Tryz.ntmps19
  go_wp2_with fail
  refine (takeStep_load q b g l k 4 Nv N0 K K0 M M0 false lim w HQ.out HM.out hqb hqg hk HC.out HV.out).mono ?_; rintro e w1 ⟨rfl, hM1, hQ1, hK1⟩
  have hni : ¬ Own3 q b g i := fun h => by have h1 := HZ.out; rcases h with h | h | h <;> omega
  have HM1 := Hd hM1
  have HQ1 := Hd hQ1
  have HI1 := Hd (hK1.blk HI.out hni)
  have HK1 := Hd (show Kept (fun j => Z j ∨ j = b ∨ j = g) w w1 from hK1.mono (fun j h => by rcases h with rfl | h | h; exact .inl HZ.out.2.1; exact .inr (.inl h); exact .inr (.inr h)))
  have HR1 := Hd (HR.out.keptP hK1 (fun hp a ha h => by have h1 := HA.out a ha hp; have h2 := HZ.out; rcases h with h | h | h; exact h1.2.2 h; exact h2.2.2.1 (h ▸ h1.1); exact h2.2.2.2.1 (h ▸ h1.1)))
  have HR21 := Hd (HR2.out.keptF hK1 (fun a ha h => by have h1 := HA2.out a ha; have h2 := HZ.out; rcases h with h | h | h; exact h1.2.2 h; exact h2.2.2.1 (h ▸ h1.1); exact h2.2.2.2.1 (h ▸ h1.1)))
  clear hM1 hQ1 hK1 x22 x23 HR HR2 HI HQ HM
  have x22 := HI1.out.k 22 rfl
  go_wp2
  go_ret
  exact ⟨rfl, HM1.out, .tak HI1.out HQ1.out (.inl HZ.out.1) (.inl HZ.out.2.1) HZ.out.2.2.2.2 HR1.out HR21.out (fun a ha hp => ⟨.inl (HA.out a ha hp).1, (HA.out a ha hp).2⟩) (fun a ha => ⟨.inl (HA2.out a ha).1, (HA2.out a ha).2⟩), HK1.out⟩

theorem is_full (F : Nat) (N fb fd : Int) (i id wd : Nat) (P X : Pg) (m : Nat) (sp : ByteArray) (lim : Nat) (Z : Nat → Prop) (hl : Lim 1 2 N 100 200 (F : Int)) (hd : Reach3 10 fb fd) (N0 Nv : Nat) (K0 K : ByteArray) (M0 M : Int) (w : World) (h : IAt Z w F N fb fd i id wd P X m sp lim (.tak false N0 K0 M0)) (b g : Nat) (l : List Cel) (k : Nat) (hm : Mem w b g l k) (hb : ¬ Z b) (hg : ¬ Z g) (hk : k < 9223372036854775808) (hc : cellAt l 4 = ((Nv : Int), K, M)) (hv : lim ≤ Nv) :
  Calls Tryz.prog 19 #[.pointer (some ⟨i, 0, none⟩), .pointer (some ⟨b, 0, none⟩)] w fun e w' => e = .returned (.bool true) ∧ Mem w' b g l (k + 1) ∧ IAt (Zm Z w w') w' F N fb fd i id wd P X m sp lim .ful ∧ Kept (fun j => Z j ∨ j = b ∨ j = g) w w' := by
 cases h with
 | tak h hq hi hqz hne hR hR2 hA hA2 =>
  rename_i q A c A2 c2
  have hqb : q ≠ b := fun e => hb (e ▸ hqz)
  have hqg : q ≠ g := fun e => hg (e ▸ hqz)
  have hib : i ≠ b := fun e => hb (e ▸ hi)
  have hig : i ≠ g := fun e => hg (e ▸ hi)
  have HI := Hd h
  have HQ := Hd hq
  have HM := Hd hm
  have HC := Hd hc
  have HZ := Hd (show Z i ∧ Z q ∧ ¬ Z b ∧ ¬ Z g ∧ q ≠ i from ⟨hi, hqz, hb, hg, hne⟩)
  have HR := Hd hR
  have HR2 := Hd hR2
  have HA := Hd hA
  have HA2 := Hd hA2
  have HV := Hd (show decide (lim ≤ Nv) = true from by simp; omega)
  have x22 := h.k 22 rfl; have x23 := h.k 23 rfl
  clear h hq hm hc hi hqz hb hg hne hR hR2 hA hA2 hv
  go_enter Tryz.func19, Tryz.ntmps19
  go_wp2_with fail
  refine (takeStep_load q b g l k 4 Nv N0 K K0 M M0 true lim w HQ.out HM.out hqb hqg hk HC.out HV.out).mono ?_; rintro e w1 ⟨rfl, hM1, hQ1, hK1⟩
  have hni : ¬ Own3 q b g i := fun h => by have h1 := HZ.out; rcases h with h | h | h <;> omega
  have HM1 := Hd hM1
  have HQ1 := Hd hQ1
  have HI1 := Hd (hK1.blk HI.out hni)
  have HK1 := Hd (show Kept (fun j => Z j ∨ j = b ∨ j = g) w w1 from hK1.mono (fun j h => by rcases h with rfl | h | h; exact .inl HZ.out.2.1; exact .inr (.inl h); exact .inr (.inr h)))
  have HR1 := Hd (HR.out.keptP hK1 (fun hp a ha h => by have h1 := HA.out a ha hp; have h2 := HZ.out; rcases h with h | h | h; exact h1.2.2 h; exact h2.2.2.1 (h ▸ h1.1); exact h2.2.2.2.1 (h ▸ h1.1)))
  have HR21 := Hd (HR2.out.keptF hK1 (fun a ha h => by have h1 := HA2.out a ha; have h2 := HZ.out; rcases h with h | h | h; exact h1.2.2 h; exact h2.2.2.1 (h ▸ h1.1); exact h2.2.2.2.1 (h ▸ h1.1)))
  clear hM1 hQ1 hK1 x22 x23 HR HR2 HI HQ HM
  go_wp2_with fail
  refine (isplit_no N F fb fd hl hd i id wd P X A c A2 c2 0 q (.pointer none) (.pointer none) ⟨#[]⟩ Nv lim K M _ HI1.out HQ1.out).mono ?_; rintro e w2 ⟨rfl, hI2, hK2⟩
  have HI2 := Hd hI2
  have HM2 := Hd (HM1.out.kept hK2 (fun e => hib e.symm) (fun e => hig e.symm))
  have HR2' := Hd (HR1.out.keptP hK2 (fun hp a ha h => (HA.out a ha hp).2.1 h))
  have HK2 := Hd (HK1.out.trans hK2 (fun j hj h => .inl (by have h2 : j = i := h; rw [h2]; exact HZ.out.1)))
  clear hI2 hK2
  have x22 := HI2.out.k 22 rfl
  go_wp2
  go_ret
  exact ⟨rfl, HM2.out, .ful HI2.out (.inl HZ.out.1) HR2'.out (fun a ha hp => ⟨.inl (HA.out a ha hp).1, (HA.out a ha hp).2.1⟩), HK2.out⟩

theorem is_swap (F : Nat) (N fb fd : Int) (i id wd : Nat) (P X : Pg) (m : Nat) (sp : ByteArray) (lim : Nat) (Z : Nat → Prop) (hl : Lim 1 2 N 100 200 (F : Int)) (hd : Reach3 10 fb fd) (Nv num : Nat) (K : ByteArray) (M : Int) (hN : Nv < 18446744073709551615) (hnum : Nv + 1 = num) (h2 : 2 ≤ X.xs.length) (hX : X.xs.length ≤ 1000) (hXl : X.lv < 9223372036854775808) (hmm : m = X.xs.length - X.xs.length / 2) (hsz : ∀ x ∈ X.xs, x.1.size ≤ 1000) (hsp : Sepr X.lv X.xs m sp) (w : World) (h : IAt Z w F N fb fd i id wd P X m sp lim (.tak true Nv K M)) (b g : Nat) (l : List Cel) (k : Nat) (hm : Mem w b g l k) (hb : ¬ Z b) (hg : ¬ Z g) (hk : k < 9223372036854775808) (hsw : swaps l 4 (Nv : Int) = true) :
  Calls Tryz.prog 19 #[.pointer (some ⟨i, 0, none⟩), .pointer (some ⟨b, 0, none⟩)] w fun e w' => e = .returned (.bool false) ∧ Mem w' b g (putAt l 4 (((Nv + 1 : Nat) : Int), K, M)) (k + 1) ∧ IAt (Zm Z w w') w' F N fb fd i id wd P X m sp lim (.fil num 0) ∧ Kept (fun j => Z j ∨ j = b ∨ j = g) w w' := by
 cases h with
 | tak h hq hi hqz hne hR hR2 hA hA2 =>
  rename_i q A c A2 c2
  have hqb : q ≠ b := fun e => hb (e ▸ hqz)
  have hqg : q ≠ g := fun e => hg (e ▸ hqz)
  have hib : i ≠ b := fun e => hb (e ▸ hi)
  have hig : i ≠ g := fun e => hg (e ▸ hi)
  have HI := Hd h
  have HQ := Hd hq
  have HM := Hd hm
  have HSW := Hd hsw
  have HZ := Hd (show Z i ∧ Z q ∧ ¬ Z b ∧ ¬ Z g ∧ q ≠ i from ⟨hi, hqz, hb, hg, hne⟩)
  have HR := Hd hR
  have HR2 := Hd hR2
  have HA := Hd hA
  have HA2 := Hd hA2
  have HMM := Hd hmm
  have HSP := Hd hsp
  have HSZ := Hd hsz
  have HNUM := Hd hnum
  have x22 := h.k 22 rfl; have x23 := h.k 23 rfl
  clear h hq hm hsw hi hqz hb hg hne hR hR2 hA hA2 hmm hsp hsz hnum
  go_enter Tryz.func19, Tryz.ntmps19
  go_wp2_with fail
  refine (takeStep_swap q b g l _ k 4 Nv K M true lim w HQ.out HM.out hqb hqg hk hN HSW.out rfl).mono ?_; rintro e w1 ⟨rfl, hM1, hQ1, hK1⟩
  rw [if_pos rfl] at hM1
  have hni : ¬ Own3 q b g i := fun h => by have h1 := HZ.out; rcases h with h | h | h <;> omega
  have HM1 := Hd hM1
  have HQ1 := Hd hQ1
  have HI1 := Hd (hK1.blk HI.out hni)
  have HK1 := Hd (show Kept (fun j => Z j ∨ j = b ∨ j = g) w w1 from hK1.mono (fun j h => by rcases h with rfl | h | h; exact .inl HZ.out.2.1; exact .inr (.inl h); exact .inr (.inr h)))
  have HR1 := Hd (HR.out.keptP hK1 (fun hp a ha h => by have h1 := HA.out a ha hp; have h2 := HZ.out; rcases h with h | h | h; exact h1.2.2 h; exact h2.2.2.1 (h ▸ h1.1); exact h2.2.2.2.1 (h ▸ h1.1)))
  have HR21 := Hd (HR2.out.keptF hK1 (fun a ha h => by have h1 := HA2.out a ha; have h2 := HZ.out; rcases h with h | h | h; exact h1.2.2 h; exact h2.2.2.1 (h ▸ h1.1); exact h2.2.2.2.1 (h ▸ h1.1)))
  have HIL := Hd HI1.out.lt
  clear hM1 hQ1 hK1 x22 x23 HR HR2 HI HQ HM
  go_wp2_with fail
  refine (isplit_yes N F fb fd hl hd i id wd P X A c A2 c2 0 q (.pointer none) (.pointer none) ⟨#[]⟩ Nv lim m num K M sp _ HI1.out HQ1.out HZ.out.2.2.2.2 hN HNUM.out h2 hX hXl HMM.out HR21.out HSZ.out HSP.out).mono ?_; rintro e w2 ⟨rfl, r, Zf, A3, c3, hI2, hR3, hA3, hdj, hf, hZf, hK2⟩
  have HI2 := Hd hI2
  have HF2 := Hd (show Stm Zf w2 r 165 (frsN F N X m num) 0 num 1 (rpg X m) from hf)
  have HM2 := Hd (HM1.out.kept hK2 (fun e => hib e.symm) (fun e => hig e.symm))
  have HR2' := Hd (HR1.out.keptP hK2 (fun hp a ha h => (HA.out a ha hp).2.1 h))
  have HR3 := Hd hR3
  have HK2 := Hd (HK1.out.trans hK2 (fun j hj h => .inl (by have h2 : j = i := h; rw [h2]; exact HZ.out.1)))
  have HZF := Hd (show ∀ k, Zf k → Zm Z w w2 k ∧ k ≠ i from fun k hk => ⟨.inr ⟨by have h1 := hZf k hk; have h2 := HK1.out.size; omega, hf.lt k hk⟩, fun e => by have h1 := hZf k hk; have h2 := HIL.out; omega⟩)
  have HA3' := Hd (show ∀ a, A3 = some a → 0 < (lpg X m sp num).xs.length → Zm Z w w2 a.block ∧ a.block ≠ i ∧ ¬ Zf a.block from fun a ha hp => by
   obtain ⟨g9, o9, e9, h9, -⟩ := hR3.at hp
   have h1 := hA3 a ha
   have h2 := HK1.out.size
   have h3 := HIL.out
   refine ⟨.inr ⟨by omega, by rw [e9] at ha; cases ha; exact h9⟩, by omega, ?_⟩
   exact hdj a ha hp)
  have HAZ := Hd (show ∀ a, A = some a → 0 < P.xs.length → ¬ Zf a.block from fun a ha hp hz => by
   obtain ⟨g9, o9, e9, h9, -⟩ := HR1.out.at hp
   have h1 := hZf _ hz
   rw [e9] at ha; cases ha
   have h2 : w1.heap.size ≤ g9 := h1
   omega)
  clear hI2 hR3 hA3 hdj hf hZf hK2
  have x22 := HI2.out.k 22 rfl
  go_wp2
  go_ret
  exact ⟨rfl, HM2.out, .fil HI2.out HF2.out (.inl HZ.out.1) HZF.out HR2'.out HR3.out (fun a ha hp => ⟨.inl (HA.out a ha hp).1, (HA.out a ha hp).2.1, HAZ.out a ha hp⟩) HA3'.out, HK2.out⟩

theorem is_fil (F : Nat) (N fb fd : Int) (i id wd : Nat) (P X : Pg) (m : Nat) (sp : ByteArray) (lim : Nat) (Z : Nat → Prop) (hl : Lim 1 2 N 100 200 (F : Int)) (hd : Reach3 10 fb fd) (num j : Nat) (hP : P.xs.length ≤ 1000) (hPl : P.lv < 9223372036854775808) (hXX : X.xs.length ≤ 900) (hXl : X.lv < 9223372036854775808) (hwd : wd < 18446744073709551616) (ad : Int) (cN cM : Int) (cK : ByteArray) (hs : (frsN F N X m num)[j]? = some (ad, cN, cK, cM)) (w : World) (h : IAt Z w F N fb fd i id wd P X m sp lim (.fil num j)) (b g : Nat) (l : List Cel) (k : Nat) (hm : Mem w b g l k) (hb : ¬ Z b) (hg : ¬ Z g) (hk : k < 9223372036854775808) (hj : j + 1 < (frsN F N X m num).length) :
  Calls Tryz.prog 19 #[.pointer (some ⟨i, 0, none⟩), .pointer (some ⟨b, 0, none⟩)] w fun e w' => e = .returned (.bool false) ∧ Mem w' b g (putAt l ad (cN, cK, cM)) (k + 1) ∧ IAt (Zm Z w w') w' F N fb fd i id wd P X m sp lim (.fil num (j + 1)) ∧ Kept (fun j => Z j ∨ j = b ∨ j = g) w w' := by
 cases h with
 | fil h hf hi hz hR hR3 hA hA3 =>
  rename_i q r Zf A c A3 c3
  have hib : i ≠ b := fun e => hb (e ▸ hi)
  have hig : i ≠ g := fun e => hg (e ▸ hi)
  have HI := Hd h
  have HF := Hd hf
  have HM := Hd hm
  have HS := Hd hs
  have HZ := Hd (show Z i ∧ ¬ Z b ∧ ¬ Z g from ⟨hi, hb, hg⟩)
  have HZF := Hd hz
  have HR := Hd hR
  have HR3 := Hd hR3
  have HA := Hd hA
  have HA3 := Hd hA3
  have HV := Hd (show (j + 1 == (frsN F N X m num).length) = false from by simp; omega)
  have HL := Hd (show (frsN F N X m num).length ≤ 1000 from by unfold frsN; rw [List.length_append, pst_length, rpg_length]; simp; omega)
  have x22 := h.k 22 rfl; have x24 := h.k 24 rfl
  clear h hf hm hs hi hz hb hg hR hR3 hA hA3
  go_enter Tryz.func19, Tryz.ntmps19
  go_wp2_with fail
  refine (fstep_any Zf r (frsN F N X m num) j num 1 (rpg X m) w HF.out b g l k HM.out (fun h => HZ.out.2.1 (HZF.out b h).1) (fun h => HZ.out.2.2 (HZF.out g h).1) hk HL.out ad cN cM cK HS.out false HV.out).mono ?_; rintro e w1 ⟨rfl, hM1, hF1, hK1⟩
  have hni : ¬ (Zf i ∨ i = b ∨ i = g) := fun h => by rcases h with h | h | h; exact (HZF.out i h).2 rfl; exact hib h; exact hig h
  have HM1 := Hd hM1
  have HF1 := Hd hF1
  have HI1 := Hd (hK1.blk HI.out hni)
  have HK1 := Hd (show Kept (fun j => Z j ∨ j = b ∨ j = g) w w1 from hK1.mono (fun j h => by rcases h with h | h | h; exact .inl (HZF.out j h).1; exact .inr (.inl h); exact .inr (.inr h)))
  have HR1 := Hd (HR.out.keptP hK1 (fun hp a ha h => by have h1 := HA.out a ha hp; have h2 := HZ.out; rcases h with h | h | h; exact h1.2.2 h; exact h2.2.1 (h ▸ h1.1); exact h2.2.2 (h ▸ h1.1)))
  have HR31 := Hd (HR3.out.keptP hK1 (fun hp a ha h => by have h1 := HA3.out a ha hp; have h2 := HZ.out; rcases h with h | h | h; exact h1.2.2 h; exact h2.2.1 (h ▸ h1.1); exact h2.2.2 (h ▸ h1.1)))
  clear hM1 hF1 hK1 x22 x24 HR HR3 HI HF HM HS
  have x22 := HI1.out.k 22 rfl
  go_wp2
  go_ret
  exact ⟨rfl, HM1.out, .fil HI1.out HF1.out (.inl HZ.out.1) (fun k hk => ⟨.inl (HZF.out k hk).1, (HZF.out k hk).2⟩) HR1.out HR31.out (fun a ha hp => ⟨.inl (HA.out a ha hp).1, (HA.out a ha hp).2⟩) (fun a ha hp => ⟨.inl (HA3.out a ha hp).1, (HA3.out a ha hp).2⟩), HK1.out⟩

theorem is_filled (F : Nat) (N fb fd : Int) (i id wd : Nat) (P X : Pg) (m : Nat) (sp : ByteArray) (lim : Nat) (Z : Nat → Prop) (hl : Lim 1 2 N 100 200 (F : Int)) (hd : Reach3 10 fb fd) (num j : Nat) (hP : P.xs.length ≤ 1000) (hPl : P.lv < 9223372036854775808) (hXX : X.xs.length ≤ 900) (hXl : X.lv < 9223372036854775808) (hwd : wd < 18446744073709551616) (ad : Int) (cN cM : Int) (cK : ByteArray) (hs : (frsN F N X m num)[j]? = some (ad, cN, cK, cM)) (w : World) (h : IAt Z w F N fb fd i id wd P X m sp lim (.fil num j)) (b g : Nat) (l : List Cel) (k : Nat) (hm : Mem w b g l k) (hb : ¬ Z b) (hg : ¬ Z g) (hk : k < 9223372036854775808) (hj : j + 1 = (frsN F N X m num).length) :
  Calls Tryz.prog 19 #[.pointer (some ⟨i, 0, none⟩), .pointer (some ⟨b, 0, none⟩)] w fun e w' => e = .returned (.bool false) ∧ Mem w' b g (putAt l ad (cN, cK, cM)) (k + 1) ∧ IAt (Zm Z w w') w' F N fb fd i id wd P X m sp lim (.wri (some num) 0) ∧ Kept (fun j => Z j ∨ j = b ∨ j = g) w w' := by
 cases h with
 | fil h hf hi hz hR hR3 hA hA3 =>
  rename_i q r Zf A c A3 c3
  have hib : i ≠ b := fun e => hb (e ▸ hi)
  have hig : i ≠ g := fun e => hg (e ▸ hi)
  have HI := Hd h
  have HF := Hd hf
  have HM := Hd hm
  have HS := Hd hs
  have HZ := Hd (show Z i ∧ ¬ Z b ∧ ¬ Z g from ⟨hi, hb, hg⟩)
  have HZF := Hd hz
  have HR := Hd hR
  have HR3 := Hd hR3
  have HA := Hd hA
  have HA3 := Hd hA3
  have HV := Hd (show (j + 1 == (frsN F N X m num).length) = true from by simp; omega)
  have HL := Hd (show (frsN F N X m num).length ≤ 1000 from by unfold frsN; rw [List.length_append, pst_length, rpg_length]; simp; omega)
  have x22 := h.k 22 rfl; have x24 := h.k 24 rfl
  clear h hf hm hs hi hz hb hg hR hR3 hA hA3
  go_enter Tryz.func19, Tryz.ntmps19
  go_wp2_with fail
  refine (fstep_any Zf r (frsN F N X m num) j num 1 (rpg X m) w HF.out b g l k HM.out (fun h => HZ.out.2.1 (HZF.out b h).1) (fun h => HZ.out.2.2 (HZF.out g h).1) hk HL.out ad cN cM cK HS.out true HV.out).mono ?_; rintro e w1 ⟨rfl, hM1, hF1, hK1⟩
  have hni : ¬ (Zf i ∨ i = b ∨ i = g) := fun h => by rcases h with h | h | h; exact (HZF.out i h).2 rfl; exact hib h; exact hig h
  have HM1 := Hd hM1
  have HF1 := Hd hF1
  have HI1 := Hd (hK1.blk HI.out hni)
  have HK1 := Hd (show Kept (fun j => Z j ∨ j = b ∨ j = g) w w1 from hK1.mono (fun j h => by rcases h with h | h | h; exact .inl (HZF.out j h).1; exact .inr (.inl h); exact .inr (.inr h)))
  have HR1 := Hd (HR.out.keptP hK1 (fun hp a ha h => by have h1 := HA.out a ha hp; have h2 := HZ.out; rcases h with h | h | h; exact h1.2.2 h; exact h2.2.1 (h ▸ h1.1); exact h2.2.2 (h ▸ h1.1)))
  have HR31 := Hd (HR3.out.keptP hK1 (fun hp a ha h => by have h1 := HA3.out a ha hp; have h2 := HZ.out; rcases h with h | h | h; exact h1.2.2 h; exact h2.2.1 (h ▸ h1.1); exact h2.2.2 (h ▸ h1.1)))
  clear hM1 hF1 hK1 x22 x24 HR HR3 HI HF HM HS
  have HIL := Hd HI1.out.lt
  have HJ := Hd hj
  go_wp2_with fail
  refine (ichange_any N F fb fd hl hd i id wd P (lpg X m sp num) A c A3 c3 1 (.pointer (some ⟨q, 0, none⟩)) (.pointer (some ⟨r, 0, none⟩)) (.pointer none) sp _ HI1.out hP (by show (X.xs.take m).length ≤ 1000; rw [List.length_take]; omega) hPl hXl hwd HR1.out HR31.out).mono ?_; rintro e w2 ⟨rfl, q2, Zw, hI2, hw, hZw, hK2⟩
  have HI2 := Hd hI2
  have HW2 := Hd (show Stm Zw w2 q2 166 (wrsN F N id wd P (lpg X m sp num)) 0 id (endW (beginW wd)) (lpg X m sp num) from hw)
  have HM2 := Hd (HM1.out.kept hK2 (fun e => hib e.symm) (fun e => hig e.symm))
  have HF2 := Hd (show Stm Zf w2 r 165 (frsN F N X m num) (frsN F N X m num).length num 1 (rpg X m) from by
   have := HF1.out.kept hK2 (fun k hk h => (HZF.out k hk).2 h)
   rw [HJ.out] at this; exact this)
  have HK2 := Hd (HK1.out.trans hK2 (fun j hj h => .inl (by have h2 : j = i := h; rw [h2]; exact HZ.out.1)))
  have HZW := Hd (show ∀ k, Zw k → Zm Z w w2 k ∧ k ≠ i from fun k hk => ⟨.inr ⟨by have h1 := hZw k hk; have h2 := HK1.out.size; omega, hw.lt k hk⟩, fun e => by have h1 := hZw k hk; have h2 := HIL.out; omega⟩)
  have HDJ := Hd (show ∀ k, Zf k → ¬ Zw k from fun k hk h => by have h1 := hZw k h; have h2 := HF1.out.lt k hk; omega)
  clear hI2 hw hZw hK2
  have x22 := HI2.out.k 22 rfl
  go_wp2
  go_ret
  exact ⟨rfl, HM2.out, .wri1 HI2.out HF2.out HW2.out (.inl HZ.out.1) (fun k hk => ⟨.inl (HZF.out k hk).1, (HZF.out k hk).2⟩) HZW.out HDJ.out, HK2.out⟩

theorem is_wri0 (F : Nat) (N fb fd : Int) (i id wd : Nat) (P X : Pg) (m : Nat) (sp : ByteArray) (lim : Nat) (Z : Nat → Prop) (num j : Nat) (hlen : (wrsN F N id wd P X).length ≤ 1000) (ad : Int) (cN cM : Int) (cK : ByteArray) (hs : (wrsN F N id wd P X)[j]? = some (ad, cN, cK, cM)) (w : World) (h : IAt Z w F N fb fd i id wd P X m sp lim (.wri none j)) (b g : Nat) (l : List Cel) (k : Nat) (hm : Mem w b g l k) (hb : ¬ Z b) (hg : ¬ Z g) (hk : k < 9223372036854775808) (hj : j + 1 < (wrsN F N id wd P X).length) :
  Calls Tryz.prog 19 #[.pointer (some ⟨i, 0, none⟩), .pointer (some ⟨b, 0, none⟩)] w fun e w' => e = .returned (.bool false) ∧ Mem w' b g (putAt l ad (cN, cK, cM)) (k + 1) ∧ IAt (Zm Z w w') w' F N fb fd i id wd P X m sp lim (.wri none (j + 1)) ∧ Kept (fun j => Z j ∨ j = b ∨ j = g) w w' := by
 cases h with
 | wri0 h hw hi hz =>
  rename_i q2 tk Zw A c A2 c2
  have hib : i ≠ b := fun e => hb (e ▸ hi)
  have hig : i ≠ g := fun e => hg (e ▸ hi)
  have HI := Hd h
  have HW := Hd hw
  have HM := Hd hm
  have HS := Hd hs
  have HZ := Hd (show Z i ∧ ¬ Z b ∧ ¬ Z g from ⟨hi, hb, hg⟩)
  have HZW := Hd hz
  have HV := Hd (show (j + 1 == (wrsN F N id wd P X).length) = false from by simp; omega)
  have HL := Hd (show (wrsN F N id wd P X).length ≤ 1000 from hlen)
  have HJ := Hd hj
  have x22 := h.k 22 rfl; have x25 := h.k 25 rfl
  clear h hw hm hs hi hz hb hg hlen hj
  go_enter Tryz.func19, Tryz.ntmps19
  go_wp2_with fail
  refine (wstep_any Zw q2 (wrsN F N id wd P X) j id (endW (beginW wd)) X w HW.out b g l k HM.out (fun h => HZ.out.2.1 (HZW.out b h).1) (fun h => HZ.out.2.2 (HZW.out g h).1) hk HL.out ad cN cM cK HS.out false HV.out).mono ?_; rintro e w1 ⟨rfl, hM1, hW1, hK1⟩
  have hni : ¬ (Zw i ∨ i = b ∨ i = g) := fun h => by rcases h with h | h | h; exact (HZW.out i h).2 rfl; exact hib h; exact hig h
  have HM1 := Hd hM1
  have HW1 := Hd hW1
  have HI1 := Hd (hK1.blk HI.out hni)
  have HK1 := Hd (show Kept (fun j => Z j ∨ j = b ∨ j = g) w w1 from hK1.mono (fun j h => by rcases h with h | h | h; exact .inl (HZW.out j h).1; exact .inr (.inl h); exact .inr (.inr h)))
  clear hM1 hW1 hK1 x22 x25 HI HW HM HS
  have x22 := HI1.out.k 22 rfl
  go_wp2
  go_ret
  exact ⟨rfl, HM1.out, .wri0 HI1.out HW1.out (.inl HZ.out.1) (fun k hk => ⟨.inl (HZW.out k hk).1, (HZW.out k hk).2⟩), HK1.out⟩

theorem is_written0 (F : Nat) (N fb fd : Int) (i id wd : Nat) (P X : Pg) (m : Nat) (sp : ByteArray) (lim : Nat) (Z : Nat → Prop) (num j : Nat) (hlen : (wrsN F N id wd P X).length ≤ 1000) (ad : Int) (cN cM : Int) (cK : ByteArray) (hs : (wrsN F N id wd P X)[j]? = some (ad, cN, cK, cM)) (w : World) (h : IAt Z w F N fb fd i id wd P X m sp lim (.wri none j)) (b g : Nat) (l : List Cel) (k : Nat) (hm : Mem w b g l k) (hb : ¬ Z b) (hg : ¬ Z g) (hk : k < 9223372036854775808) (hj : j + 1 = (wrsN F N id wd P X).length) :
  Calls Tryz.prog 19 #[.pointer (some ⟨i, 0, none⟩), .pointer (some ⟨b, 0, none⟩)] w fun e w' => e = .returned (.bool true) ∧ Mem w' b g (putAt l ad (cN, cK, cM)) (k + 1) ∧ IAt (Zm Z w w') w' F N fb fd i id wd P X m sp lim (.don none) ∧ Kept (fun j => Z j ∨ j = b ∨ j = g) w w' := by
 cases h with
 | wri0 h hw hi hz =>
  rename_i q2 tk Zw A c A2 c2
  have hib : i ≠ b := fun e => hb (e ▸ hi)
  have hig : i ≠ g := fun e => hg (e ▸ hi)
  have HI := Hd h
  have HW := Hd hw
  have HM := Hd hm
  have HS := Hd hs
  have HZ := Hd (show Z i ∧ ¬ Z b ∧ ¬ Z g from ⟨hi, hb, hg⟩)
  have HZW := Hd hz
  have HV := Hd (show (j + 1 == (wrsN F N id wd P X).length) = true from by simp; omega)
  have HL := Hd (show (wrsN F N id wd P X).length ≤ 1000 from hlen)
  have HJ := Hd hj
  have x22 := h.k 22 rfl; have x25 := h.k 25 rfl
  clear h hw hm hs hi hz hb hg hlen hj
  go_enter Tryz.func19, Tryz.ntmps19
  go_wp2_with fail
  refine (wstep_any Zw q2 (wrsN F N id wd P X) j id (endW (beginW wd)) X w HW.out b g l k HM.out (fun h => HZ.out.2.1 (HZW.out b h).1) (fun h => HZ.out.2.2 (HZW.out g h).1) hk HL.out ad cN cM cK HS.out true HV.out).mono ?_; rintro e w1 ⟨rfl, hM1, hW1, hK1⟩
  have hni : ¬ (Zw i ∨ i = b ∨ i = g) := fun h => by rcases h with h | h | h; exact (HZW.out i h).2 rfl; exact hib h; exact hig h
  have HM1 := Hd hM1
  have HW1 := Hd hW1
  have HI1 := Hd (hK1.blk HI.out hni)
  have HK1 := Hd (show Kept (fun j => Z j ∨ j = b ∨ j = g) w w1 from hK1.mono (fun j h => by rcases h with h | h | h; exact .inl (HZW.out j h).1; exact .inr (.inl h); exact .inr (.inr h)))
  clear hM1 hW1 hK1 x22 x25 HI HW HM HS
  have x22 := HI1.out.k 22 rfl
  have z22 := HI1.out.frozen 22
  go_upto_region 11 with fail
  have hks := (Kept.refl (fun k => k = i) w1).setCell (a := ⟨i, 22, none⟩) (fun _ => rfl) (.int .i64 3)
  have HI2 := Hd (show Blk (w1.setCell ⟨i, 22, none⟩ (.int .i64 3)) i 104 (insv N F fb fd id wd P A c X A2 c2 3 tk (.pointer none) (.pointer (some ⟨q2, 0, none⟩)) ⟨#[]⟩) from HI1.out.set 22 (.int .i64 3))
  have HM2 := Hd (HM1.out.kept hks (fun e => hib e.symm) (fun e => hig e.symm))
  have HW2 := Hd (show Stm Zw (w1.setCell ⟨i, 22, none⟩ (.int .i64 3)) q2 166 (wrsN F N id wd P X) (wrsN F N id wd P X).length id (endW (beginW wd)) X from by
   have := HW1.out.kept hks (fun k hk h => (HZW.out k hk).2 h)
   rw [HJ.out] at this; exact this)
  have HK2 := Hd (HK1.out.trans hks (fun j hj h => .inl (by have h2 : j = i := h; rw [h2]; exact HZ.out.1)))
  have HZS := Hd hks.size
  clear hks x22 z22 HI1 HW1 HM1
  generalize w1.setCell ⟨i, 22, none⟩ (.int .i64 3) = w2 at *
  have x22 := HI2.out.k 22 rfl
  go_wp2
  go_ret
  exact ⟨rfl, HM2.out, .don0 HI2.out HW2.out (.inl HZ.out.1) (fun k hk => ⟨.inl (HZW.out k hk).1, (HZW.out k hk).2⟩), HK2.out⟩

theorem is_wri1 (F : Nat) (N fb fd : Int) (i id wd : Nat) (P X : Pg) (m : Nat) (sp : ByteArray) (lim : Nat) (Z : Nat → Prop) (num j : Nat) (hlen : (wrsN F N id wd P (lpg X m sp num)).length ≤ 1000) (ad : Int) (cN cM : Int) (cK : ByteArray) (hs : (wrsN F N id wd P (lpg X m sp num))[j]? = some (ad, cN, cK, cM)) (w : World) (h : IAt Z w F N fb fd i id wd P X m sp lim (.wri (some num) j)) (b g : Nat) (l : List Cel) (k : Nat) (hm : Mem w b g l k) (hb : ¬ Z b) (hg : ¬ Z g) (hk : k < 9223372036854775808) (hj : j + 1 < (wrsN F N id wd P (lpg X m sp num)).length) :
  Calls Tryz.prog 19 #[.pointer (some ⟨i, 0, none⟩), .pointer (some ⟨b, 0, none⟩)] w fun e w' => e = .returned (.bool false) ∧ Mem w' b g (putAt l ad (cN, cK, cM)) (k + 1) ∧ IAt (Zm Z w w') w' F N fb fd i id wd P X m sp lim (.wri (some num) (j + 1)) ∧ Kept (fun j => Z j ∨ j = b ∨ j = g) w w' := by
 cases h with
 | wri1 h hf hw hi hzf hz hd =>
  rename_i q2 r tk Zf Zw A c A3 c3
  have hib : i ≠ b := fun e => hb (e ▸ hi)
  have hig : i ≠ g := fun e => hg (e ▸ hi)
  have HI := Hd h
  have HW := Hd hw
  have HM := Hd hm
  have HS := Hd hs
  have HZ := Hd (show Z i ∧ ¬ Z b ∧ ¬ Z g from ⟨hi, hb, hg⟩)
  have HZW := Hd hz
  have HF := Hd hf
  have HZF := Hd hzf
  have HDJ := Hd hd
  have HV := Hd (show (j + 1 == (wrsN F N id wd P (lpg X m sp num)).length) = false from by simp; omega)
  have HL := Hd (show (wrsN F N id wd P (lpg X m sp num)).length ≤ 1000 from hlen)
  have HJ := Hd hj
  have x22 := h.k 22 rfl; have x25 := h.k 25 rfl
  clear h hw hm hs hi hz hb hg hlen hj hf hzf hd
  go_enter Tryz.func19, Tryz.ntmps19
  go_wp2_with fail
  refine (wstep_any Zw q2 (wrsN F N id wd P (lpg X m sp num)) j id (endW (beginW wd)) (lpg X m sp num) w HW.out b g l k HM.out (fun h => HZ.out.2.1 (HZW.out b h).1) (fun h => HZ.out.2.2 (HZW.out g h).1) hk HL.out ad cN cM cK HS.out false HV.out).mono ?_; rintro e w1 ⟨rfl, hM1, hW1, hK1⟩
  have hni : ¬ (Zw i ∨ i = b ∨ i = g) := fun h => by rcases h with h | h | h; exact (HZW.out i h).2 rfl; exact hib h; exact hig h
  have HM1 := Hd hM1
  have HW1 := Hd hW1
  have HI1 := Hd (hK1.blk HI.out hni)
  have HK1 := Hd (show Kept (fun j => Z j ∨ j = b ∨ j = g) w w1 from hK1.mono (fun j h => by rcases h with h | h | h; exact .inl (HZW.out j h).1; exact .inr (.inl h); exact .inr (.inr h)))
  have HF1 := Hd (HF.out.kept hK1 (fun k hk h => by rcases h with h | h | h; exact HDJ.out k hk h; exact HZ.out.2.1 (h ▸ (HZF.out k hk).1); exact HZ.out.2.2 (h ▸ (HZF.out k hk).1)))
  clear hM1 hW1 hK1 x22 x25 HI HW HM HS HF
  have x22 := HI1.out.k 22 rfl
  go_wp2
  go_ret
  exact ⟨rfl, HM1.out, .wri1 HI1.out HF1.out HW1.out (.inl HZ.out.1) (fun k hk => ⟨.inl (HZF.out k hk).1, (HZF.out k hk).2⟩) (fun k hk => ⟨.inl (HZW.out k hk).1, (HZW.out k hk).2⟩) HDJ.out, HK1.out⟩

theorem is_written1 (F : Nat) (N fb fd : Int) (i id wd : Nat) (P X : Pg) (m : Nat) (sp : ByteArray) (lim : Nat) (Z : Nat → Prop) (num j : Nat) (hlen : (wrsN F N id wd P (lpg X m sp num)).length ≤ 1000) (ad : Int) (cN cM : Int) (cK : ByteArray) (hs : (wrsN F N id wd P (lpg X m sp num))[j]? = some (ad, cN, cK, cM)) (w : World) (h : IAt Z w F N fb fd i id wd P X m sp lim (.wri (some num) j)) (b g : Nat) (l : List Cel) (k : Nat) (hm : Mem w b g l k) (hb : ¬ Z b) (hg : ¬ Z g) (hk : k < 9223372036854775808) (hj : j + 1 = (wrsN F N id wd P (lpg X m sp num)).length) :
  Calls Tryz.prog 19 #[.pointer (some ⟨i, 0, none⟩), .pointer (some ⟨b, 0, none⟩)] w fun e w' => e = .returned (.bool true) ∧ Mem w' b g (putAt l ad (cN, cK, cM)) (k + 1) ∧ IAt (Zm Z w w') w' F N fb fd i id wd P X m sp lim (.don (some num)) ∧ Kept (fun j => Z j ∨ j = b ∨ j = g) w w' := by
 cases h with
 | wri1 h hf hw hi hzf hz hd =>
  rename_i q2 r tk Zf Zw A c A3 c3
  have hib : i ≠ b := fun e => hb (e ▸ hi)
  have hig : i ≠ g := fun e => hg (e ▸ hi)
  have HI := Hd h
  have HW := Hd hw
  have HM := Hd hm
  have HS := Hd hs
  have HZ := Hd (show Z i ∧ ¬ Z b ∧ ¬ Z g from ⟨hi, hb, hg⟩)
  have HZW := Hd hz
  have HF := Hd hf
  have HZF := Hd hzf
  have HDJ := Hd hd
  have HV := Hd (show (j + 1 == (wrsN F N id wd P (lpg X m sp num)).length) = true from by simp; omega)
  have HL := Hd (show (wrsN F N id wd P (lpg X m sp num)).length ≤ 1000 from hlen)
  have HJ := Hd hj
  have x22 := h.k 22 rfl; have x25 := h.k 25 rfl
  clear h hw hm hs hi hz hb hg hlen hj hf hzf hd
  go_enter Tryz.func19, Tryz.ntmps19
  go_wp2_with fail
  refine (wstep_any Zw q2 (wrsN F N id wd P (lpg X m sp num)) j id (endW (beginW wd)) (lpg X m sp num) w HW.out b g l k HM.out (fun h => HZ.out.2.1 (HZW.out b h).1) (fun h => HZ.out.2.2 (HZW.out g h).1) hk HL.out ad cN cM cK HS.out true HV.out).mono ?_; rintro e w1 ⟨rfl, hM1, hW1, hK1⟩
  have hni : ¬ (Zw i ∨ i = b ∨ i = g) := fun h => by rcases h with h | h | h; exact (HZW.out i h).2 rfl; exact hib h; exact hig h
  have HM1 := Hd hM1
  have HW1 := Hd hW1
  have HI1 := Hd (hK1.blk HI.out hni)
  have HK1 := Hd (show Kept (fun j => Z j ∨ j = b ∨ j = g) w w1 from hK1.mono (fun j h => by rcases h with h | h | h; exact .inl (HZW.out j h).1; exact .inr (.inl h); exact .inr (.inr h)))
  have HF1 := Hd (HF.out.kept hK1 (fun k hk h => by rcases h with h | h | h; exact HDJ.out k hk h; exact HZ.out.2.1 (h ▸ (HZF.out k hk).1); exact HZ.out.2.2 (h ▸ (HZF.out k hk).1)))
  clear hM1 hW1 hK1 x22 x25 HI HW HM HS HF
  have x22 := HI1.out.k 22 rfl
  have z22 := HI1.out.frozen 22
  go_upto_region 11 with fail
  have hks := (Kept.refl (fun k => k = i) w1).setCell (a := ⟨i, 22, none⟩) (fun _ => rfl) (.int .i64 3)
  have HI2 := Hd (show Blk (w1.setCell ⟨i, 22, none⟩ (.int .i64 3)) i 104 (insv N F fb fd id wd P A c (lpg X m sp num) A3 c3 3 tk (.pointer (some ⟨r, 0, none⟩)) (.pointer (some ⟨q2, 0, none⟩)) sp) from HI1.out.set 22 (.int .i64 3))
  have HM2 := Hd (HM1.out.kept hks (fun e => hib e.symm) (fun e => hig e.symm))
  have HW2 := Hd (show Stm Zw (w1.setCell ⟨i, 22, none⟩ (.int .i64 3)) q2 166 (wrsN F N id wd P (lpg X m sp num)) (wrsN F N id wd P (lpg X m sp num)).length id (endW (beginW wd)) (lpg X m sp num) from by
   have := HW1.out.kept hks (fun k hk h => (HZW.out k hk).2 h)
   rw [HJ.out] at this; exact this)
  have HF2 := Hd (HF1.out.kept hks (fun k hk h => (HZF.out k hk).2 h))
  have HK2 := Hd (HK1.out.trans hks (fun j hj h => .inl (by have h2 : j = i := h; rw [h2]; exact HZ.out.1)))
  have HZS := Hd hks.size
  clear hks x22 z22 HI1 HW1 HM1
  generalize w1.setCell ⟨i, 22, none⟩ (.int .i64 3) = w2 at *
  have x22 := HI2.out.k 22 rfl
  go_wp2
  go_ret
  exact ⟨rfl, HM2.out, .don1 HI2.out HF2.out HW2.out (.inl HZ.out.1) (fun k hk => ⟨.inl (HZF.out k hk).1, (HZF.out k hk).2⟩) (fun k hk => ⟨.inl (HZW.out k hk).1, (HZW.out k hk).2⟩) HDJ.out, HK2.out⟩

theorem is_err (F : Nat) (N fb fd : Int) (i id wd : Nat) (P X : Pg) (m : Nat) (sp : ByteArray) (lim : Nat) (Z : Nat → Prop) (fo : Option Nat) (w : World) (h : IAt Z w F N fb fd i id wd P X m sp lim (.don fo)) :
  Calls Tryz.prog 20 #[.pointer (some ⟨i, 0, none⟩)] w fun e w' => e = .returned (.int .i64 0) ∧ Kept (fun _ => False) w w' := by
 obtain ⟨tk, fr, wp, s0, Y, A, c, A2, c2, h⟩ : ∃ (tk fr wp : Value) (s0 : ByteArray) (Y : Pg) (A : Option Addr) (c : Nat) (A2 : Option Addr) (c2 : Nat), Blk w i 104 (insv N F fb fd id wd P A c Y A2 c2 3 tk fr wp s0) := by
  cases h with
  | don0 h hw hi hz => exact ⟨_, _, _, _, _, _, _, _, _, h⟩
  | don1 h hf hw hi hzf hzw hd => exact ⟨_, _, _, _, _, _, _, _, _, h⟩
 have x22 := h.k 22 rfl
 clear h
 go_enter Tryz.func20, Tryz.ntmps20
 go_wp2
 go_ret
 exact ⟨rfl, Kept.refl _ _⟩

end
end Go.Proofs.YtjnodgebpklaoaaGreat
