/-
  What stands in the memory while the owner of node 1 splits it and a Lock waits for it, from stage to stage of the owner. No program runs here. Condition: none.
-/
import Derived.Test.YtkpbbnpfdighjaaGreatLkMvo
namespace Go.Proofs.YtkpbbnpfdighjaaGreat
open Go.RowKit Go.Deep Plain
set_option linter.unusedVariables false

/-- The owner's stage: how often node 1 has been written, whether it is being written, and which of the two nodes the owner has. -/
def cC : Nat → Nat
  | 0 => 0
  | 1 => 0
  | _ => 1
def chB : Nat → Nat → Bool
  | 1, j => decide (0 < j)
  | _, _ => false
def uA : Nat → Bool
  | 0 => true
  | 1 => true
  | 2 => true
  | 3 => true
  | _ => false
def uB : Nat → Bool
  | 0 => true
  | 1 => true
  | 2 => true
  | _ => false
/-- The stores of the Fresh and of the Write. -/
def frs (F : Nat) (R : Pg) : List Sto := pst (nad F 2) R ++ [(nla F 2, ((1 : Int), (⟨#[]⟩ : ByteArray), (0 : Int)))]
def wrs (F : Nat) (P Q : Pg) : List Sto := wsto (nla F 1) 3 5 (chg (pst (nad F 1) P) (pst (nad F 1) Q))
section
variable {F n0 : Nat} {l : List Cel} {key : ByteArray} {P Q R X : Pg} {C st j : Nat} {ch u1 u2 : Bool} {s : Ls} {a : Int} {c : Cel}
theorem nla1 : nla F 1 = 10 := by rw [nla_eq (by omega) (by omega)]; omega
theorem nla2 : nla F 2 = 14 + (F : Int) := by rw [nla_eq (by omega) (by omega)]; omega
theorem nad1 {r : Nat} (hr : r < F + 3) : nad F 1 r = 11 + (r : Int) := by rw [nad_eq (by omega) (by omega) hr, nla1]; omega
theorem nad2 {r : Nat} (hr : r < F + 3) : nad F 2 r = 15 + (F : Int) + (r : Int) := by rw [nad_eq (by omega) (by omega) hr, nla2]; omega
theorem frs_len : (frs F R).length = R.xs.length + 4 := by unfold frs; rw [List.length_append, pst_length]; rfl
theorem frs_addr (hF : R.xs.length ≤ F) {s : Sto} (h : s ∈ frs F R) : 14 + (F : Int) ≤ s.1 := by
  unfold frs at h
  rcases List.mem_append.1 h with h | h
  · obtain ⟨r, hr, rfl⟩ := pst_addr h
    show 14 + (F : Int) ≤ nad F 2 r
    rw [nad2 (by omega)]; omega
  · rw [List.mem_singleton.1 h]
    show 14 + (F : Int) ≤ nla F 2
    rw [nla2]; exact Int.le_refl _
theorem frs_nat (hf : Fits R) {s : Sto} (h : s ∈ frs F R) : NatCell s.2 := by
  unfold frs at h
  rcases List.mem_append.1 h with h | h
  · exact hf.pstN _ s h
  · rw [List.mem_singleton.1 h]; exact ⟨1, 0, _, rfl, by omega, by omega⟩
theorem wrs_addr (hF : Q.xs.length ≤ F) {s : Sto} (h : s ∈ wrs F P Q) : 10 ≤ s.1 ∧ s.1 < 14 + (F : Int) := by
  unfold wrs wsto at h
  rcases List.mem_append.1 h with h | h
  · rcases List.mem_cons.1 h with rfl | h
    · show 10 ≤ nla F 1 ∧ nla F 1 < _
      rw [nla1]; omega
    · obtain ⟨r, hr, rfl⟩ := chg_addr h
      show 10 ≤ nad F 1 r ∧ nad F 1 r < _
      rw [nad1 (by omega)]; omega
  · rw [List.mem_singleton.1 h]
    show 10 ≤ nla F 1 ∧ nla F 1 < _
    rw [nla1]; omega
/-- Node 2 as the Fresh leaves it. -/
structure H2 (F : Nat) (l : List Cel) (R : Pg) : Prop where
  page : Holds (nad F 2) l R
  lat : cellAt l (nla F 2) = ((1 : Int), (⟨#[]⟩ : ByteArray), (0 : Int))
theorem H2.put (h : H2 F l R) (hF : R.xs.length ≤ F) (ha : a < 14 + (F : Int)) : H2 F (putAt l a c) R :=
  ⟨fun r hr => by rw [cellAt_other (by rw [nad2 (by omega)]; omega)]; exact h.page r hr, by rw [cellAt_other (by rw [nla2]; omega)]; exact h.lat⟩
theorem frs_done (h4 : 4 ≤ F) (h6 : F ≤ 6) (hb : 10 + 100 * (F : Int) + 400 ≤ (l.length : Int)) (hF : R.xs.length ≤ F) : H2 F (app l (frs F R)) R := by
  have ha : Ads F (nla F 2) (nad F 2) l.length := ads_of h4 h6 (by omega) (by omega) hb
  have e : app l (frs F R) = putAt (app l (pst (nad F 2) R)) (nla F 2) ((1 : Int), (⟨#[]⟩ : ByteArray), (0 : Int)) := by unfold frs; rw [app_snoc]
  have n2 := nla2 (F := F)
  refine ⟨fun r hr => ?_, ?_⟩
  · rw [e, cellAt_other (Ne.symm (ha.ne r (by omega)))]
    have := pst_holds ha rfl hF (R.xs.length + 3) (Nat.le_refl _) r hr
    rw [pst_all] at this; exact this
  · rw [e, cellAt_same (by rw [app_length]; exact ha.lat)]
theorem lmem_len (s : Ls) : (lmem F l s).length = l.length := by
  unfold lmem
  split
  · split
    · rw [putAt_length]
    · rfl
  · rw [putAt_length]
  · rfl
theorem LX.mem0 (h : LX F key P Q R 0 ch true u2 s) : lmem F l s = l := by
  cases h with
  | fnd h => rfl
  | seek1 hN => rfl
  | go1 hu => cases hu
  | own1 hu hr => cases hu
  | rel1 hu hk => cases hu
  | seek2 hC hk hN => rfl
  | go2 hC hk hu => exact absurd hC (by decide)
  | own2 hC hk hu hr => rfl
  | lck1 hu hk => cases hu
  | lck2 hC hk hu => rfl
/-- All that stands in the memory. -/
structure Mvx (F n0 : Nat) (key : ByteArray) (P Q R : Pg) (st j : Nat) (l : List Cel) (s : Ls) : Prop where
  lx : LX F key P Q R (cC st) (chB st j) (uA st) (uB st) s
  nod : Nod F l P Q R (cC st) (chB st j)
  lat : Lat F l (cC st) (uA st) (uB st) s
  len : l.length = n0
  s0 : st = 0 → j < (frs F R).length ∧ ∃ l0, l = app l0 ((frs F R).take j) ∧ l0.length = n0
  s1 : st = 1 → j < (wrs F P Q).length ∧ Busy F n0 l P Q 0 j (wrs F P Q) ∧ H2 F l R
theorem Mvx.start (N : Nod F l P Q R 0 false) {K : ByteArray} {M : Int} (hc : cellAt l (nla F 1) = ((1 : Int), K, M)) (hl : l.length = n0) : Mvx F n0 key P Q R 0 0 l (.fnd .root) :=
  ⟨.fnd .root, N, ⟨⟨1, K, M, by omega, hc, fun _ => rfl, fun e => (by cases e)⟩, fun e => absurd e (by decide)⟩, hl, fun _ => ⟨by rw [frs_len]; omega, l, by rw [List.take_zero]; rfl, hl⟩, fun e => absurd e (by decide)⟩
theorem Mvx.x (S : Spl F P Q R) (h4 : 4 ≤ F) (h6 : F ≤ 6) (hb : 10 + 100 * (F : Int) + 400 ≤ (n0 : Int)) (M : Mvx F n0 key P Q R st j l s) (hst : st ≤ 4) (hs : s.fin = false) :
    Lok F key 0 l s ∧ Mvx F n0 key P Q R st j (lmem F l s) (lgo F key 0 l s) ∧ (st = 4 → dL F (lgo F key 0 l s) + 1 ≤ dL F s) := by
  have hb' : 10 + 100 * (F : Int) + 400 ≤ (l.length : Int) := by rw [M.len]; exact hb
  obtain ⟨hok, hlx, hnod, hlat⟩ := M.lx.step h4 h6 hb' S M.nod (fun e => by
    rcases (by omega : st = 0 ∨ st = 1 ∨ st = 2 ∨ st = 3 ∨ st = 4) with rfl | rfl | rfl | rfl | rfl
    · cases e
    · cases e
    · rfl
    · rfl
    · rfl) M.lat hs
  have hm : st < 2 → lmem F l s = l := fun h => by
    have hx := M.lx
    rcases (by omega : st = 0 ∨ st = 1) with rfl | rfl
    · exact LX.mem0 hx
    · exact LX.mem0 hx
  refine ⟨hok, ⟨hlx, hnod, hlat, by rw [lmem_len]; exact M.len, fun e => by rw [hm (by omega)]; exact M.s0 e, fun e => by rw [hm (by omega)]; exact M.s1 e⟩, fun e => ?_⟩
  subst e
  exact LX.less S M.nod hb' h4 h6 M.lat M.lx hs
theorem Mvx.f (S : Spl F P Q R) (h4 : 4 ≤ F) (h6 : F ≤ 6) (hb : 10 + 100 * (F : Int) + 400 ≤ (n0 : Int)) (hf : Fits R) (M : Mvx F n0 key P Q R 0 j l s) (hs : (frs F R)[j]? = some (a, c)) :
    (j + 1 < (frs F R).length → Mvx F n0 key P Q R 0 (j + 1) (putAt l a c) s) ∧ (j + 1 = (frs F R).length → Mvx F n0 key P Q R 1 0 (putAt l a c) s) := by
  have hmem := List.mem_of_getElem? hs
  have had : 14 + (F : Int) ≤ a := frs_addr (s := (a, c)) S.gr.2.1 hmem
  have hnc : NatCell c := frs_nat (s := (a, c)) hf hmem
  have n1 := nla1 (F := F)
  have N : Nod F (putAt l a c) P Q R 0 false := Nod.far0 M.nod S hnc (by omega) (by omega) (fun r hr => by rw [nad1 hr]; omega)
  have A : Lat F (putAt l a c) 0 true true s := Lat.far0 M.lat c (by omega)
  have hl : (putAt l a c).length = n0 := by rw [putAt_length]; exact M.len
  obtain ⟨-, l0, he, hl0⟩ := M.s0 rfl
  have he' : putAt l a c = app l0 ((frs F R).take (j + 1)) := by rw [he]; exact (app_take hs).symm
  refine ⟨fun hj => ⟨M.lx, N, A, hl, fun _ => ⟨hj, l0, he', hl0⟩, fun e => absurd e (by decide)⟩, fun hj => ⟨M.lx, N, A, hl, fun e => absurd e (by decide), fun _ => ⟨by unfold wrs; rw [wsto_length]; omega, ?_, ?_⟩⟩⟩
  · refine Busy.start (C := 0) N.nd ?_ N.nats hl rfl
    obtain ⟨w1, K, M1, hw5, hc, hu, -⟩ := A.one
    obtain ⟨-, b0, hb0, hw⟩ := N.nd.still rfl
    have h1 := hu rfl
    rw [hc] at hw ⊢
    have hw' : (w1 : Int) = ((b0 + 4 * 0 : Nat) : Int) := hw
    show (w1 : Int) = ((1 + 4 * 0 : Nat) : Int)
    omega
  · have e2 : (frs F R).take (j + 1) = frs F R := by rw [hj, List.take_length]
    rw [he', e2]
    exact frs_done h4 h6 (by rw [hl0]; exact hb) S.gr.2.1
theorem Mvx.w (S : Spl F P Q R) (h4 : 4 ≤ F) (h6 : F ≤ 6) (hb : 10 + 100 * (F : Int) + 400 ≤ (n0 : Int)) (hf : Fits Q) (M : Mvx F n0 key P Q R 1 j l s) (hs : (wrs F P Q)[j]? = some (a, c)) :
    (j + 1 < (wrs F P Q).length → Mvx F n0 key P Q R 1 (j + 1) (putAt l a c) s) ∧ (j + 1 = (wrs F P Q).length → Mvx F n0 key P Q R 2 0 (putAt l a c) s) := by
  have hmem := List.mem_of_getElem? hs
  have had := wrs_addr (s := (a, c)) S.gq.2.1 hmem
  have n1 := nla1 (F := F)
  have n2 := nla2 (F := F)
  obtain ⟨hj0, B, H⟩ := M.s1 rfl
  have B' := B.next hs
  have H' : H2 F (putAt l a c) R := H.put S.gr.2.1 had.2
  have ha : Ads F (nla F 1) (nad F 1) n0 := ads_of h4 h6 (by omega) (by omega) hb
  have hr : (cellAt (putAt l a c) 0).1 = 1 := by rw [cellAt_other (by have h1 : 10 ≤ a := had.1; omega)]; exact M.nod.root
  refine ⟨fun hj => ?_, fun hj => ?_⟩
  · obtain ⟨N, A⟩ := Busy.nod (u2 := true) B' ha S hf hj hr
    have e : (decide (0 < j + 1)) = true := by simp
    rw [e] at N
    have e2 : chB 1 (j + 1) = true := by show decide (0 < j + 1) = true; simp
    refine ⟨by rw [e2]; exact M.lx.busy, by rw [e2]; exact N, A s, B'.len, fun e => absurd e (by decide), fun _ => ⟨hj, B', H'⟩⟩
  · have B2 : Busy F n0 (putAt l a c) P Q 0 (wrs F P Q).length (wrs F P Q) := by rw [← hj]; exact B'
    have hd := B2.last ha S.gp.2.1 S.gq.2.1
    have hN : Nats (putAt l a c) := B2.nats hf (by decide)
    have hw2 : (cellAt (putAt l a c) (nla F 2)).1 = 1 := by rw [H'.lat]
    refine ⟨M.lx.ended, Nod.written hN hr hd H'.page hw2, ⟨⟨5, ⟨#[]⟩, 0, by omega, ?_, fun _ => rfl, fun e => (by cases e)⟩, fun _ => ?_⟩, B2.len, fun e => absurd e (by decide), fun e => absurd e (by decide)⟩
    · obtain ⟨l0, he, -, -, hl0, -⟩ := B2.ex
      rw [he, List.take_length]
      unfold wrs
      rw [wsto_app, cellAt_same (by rw [app_length, putAt_length, hl0]; exact ha.lat)]
    · rw [H'.lat]; rfl
theorem Mvx.r2 (S : Spl F P Q R) (h4 : 4 ≤ F) (h6 : F ≤ 6) (hb : 10 + 100 * (F : Int) + 400 ≤ (n0 : Int)) (M : Mvx F n0 key P Q R 2 j l s) : Mvx F n0 key P Q R 3 0 (putAt l (nla F 2) (((0 : Nat) : Int), ⟨#[]⟩, 0)) s := by
  have hb' : 10 + 100 * (F : Int) + 400 ≤ (l.length : Int) := by rw [M.len]; exact hb
  exact ⟨LX.free2 M.lx, Nod.put2 M.nod h4 h6 hb' S (by omega), Lat.rel2 h4 h6 hb' M.lat (LX.not2 M.lx), by rw [putAt_length]; exact M.len, fun e => absurd e (by decide), fun e => absurd e (by decide)⟩
theorem Mvx.r1 (S : Spl F P Q R) (h4 : 4 ≤ F) (h6 : F ≤ 6) (hb : 10 + 100 * (F : Int) + 400 ≤ (n0 : Int)) (M : Mvx F n0 key P Q R 3 j l s) : Mvx F n0 key P Q R 4 0 (putAt l (nla F 1) (((4 : Nat) : Int), ⟨#[]⟩, 0)) s := by
  have hb' : 10 + 100 * (F : Int) + 400 ≤ (l.length : Int) := by rw [M.len]; exact hb
  exact ⟨LX.free1 M.lx, Nod.put1 M.nod h4 h6 hb' S (.inl rfl), Lat.rel1 h4 h6 hb' M.lat (LX.not1 M.lx), by rw [putAt_length]; exact M.len, fun e => absurd e (by decide), fun e => absurd e (by decide)⟩
theorem wrs_len (hF : Q.xs.length ≤ F) (h6 : F ≤ 6) : 2 ≤ (wrs F P Q).length ∧ (wrs F P Q).length ≤ 11 := by
  unfold wrs
  rw [wsto_length]
  have := chg_length (pst (nad F 1) P) (pst (nad F 1) Q)
  rw [pst_length] at this; omega
end

end Go.Proofs.YtkpbbnpfdighjaaGreat
