/-
  What lies in the memory at each place of an Insert into node 1, as a reader sees it, and where each key's slot is found. No program runs here. Condition: none.
-/
import Derived.Test.YtkpbbnpfdighjaaGreatInRd
import Derived.Test.YtkpbbnpfdighjaaGreatLkMvq
namespace Go.Proofs.YtkpbbnpfdighjaaGreat
open Go.RowKit Go.Deep Plain
set_option linter.unusedVariables false

section
variable {F n0 : Nat} {l l0 : List Cel} {key : ByteArray} {P Q R X : Pg} {m : Nat} {sp : ByteArray} {s : Is} {d : Nat}
/-- Node 1 is the page P, locked and unwritten. -/
structure Bse (F n0 : Nat) (l : List Cel) (P Q R : Pg) : Prop where
  noi : Noi F l P Q R 0 false
  lat : (cellAt l (nla F 1)).1 = 1
  len : l.length = n0
theorem Bse.put (B : Bse F n0 l P Q R) (S : Spi F P Q R) {a : Int} {c : Cel} (hc : NatCell c) (ha : a = 4 ∨ 14 + (F : Int) ≤ a) : Bse F n0 (putAt l a c) P Q R := by
  have n1 := nla1 (F := F)
  have hq : (pgC P Q 0).xs.length ≤ F := (S.pgC 0).2.1
  obtain ⟨hH, hw⟩ := B.noi.nd.still rfl
  refine ⟨⟨B.noi.nats.put _ hc, by rw [cellAt_other (by omega)]; exact B.noi.root, ⟨fun _ => ⟨fun r hr => ?_, ?_⟩, fun e => (by cases e)⟩, by omega, fun e => absurd e (by decide)⟩, by rw [cellAt_other (by omega)]; exact B.lat, by rw [putAt_length]; exact B.len⟩
  · rw [cellAt_other (by rw [nad1 (by omega)]; omega)]; exact hH r hr
  · rw [cellAt_other (by omega)]; exact hw
theorem Bse.puts (S : Spi F P Q R) : ∀ (ss : List Sto) {l : List Cel}, Bse F n0 l P Q R → (∀ s ∈ ss, NatCell s.2 ∧ 14 + (F : Int) ≤ s.1) → Bse F n0 (app l ss) P Q R
  | [], l, B, _ => B
  | s :: r, l, B, h => Bse.puts S r (B.put S (h s (List.mem_cons_self ..)).1 (.inr (h s (List.mem_cons_self ..)).2)) (fun x hx => h x (List.mem_cons_of_mem _ hx))
/-- While node 1 is written, and behind. -/
theorem Bse.writing (B : Bse F n0 l P Q R) (S : Spi F P Q R) (h4 : 4 ≤ F) (h6 : F ≤ 6) (hb : 10 + 100 * (F : Int) + 400 ≤ (n0 : Int)) (hf : Fits Q) {j : Nat} (hj : j < (wrs F P Q).length) : Noi F (app l ((wrs F P Q).take j)) P Q R 0 (decide (0 < j)) := by
  have ha : Ads F (nla F 1) (nad F 1) n0 := ads_of h4 h6 (by omega) (by omega) hb
  have BB : Busy F n0 (app l ((wrs F P Q).take j)) P Q 0 j (wrs F P Q) := ⟨rfl, l, rfl, (B.noi.nd.still rfl).1, by rw [B.lat]; rfl, B.len, B.noi.nats⟩
  refine ⟨BB.nats hf (by decide), ?_, BB.cells ha S.gq.2.1 hj, by omega, fun e => absurd e (by decide)⟩
  rw [app_other _ _ (fun s hs => by have := wrs_addr (P := P) S.gq.2.1 (List.mem_of_mem_take hs); omega)]
  exact B.noi.root
theorem Bse.written (B : Bse F n0 l P Q R) (S : Spi F P Q R) (h4 : 4 ≤ F) (h6 : F ≤ 6) (hb : 10 + 100 * (F : Int) + 400 ≤ (n0 : Int)) (hf : Fits Q) (h2 : Q.la = false → H2 F l R) : Noi F (app l (wrs F P Q)) P Q R 1 false := by
  have ha : Ads F (nla F 1) (nad F 1) n0 := ads_of h4 h6 (by omega) (by omega) hb
  have BB : Busy F n0 (app l (wrs F P Q)) P Q 0 (wrs F P Q).length (wrs F P Q) := ⟨rfl, l, by rw [List.take_length], (B.noi.nd.still rfl).1, by rw [B.lat]; rfl, B.len, B.noi.nats⟩
  refine ⟨BB.nats hf (by decide), ?_, BB.last ha S.gp.2.1 S.gq.2.1, Nat.le_refl _, fun _ hla => ?_⟩
  · rw [app_other _ _ (fun s hs => by have := wrs_addr (P := P) S.gq.2.1 hs; omega)]
    exact B.noi.root
  · have hH := h2 hla
    have hr := S.gr.2.1
    refine ⟨fun r hr' => ?_, 1, Nat.le_refl _, ?_⟩
    · rw [app_other _ _ (fun s hs => by have := wrs_addr (P := P) S.gq.2.1 hs; rw [nad2 (by omega)]; omega)]
      exact hH.page r hr'
    · rw [app_other _ _ (fun s hs => by have := wrs_addr (P := P) S.gq.2.1 hs; rw [nla2]; omega), hH.lat]; rfl
/-- The page that node 1 becomes. -/
def qpg (t : Bool) (X : Pg) (m : Nat) (sp : ByteArray) : Pg := if t = true then lpg X m sp 2 else X
theorem noi_of (h4 : 4 ≤ F) (h6 : F ≤ 6) (hb : 10 + 100 * (F : Int) + 400 ≤ (n0 : Int)) (B : Bse F n0 l0 P (qpg s.two X m sp) (rpg X m)) (S : Spi F P (qpg s.two X m sp) (rpg X m)) (hf : Fits (qpg s.two X m sp)) (hr : Fits (rpg X m)) (hla : X.la = true) (I : Ipl F 100 1 1 P X m sp 100 1 l0 ⟨#[]⟩ 0 s l d) :
    Noi F l P (qpg s.two X m sp) (rpg X m) (Cd d) (chd (wrs F P (qpg s.two X m sp)).length d) := by
  have hW := wrs_len (P := P) S.gq.2.1 h6
  have hT : Bse F n0 (memT l0 1 ⟨#[]⟩ 0) P (qpg s.two X m sp) (rpg X m) := B.put S ⟨1 + 1, 0, _, rfl, by omega, by omega⟩ (.inl rfl)
  have hfs : ∀ x ∈ frs F (rpg X m), NatCell x.2 ∧ 14 + (F : Int) ≤ x.1 := fun x hx => ⟨frs_nat hr hx, frs_addr S.gr.2.1 hx⟩
  have hF : Bse F n0 (app (memT l0 1 ⟨#[]⟩ 0) (frs F (rpg X m))) P (qpg s.two X m sp) (rpg X m) := Bse.puts S _ hT hfs
  cases I with
  | tak0 hv =>
    have e1 : Cd (2 + (frsN F 100 X m (1 + 1)).length + (wrsN F 100 1 1 P (lpg X m sp (1 + 1))).length) = 0 := if_neg (by omega)
    have e2 : chd (wrs F P (qpg true X m sp)).length (2 + (frsN F 100 X m (1 + 1)).length + (wrsN F 100 1 1 P (lpg X m sp (1 + 1))).length) = false := by
      have e0 : (wrs F P (qpg true X m sp)).length = (wrsN F 100 1 1 P (lpg X m sp (1 + 1))).length := rfl
      exact decide_eq_false (fun h => by omega)
    rw [e1, show chd (wrs F P (qpg (Is.two (.tak false _ _ _)) X m sp)).length _ = false from e2]
    exact B.noi
  | none hv => exact absurd hv (by decide)
  | tak1 hv =>
    have e1 : Cd (1 + (frsN F 100 X m (1 + 1)).length + (wrsN F 100 1 1 P (lpg X m sp (1 + 1))).length) = 0 := if_neg (by omega)
    have e2 : chd (wrs F P (qpg true X m sp)).length (1 + (frsN F 100 X m (1 + 1)).length + (wrsN F 100 1 1 P (lpg X m sp (1 + 1))).length) = false := by
      have e0 : (wrs F P (qpg true X m sp)).length = (wrsN F 100 1 1 P (lpg X m sp (1 + 1))).length := rfl
      exact decide_eq_false (fun h => by omega)
    rw [e1, show chd (wrs F P (qpg (Is.two (.tak true _ _ _)) X m sp)).length _ = false from e2]
    exact B.noi
  | fil hv hj =>
    rename_i j
    have e1 : Cd ((frsN F 100 X m (1 + 1)).length - j + (wrsN F 100 1 1 P (lpg X m sp (1 + 1))).length) = 0 := if_neg (by omega)
    have e2 : chd (wrs F P (qpg true X m sp)).length ((frsN F 100 X m (1 + 1)).length - j + (wrsN F 100 1 1 P (lpg X m sp (1 + 1))).length) = false := by
      have e0 : (wrs F P (qpg true X m sp)).length = (wrsN F 100 1 1 P (lpg X m sp (1 + 1))).length := rfl
      exact decide_eq_false (fun h => by omega)
    rw [e1, show chd (wrs F P (qpg (Is.two (.fil _ _)) X m sp)).length _ = false from e2]
    exact (Bse.puts S _ hT (fun x hx => hfs x (List.mem_of_mem_take hx))).noi
  | wri1 hv hj =>
    rename_i j
    have e0 : (wrs F P (qpg true X m sp)).length = (wrsN F 100 1 1 P (lpg X m sp (1 + 1))).length := rfl
    have e1 : Cd ((wrsN F 100 1 1 P (lpg X m sp (1 + 1))).length - j) = 0 := if_neg (by omega)
    have e2 : chd (wrs F P (qpg true X m sp)).length ((wrsN F 100 1 1 P (lpg X m sp (1 + 1))).length - j) = decide (0 < j) := by
      exact decide_eq_decide.2 ⟨fun h => by omega, fun h => by omega⟩
    rw [e1, show chd (wrs F P (qpg (Is.two (.wri (some (1 + 1)) j)) X m sp)).length _ = decide (0 < j) from e2]
    exact hF.writing S h4 h6 hb hf hj
  | wri0 hj =>
    rename_i j
    have e0 : (wrs F P (qpg false X m sp)).length = (wrsN F 100 1 1 P X).length := rfl
    have e1 : Cd ((wrsN F 100 1 1 P X).length - j) = 0 := if_neg (by omega)
    have e2 : chd (wrs F P (qpg false X m sp)).length ((wrsN F 100 1 1 P X).length - j) = decide (0 < j) := by
      exact decide_eq_decide.2 ⟨fun h => by omega, fun h => by omega⟩
    rw [e1, show chd (wrs F P (qpg (Is.two (.wri Option.none j)) X m sp)).length _ = decide (0 < j) from e2]
    exact B.writing S h4 h6 hb hf hj
  | don1 hv =>
    have e2 : chd (wrs F P (qpg true X m sp)).length 0 = false := by unfold chd; simp
    rw [show Cd 0 = 1 from rfl, show chd (wrs F P (qpg (Is.two (.don (some (1 + 1)))) X m sp)).length 0 = false from e2]
    exact hF.written S h4 h6 hb hf (fun _ => frs_done h4 h6 (by rw [hT.len]; exact hb) S.gr.2.1)
  | don0 =>
    have e2 : chd (wrs F P (qpg false X m sp)).length 0 = false := by unfold chd; simp
    rw [show Cd 0 = 1 from rfl, show chd (wrs F P (qpg (Is.two (.don Option.none)) X m sp)).length 0 = false from e2]
    refine B.written S h4 h6 hb hf (fun h => ?_)
    have h1 : X.la = false := h
    rw [hla] at h1; cases h1
  | ful hv => exact absurd hv (by decide)
end
section
variable {F : Nat} {key : ByteArray} {P Q R X Y : Pg} {m : Nat} {sp : ByteArray} {xs : List Sl} {k : ByteArray} {r : Nat}
/-- A slot that a page has is found. -/
theorem in_find (ha : Asc xs) (h : (k, r) ∈ xs) : has k xs = true ∧ xs[cnt k xs]? = some (k, r) := by
  have h1 : has k xs = true := List.any_eq_true.2 ⟨(k, r), h, eqk_self k r⟩
  obtain ⟨i, hi⟩ := List.getElem?_of_mem h
  obtain ⟨x, hx, hk, -⟩ := has_in ha h1
  have h2 := lt_at xs ha k i (k, r) hi
  have h3 : lt ((k, r) : Sl) k = false := ltB_self _
  rw [h3] at h2
  have h4 : ¬ i < cnt k xs := by simpa using h2.symm
  refine ⟨h1, ?_⟩
  rcases Nat.lt_or_ge (cnt k xs) i with h5 | h5
  · have h6 := asc_get ha h5 hx hi
    have h7 : lt x k = true := h6
    have h8 : lt x x.1 = false := ltB_self _
    rw [hk] at h8; rw [h8] at h7; cases h7
  · have e : cnt k xs = i := by omega
    rw [e]; exact hi
/-- Which half has a slot. -/
theorem half_of (ha : Asc xs) (hs : Sepr 0 xs m sp) (h1 : 1 ≤ m) (h2 : m < xs.length) {x : Sl} (hx : x ∈ xs) : (kl x.1 sp = true ∧ x ∈ xs.take m) ∨ (kl x.1 sp = false ∧ x ∈ xs.drop m) := by
  obtain ⟨i, hi⟩ := List.getElem?_of_mem hx
  obtain ⟨y0, hy0⟩ : ∃ y, xs[m - 1]? = some y := ⟨_, List.getElem?_eq_getElem (by omega)⟩
  obtain ⟨y1, hy1⟩ : ∃ y, xs[m]? = some y := ⟨_, List.getElem?_eq_getElem h2⟩
  have hsp : sepB y0.1 y1.1 = sp := hs y0 y1 hy0 hy1
  have h01 : kl y0.1 y1.1 = true := asc_get ha (by omega) hy0 hy1
  have g1 := sep_gt h01
  have g2 := sep_le h01
  rw [hsp] at g1 g2
  by_cases hm : i < m
  · left
    refine ⟨?_, List.mem_of_getElem? (i := i) (by rw [List.getElem?_take, if_pos hm]; exact hi)⟩
    rcases Nat.lt_or_ge i (m - 1) with h5 | h5
    · exact kl_trans (show kl x.1 y0.1 = true from asc_get ha h5 hi hy0) g1
    · obtain rfl : i = m - 1 := by omega
      rw [hi] at hy0; cases hy0; exact g1
  · right
    refine ⟨?_, List.mem_of_getElem? (i := i - m) (by rw [List.getElem?_drop, show m + (i - m) = i by omega]; exact hi)⟩
    rcases Nat.lt_or_ge m i with h5 | h5
    · have h6 : kl y1.1 x.1 = true := asc_get ha h5 hy1 hi
      rcases h7 : kl x.1 sp with _ | _
      · rfl
      · have h8 := kl_trans h6 h7
        rw [h8] at g2; cases g2
    · obtain rfl : m = i := by omega
      rw [hi] at hy1; cases hy1; exact g2
/-- The page with which a Find of an elder key arrives has its slot; so has that of the new key, behind the insertion. -/
theorem ari_has {t : Bool} {C n : Nat} (hX : Asc X.xs) (hlv : X.lv = 0) (hs : Sepr X.lv X.xs m sp) (h1 : 1 ≤ m) (h2 : m < X.xs.length) (A : Ari k P (qpg t X m sp) (rpg X m) C n Y) (hx : (k, r) ∈ X.xs) (hp : C = 0 → (k, r) ∈ P.xs) (hla : X.la = true) : (k, r) ∈ Y.xs := by
  rw [hlv] at hs
  rcases A with ⟨-, rfl, hc⟩ | ⟨-, rfl, hc, hk⟩
  · unfold pgC at hc ⊢
    by_cases h0 : C = 0
    · rw [if_pos h0]; exact hp h0
    · rw [if_neg h0] at hc ⊢
      cases t with
      | false => exact hx
      | true =>
        have hc' : kl k sp = true := by
          have : cv k (lpg X m sp 2) = true := hc
          unfold cv at this; simpa [lpg] using this
        rcases half_of hX hs h1 h2 hx with ⟨h5, h6⟩ | ⟨h5, h6⟩
        · exact h6
        · rw [show kl (k, r).1 sp = kl k sp from rfl, hc'] at h5; cases h5
  · cases t with
    | false =>
      have h7 : cv k X = false := hk
      unfold cv at h7
      rw [hla] at h7; cases h7
    | true =>
      have hc' : kl k sp = false := by
        have : cv k (lpg X m sp 2) = false := hk
        unfold cv at this; simpa [lpg] using this
      rcases half_of hX hs h1 h2 hx with ⟨h5, h6⟩ | ⟨h5, h6⟩
      · rw [show kl (k, r).1 sp = kl k sp from rfl, hc'] at h5; cases h5
      · exact h6
end
end Go.Proofs.YtkpbbnpfdighjaaGreat
