/-
  What a page written with Fresh and then with Write leaves in the memory; Peek where a page lies, and where there is no node. Condition: a fanout of 4 to 6.
-/
import Derived.Test.YtlehpcbhfdnkdaaNodStag
namespace Go.Proofs.Ytlehpcbhfdnkdaa
open Go.RowKit Go.Deep Plain
set_option linter.unusedVariables false

/-- Peek of a node where a page lies. -/
theorem npeek_page {F nid : Nat} (h4 : 4 ≤ F) (h6 : F ≤ 6) {fb fd : Int} (hd : Reach3 10 fb fd) {b g : Nat} {l : List Cel} {k : Nat} {w : World} (hm : Mem w b g l k) (hn : Nats l) {P : Pg} (hP : Holds (nad F nid) l P) (hw : Wf P) (hF : P.xs.length ≤ F) :
    Calls Try.prog 15 #[.agg #[.int .i64 1, .int .i64 2, .int .i64 100, .int .i64 100, .int .i64 200, .int .i64 (F : Int), .int .u64 1000, .int .i64 10, .int .i64 fb, .int .i64 fd], .pointer (some ⟨b, 0, none⟩), .int .u64 (nid : Int)] w fun e w' => ∃ (A : Option Addr) (c : Nat), e = .returned (.agg #[.int .i64 (P.lv : Int), .slice A P.xs.length c, .string P.hi, .bool P.la, .int .u64 (P.rt : Int)]) ∧ Rs w' A c P.xs ∧ (∀ a, A = some a → w.heap.size ≤ a.block) ∧ Kept (fun _ => False) w w' := by
  refine (nodepeek_any 1 2 100 100 200 F 1000 10 fb fd (limF h4 h6) hd nid b g l k w hm hn).mono ?_
  rintro e w' ⟨m, h0, h1, h2, A, c, he, hR, hA, hK⟩
  have hg : (rdn F l (adr 100 (F : Int) 10 (nid : Int)) m).pg = P := by
    have := peek_got (ad := nad F nid) hn hP hw hF h0 h1 h2
    show (rdn F l (nad F nid) m).pg = P; rw [this]; exact got_end P
  subst hg
  exact ⟨A, c, he, hR, hA, hK⟩
/-- The page that Peek answers where there is no node. -/
def pgz : Pg := ⟨0, ⟨#[]⟩, false, 0, []⟩
theorem holds_none {F nid : Nat} (l : List Cel) (h : nid < 1 ∨ 100 < nid) : Holds (nad F nid) l pgz := fun r hr => by
  have hr3 : r < 3 := hr
  have e : nad F nid r = -1 := by
    have hn : ∀ p : Int, nodeAt 100 (F : Int) 10 (nid : Int) p = -1 := fun p => by unfold nodeAt; rw [if_neg (by omega)]
    unfold nad adr
    rcases (by omega : r = 0 ∨ r = 1 ∨ r = 2) with rfl | rfl | rfl
    · rw [if_pos rfl, hn]
    · rw [if_neg (by omega), if_pos rfl, hn]
    · rw [if_neg (by omega), if_neg (by omega), if_pos rfl, hn]
  rw [e]
  have hc : cellAt l (-1) = cel0 := by unfold cellAt; rw [if_neg (by omega)]
  rw [hc]
  rcases (by omega : r = 0 ∨ r = 1 ∨ r = 2) with rfl | rfl | rfl <;> rfl
theorem wf_none : Wf pgz := fun h => by cases h
/-- What Fresh stores. -/
def fsto (la : Int) (cs : List Sto) : List Sto := cs ++ [(la, ((1 : Int), (⟨#[]⟩ : ByteArray), (0 : Int)))]
theorem fsto_length (la : Int) (cs : List Sto) : (fsto la cs).length = cs.length + 1 := by unfold fsto; simp
theorem fsto_app {la : Int} {cs : List Sto} {l : List Cel} : app l (fsto la cs) = putAt (app l cs) la ((1 : Int), (⟨#[]⟩ : ByteArray), (0 : Int)) := by unfold fsto; rw [app_snoc]
theorem fsto_nats {la : Int} {cs : List Sto} (hc : ∀ s ∈ cs, NatCell s.2) : ∀ s ∈ fsto la cs, NatCell s.2 := by
  intro s hs
  rcases List.mem_append.1 hs with h | h
  · exact hc s h
  · rw [List.mem_singleton.1 h]; exact ⟨1, 0, _, rfl, by omega, by omega⟩
theorem fsto_holds {F : Nat} {la : Int} {ad : Nat → Int} {n : Nat} (ha : Ads F la ad n) {l : List Cel} (hn : l.length = n) {P : Pg} (hP : P.xs.length ≤ F) : Holds ad (app l (fsto la (pst ad P))) P ∧ cellAt (app l (fsto la (pst ad P))) la = ((1 : Int), (⟨#[]⟩ : ByteArray), (0 : Int)) := by
  refine ⟨fun r hr => ?_, ?_⟩
  · rw [fsto_app, cellAt_other (Ne.symm (ha.ne r (by omega)))]
    have := pst_holds ha hn hP (P.xs.length + 3) (Nat.le_refl _) r hr
    rwa [pst_all] at this
  · rw [fsto_app, cellAt_same (by rw [app_length, hn]; exact ha.lat)]
/-- What Fresh and Write leave outside the node. -/
theorem trip_other {F nid : Nat} (h1 : 1 ≤ nid) (h2 : nid ≤ 100) {l : List Cel} {P Q : Pg} (hP : P.xs.length ≤ F) (hQ : Q.xs.length ≤ F) (wb we : Nat) {i : Int} (hi : ∀ k : Nat, k < F + 4 → i ≠ nodeAt 100 (F : Int) 10 (nid : Int) (k : Int)) :
    cellAt (app (app l (fsto (nla F nid) (pst (nad F nid) P))) (wsto (nla F nid) wb we (chg (pst (nad F nid) P) (pst (nad F nid) Q)))) i = cellAt l i := by
  have hl : nla F nid ≠ i := fun e => hi 0 (by omega) e.symm
  have hr : ∀ r, r < F + 3 → nad F nid r ≠ i := fun r hr e => hi (r + 1) (by omega) (by rw [putPst (l := l) (P := P) h1 h2 r hr]; exact e.symm)
  rw [app_other, app_other]
  · intro s hs
    unfold fsto at hs
    rcases List.mem_append.1 hs with h | h
    · obtain ⟨r, h3, rfl⟩ := pst_addr h; exact hr r (by omega)
    · rw [List.mem_singleton.1 h]; exact hl
  · intro s hs
    unfold wsto at hs
    rcases List.mem_append.1 hs with h | h
    · rcases List.mem_cons.1 h with rfl | h
      · exact hl
      · obtain ⟨r, h3, rfl⟩ := chg_addr h; exact hr r (by omega)
    · rw [List.mem_singleton.1 h]; exact hl
/-- An Own that reads a node where a page lies. -/
theorem ostep_got (Z : Nat → Prop) (F : Nat) (h4 : 4 ≤ F) (h6 : F ≤ 6) (fb fd : Int) (hd : Reach3 10 fb fd) (q nid : Nat) (P : Pg) (j : Nat) (wd : Nat) (w : World) (h : Con Z w 1 2 100 100 200 F 1000 10 fb fd q 96 nid (got P j) [.int .u64 (wd : Int), .bool false]) (b g : Nat) (l : List Cel) (k : Nat) (hm : Mem w b g l k) (hb : ¬ Z b) (hg : ¬ Z g) (hk : k < 9223372036854775808) (hn : Nats l) (hP : Holds (nad F nid) l P) (hw : Wf P) (hF : P.xs.length ≤ F) (hj : j < P.xs.length + 3) (r : Bool) (hr : (j + 1 == P.xs.length + 3) = r) :
    Calls Try.prog 27 #[.pointer (some ⟨q, 0, none⟩), .pointer (some ⟨b, 0, none⟩)] w fun e w' => e = .returned (.bool r) ∧ Mem w' b g l (k + 1) ∧ ∃ Z', Con Z' w' 1 2 100 100 200 F 1000 10 fb fd q 96 nid (got P (j + 1)) [.int .u64 (wd : Int), .bool r] ∧ Kept (fun i => Z i ∨ i = b ∨ i = g) w w' ∧ (∀ i, Z' i → Z i ∨ w.heap.size ≤ i) := by
  have hc := nat_toNat (hn (nad F nid j))
  have hpc := hP j (by omega)
  have ht : tk F (got P j) (cellAt l (nad F nid j)).1.toNat (cellAt l (nad F nid j)).2.1 (cellAt l (nad F nid j)).2.2.toNat = got P (j + 1) := by
    apply tk_got hw hF hj; rw [← hpc]; exact hc.1
  exact ostep_any Z 1 2 100 100 200 F 1000 10 fb fd (limF h4 h6) hd q nid (got P j) (got P (j + 1)) wd w h b g l k hm hb hg hk (got_oks hF (by omega)) (by
    show j = 0 ∨ j < (if j = 0 then 0 else P.xs.length + 3); split <;> omega) (nad F nid j) rfl _ _ _ hc.1 hc.2.1 hc.2.2 ht r (by rw [got_last hj]; exact hr)
/-- An Own that has read a page answers it. -/
theorem oheld_page {Z : Nat → Prop} {w : World} {F : Nat} {fb fd : Int} {q nid wd : Nat} {P : Pg} (h : Con Z w 1 2 100 100 200 F 1000 10 fb fd q 96 nid (got P (P.xs.length + 3)) [.int .u64 (wd : Int), .bool true]) (hl : P.xs.length ≤ 1000) :
    Calls Try.prog 31 #[.pointer (some ⟨q, 0, none⟩)] w fun e w' => ∃ (A : Option Addr) (c : Nat), e = .returned (.agg #[.int .u64 (nid : Int), .int .u64 (wd : Int), .int .i64 (P.lv : Int), .slice A P.xs.length c, .string P.hi, .bool P.la, .int .u64 (P.rt : Int)]) ∧ Rs w' A c P.xs ∧ Kept (fun _ => False) w w' := by
  have hg := got_end P
  have e1 : (got P (P.xs.length + 3)).lv = P.lv := by
    show (got P (P.xs.length + 3)).pg.lv = P.lv; rw [hg]
  have e2 : (got P (P.xs.length + 3)).hi = P.hi := by
    show (got P (P.xs.length + 3)).pg.hi = P.hi; rw [hg]
  have e3 : (got P (P.xs.length + 3)).la = P.la := by
    show (got P (P.xs.length + 3)).pg.la = P.la; rw [hg]
  have e4 : (got P (P.xs.length + 3)).rt = P.rt := by
    show (got P (P.xs.length + 3)).pg.rt = P.rt; rw [hg]
  have e5 : (got P (P.xs.length + 3)).xs = P.xs := by
    show (got P (P.xs.length + 3)).pg.xs = P.xs; rw [hg]
  refine (oheld_any Z 1 2 100 100 200 F 1000 10 fb fd q nid _ wd w h (by show (got P (P.xs.length + 3)).xs.length ≤ _; rw [e5]; omega)).mono ?_
  rintro e w' ⟨A, c, he, hR, _, hK⟩
  simp only [e1, e2, e3, e4, e5] at he hR
  exact ⟨A, c, he, hR, hK⟩
/-- A Read that has read the page P answers it. -/
theorem tread_page {Z : Nat → Prop} {w : World} {F : Nat} {fb fd : Int} {q nid we : Nat} {P : Pg} (h : Rd Z w F fb fd q nid ⟨3, we, got P (P.xs.length + 3)⟩) (hl : P.xs.length ≤ 1000) :
    Calls Try.prog 30 #[.pointer (some ⟨q, 0, none⟩)] w fun e w' => ∃ (A : Option Addr) (c : Nat), e = .returned (.agg #[.int .i64 (P.lv : Int), .slice A P.xs.length c, .string P.hi, .bool P.la, .int .u64 (P.rt : Int)]) ∧ Rs w' A c P.xs ∧ Kept (fun _ => False) w w' := by
  have hg := got_end P
  have e1 : (got P (P.xs.length + 3)).lv = P.lv := by
    show (got P (P.xs.length + 3)).pg.lv = P.lv; rw [hg]
  have e2 : (got P (P.xs.length + 3)).hi = P.hi := by
    show (got P (P.xs.length + 3)).pg.hi = P.hi; rw [hg]
  have e3 : (got P (P.xs.length + 3)).la = P.la := by
    show (got P (P.xs.length + 3)).pg.la = P.la; rw [hg]
  have e4 : (got P (P.xs.length + 3)).rt = P.rt := by
    show (got P (P.xs.length + 3)).pg.rt = P.rt; rw [hg]
  have e5 : (got P (P.xs.length + 3)).xs = P.xs := by
    show (got P (P.xs.length + 3)).pg.xs = P.xs; rw [hg]
  refine (rpage_any Z 1 2 100 100 200 F 1000 10 fb fd q nid _ w h rfl (by show (got P (P.xs.length + 3)).xs.length ≤ _; rw [e5]; omega)).mono ?_
  rintro e w' ⟨A, c, he, hR, _, hK⟩
  simp only [e1, e2, e3, e4, e5] at he hR
  exact ⟨A, c, he, hR, hK⟩

theorem tneq0 (w : World) : (binOp .neq 43 (.agg #[.int .u64 0, .string ⟨#[]⟩, .int .u64 0]) (.agg #[.int .u64 0, .string ⟨#[]⟩, .int .u64 0])).run Try.prog w = .ok (.bool false) w := by kernel_rfl
theorem tfield0 (N M : Int) (K : ByteArray) (w : World) : (Instr.field 43 (.agg #[.int .u64 N, .string K, .int .u64 M]) 0).run Try.prog w = .ok (.int .u64 N) w := by kernel_rfl
theorem hfield0 (a b c : Int) (v : Value) (hi : ByteArray) (la : Bool) (rt : Int) (w : World) : (Instr.field 48 (.agg #[.int .u64 a, .int .u64 b, .int .i64 c, v, .string hi, .bool la, .int .u64 rt]) 0).run Try.prog w = .ok (.int .u64 a) w := by kernel_rfl
theorem hfield1 (a b c : Int) (v : Value) (hi : ByteArray) (la : Bool) (rt : Int) (w : World) : (Instr.field 48 (.agg #[.int .u64 a, .int .u64 b, .int .i64 c, v, .string hi, .bool la, .int .u64 rt]) 1).run Try.prog w = .ok (.int .u64 b) w := by kernel_rfl
theorem hfield2 (a b c : Int) (A : Option Addr) (n m : Nat) (hi : ByteArray) (la : Bool) (rt : Int) (w : World) : (Instr.field 48 (.agg #[.int .u64 a, .int .u64 b, .int .i64 c, .slice A n m, .string hi, .bool la, .int .u64 rt]) 2).run Try.prog w = .ok (.agg #[.int .i64 c, .slice A n m, .string hi, .bool la, .int .u64 rt]) w := by kernel_rfl
end Go.Proofs.Ytlehpcbhfdnkdaa
