/-
  The law's own hold. Condition: arguments within the model's reach.
-/
import Derived.Test.YthpaolhpkmgelaaInUp
import Derived.Test.YthpaolhpkmgelaaInTen
import Derived.Test.YthpaolhpkmgelaaInRsp
import Derived.Test.YthpaolhpkmgelaaInAwk
import Derived.Deep.CutBlock
import Derived.Laws.ResultCell
namespace Go.Proofs.Ythpaolhpkmgelaa
open Go.RowKit Go.Deep Plain
set_option linter.unusedVariables false

section
open Go.RowKit Go.Deep Plain
set_option linter.unusedVariables false

theorem Blk.row {w : World} {b : Nat} {t : TypeId} {xs : List Value} (h : Blk w b t xs) (ys : List Value) : Blk (w.setRow b ⟨ys⟩) b t ys := setRow_heap w b ⟨xs⟩ ⟨ys⟩ t (0, 0) h
theorem Kept.row {S : Nat → Prop} {w w1 : World} (h : Kept S w w1) {g : Nat} (hg : g < w.heap.size → S g) (cs : Array Value) : Kept S w (w1.setRow g cs) :=
  h.trans (T := fun i => i = g) ⟨rfl, rfl, rfl, by simp, fun i _ hn => setRow_other _ _ _ _ hn⟩ (fun i hi e => by subst e; exact hg hi)
/-- The law's node, held: its cells. -/
def hldv (F : Nat) (fb fd : Int) (b : Nat) (id wd lv : Int) (sl : Value) (hi : ByteArray) (la : Bool) (rt : Int) (key : ByteArray) : List Value :=
  [.int .i64 1, .int .i64 2, .int .i64 10, .int .i64 100, .int .i64 200, .int .i64 (F : Int), .int .u64 1000, .int .i64 1, .int .i64 2, .int .i64 10, .int .i64 100, .int .i64 200, .int .i64 (F : Int), .int .u64 1000, .int .i64 10, .int .i64 fb, .int .i64 fd, .pointer (some ⟨b, 0, none⟩), .int .u64 id, .int .u64 wd, .int .i64 lv, sl, .string hi, .bool la, .int .u64 rt, .string key]
theorem infoHld : (Try.prog.info? 35).map (·.size) = some 26 := by kernel_rfl
set_option maxHeartbeats 20000 in
theorem infoH : (Try.prog.info? 35).map (fun i => (i.zero, i.size)) = some (some (.agg ⟨[.int .i64 0, .int .i64 0, .int .i64 0, .int .i64 0, .int .i64 0, .int .i64 0, .int .u64 0, .int .i64 0, .int .i64 0, .int .i64 0, .int .i64 0, .int .i64 0, .int .i64 0, .int .u64 0, .int .i64 0, .int .i64 0, .int .i64 0, .pointer none, .int .u64 0, .int .u64 0, .int .i64 0, .slice none 0 0, .string ⟨#[]⟩, .bool false, .int .u64 0, .string ⟨#[]⟩]⟩), 26) := by kernel_rfl
set_option maxHeartbeats 20000 in
theorem placesH (fs : Array Field) (h : Try.prog.underlying 35 = some (.struct fs)) : fs.toList.mapM (fun f => (Try.prog.info? f.type).map fun i => (f.offset, i.size)) = some [(0,7),(7,10),(17,1),(18,7),(25,1)] := by
  rw [Try.underlying35] at h
  cases h
  kernel_rfl
theorem fillH (F : Nat) : Instr.fill (([(0,7),(7,10),(17,1),(18,7),(25,1)] : List (Nat × Nat)).toArray[·]?) (Value.cells (.agg ⟨[.int .i64 0, .int .i64 0, .int .i64 0, .int .i64 0, .int .i64 0, .int .i64 0, .int .u64 0, .int .i64 0, .int .i64 0, .int .i64 0, .int .i64 0, .int .i64 0, .int .i64 0, .int .u64 0, .int .i64 0, .int .i64 0, .int .i64 0, .pointer none, .int .u64 0, .int .u64 0, .int .i64 0, .slice none 0 0, .string ⟨#[]⟩, .bool false, .int .u64 0, .string ⟨#[]⟩]⟩)) [(0, .agg #[.int .i64 1, .int .i64 2, .int .i64 100, .int .i64 100, .int .i64 200, .int .i64 (F : Int), .int .u64 1000])] = some ⟨[.int .i64 1, .int .i64 2, .int .i64 100, .int .i64 100, .int .i64 200, .int .i64 (F : Int), .int .u64 1000, .int .i64 0, .int .i64 0, .int .i64 0, .int .i64 0, .int .i64 0, .int .i64 0, .int .u64 0, .int .i64 0, .int .i64 0, .int .i64 0, .pointer none, .int .u64 0, .int .u64 0, .int .i64 0, .slice none 0 0, .string ⟨#[]⟩, .bool false, .int .u64 0, .string ⟨#[]⟩]⟩ := by
  simp [Instr.fill, Value.cells]
theorem builtHld (F : Nat) : Try.prog.built 35 [(0, .agg #[.int .i64 1, .int .i64 2, .int .i64 100, .int .i64 100, .int .i64 200, .int .i64 (F : Int), .int .u64 1000])] = some ⟨[.int .i64 1, .int .i64 2, .int .i64 100, .int .i64 100, .int .i64 200, .int .i64 (F : Int), .int .u64 1000, .int .i64 0, .int .i64 0, .int .i64 0, .int .i64 0, .int .i64 0, .int .i64 0, .int .u64 0, .int .i64 0, .int .i64 0, .int .i64 0, .pointer none, .int .u64 0, .int .u64 0, .int .i64 0, .slice none 0 0, .string ⟨#[]⟩, .bool false, .int .u64 0, .string ⟨#[]⟩]⟩ := by
  have hp := placesH _ Try.underlying35
  have hi := infoH
  have hf := fillH F
  unfold Program.built
  cases hi2 : Try.prog.info? 35 with
  | none => rw [hi2] at hi; cases hi
  | some it =>
    rw [hi2] at hi
    obtain ⟨hz, -⟩ := Prod.mk.inj (Option.some.inj hi)
    rw [Try.underlying35]
    simp only [hz, hp]
    exact hf
theorem wpList_built {P : Program} {ops : Array Oper} {rest : List Oper} {o : Oper} {a : Act} {w : World} {Q : Exit → Act → World → Prop} (hg : o.guard = none) (t : TypeId) (i : Nat) (x : Operand) (ho : o.op = .build t #[(i, x)]) (v : Value) (hv : a.eval x = v) (cells : Array Value)
    (hf : P.built t [(i, v)] = some cells)
    (h : wpList P ops Q rest (a.put o.dst (.agg cells)) w) : wpList P ops Q (o :: rest) a w := by
  subst hv
  have hf2 : P.built t ((#[(i, x)] : Array (Nat × Operand)).map fun (i, x) => (i, a.eval x)).toList = some cells := by simpa using hf
  exact wpList_build hg t _ ho (by rw [hf2]; rfl) (by rw [hf2]; exact h)
theorem onesH (F : Nat) : (⟨[.int .i64 1, .int .i64 2, .int .i64 100, .int .i64 100, .int .i64 200, .int .i64 (F : Int), .int .u64 1000, .int .i64 0, .int .i64 0, .int .i64 0, .int .i64 0, .int .i64 0, .int .i64 0, .int .u64 0, .int .i64 0, .int .i64 0, .int .i64 0, .pointer none, .int .u64 0, .int .u64 0, .int .i64 0, .slice none 0 0, .string ⟨#[]⟩, .bool false, .int .u64 0, .string ⟨#[]⟩]⟩ : Array Value).all (·.oneCell') = true := by simp [Value.oneCell']
theorem wpList_allocH {ops : Array Oper} {rest : List Oper} {o : Oper} {a : Act} {w : World} {Q : Exit → Act → World → Prop} (hg : o.guard = none) (ho : o.op = .alloc 35) (h : wpList Try.prog ops Q rest (a.put o.dst (.pointer (some ⟨w.heap.size, 0, none⟩))) (w.alloc (.cells ⟨[.int .i64 0, .int .i64 0, .int .i64 0, .int .i64 0, .int .i64 0, .int .i64 0, .int .u64 0, .int .i64 0, .int .i64 0, .int .i64 0, .int .i64 0, .int .i64 0, .int .i64 0, .int .u64 0, .int .i64 0, .int .i64 0, .int .i64 0, .pointer none, .int .u64 0, .int .u64 0, .int .i64 0, .slice none 0 0, .string ⟨#[]⟩, .bool false, .int .u64 0, .string ⟨#[]⟩]⟩ 35))) : wpList Try.prog ops Q (o :: rest) a w := by
  obtain ⟨d, op, ty, ps, af, gd⟩ := o
  simp only at hg ho
  subst hg ho
  refine wpList_plain rfl (fun KK hK => ?_)
  go_simp
  exact hK _ _ h
theorem wpList_storeH {F : Nat} {ops : Array Oper} {rest : List Oper} {o : Oper} {a : Act} {w : World} {Q : Exit → Act → World → Prop} (hg : o.guard = none) (x y : Operand) (ho : o.op = .store 35 x y) (g : Nat) (hx : a.eval x = .pointer (some ⟨g, 0, none⟩)) (hy : a.eval y = .agg ⟨[.int .i64 1, .int .i64 2, .int .i64 100, .int .i64 100, .int .i64 200, .int .i64 (F : Int), .int .u64 1000, .int .i64 0, .int .i64 0, .int .i64 0, .int .i64 0, .int .i64 0, .int .i64 0, .int .u64 0, .int .i64 0, .int .i64 0, .int .i64 0, .pointer none, .int .u64 0, .int .u64 0, .int .i64 0, .slice none 0 0, .string ⟨#[]⟩, .bool false, .int .u64 0, .string ⟨#[]⟩]⟩) (hb : Blk w g 35 [.int .i64 0, .int .i64 0, .int .i64 0, .int .i64 0, .int .i64 0, .int .i64 0, .int .u64 0, .int .i64 0, .int .i64 0, .int .i64 0, .int .i64 0, .int .i64 0, .int .i64 0, .int .u64 0, .int .i64 0, .int .i64 0, .int .i64 0, .pointer none, .int .u64 0, .int .u64 0, .int .i64 0, .slice none 0 0, .string ⟨#[]⟩, .bool false, .int .u64 0, .string ⟨#[]⟩]) (h : wpList Try.prog ops Q rest (a.put o.dst undef) (w.setRow g ⟨[.int .i64 1, .int .i64 2, .int .i64 100, .int .i64 100, .int .i64 200, .int .i64 (F : Int), .int .u64 1000, .int .i64 0, .int .i64 0, .int .i64 0, .int .i64 0, .int .i64 0, .int .i64 0, .int .u64 0, .int .i64 0, .int .i64 0, .int .i64 0, .pointer none, .int .u64 0, .int .u64 0, .int .i64 0, .slice none 0 0, .string ⟨#[]⟩, .bool false, .int .u64 0, .string ⟨#[]⟩]⟩)) : wpList Try.prog ops Q (o :: rest) a w :=
  wpList_store_row hg 35 x y ho g ⟨[.int .i64 1, .int .i64 2, .int .i64 100, .int .i64 100, .int .i64 200, .int .i64 (F : Int), .int .u64 1000, .int .i64 0, .int .i64 0, .int .i64 0, .int .i64 0, .int .i64 0, .int .i64 0, .int .u64 0, .int .i64 0, .int .i64 0, .int .i64 0, .pointer none, .int .u64 0, .int .u64 0, .int .i64 0, .slice none 0 0, .string ⟨#[]⟩, .bool false, .int .u64 0, .string ⟨#[]⟩]⟩ hx hy 35 ⟨[.int .i64 0, .int .i64 0, .int .i64 0, .int .i64 0, .int .i64 0, .int .i64 0, .int .u64 0, .int .i64 0, .int .i64 0, .int .i64 0, .int .i64 0, .int .i64 0, .int .i64 0, .int .u64 0, .int .i64 0, .int .i64 0, .int .i64 0, .pointer none, .int .u64 0, .int .u64 0, .int .i64 0, .slice none 0 0, .string ⟨#[]⟩, .bool false, .int .u64 0, .string ⟨#[]⟩]⟩ hb infoHld rfl (onesH F) h
/-- The slots of the law's page. -/
def slotsE (ks : List ByteArray) : List Sl := ks.zipIdx.map fun x => (x.1, x.2 + 11)
theorem slotsE_length (ks : List ByteArray) : (slotsE ks).length = ks.length := by unfold slotsE; simp
theorem slotsE_at {ks : List ByteArray} {i : Nat} {x : Sl} (h : (slotsE ks)[i]? = some x) : ks[i]? = some x.1 ∧ x.2 = i + 11 := by
  unfold slotsE at h
  rw [List.getElem?_map, List.getElem?_zipIdx] at h
  cases hk : ks[i]? with
  | none => rw [hk] at h; cases h
  | some k => rw [hk] at h; cases h; exact ⟨rfl, by simp⟩
theorem slotsE_get {ks : List ByteArray} {i : Nat} {k : ByteArray} (h : ks[i]? = some k) : (slotsE ks)[i]? = some (k, i + 11) := by
  unfold slotsE
  rw [List.getElem?_map, List.getElem?_zipIdx, h]; simp
theorem slotsE_step {ks : List ByteArray} {i : Nat} {k : ByteArray} (h : ks[i]? = some k) : slotsE (ks.take (i + 1)) = slotsE (ks.take i) ++ [(k, i + 11)] := by
  apply List.ext_getElem?
  intro j
  have hl : (ks.take i).length = i := by rw [List.length_take]; have := (List.getElem?_eq_some_iff.1 h).1; omega
  rcases Nat.lt_trichotomy j i with e | e | e
  · rw [List.getElem?_append_left (by rw [slotsE_length, hl]; exact e)]
    unfold slotsE
    rw [List.getElem?_map, List.getElem?_map, List.getElem?_zipIdx, List.getElem?_zipIdx, List.getElem?_take, List.getElem?_take, if_pos (by omega), if_pos e]
  · subst e
    rw [List.getElem?_append_right (by rw [slotsE_length, hl]; exact Nat.le_refl _), slotsE_length, hl, Nat.sub_self]
    rw [slotsE_get (k := k) (by rw [List.getElem?_take, if_pos (by omega)]; exact h)]; rfl
  · rw [List.getElem?_append_right (by rw [slotsE_length, hl]; omega), slotsE_length, hl, List.getElem?_eq_none (by rw [slotsE_length, List.length_take]; omega), List.getElem?_eq_none (by simp; omega)]
theorem flat_take_snocE {ks : List ByteArray} {i : Nat} {k : ByteArray} (h : ks[i]? = some k) : flat (slotsE (ks.take i) ++ [(k, i + 11)]) = flat (slotsE (ks.take (i + 1))) := by rw [slotsE_step h]
theorem slotsE_asc {ks : List ByteArray} (ha : ∀ i a b, ks[i]? = some a → ks[i + 1]? = some b → kl a b = true) : Asc (slotsE ks) := asc_of_get fun i x y hx hy => ha i x.1 y.1 (slotsE_at hx).1 (slotsE_at hy).1
/-- The cells that the law's hold leaves. -/
def holdL (F : Nat) (P : Pg) (Nv : Nat) : List Cel := putAt (putAt (app (startCells 1 2 10 100 200 (F : Int)) (pst (nadT F 2) P)) (nlaT F 2) ((41 : Int), (⟨#[]⟩ : ByteArray), (0 : Int))) 4 ((Nv : Int), (⟨#[]⟩ : ByteArray), (0 : Int))
/-- What is known of the law's page. -/
structure HPg (F : Nat) (P : Pg) : Prop where
  asc : Asc P.xs
  pos : 1 ≤ P.xs.length
  len : P.xs.length ≤ F
  lv : P.lv ≤ 2
  sz : ∀ x ∈ P.xs, x.1.size ≤ 32
  ref : ∀ x ∈ P.xs, x.2 < 1000
  rt : P.rt ≤ 3
  wf : Wf P
/-- The keys of the law, behind the test that there is one. -/
def Kst (F B b g : Nat) (W wx : World) (v : Value) : Prop := ∃ (A : Option Addr) (c : Nat) (ks : List ByteArray), v = .slice A ks.length c ∧ Kr wx A ks ∧ 1 ≤ ks.length ∧ ks.length ≤ F ∧ (∀ k ∈ ks, k.size ≤ 32) ∧ (∀ i a b, ks[i]? = some a → ks[i + 1]? = some b → kl a b = true) ∧ (∀ a, A = some a → B ≤ a.block ∧ a.block ≠ b ∧ a.block ≠ g) ∧ Kept (fun _ => False) W wx
/-- The greater of two strings. -/
theorem max_strings (P : Program) (a b : ByteArray) : ∃ mx : ByteArray, mx.size ≤ max a.size b.size ∧ ∀ w, (Builtin.max_ #[9, 9] 9 #[.string a, .string b]).run P w = .ok (.string mx) w := by
  obtain ⟨c, hc⟩ : ∃ c : Bool, ∀ w : World, (Op.stringOp .geq a b).run P w = .ok (.bool c) w := ⟨!(Op.bytesLess a.toList b.toList), fun w => by simp [Op.stringOp]⟩
  cases c
  · refine ⟨b, by omega, fun w => ?_⟩
    simp [Builtin.max_, Builtin.max2, hc, asBool, Result.andThen]
  · refine ⟨a, by omega, fun w => ?_⟩
    simp [Builtin.max_, Builtin.max2, hc, asBool, Result.andThen]
theorem Rdv.keptL {w w' : World} {B : Nat} {v : Value} {n : Nat} {xs : List Value} (h : Rdv w B v n xs) (hk : Kept (fun i => B ≤ i) w w') (hB : B ≤ w.heap.size) : Rdv w' w'.heap.size v n xs := by
  obtain ⟨A, c, e, h1, h2, h3⟩ := h
  refine ⟨A, c, e, h1, h2, fun hp => ?_⟩
  obtain ⟨g, off, e2, hg, hc⟩ := h3 hp
  have := hk.size
  exact ⟨g, off, e2, by omega, fun j u hu => (hk.cell (p := ⟨g, off + j, none⟩) (show g < _ by omega) (fun h => by have h2 : B ≤ g := h; omega)).trans (hc j u hu)⟩
theorem kitMem10 (F : Nat) (h4 : 4 ≤ F) (h6 : F ≤ 6) (w : World) :
    Calls Try.prog 26 #[.agg #[.int .i64 1, .int .i64 2, .int .i64 10, .int .i64 100, .int .i64 200, .int .i64 (F : Int), .int .u64 1000]] w fun e w' => ∃ (b g : Nat) (l : List Cel) (fb fd : Int), e = .returned (.tuple #[.agg #[.int .i64 1, .int .i64 2, .int .i64 10, .int .i64 100, .int .i64 200, .int .i64 (F : Int), .int .u64 1000, .int .i64 10, .int .i64 fb, .int .i64 fd], .pointer (some ⟨b, 0, none⟩)]) ∧ Mem w' b g l 0 ∧ l = startCells 1 2 10 100 200 (F : Int) ∧ Reach3 10 fb fd ∧ w.heap.size ≤ b ∧ w.heap.size ≤ g ∧ Kept (fun _ => False) w w' := by
  refine (kitMemory_yes 1 2 10 100 200 (F : Int) 1000 (limFT h4 h6) (by omega) (by omega) w).mono ?_
  rintro e w' ⟨b, g, he, hM, hb, hg, hK⟩
  exact ⟨b, g, _, firstChain 1 2 10 (F : Int), firstRecord 1 2 10 100 (F : Int), he, hM, rfl, (limFT h4 h6).reach, hb, hg, hK⟩
end

set_option maxRecDepth 100000 in
set_option maxHeartbeats 2000000 in
theorem hold_any (w : World) (AR : Option Addr) (nR cR : Nat) (ss : List ByteArray) (hnR : ss.length = nR) (hrd : Rdv w w.heap.size (.slice AR nR cR) nR (ss.map Value.string)) (hsz : ∀ s ∈ ss, s.size ≤ maxLen) (f lvI : Int) (F : Nat) (hF : 4 + f % 3 = (F : Int)) (la : Bool) (key0 : ByteArray) (hkey : key0.size ≤ maxLen) (us : Int) (Nv : Nat) (hNv : 3 + us % 8 = (Nv : Int)) (lv : Nat) (hlv : lvI % 3 = (lv : Int)) :
    Calls Try.prog 4 #[.slice AR nR cR, .int .i64 f, .int .i64 lvI, .bool la, .string key0, .int .i64 us] w fun e w' => ∃ (b g : Nat) (fb fd : Int) (P : Pg) (A : Option Addr) (c : Nat) (key : ByteArray), e = .returned (.tuple #[.agg ⟨(hldv F fb fd b 2 41 (P.lv : Int) (.slice A P.xs.length c) P.hi P.la (P.rt : Int) key)⟩, .bool (!has key P.xs)]) ∧ Mem w' b g (holdL F P Nv) 0 ∧ HPg F P ∧ key.size ≤ 1000 ∧ Rs w' A c P.xs ∧ (∀ a, A = some a → w.heap.size ≤ a.block ∧ a.block ≠ b ∧ a.block ≠ g) ∧ Reach3 10 fb fd ∧ w.heap.size ≤ b ∧ w.heap.size ≤ g ∧ Kept (fun i => w.heap.size ≤ i) w w' := by
  have h4 : 4 ≤ F := by omega
  have h6 : F ≤ 6 := by omega
  have HF := Lib.hid hF
  have HRD := Lib.hid hrd
  have HSS := Lib.hid hsz
  have HUS := Lib.hid hNv
  have HLV := Lib.hid hlv
  unfold maxLen at hkey
  have hlv2 : lv ≤ 2 := by omega
  have hNv2 : 3 ≤ Nv ∧ Nv ≤ 10 := by omega
  have HNV := Lib.hid hNv2
  clear hF hrd hsz hNv hlv hNv2
  obtain ⟨r12, hr12⟩ : ∃ r, w.heap.size = r := ⟨_, rfl⟩
  go_enter Try.func4, Try.ntmps4
  go_upto_region 1 with fail
  have hal := (Kept.refl (fun _ => False) w).alloc (.cells #[.int .i64 0, .int .i64 0, .int .i64 0, .int .i64 0, .int .i64 0, .int .i64 0, .int .u64 0, .int .i64 0, .int .i64 0, .int .i64 0, .int .i64 0, .int .i64 0, .int .i64 0, .int .u64 0, .int .i64 0, .int .i64 0, .int .i64 0, .pointer none, .int .u64 0, .int .u64 0, .int .i64 0, .slice none 0 0, .string ⟨#[]⟩, .bool false, .int .u64 0, .string ⟨#[]⟩] 35)
  have HK := Lib.hid (hal.mono (T := (fun i => w.heap.size ≤ i)) (fun _ h => h.elim))
  have h12 := Blk.new w [.int .i64 0, .int .i64 0, .int .i64 0, .int .i64 0, .int .i64 0, .int .i64 0, .int .u64 0, .int .i64 0, .int .i64 0, .int .i64 0, .int .i64 0, .int .i64 0, .int .i64 0, .int .u64 0, .int .i64 0, .int .i64 0, .int .i64 0, .pointer none, .int .u64 0, .int .u64 0, .int .i64 0, .slice none 0 0, .string ⟨#[]⟩, .bool false, .int .u64 0, .string ⟨#[]⟩] 35
  rw [hr12] at h12
  have H12 := Lib.hid h12
  generalize w.alloc (.cells #[.int .i64 0, .int .i64 0, .int .i64 0, .int .i64 0, .int .i64 0, .int .i64 0, .int .u64 0, .int .i64 0, .int .i64 0, .int .i64 0, .int .i64 0, .int .i64 0, .int .i64 0, .int .u64 0, .int .i64 0, .int .i64 0, .int .i64 0, .pointer none, .int .u64 0, .int .u64 0, .int .i64 0, .slice none 0 0, .string ⟨#[]⟩, .bool false, .int .u64 0, .string ⟨#[]⟩] 35) = W0 at *
  have HR12 := Lib.hid (show w.heap.size = r12 ∧ r12 < W0.heap.size from ⟨hr12, h12.lt⟩)
  clear hal h12 hr12
  go_wp2_with fail
  refine (kitConfig_any 1 f F HF.out _).mono ?_; rintro e w1 ⟨rfl, hK1⟩
  replace HK := Lib.hid (HK.out.trans hK1 (fun _ _ h => h.elim))
  replace H12 := Lib.hid (hK1.blk H12.out (fun h => h))
  have HZ1 := Lib.hid hK1.size
  clear hK1 HF
  go_upto_region 2 with (first | (refine wpList_built rfl 35 0 (.tmp 21) rfl _ rfl ⟨[.int .i64 1, .int .i64 2, .int .i64 100, .int .i64 100, .int .i64 200, .int .i64 (F : Int), .int .u64 1000, .int .i64 0, .int .i64 0, .int .i64 0, .int .i64 0, .int .i64 0, .int .i64 0, .int .u64 0, .int .i64 0, .int .i64 0, .int .i64 0, .pointer none, .int .u64 0, .int .u64 0, .int .i64 0, .slice none 0 0, .string ⟨#[]⟩, .bool false, .int .u64 0, .string ⟨#[]⟩]⟩ (builtHld F) ?_) | (refine wpList_allocH rfl rfl ?_) | (refine wpList_storeH (F := F) rfl (.tmp 14) (.tmp 22) rfl w1.heap.size rfl rfl (Blk.new w1 [.int .i64 0, .int .i64 0, .int .i64 0, .int .i64 0, .int .i64 0, .int .i64 0, .int .u64 0, .int .i64 0, .int .i64 0, .int .i64 0, .int .i64 0, .int .i64 0, .int .i64 0, .int .u64 0, .int .i64 0, .int .i64 0, .int .i64 0, .pointer none, .int .u64 0, .int .u64 0, .int .i64 0, .slice none 0 0, .string ⟨#[]⟩, .bool false, .int .u64 0, .string ⟨#[]⟩] 35) ?_))
  have h14 := (Blk.new w1 [.int .i64 0, .int .i64 0, .int .i64 0, .int .i64 0, .int .i64 0, .int .i64 0, .int .u64 0, .int .i64 0, .int .i64 0, .int .i64 0, .int .i64 0, .int .i64 0, .int .i64 0, .int .u64 0, .int .i64 0, .int .i64 0, .int .i64 0, .pointer none, .int .u64 0, .int .u64 0, .int .i64 0, .slice none 0 0, .string ⟨#[]⟩, .bool false, .int .u64 0, .string ⟨#[]⟩] 35).row [.int .i64 1, .int .i64 2, .int .i64 100, .int .i64 100, .int .i64 200, .int .i64 (F : Int), .int .u64 1000, .int .i64 0, .int .i64 0, .int .i64 0, .int .i64 0, .int .i64 0, .int .i64 0, .int .u64 0, .int .i64 0, .int .i64 0, .int .i64 0, .pointer none, .int .u64 0, .int .u64 0, .int .i64 0, .slice none 0 0, .string ⟨#[]⟩, .bool false, .int .u64 0, .string ⟨#[]⟩]
  have hk14 := ((Kept.refl (fun _ => False) w1).alloc (.cells #[.int .i64 0, .int .i64 0, .int .i64 0, .int .i64 0, .int .i64 0, .int .i64 0, .int .u64 0, .int .i64 0, .int .i64 0, .int .i64 0, .int .i64 0, .int .i64 0, .int .i64 0, .int .u64 0, .int .i64 0, .int .i64 0, .int .i64 0, .pointer none, .int .u64 0, .int .u64 0, .int .i64 0, .slice none 0 0, .string ⟨#[]⟩, .bool false, .int .u64 0, .string ⟨#[]⟩] 35)).row (g := w1.heap.size) (fun h => absurd h (Nat.lt_irrefl _)) ⟨[.int .i64 1, .int .i64 2, .int .i64 100, .int .i64 100, .int .i64 200, .int .i64 (F : Int), .int .u64 1000, .int .i64 0, .int .i64 0, .int .i64 0, .int .i64 0, .int .i64 0, .int .i64 0, .int .u64 0, .int .i64 0, .int .i64 0, .int .i64 0, .pointer none, .int .u64 0, .int .u64 0, .int .i64 0, .slice none 0 0, .string ⟨#[]⟩, .bool false, .int .u64 0, .string ⟨#[]⟩]⟩
  have H14 := Lib.hid h14
  replace HK := Lib.hid (HK.out.trans hk14 (fun _ _ h => h.elim))
  replace H12 := Lib.hid (hk14.blk H12.out (fun h => h))
  clear hk14
  generalize hr14 : w1.heap.size = r14 at *
  generalize (w1.alloc (.cells #[.int .i64 0, .int .i64 0, .int .i64 0, .int .i64 0, .int .i64 0, .int .i64 0, .int .u64 0, .int .i64 0, .int .i64 0, .int .i64 0, .int .i64 0, .int .i64 0, .int .i64 0, .int .u64 0, .int .i64 0, .int .i64 0, .int .i64 0, .pointer none, .int .u64 0, .int .u64 0, .int .i64 0, .slice none 0 0, .string ⟨#[]⟩, .bool false, .int .u64 0, .string ⟨#[]⟩] 35)).setRow r14 ⟨[.int .i64 1, .int .i64 2, .int .i64 100, .int .i64 100, .int .i64 200, .int .i64 (F : Int), .int .u64 1000, .int .i64 0, .int .i64 0, .int .i64 0, .int .i64 0, .int .i64 0, .int .i64 0, .int .u64 0, .int .i64 0, .int .i64 0, .int .i64 0, .pointer none, .int .u64 0, .int .u64 0, .int .i64 0, .slice none 0 0, .string ⟨#[]⟩, .bool false, .int .u64 0, .string ⟨#[]⟩]⟩ = W1 at *
  have HR14 := Lib.hid (show w.heap.size ≤ r12 ∧ r12 < r14 ∧ r14 < W1.heap.size by have h1 := HR12.out; have h2 := h14.lt; have h3 := HZ1.out; omega)
  clear hr14 h14 HR12 HZ1
  have hb9 := H14.out
  have x2 := hb9.cell (i := 2) rfl
  have z2 := hb9.frozen 2
  clear hb9
  go_upto_region 3 with fail
  have hks := (Kept.refl (fun k => k = r14) W1).setCell (a := ⟨r14, 2, none⟩) (fun _ => rfl) (.int .i64 10)
  replace H14 := Lib.hid (show Blk (W1.setCell ⟨r14, 2, none⟩ (.int .i64 10)) r14 35 [.int .i64 1, .int .i64 2, .int .i64 10, .int .i64 100, .int .i64 200, .int .i64 (F : Int), .int .u64 1000, .int .i64 0, .int .i64 0, .int .i64 0, .int .i64 0, .int .i64 0, .int .i64 0, .int .u64 0, .int .i64 0, .int .i64 0, .int .i64 0, .pointer none, .int .u64 0, .int .u64 0, .int .i64 0, .slice none 0 0, .string ⟨#[]⟩, .bool false, .int .u64 0, .string ⟨#[]⟩] from H14.out.set 2 _)
  replace H12 := Lib.hid (hks.blk H12.out (fun h => by have := HR14.out; omega))
  replace HK := Lib.hid (HK.out.trans hks (fun k hk h => by have := HR14.out; have h2 : k = r14 := h; show w.heap.size ≤ k; omega))
  replace HR14 := Lib.hid (show w.heap.size ≤ r12 ∧ r12 < r14 ∧ r14 < (W1.setCell ⟨r14, 2, none⟩ (.int .i64 10)).heap.size by have h1 := HR14.out; have h2 := H14.out.lt; omega)
  clear hks x2 z2
  generalize W1.setCell ⟨r14, 2, none⟩ (.int .i64 10) = W2 at *
  have hb9 := H14.out
  have x0 := hb9.cell (i := 0) rfl
  have x1 := hb9.cell (i := 1) rfl
  have x2 := hb9.cell (i := 2) rfl
  have x3 := hb9.cell (i := 3) rfl
  have x4 := hb9.cell (i := 4) rfl
  have x5 := hb9.cell (i := 5) rfl
  have x6 := hb9.cell (i := 6) rfl
  clear hb9
  go_wp2_with fail
  refine (kitMem10 F h4 h6 _).mono ?_
  rintro e w2 ⟨b, g, l, fb, fd, rfl, hM2, hl2, hd2, hb2, hg2, hK2⟩
  clear x0 x1 x2 x3 x4 x5 x6
  have HM := Lib.hid hM2
  have HL := Lib.hid hl2
  have HD := Lib.hid hd2
  have HBG := Lib.hid (show r14 < b ∧ r14 < g ∧ b < w2.heap.size ∧ g < w2.heap.size by have h1 := HR14.out; have h2 := hM2.obj.lt; have h3 := hM2.row.lt; omega)
  replace HK := Lib.hid (HK.out.trans hK2 (fun _ _ h => h.elim))
  replace H12 := Lib.hid (hK2.blk H12.out (fun h => h))
  replace H14 := Lib.hid (hK2.blk H14.out (fun h => h))
  clear hM2 hl2 hd2 hb2 hg2 hK2
  have hb9 := H14.out
  have x7 := hb9.cell (i := 7) rfl
  have x8 := hb9.cell (i := 8) rfl
  have x9 := hb9.cell (i := 9) rfl
  have x10 := hb9.cell (i := 10) rfl
  have x11 := hb9.cell (i := 11) rfl
  have x12 := hb9.cell (i := 12) rfl
  have x13 := hb9.cell (i := 13) rfl
  have x14 := hb9.cell (i := 14) rfl
  have x15 := hb9.cell (i := 15) rfl
  have x16 := hb9.cell (i := 16) rfl
  have x17 := hb9.cell (i := 17) rfl
  have z7 := hb9.frozen 7
  have z8 := hb9.frozen 8
  have z9 := hb9.frozen 9
  have z10 := hb9.frozen 10
  have z11 := hb9.frozen 11
  have z12 := hb9.frozen 12
  have z13 := hb9.frozen 13
  have z14 := hb9.frozen 14
  have z15 := hb9.frozen 15
  have z16 := hb9.frozen 16
  have z17 := hb9.frozen 17
  clear hb9
  go_upto_region 4 with fail
  have hks := ((((((((((((Kept.refl (fun k => k = r14) w2)).setCell (a := ⟨r14, 7, none⟩) (fun _ => rfl) (.int .i64 1)).setCell (a := ⟨r14, 8, none⟩) (fun _ => rfl) (.int .i64 2)).setCell (a := ⟨r14, 9, none⟩) (fun _ => rfl) (.int .i64 10)).setCell (a := ⟨r14, 10, none⟩) (fun _ => rfl) (.int .i64 100)).setCell (a := ⟨r14, 11, none⟩) (fun _ => rfl) (.int .i64 200)).setCell (a := ⟨r14, 12, none⟩) (fun _ => rfl) (.int .i64 (F : Int))).setCell (a := ⟨r14, 13, none⟩) (fun _ => rfl) (.int .u64 1000)).setCell (a := ⟨r14, 14, none⟩) (fun _ => rfl) (.int .i64 10)).setCell (a := ⟨r14, 15, none⟩) (fun _ => rfl) (.int .i64 fb)).setCell (a := ⟨r14, 16, none⟩) (fun _ => rfl) (.int .i64 fd)).setCell (a := ⟨r14, 17, none⟩) (fun _ => rfl) (.pointer (some ⟨b, 0, none⟩))
  have hb14 := (((((((((((H14.out).set 7 (.int .i64 1)).set 8 (.int .i64 2)).set 9 (.int .i64 10)).set 10 (.int .i64 100)).set 11 (.int .i64 200)).set 12 (.int .i64 (F : Int))).set 13 (.int .u64 1000)).set 14 (.int .i64 10)).set 15 (.int .i64 fb)).set 16 (.int .i64 fd)).set 17 (.pointer (some ⟨b, 0, none⟩))
  replace H12 := Lib.hid (hks.blk H12.out (fun h => by have := HR14.out; omega))
  replace HM := Lib.hid (HM.out.kept hks (fun h => by have := HBG.out; have h2 : b = r14 := h; omega) (fun h => by have := HBG.out; have h2 : g = r14 := h; omega))
  replace HK := Lib.hid (HK.out.trans hks (fun k hk h => by have := HR14.out; have h2 : k = r14 := h; show w.heap.size ≤ k; omega))
  clear hks x7 z7 x8 z8 x9 z9 x10 z10 x11 z11 x12 z12 x13 z13 x14 z14 x15 z15 x16 z16 x17 z17 H14
  generalize (((((((((((w2).setCell ⟨r14, 7, none⟩ (.int .i64 1)).setCell ⟨r14, 8, none⟩ (.int .i64 2)).setCell ⟨r14, 9, none⟩ (.int .i64 10)).setCell ⟨r14, 10, none⟩ (.int .i64 100)).setCell ⟨r14, 11, none⟩ (.int .i64 200)).setCell ⟨r14, 12, none⟩ (.int .i64 (F : Int))).setCell ⟨r14, 13, none⟩ (.int .u64 1000)).setCell ⟨r14, 14, none⟩ (.int .i64 10)).setCell ⟨r14, 15, none⟩ (.int .i64 fb)).setCell ⟨r14, 16, none⟩ (.int .i64 fd)).setCell ⟨r14, 17, none⟩ (.pointer (some ⟨b, 0, none⟩)) = W3 at *
  have H14 := Lib.hid (show Blk W3 r14 35 (hldv F fb fd b 0 0 0 (.slice none 0 0) ⟨#[]⟩ false 0 ⟨#[]⟩) from hb14)
  clear hb14
  have x17 := H14.out.cell (i := 17) rfl
  go_upto_region 6 with fail
  have x5 := H14.out.cell (i := 5) rfl
  have HM0 := Lib.hid HM.out
  have H140 := Lib.hid H14.out.lt
  go_wp2_with fail
  refine (keys_any AR nR cR ss F _ hnR (by omega) (HRD.out.keptL HK.out (Nat.le_refl _)) HSS.out).mono ?_; rintro e w5 ⟨vk, rfl, hO3, hB3⟩
  have hK3 := Below.kept hB3 (S := fun _ => False) (fun i hi h => by omega)
  obtain ⟨AK, cK, rfl, hKr, hAK⟩ := keys_read hO3
  obtain ⟨ks, hks⟩ : ∃ ks, keysOf (ss.take F) = ks := ⟨_, rfl⟩
  have hks' : (PlainE.keysE (ss.take F)).map (·.1) = ks := by rw [← hks]; unfold keysOf; rw [List.take_take, show min 40 F = F from by omega]
  have hkF : ks.length ≤ F := by
    rw [← hks', List.length_map]
    have := PlainE.keysE_len (ss.take F)
    rw [List.length_take] at this; omega
  rw [hks'] at hKr
  rw [hks']
  obtain ⟨nk, hnk⟩ : ∃ nk, ks.length = nk := ⟨_, rfl⟩
  have HKST := Lib.hid (show 1 ≤ ks.length → Kst F (r14 + 1) b g w5 w5 (.slice AK ks.length cK) from fun h1 => ⟨AK, cK, ks, rfl, hKr, h1, hkF, by rw [← hks]; exact (keysOf_facts _).1, by rw [← hks]; exact (keysOf_facts _).2, fun a ha => by
    have h1 := hAK a ha
    have h2 := HM0.out.obj.lt
    have h3 := HM0.out.row.lt
    have h4 := H140.out
    omega, Kept.refl _ _⟩)
  replace HK := Lib.hid (HK.out.trans hK3 (fun _ _ h => h.elim))
  replace H12 := Lib.hid (hK3.blk H12.out (fun h => h))
  replace H14 := Lib.hid (hK3.blk H14.out (fun h => h))
  replace HM := Lib.hid (HM.out.kept hK3 (fun h => h) (fun h => h))
  rw [hnk] at HKST ⊢
  have HBW := Lib.hid (show r14 < w5.heap.size ∧ b < w5.heap.size ∧ g < w5.heap.size from ⟨H14.out.lt, HM.out.obj.lt, HM.out.row.lt⟩)
  clear hO3 hB3 hK3 hKr hAK hks hks' hkF hnk HRD HSS HM0 H140 x17 x5
  go_upto_if 44 with fail
  go_cut [15] from 44 to 45 (fun v wx => Kst F (r14 + 1) b g w5 wx v)
  case first =>
    by_cases h0 : nk = 0
    · have d0 : decide ((nk : Int) = 0) = true := by simp; omega
      subst h0
      go_wp2
      all_goals (go_meet; exact ⟨_, _, [⟨#[]⟩], rfl, fun _ => ⟨_, 0, rfl, Nat.lt_succ_self _ |> (fun h => by rw [nblk_alloc]; exact h), fun i k hk => by
        cases i with
        | zero => cases hk; exact (Blk.new w5 [.string ⟨#[]⟩] 9).cell (i := 0) rfl
        | succ i => cases hk⟩, Nat.le_refl _, by show 1 ≤ F; omega, fun k hk => (by simp at hk; subst hk; decide), fun i a b ha hb => (by cases i <;> cases hb), fun a ha => by cases ha; have h := HBW.out; show _ ≤ w5.heap.size ∧ w5.heap.size ≠ b ∧ w5.heap.size ≠ g; omega, (Kept.refl _ _).alloc _⟩)
    · have d0 : decide ((nk : Int) = 0) = false := by simp; omega
      have d1 : ¬ (nk : Int) = 0 := by omega
      go_wp2
      all_goals (go_meet; exact HKST.out (by omega))
  case rest =>
    obtain ⟨A1, c1, ks, rfl, hKr, hk1, hkF, hks1, hks2, hA1, hK3⟩ := hcut
    rename World => W5
    obtain ⟨nk, hnk⟩ : ∃ nk, ks.length = nk := ⟨_, rfl⟩
    rw [hnk] at hk1 hkF ⊢
    have HNK := Lib.hid hnk
    have HKR := Lib.hid hKr
    have HKS := Lib.hid (show (∀ k ∈ ks, k.size ≤ 32) ∧ (∀ i a b, ks[i]? = some a → ks[i + 1]? = some b → kl a b = true) from ⟨hks1, hks2⟩)
    have HA1 := Lib.hid hA1
    replace HK := Lib.hid (HK.out.trans hK3 (fun _ _ h => h.elim))
    replace H12 := Lib.hid (hK3.blk H12.out (fun h => h))
    replace H14 := Lib.hid (hK3.blk H14.out (fun h => h))
    replace HM := Lib.hid (HM.out.kept hK3 (fun h => h) (fun h => h))
    clear hK3 hks1 hks2 hA1 hKr hnk HKST HBW
    go_upto_region 9 with fail
    go_wp2_with fail
    refine (mod_of lvI 3 lv _ (by omega) (by omega) HLV.out).mono ?_; rintro e w6 ⟨rfl, rfl⟩
    go_upto_region 10 with fail
    have hal := (Kept.refl (fun _ => False) W5).alloc (.cells #[.int .i64 (lv : Int), .slice none 0 0, .string ⟨#[]⟩, .bool la, .int .u64 0] 31)
    have H16 := Lib.hid (Blk.new W5 [.int .i64 (lv : Int), .slice none 0 0, .string ⟨#[]⟩, .bool la, .int .u64 0] 31)
    have HBR0 := Lib.hid (show b < W5.heap.size ∧ g < W5.heap.size ∧ r12 < W5.heap.size ∧ r14 < W5.heap.size ∧ w.heap.size ≤ W5.heap.size from ⟨HM.out.obj.lt, HM.out.row.lt, H12.out.lt, H14.out.lt, HK.out.size⟩)
    have HRK := Lib.hid (show ∀ gk off, A1 = some ⟨gk, off, none⟩ → gk < W5.heap.size from fun gk off he => by
      obtain ⟨g9, o9, e9, h9, -⟩ := HKR.out (by rw [HNK.out]; omega)
      rw [e9] at he; cases he; exact h9)
    replace HK := Lib.hid (HK.out.trans hal (fun _ _ h => h.elim))
    replace H12 := Lib.hid (hal.blk H12.out (fun h => h))
    replace H14 := Lib.hid (hal.blk H14.out (fun h => h))
    replace HM := Lib.hid (HM.out.kept hal (fun h => h) (fun h => h))
    replace HKR := Lib.hid (HKR.out.kept hal (fun _ _ h => h))
    clear hal
    generalize hr16 : W5.heap.size = r16 at *
    generalize W5.alloc (.cells #[.int .i64 (lv : Int), .slice none 0 0, .string ⟨#[]⟩, .bool la, .int .u64 0] 31) = W6 at *
    have HZ16 := Lib.hid (show r16 < W6.heap.size from H16.out.lt)
    clear hr16
    have HS6 := Lib.hid (show b < r16 ∧ g < r16 ∧ r12 < r16 ∧ r14 < r16 ∧ w.heap.size ≤ r16 from HBR0.out)
    obtain ⟨i0, hi0, hz0, hz1, hz2⟩ := info_parts Try.info70
    have HI0 := Lib.hid hi0
    have HI1 := Lib.hid hz0
    have HI2 := Lib.hid hz1
    have HI3 := Lib.hid hz2
    clear hi0 hz0 hz1 hz2
    go_wp2_with fail
    go_loopw [17] (fun iv wr => ∃ (j : Nat) (v16 : Value), j ≤ nk ∧ iv = .int .i64 (j : Int) ∧ Blk wr r16 31 [.int .i64 (lv : Int), v16, .string ⟨#[]⟩, .bool la, .int .u64 0] ∧ wr.ownsRow W6.heap.size 70 2 v16 j (flat (slotsE (ks.take j))) ∧ Kept (fun k => k = r16 ∨ W6.heap.size ≤ k) W6 wr) (fun iv _ => nk - (intOf iv).toNat)
    case atStart => exact ⟨0, _, Nat.zero_le _, rfl, H16.out, World.ownsRow_nil _ _ _ _, Kept.refl _ _⟩
    case round =>
      rename World => V1
      obtain ⟨j, v16, hj, rfl, h16, hO, hKV⟩ := hrel
      replace H16 := Lib.hid h16
      have HO := Lib.hid hO
      have HKV := Lib.hid hKV
      have HZV1 := Lib.hid hKV.size
      clear h16 hO hKV
      by_cases hlt : j < nk
      · have hjI : (j : Int) < (nk : Int) := by omega
        obtain ⟨gk, off, rfl, hgk, hkc⟩ := HKR.out (by have := HNK.out; omega)
        obtain ⟨kj, hkj⟩ : ∃ k, ks[j]? = some k := ⟨_, List.getElem?_eq_getElem (by have := HNK.out; omega)⟩
        have hrk : gk ≠ r16 := by have h1 := HRK.out gk off rfl; omega
        have hkc1 : V1.cell? ⟨gk, off + j, none⟩ = some (.string kj) := (HKV.out.cell (p := ⟨gk, off + j, none⟩) hgk (fun h => by rcases h with h | h; exact hrk h; have h2 : W6.heap.size ≤ gk := h; omega)).trans (hkc j kj hkj)
        have hgk6 : gk < W6.heap.size := hgk
        have hgk1 : gk < V1.heap.size := by have := HZV1.out; omega
        have HKC := Lib.hid hkc1
        have HKI := Lib.hid hkj
        obtain ⟨j1, hj1⟩ : ∃ j1, j + 1 = j1 := ⟨_, rfl⟩
        obtain ⟨j11, hj11⟩ : ∃ j11, j + 11 = j11 := ⟨_, rfl⟩
        have HJ1 := Lib.hid (show j + 1 = j1 ∧ j + 11 = j11 from ⟨hj1, hj11⟩)
        have hwi : IntKind.i64.wrap ((j : Int) + 11) = (j11 : Int) := by rw [IntKind.wrap_i64]; omega
        have hwj : (j : Int) + 11 = (j11 : Int) := by omega
        have hwu : IntKind.u64.wrap (j11 : Int) = (j11 : Int) := by rw [IntKind.wrap_u64]; omega
        have hwi2 : IntKind.i64.wrap (j11 : Int) = (j11 : Int) := by rw [IntKind.wrap_i64]; omega
        have hw1 : IntKind.i64.wrap ((j : Int) + 1) = (j1 : Int) := by rw [IntKind.wrap_i64]; omega
        clear hj1 hj11 hkc hkj hrk hgk
        go_upto_region 13 with fail
        clear hkc1
        refine region_E 13 (fun w' => Kept (fun k => v16.ownBlock = some k) V1 w') (by kernel_rfl) ?_ (fun hHeld => ?_)
        · exact ((Kept.refl (fun _ => False) _).drew).mono (fun _ h => h.elim)
        have hdr := (Kept.refl (fun _ => False) V1).drew
        have HW := Lib.hid (hdr.mono (T := fun k => v16.ownBlock = some k) (fun _ h => h.elim))
        have H16V := Lib.hid H16.out
        have HOV := Lib.hid HO.out
        replace HO := Lib.hid (own_kept HO.out hdr (fun _ _ h => h))
        replace H16 := Lib.hid (hdr.blk H16.out (fun h => h))
        clear hdr
        generalize V1.drew = G at *
        refine anyE_take (i := 0) (oi := ⟨some 56, _, _, _, _, _⟩) (v := ?_) rfl (by kernel_rfl) (by kernel_rfl) (by kernel_rfl) (by kernel_rfl) (fun _ _ _ h => h) (Or.inl ⟨by rfl, ?_⟩) hHeld ?_
        rotate_left
        · (intro wq hSw; go_simp; try with_reducible rfl)
        try simp only [Act.put, List.setIfInBounds_toArray, List.set_cons_zero, List.set_cons_succ]
        refine anyE_take (i := 1) (oi := ⟨some 57, _, _, _, _, _⟩) (v := ?_) rfl (by kernel_rfl) (by kernel_rfl) (by kernel_rfl) (by kernel_rfl) (fun _ _ _ h => h) (Or.inl ⟨by rfl, ?_⟩) hHeld ?_
        rotate_left
        · (intro wq hSw; have hb9 := hSw.blk H16V.out (fun h => by have h1 := (HOV.out.lt r16 h).1; have h2 := HZ16.out; omega); have x1 := hb9.cell (i := 1) rfl; clear hb9; have y1 := (hSw.cell (p := ⟨gk, off + j, none⟩) hgk1 (fun h => by have h1 := (HOV.out.lt gk h).1; have h2 := hgk6; omega)).trans HKC.out; go_simp; try with_reducible rfl)
        try simp only [Act.put, List.setIfInBounds_toArray, List.set_cons_zero, List.set_cons_succ]
        refine anyE_take (i := 2) (oi := ⟨some 58, _, _, _, _, _⟩) (v := ?_) rfl (by kernel_rfl) (by kernel_rfl) (by kernel_rfl) (by kernel_rfl) (fun _ _ _ h => h) (Or.inl ⟨by rfl, ?_⟩) hHeld ?_
        rotate_left
        · (intro wq hSw; go_simp; try with_reducible rfl)
        try simp only [Act.put, List.setIfInBounds_toArray, List.set_cons_zero, List.set_cons_succ]
        refine anyE_take (i := 3) (oi := ⟨some 59, _, _, _, _, _⟩) (v := ?_) rfl (by kernel_rfl) (by kernel_rfl) (by kernel_rfl) (by kernel_rfl) (fun _ _ _ h => h) (Or.inl ⟨by rfl, ?_⟩) hHeld ?_
        rotate_left
        · (intro wq hSw; go_simp; try with_reducible rfl)
        try simp only [Act.put, List.setIfInBounds_toArray, List.set_cons_zero, List.set_cons_succ]
        refine anyE_take (i := 4) (oi := ⟨some 60, _, _, _, _, _⟩) (v := ?_) rfl (by kernel_rfl) (by kernel_rfl) (by kernel_rfl) (by kernel_rfl) (fun _ _ _ h => h) (Or.inl ⟨by rfl, ?_⟩) hHeld ?_
        rotate_left
        · (intro wq hSw; go_simp; try with_reducible rfl)
        try simp only [Act.put, List.setIfInBounds_toArray, List.set_cons_zero, List.set_cons_succ]
        refine anyE_take (i := 5) (oi := ⟨some 61, _, _, _, _, _⟩) (v := ?_) rfl (by kernel_rfl) (by kernel_rfl) (by kernel_rfl) (by kernel_rfl) (fun _ _ _ h => h) (Or.inl ⟨by rfl, ?_⟩) hHeld ?_
        rotate_left
        · (intro wq hSw; have hb9 := hSw.blk H16V.out (fun h => by have h1 := (HOV.out.lt r16 h).1; have h2 := HZ16.out; omega); have x1 := hb9.cell (i := 1) rfl; clear hb9; have y1 := (hSw.cell (p := ⟨gk, off + j, none⟩) hgk1 (fun h => by have h1 := (HOV.out.lt gk h).1; have h2 := hgk6; omega)).trans HKC.out; go_simp; try with_reducible rfl)
        try simp only [Act.put, List.setIfInBounds_toArray, List.set_cons_zero, List.set_cons_succ]
        refine anyE_take (i := 6) (oi := ⟨some 62, _, _, _, _, _⟩) (v := ?_) rfl (by kernel_rfl) (by kernel_rfl) (by kernel_rfl) (by kernel_rfl) (fun _ _ _ h => h) (Or.inl ⟨by rfl, ?_⟩) hHeld ?_
        rotate_left
        · (intro wq hSw; go_simp; try with_reducible rfl)
        try simp only [Act.put, List.setIfInBounds_toArray, List.set_cons_zero, List.set_cons_succ]
        refine anyE_take (i := 7) (oi := ⟨some 63, _, _, _, _, _⟩) (v := ?_) rfl (by kernel_rfl) (by kernel_rfl) (by kernel_rfl) (by kernel_rfl) (fun _ _ _ h => h) (Or.inl ⟨by rfl, ?_⟩) hHeld ?_
        rotate_left
        · (intro wq hSw; go_simp; try with_reducible rfl)
        try simp only [Act.put, List.setIfInBounds_toArray, List.set_cons_zero, List.set_cons_succ]
        refine anyE_take (i := 8) (oi := ⟨some 64, _, _, _, _, _⟩) (v := ?_) rfl (by kernel_rfl) (by kernel_rfl) (by kernel_rfl) (by kernel_rfl) (fun _ _ _ h => h) (Or.inl ⟨by rfl, ?_⟩) hHeld ?_
        rotate_left
        · (intro wq hSw; go_simp; try with_reducible rfl)
        try simp only [Act.put, List.setIfInBounds_toArray, List.set_cons_zero, List.set_cons_succ]
        refine anyE_take (i := 9) (oi := ⟨some 65, _, _, _, _, _⟩) (v := .agg #[.string kj, .int .u64 (j11 : Int)]) rfl (by kernel_rfl) (by kernel_rfl) (by kernel_rfl) (by kernel_rfl) (fun _ _ _ h => h) (Or.inl ⟨by rfl, ?_⟩) hHeld ?_
        · (intro wq hSw; go_simp; try first | (with_reducible rfl) | (simp; omega) | (intros; omega) | simp [*])
        try simp only [Act.put, List.setIfInBounds_toArray, List.set_cons_zero, List.set_cons_succ]
        refine anyE_ready (i := 10) (o := ⟨some 66, _, _, _, _, _⟩) (by kernel_rfl) rfl (fun KK hK => ?_)
        go_simp
        have HNb := Lib.hid (show (G.alloc (.cells #[.string kj, .int .u64 (j11 : Int)] 70)).heap[G.heap.size]? = some (.cells #[.string kj, .int .u64 (j11 : Int)] 70 (0, 0)) from Blk.new G [.string kj, .int .u64 (j11 : Int)] 70)
        have hal := (Kept.refl (fun _ => False) G).alloc (.cells #[.string kj, .int .u64 (j11 : Int)] 70)
        replace HW := Lib.hid (HW.out.trans hal (fun _ _ h => h.elim))
        replace H16 := Lib.hid (hal.blk H16.out (fun h => h))
        replace HO := Lib.hid (HO.out.alloc (.cells #[.string kj, .int .u64 (j11 : Int)] 70))
        clear hal
        generalize G.alloc (.cells #[.string kj, .int .u64 (j11 : Int)] 70) = G2 at *
        refine hK.out _ _ (fun _ => ?_) (fun hHeld2 => ?_)
        · exact HW.out
        clear hK KK hHeld
        have hHeld := hHeld2 (by decide)
        clear hHeld2
        try simp only [Act.put, List.setIfInBounds_toArray, List.set_cons_zero, List.set_cons_succ]
        refine anyE_ready (i := 11) (o := ⟨some 67, _, _, _, _, _⟩) (by kernel_rfl) rfl (fun KK hK => ?_)
        refine step_append_lies _ (by rfl) (.tmp 57) (.tmp 66) 29 (by rfl) W6.heap.size 70 i0 _ 2 24 Try.underlying29 HI0.out HI1.out HI2.out HI3.out rfl (by decide) v16 j (flat (slotsE (ks.take j))) (by rfl) HO.out ⟨G.heap.size, 0, none⟩ 1 1 [.string kj, .int .u64 (j11 : Int)] (by rfl) (by rfl) (World.news_of_block HNb.out) (one_slot _ _) (by omega) (by unfold maxLen; omega) (by omega) (by have h1 := HW.out.size; have h2 := HZV1.out; omega) _ rfl ?_
        intro g4 cap4 w7 hown7 hgr7 hat7 hlt7
        rw [HJ1.out.1] at hown7 ⊢
        have h16n : ¬ v16.ownBlock = some r16 := fun h => by have h1 := (HO.out.lt r16 h).1; have h2 := HZ16.out; omega
        have HOx := Lib.hid (show w7.ownsRow W6.heap.size 70 2 (.slice (some ⟨g4, 0, none⟩) j1 cap4) j1 (flat (slotsE (ks.take j1))) from by rw [← HJ1.out.1, ← flat_take_snocE HKI.out, flat_append, HJ1.out.1, HJ1.out.2]; exact hown7)
        replace H16 := Lib.hid (H16.out.of (hgr7.block r16 H16.out.lt (fun e => h16n e.symm)))
        have hKg := ((Kept.refl (fun k => v16.ownBlock = some k) G2)).grown hgr7 (fun k hk _ => hk)
        replace HW := Lib.hid (HW.out.trans hKg (fun _ _ h => h))
        clear hown7 hgr7 hat7 hlt7 hKg HNb h16n
        refine hK.out _ _ (fun _ => ?_) (fun hHeld2 => ?_)
        · exact HW.out
        clear hK KK hHeld
        have hHeld := hHeld2 (by decide)
        clear hHeld2
        try simp only [Act.put, List.setIfInBounds_toArray, List.set_cons_zero, List.set_cons_succ]
        refine anyE_take (i := 12) (oi := ⟨some 68, _, _, _, _, _⟩) (v := ?_) rfl (by kernel_rfl) (by kernel_rfl) (by kernel_rfl) (by kernel_rfl) (fun _ _ _ h => h) (Or.inl ⟨by rfl, ?_⟩) hHeld ?_
        rotate_left
        · (intro wq hSw; go_simp; try with_reducible rfl)
        try simp only [Act.put, List.setIfInBounds_toArray, List.set_cons_zero, List.set_cons_succ]
        refine anyE_ready (i := 13) (o := ⟨none, _, _, _, _, _⟩) (by kernel_rfl) rfl (fun KK hK => ?_)
        have hs9 := H16.out
        have s1 := hs9.cell (i := 1) rfl
        have z1 := hs9.frozen 1
        clear hs9
        go_simp
        have hks := (Kept.refl (fun k => k = r16) w7).setCell (a := ⟨r16, 1, none⟩) (fun _ => rfl) (.slice (some ⟨g4, 0, none⟩) j1 cap4)
        have HO7 := Lib.hid (own_kept HOx.out hks (fun k hk h => by have h1 := (HOx.out.lt k hk).1; have h2 := HZ16.out; have h3 : k = r16 := h; omega))
        replace H16 := Lib.hid (show Blk (w7.setCell ⟨r16, 1, none⟩ (.slice (some ⟨g4, 0, none⟩) j1 cap4)) r16 31 [.int .i64 (lv : Int), .slice (some ⟨g4, 0, none⟩) j1 cap4, .string ⟨#[]⟩, .bool la, .int .u64 0] from H16.out.set 1 _)
        have HW7 := Lib.hid (((HW.out.mono (T := fun k => k = r16 ∨ W6.heap.size ≤ k) (fun k h => .inr (HO.out.lt k h).1))).trans hks (fun k hk h => .inl h))
        clear s1 z1 hks HW HOx
        generalize w7.setCell ⟨r16, 1, none⟩ (.slice (some ⟨g4, 0, none⟩) j1 cap4) = V7 at *
        refine hK.out _ _ (fun h => absurd rfl h) (fun _ => ?_)
        clear hK KK hHeld
        try simp only [Act.put, List.setIfInBounds_toArray, List.set_cons_zero, List.set_cons_succ]
        refine anyE_done (by kernel_rfl) ?_ _
        go_wp2
        go_roundw
        case rel => exact ⟨j1, _, by have := HJ1.out; omega, rfl, H16.out, HO7.out, HKV.out.trans HW7.out (fun k hk h => h)⟩
        case measure => have := HJ1.out; simp [intOf]; omega
      · have hjI : ¬ (j : Int) < (nk : Int) := by omega
        obtain rfl : nk = j := by omega
        rename World => V0
        rw [List.take_of_length_le (by rw [HNK.out]; exact Nat.le_refl _)] at HO
        obtain ⟨A0, c0, rfl, hlS, hRS, hAS⟩ := Rs.own HO.out
        have HRS := Lib.hid hRS
        have HAS := Lib.hid (show ∀ a, A0 = some a → W6.heap.size ≤ a.block from hAS)
        have hkv := HKV.out
        replace HM := Lib.hid (HM.out.kept hkv (by have h2 := HS6.out; have h3 := HZ16.out; intro h; rcases h with h | h <;> omega) (by have h2 := HS6.out; have h3 := HZ16.out; intro h; rcases h with h | h <;> omega))
        replace H12 := Lib.hid (hkv.blk H12.out (by have h2 := HS6.out; have h3 := HZ16.out; intro h; rcases h with h | h <;> omega))
        replace H14 := Lib.hid (hkv.blk H14.out (by have h2 := HS6.out; have h3 := HZ16.out; intro h; rcases h with h | h <;> omega))
        have HAKB := Lib.hid (show ∀ a, A1 = some a → a.block < r16 from fun a ha => by
          obtain ⟨g9, o9, e9, h9, -⟩ := HKR.out (by rw [HNK.out]; omega)
          have h1 := HRK.out g9 o9 e9
          rw [e9] at ha; cases ha; exact h1)
        replace HKR := Lib.hid (HKR.out.kept hkv (fun a ha h => by have h1 := HAKB.out a ha; have h3 := HZ16.out; rcases h with h | h <;> omega))
        replace HK := Lib.hid (HK.out.trans hkv (fun k hk h => by have h1 := HS6.out; have h2 := HZ16.out; rcases h with h | h <;> omega))
        clear hkv hRS hAS hlS HO HKV HI0 HI1 HI2 HI3 HRK HZV1
        have HSZ := Lib.hid (show r12 < r14 ∧ r14 < b ∧ r14 < g ∧ b < r16 ∧ g < r16 ∧ r16 < W6.heap.size ∧ w.heap.size ≤ r12 from by have h1 := HR14.out; have h2 := HBG.out; have h3 := HZ16.out; have h4 := HS6.out; omega)
        clear HR14 HBG HZ16 HS6 HBR0
        obtain ⟨gk, off, rfl, hgk, hkc⟩ := HKR.out (by have := HNK.out; omega)
        obtain ⟨k0, hk0⟩ : ∃ k, ks[0]? = some k := ⟨_, List.getElem?_eq_getElem (by have := HNK.out; omega)⟩
        obtain ⟨n1, hn1⟩ : ∃ n1, nk - 1 = n1 := ⟨_, rfl⟩
        obtain ⟨kl1, hkl1⟩ : ∃ k, ks[n1]? = some k := ⟨_, List.getElem?_eq_getElem (by have := HNK.out; omega)⟩
        have HK0 := Lib.hid hk0
        have HKL := Lib.hid hkl1
        have HN1 := Lib.hid (show n1 + 1 = nk by omega)
        have HGKR := Lib.hid (show gk < r16 from HAKB.out _ rfl)
        have hk0s := HKS.out.1 k0 (List.mem_of_getElem? hk0)
        have hkls := HKS.out.1 kl1 (List.mem_of_getElem? hkl1)
        have HKSZ := Lib.hid (show k0.size ≤ 32 ∧ kl1.size ≤ 32 from ⟨hk0s, hkls⟩)
        clear hgk hkc hk0 hkl1 hn1 hk0s hkls
        obtain ⟨mq, hmq⟩ : ∃ mq : Nat, min key0.size 32 = mq := ⟨_, rfl⟩
        have hmq2 : (min (key0.size : Int) 32) = (mq : Int) := by omega
        have hmq3 : mq ≤ key0.size ∧ mq ≤ 32 := by omega
        clear hmq
        go_upto_region 14 with fail
        have hb9 := H14.out
        have x25 := hb9.cell (i := 25) rfl
        have z25 := hb9.frozen 25
        clear hb9
        go_cut [15] from 69 to 74 (fun v wx => ∃ kk : ByteArray, v = .slice (some ⟨gk, off, none⟩) nk c1 ∧ kk.size ≤ 32 ∧ Blk wx r14 35 (hldv F fb fd b 0 0 0 (.slice none 0 0) ⟨#[]⟩ false 0 kk) ∧ Kept (fun k => k = r14) V0 wx)
        case first =>
          go_wp2
          all_goals (go_meet; exact ⟨_, rfl, (by first | omega | (rw [ByteArray.size_extract]; omega)), H14.out.set 25 _, (Kept.refl (fun k => k = r14) V0).setCell (a := ⟨r14, 25, none⟩) (fun _ => rfl) _⟩)
        case rest =>
          obtain ⟨kk, rfl, hkk, hb14, hK7⟩ := hcut
          rename World => V2
          clear x25 z25 hmq2 hmq3 H14
          have H14 := Lib.hid hb14
          have HKK := Lib.hid hkk
          replace HK := Lib.hid (HK.out.trans hK7 (fun k hk h => by have h1 := HSZ.out; show w.heap.size ≤ k; first | (have h2 : k = _ := h; omega) | (rcases h with h | h <;> omega)))
          replace H12 := Lib.hid (hK7.blk H12.out (fun h => by have h1 := HSZ.out; have h2 : _ := h; first | omega | (rcases h with h | h <;> omega)))
          replace H16 := Lib.hid (hK7.blk H16.out (fun h => by have h1 := HSZ.out; have h2 : _ := h; first | omega | (rcases h with h | h <;> omega)))
          replace HM := Lib.hid (HM.out.kept hK7 (fun h => by have h1 := HSZ.out; have h2 : _ := h; first | omega | (rcases h with h | h <;> omega)) (fun h => by have h1 := HSZ.out; have h2 : _ := h; first | omega | (rcases h with h | h <;> omega)))
          replace HRS := Lib.hid (HRS.out.keptF hK7 (fun a ha h => by have h0 := HAS.out a ha; have h1 := HSZ.out; first | omega | (rcases h with h | h <;> omega)))
          replace HKR := Lib.hid (HKR.out.kept hK7 (fun a ha h => by have h0 := HAKB.out a ha; have h9 := HA1.out a ha; have h1 := HSZ.out; first | omega | (rcases h with h | h <;> omega)))
          clear hb14 hK7 hkk
          have HGL := Lib.hid (show gk < V2.heap.size by have h1 := HGKR.out; have h2 := H16.out.lt; omega)
          have HC0 := Lib.hid (show V2.cell? ⟨gk, off, none⟩ = some (.string k0) from by
            obtain ⟨g9, o9, e9, -, h9⟩ := HKR.out (by have := HNK.out; omega)
            cases e9; exact h9 0 k0 HK0.out)
          have hnk0 : (0 : Int) < (nk : Int) := by omega
          have hnk0N : 0 < nk := by omega
          go_upto_region 15 with fail
          go_cut [85] from 75 to 85 (fun v wx => ∃ e : Bool, v = .bool e ∧ Kept (fun _ => False) V2 wx)
          case first =>
            by_cases hl0 : lv = 0
            · have d0 : ¬ (0 : Int) < (lv : Int) := by omega
              have d1 : decide ((0 : Int) < (lv : Int)) = false := by simp; omega
              clear hl0
              refine qregion (fun w' => Kept (fun _ => False) V2 w') (by kernel_rfl) (by kernel_rfl) (Kept.refl _ _).drew ?_
              refine qstep (o := ⟨some 75, _, _, _, _, _⟩) (v := ?_) (by rfl) (fun wq hSw => ?_) ?_
              rotate_left
              · (go_simp; try with_reducible rfl)
              try simp only [Act.put, List.setIfInBounds_toArray, List.set_cons_zero, List.set_cons_succ]
              refine qstep (o := ⟨some 76, _, _, _, _, _⟩) (v := ?_) (by rfl) (fun wq hSw => ?_) ?_
              rotate_left
              · (have hb9 := hSw.blk H16.out (fun h => h); have p0 := hb9.cell (i := 0) rfl; clear hb9; have hb9 := hSw.blk H14.out (fun h => h); have x25 := hb9.cell (i := 25) rfl; clear hb9; have y0 := (hSw.cell (p := ⟨gk, off, none⟩) HGL.out (fun h => h)).trans HC0.out; go_simp; try with_reducible rfl)
              try simp only [Act.put, List.setIfInBounds_toArray, List.set_cons_zero, List.set_cons_succ]
              refine qstep (o := ⟨some 77, _, _, _, _, _⟩) (v := .bool false) (by rfl) (fun wq hSw => ?_) ?_
              · (go_simp; try first | (with_reducible rfl) | (simp; omega) | (intros; omega) | simp [*])
              try simp only [Act.put, List.setIfInBounds_toArray, List.set_cons_zero, List.set_cons_succ]
              refine qstep (o := ⟨some 78, _, _, _, _, _⟩) (v := .bool false) (by rfl) (fun wq hSw => ?_) ?_
              · (go_simp; try first | (with_reducible rfl) | (simp; omega) | (intros; omega) | simp [*])
              try simp only [Act.put, List.setIfInBounds_toArray, List.set_cons_zero, List.set_cons_succ]
              go_big_quiet_skip
              try simp only [Act.put, List.setIfInBounds_toArray, List.set_cons_zero, List.set_cons_succ]
              go_big_quiet_skip
              try simp only [Act.put, List.setIfInBounds_toArray, List.set_cons_zero, List.set_cons_succ]
              go_big_quiet_skip
              try simp only [Act.put, List.setIfInBounds_toArray, List.set_cons_zero, List.set_cons_succ]
              go_big_quiet_skip
              try simp only [Act.put, List.setIfInBounds_toArray, List.set_cons_zero, List.set_cons_succ]
              go_big_quiet_skip
              try simp only [Act.put, List.setIfInBounds_toArray, List.set_cons_zero, List.set_cons_succ]
              go_big_quiet_skip
              try simp only [Act.put, List.setIfInBounds_toArray, List.set_cons_zero, List.set_cons_succ]
              refine qstep (o := ⟨some 85, _, _, _, _, _⟩) (v := .bool false) (by rfl) (fun wq hSw => ?_) ?_
              · (go_simp; try first | (with_reducible rfl) | (simp; omega) | (intros; omega) | simp [*])
              try simp only [Act.put, List.setIfInBounds_toArray, List.set_cons_zero, List.set_cons_succ]
              refine wpQuiet_nil ?_
              intro wz hHeld
              go_wp2
              go_meet
              exact ⟨_, rfl, hHeld⟩
            · have d0 : (0 : Int) < (lv : Int) := by omega
              have d1 : decide ((0 : Int) < (lv : Int)) = true := by simp; omega
              obtain ⟨lb, hlb⟩ : ∃ lb, Op.bytesLess kk.toList k0.toList = lb := ⟨_, rfl⟩
              refine qregion (fun w' => Kept (fun _ => False) V2 w') (by kernel_rfl) (by kernel_rfl) (Kept.refl _ _).drew ?_
              refine qstep (o := ⟨some 75, _, _, _, _, _⟩) (v := ?_) (by rfl) (fun wq hSw => ?_) ?_
              rotate_left
              · (go_simp; try with_reducible rfl)
              try simp only [Act.put, List.setIfInBounds_toArray, List.set_cons_zero, List.set_cons_succ]
              refine qstep (o := ⟨some 76, _, _, _, _, _⟩) (v := ?_) (by rfl) (fun wq hSw => ?_) ?_
              rotate_left
              · (have hb9 := hSw.blk H16.out (fun h => h); have p0 := hb9.cell (i := 0) rfl; clear hb9; have hb9 := hSw.blk H14.out (fun h => h); have x25 := hb9.cell (i := 25) rfl; clear hb9; have y0 := (hSw.cell (p := ⟨gk, off, none⟩) HGL.out (fun h => h)).trans HC0.out; go_simp; try with_reducible rfl)
              try simp only [Act.put, List.setIfInBounds_toArray, List.set_cons_zero, List.set_cons_succ]
              refine qstep (o := ⟨some 77, _, _, _, _, _⟩) (v := .bool true) (by rfl) (fun wq hSw => ?_) ?_
              · (go_simp; try first | (with_reducible rfl) | (simp; omega) | (intros; omega) | simp [*])
              try simp only [Act.put, List.setIfInBounds_toArray, List.set_cons_zero, List.set_cons_succ]
              refine qstep (o := ⟨some 78, _, _, _, _, _⟩) (v := .bool true) (by rfl) (fun wq hSw => ?_) ?_
              · (go_simp; try first | (with_reducible rfl) | (simp; omega) | (intros; omega) | simp [*])
              try simp only [Act.put, List.setIfInBounds_toArray, List.set_cons_zero, List.set_cons_succ]
              refine qstep (o := ⟨some 79, _, _, _, _, _⟩) (v := ?_) (by rfl) (fun wq hSw => ?_) ?_
              rotate_left
              · (go_simp; try with_reducible rfl)
              try simp only [Act.put, List.setIfInBounds_toArray, List.set_cons_zero, List.set_cons_succ]
              refine qstep (o := ⟨some 80, _, _, _, _, _⟩) (v := ?_) (by rfl) (fun wq hSw => ?_) ?_
              rotate_left
              · (have hb9 := hSw.blk H16.out (fun h => h); have p0 := hb9.cell (i := 0) rfl; clear hb9; have hb9 := hSw.blk H14.out (fun h => h); have x25 := hb9.cell (i := 25) rfl; clear hb9; have y0 := (hSw.cell (p := ⟨gk, off, none⟩) HGL.out (fun h => h)).trans HC0.out; go_simp; try with_reducible rfl)
              try simp only [Act.put, List.setIfInBounds_toArray, List.set_cons_zero, List.set_cons_succ]
              refine qstep (o := ⟨some 81, _, _, _, _, _⟩) (v := ?_) (by rfl) (fun wq hSw => ?_) ?_
              rotate_left
              · (go_simp; try with_reducible rfl)
              try simp only [Act.put, List.setIfInBounds_toArray, List.set_cons_zero, List.set_cons_succ]
              refine qstep (o := ⟨some 82, _, _, _, _, _⟩) (v := ?_) (by rfl) (fun wq hSw => ?_) ?_
              rotate_left
              · (go_simp; try with_reducible rfl)
              try simp only [Act.put, List.setIfInBounds_toArray, List.set_cons_zero, List.set_cons_succ]
              refine qstep (o := ⟨some 83, _, _, _, _, _⟩) (v := ?_) (by rfl) (fun wq hSw => ?_) ?_
              rotate_left
              · (have hb9 := hSw.blk H16.out (fun h => h); have p0 := hb9.cell (i := 0) rfl; clear hb9; have hb9 := hSw.blk H14.out (fun h => h); have x25 := hb9.cell (i := 25) rfl; clear hb9; have y0 := (hSw.cell (p := ⟨gk, off, none⟩) HGL.out (fun h => h)).trans HC0.out; go_simp; try with_reducible rfl)
              try simp only [Act.put, List.setIfInBounds_toArray, List.set_cons_zero, List.set_cons_succ]
              refine qstep (o := ⟨some 84, _, _, _, _, _⟩) (v := .bool lb) (by rfl) (fun wq hSw => ?_) ?_
              · (go_simp; try first | (with_reducible rfl) | (simp; omega) | (intros; omega) | simp [*])
              try simp only [Act.put, List.setIfInBounds_toArray, List.set_cons_zero, List.set_cons_succ]
              refine qstep (o := ⟨some 85, _, _, _, _, _⟩) (v := .bool lb) (by rfl) (fun wq hSw => ?_) ?_
              · (go_simp; try first | (with_reducible rfl) | (simp; omega) | (intros; omega) | simp [*])
              try simp only [Act.put, List.setIfInBounds_toArray, List.set_cons_zero, List.set_cons_succ]
              refine wpQuiet_nil ?_
              intro wz hHeld
              go_wp2
              go_meet
              exact ⟨_, rfl, hHeld⟩
          case rest =>
            obtain ⟨ee, rfl, hK8⟩ := hcut
            rename World => V3
            replace HK := Lib.hid (HK.out.trans hK8 (fun _ _ h => h.elim))
            replace H12 := Lib.hid (hK8.blk H12.out (fun h => h))
            replace H14 := Lib.hid (hK8.blk H14.out (fun h => h))
            replace H16 := Lib.hid (hK8.blk H16.out (fun h => h))
            replace HM := Lib.hid (HM.out.kept hK8 (fun h => h) (fun h => h))
            replace HRS := Lib.hid (HRS.out.keptF hK8 (fun _ _ h => h))
            replace HKR := Lib.hid (HKR.out.kept hK8 (fun _ _ h => h))
            clear HGL HC0 hK8
            have HGL := Lib.hid (show gk < V3.heap.size by have h1 := HGKR.out; have h2 := H16.out.lt; omega)
            have HC0 := Lib.hid (show V3.cell? ⟨gk, off, none⟩ = some (.string k0) from by
              obtain ⟨g9, o9, e9, -, h9⟩ := HKR.out (by have := HNK.out; omega)
              cases e9; exact h9 0 k0 HK0.out)
            go_upto_if 85 with fail
            go_cut [15] from 85 to 92 (fun v wx => ∃ key : ByteArray, v = .slice (some ⟨gk, off, none⟩) nk c1 ∧ key.size ≤ 64 ∧ Blk wx r14 35 (hldv F fb fd b 0 0 0 (.slice none 0 0) ⟨#[]⟩ false 0 key) ∧ Kept (fun k => k = r14) V3 wx)
            case first =>
              cases ee with
              | false =>
                go_wp2
                go_meet
                exact ⟨_, rfl, by have := HKK.out; omega, H14.out, Kept.refl _ _⟩
              | true =>
                go_upto_region 16 with fail
                have hsum : k0.size + kk.size ≤ 64 := by have h1 := HKSZ.out; have h2 := HKK.out; omega
                refine region_E 7 (fun w' => Kept (fun _ => False) V3 w') (by kernel_rfl) ?_ (fun hHeld => ?_)
                · exact (Kept.refl _ _).drew
                have hdr := (Kept.refl (fun k => k = r14) V3).drew
                have HW := Lib.hid hdr
                have H14G := Lib.hid (show Blk V3.drew r14 35 (hldv F fb fd b 0 0 0 (.slice none 0 0) ⟨#[]⟩ false 0 kk) from H14.out)
                clear hdr
                generalize V3.drew = G at *
                refine anyE_take (i := 0) (oi := ⟨some 86, _, _, _, _, _⟩) (v := ?_) rfl (by kernel_rfl) (by kernel_rfl) (by kernel_rfl) (by kernel_rfl) (fun _ _ _ h => h) (Or.inl ⟨by rfl, ?_⟩) hHeld ?_
                rotate_left
                · (intro wq hSw; go_simp; try with_reducible rfl)
                try simp only [Act.put, List.setIfInBounds_toArray, List.set_cons_zero, List.set_cons_succ]
                refine anyE_take (i := 1) (oi := ⟨some 87, _, _, _, _, _⟩) (v := ?_) rfl (by kernel_rfl) (by kernel_rfl) (by kernel_rfl) (by kernel_rfl) (fun _ _ _ h => h) (Or.inl ⟨by rfl, ?_⟩) hHeld ?_
                rotate_left
                · (intro wq hSw; go_simp; try with_reducible rfl)
                try simp only [Act.put, List.setIfInBounds_toArray, List.set_cons_zero, List.set_cons_succ]
                refine anyE_take (i := 2) (oi := ⟨some 88, _, _, _, _, _⟩) (v := ?_) rfl (by kernel_rfl) (by kernel_rfl) (by kernel_rfl) (by kernel_rfl) (fun _ _ _ h => h) (Or.inl ⟨by rfl, ?_⟩) hHeld ?_
                rotate_left
                · (intro wq hSw; have hb9 := hSw.blk H14.out (fun h => h); have x25 := hb9.cell (i := 25) rfl; clear hb9; have y0 := (hSw.cell (p := ⟨gk, off, none⟩) HGL.out (fun h => h)).trans HC0.out; go_simp; try with_reducible rfl)
                try simp only [Act.put, List.setIfInBounds_toArray, List.set_cons_zero, List.set_cons_succ]
                refine anyE_take (i := 3) (oi := ⟨some 89, _, _, _, _, _⟩) (v := ?_) rfl (by kernel_rfl) (by kernel_rfl) (by kernel_rfl) (by kernel_rfl) (fun _ _ _ h => h) (Or.inl ⟨by rfl, ?_⟩) hHeld ?_
                rotate_left
                · (intro wq hSw; go_simp; try with_reducible rfl)
                try simp only [Act.put, List.setIfInBounds_toArray, List.set_cons_zero, List.set_cons_succ]
                refine anyE_take (i := 4) (oi := ⟨some 90, _, _, _, _, _⟩) (v := ?_) rfl (by kernel_rfl) (by kernel_rfl) (by kernel_rfl) (by kernel_rfl) (fun _ _ _ h => h) (Or.inl ⟨by rfl, ?_⟩) hHeld ?_
                rotate_left
                · (intro wq hSw; have hb9 := hSw.blk H14.out (fun h => h); have x25 := hb9.cell (i := 25) rfl; clear hb9; have y0 := (hSw.cell (p := ⟨gk, off, none⟩) HGL.out (fun h => h)).trans HC0.out; go_simp; try with_reducible rfl)
                try simp only [Act.put, List.setIfInBounds_toArray, List.set_cons_zero, List.set_cons_succ]
                refine anyE_take (i := 5) (oi := ⟨some 91, _, _, _, _, _⟩) (v := .string (k0 ++ kk)) rfl (by kernel_rfl) (by kernel_rfl) (by kernel_rfl) (by kernel_rfl) (fun _ _ _ h => h) (Or.inl ⟨by rfl, ?_⟩) hHeld ?_
                · (intro wq hSw; go_simp; try first | (with_reducible rfl) | (simp; omega) | (intros; omega) | simp [*])
                try simp only [Act.put, List.setIfInBounds_toArray, List.set_cons_zero, List.set_cons_succ]
                refine anyE_take (i := 6) (oi := ⟨some 92, _, _, _, _, _⟩) (v := ?_) rfl (by kernel_rfl) (by kernel_rfl) (by kernel_rfl) (by kernel_rfl) (fun _ _ _ h => h) (Or.inl ⟨by rfl, ?_⟩) hHeld ?_
                rotate_left
                · (intro wq hSw; go_simp; try with_reducible rfl)
                try simp only [Act.put, List.setIfInBounds_toArray, List.set_cons_zero, List.set_cons_succ]
                refine anyE_ready (i := 7) (o := ⟨none, _, _, _, _, _⟩) (by kernel_rfl) rfl (fun KK hK => ?_)
                have hs9 := H14G.out
                have s25 := hs9.cell (i := 25) rfl
                have z25 := hs9.frozen 25
                clear hs9
                go_simp
                have hks := (Kept.refl (fun k => k = r14) G).setCell (a := ⟨r14, 25, none⟩) (fun _ => rfl) (.string (k0 ++ kk))
                have hb14 := H14G.out.set 25 (.string (k0 ++ kk))
                have hK7 := HW.out.trans (T := fun k => k = r14) hks (fun k hk h => h)
                clear s25 z25 hks
                generalize G.setCell ⟨r14, 25, none⟩ (.string (k0 ++ kk)) = G2 at *
                refine hK.out _ _ (fun h => absurd rfl h) (fun _ => ?_)
                clear hK KK hHeld
                try simp only [Act.put, List.setIfInBounds_toArray, List.set_cons_zero, List.set_cons_succ]
                refine anyE_done (by kernel_rfl) ?_ _
                go_wp2
                go_meet
                exact ⟨_, rfl, by rw [ByteArray.size_append]; have h1 := HKSZ.out; have h2 := HKK.out; omega, hb14, hK7⟩
            case rest =>
              obtain ⟨key, rfl, hkk, hb14, hK7⟩ := hcut
              rename World => V4
              clear H14 HGL HC0
              have H14 := Lib.hid hb14
              have HKZ := Lib.hid hkk
              replace HK := Lib.hid (HK.out.trans hK7 (fun k hk h => by have h1 := HSZ.out; show w.heap.size ≤ k; first | (have h2 : k = _ := h; omega) | (rcases h with h | h <;> omega)))
              replace H12 := Lib.hid (hK7.blk H12.out (fun h => by have h1 := HSZ.out; have h2 : _ := h; first | omega | (rcases h with h | h <;> omega)))
              replace H16 := Lib.hid (hK7.blk H16.out (fun h => by have h1 := HSZ.out; have h2 : _ := h; first | omega | (rcases h with h | h <;> omega)))
              replace HM := Lib.hid (HM.out.kept hK7 (fun h => by have h1 := HSZ.out; have h2 : _ := h; first | omega | (rcases h with h | h <;> omega)) (fun h => by have h1 := HSZ.out; have h2 : _ := h; first | omega | (rcases h with h | h <;> omega)))
              replace HRS := Lib.hid (HRS.out.keptF hK7 (fun a ha h => by have h0 := HAS.out a ha; have h1 := HSZ.out; first | omega | (rcases h with h | h <;> omega)))
              replace HKR := Lib.hid (HKR.out.kept hK7 (fun a ha h => by have h0 := HAKB.out a ha; have h9 := HA1.out a ha; have h1 := HSZ.out; first | omega | (rcases h with h | h <;> omega)))
              clear hb14 hK7 hkk HKK
              go_upto_if 94 with fail
              go_cut [15] from 94 to 106 (fun v wx => ∃ (hi : ByteArray) (rt : Nat), v = .slice (some ⟨gk, off, none⟩) nk c1 ∧ (la = true → hi = ⟨#[]⟩) ∧ rt ≤ 3 ∧ Blk wx r16 31 [.int .i64 (lv : Int), .slice A0 nk c0, .string hi, .bool la, .int .u64 (rt : Int)] ∧ Kept (fun k => k = r16) V4 wx)
              case first =>
                cases la with
                | true =>
                  go_wp2
                  go_meet
                  exact ⟨_, 0, rfl, fun _ => rfl, by omega, H16.out, Kept.refl _ _⟩
                | false =>
                  have hb9 := H16.out
                  have p4 := hb9.cell (i := 4) rfl
                  have q4 := hb9.frozen 4
                  clear hb9
                  go_upto_region 19 with fail
                  have hks := (Kept.refl (fun k => k = r16) V4).setCell (a := ⟨r16, 4, none⟩) (fun _ => rfl) (.int .u64 3)
                  replace H16 := Lib.hid (show Blk (V4.setCell ⟨r16, 4, none⟩ (.int .u64 3)) r16 31 [.int .i64 (lv : Int), .slice A0 nk c0, .string ⟨#[]⟩, .bool false, .int .u64 3] from H16.out.set 4 _)
                  have HKA := Lib.hid hks
                  replace H14 := Lib.hid (hks.blk H14.out (fun h => by have h1 := HSZ.out; have h2 : _ := h; first | omega | (rcases h with h | h <;> omega)))
                  replace HKR := Lib.hid (HKR.out.kept hks (fun a ha h => by have h0 := HAKB.out a ha; have h9 := HA1.out a ha; have h1 := HSZ.out; first | omega | (rcases h with h | h <;> omega)))
                  clear p4 q4 hks
                  generalize V4.setCell ⟨r16, 4, none⟩ (.int .u64 3) = V5 at *
                  have HGL := Lib.hid (show gk < V5.heap.size by have h1 := HGKR.out; have h2 := H16.out.lt; omega)
                  have HC1 := Lib.hid (show V5.cell? ⟨gk, off + n1, none⟩ = some (.string kl1) from by
                    obtain ⟨g9, o9, e9, -, h9⟩ := HKR.out (by have := HNK.out; omega)
                    cases e9; exact h9 n1 kl1 HKL.out)
                  have hn1w : IntKind.i64.wrap ((nk : Int) - 1) = (n1 : Int) := by have := HN1.out; rw [IntKind.wrap_i64]; omega
                  obtain ⟨mx, hmxs0, hmax⟩ := max_strings Try.prog kl1 key
                  have hmxs : mx.size ≤ 64 := by have h1 := HKSZ.out; have h2 := HKZ.out; omega
                  clear hmxs0
                  have hn1w2 : IntKind.i64.wrap (n1 : Int) = (n1 : Int) := by have := HN1.out; rw [IntKind.wrap_i64]; omega
                  have hn1e : (nk : Int) - 1 = (n1 : Int) := by have := HN1.out; omega
                  have hn1l : (n1 : Int) < (nk : Int) := by have := HN1.out; omega
                  obtain ⟨hi, hhi⟩ : ∃ hi, mx ++ ⟨#[255]⟩ = hi := ⟨_, rfl⟩
                  have h255 : (⟨#[255]⟩ : ByteArray).size = 1 := rfl
                  have hsum : mx.size + 1 ≤ 65 := by omega
                  refine region_E 11 (fun w' => Kept (fun _ => False) V5 w') (by kernel_rfl) ?_ (fun hHeld => ?_)
                  · exact (Kept.refl _ _).drew
                  have hdr := (Kept.refl (fun k => k = r16) V5).drew
                  have HW := Lib.hid hdr
                  have H16G := Lib.hid (show Blk V5.drew r16 31 [.int .i64 (lv : Int), .slice A0 nk c0, .string ⟨#[]⟩, .bool false, .int .u64 3] from H16.out)
                  clear hdr
                  generalize V5.drew = G at *
                  refine anyE_take (i := 0) (oi := ⟨some 96, _, _, _, _, _⟩) (v := ?_) rfl (by kernel_rfl) (by kernel_rfl) (by kernel_rfl) (by kernel_rfl) (fun _ _ _ h => h) (Or.inl ⟨by rfl, ?_⟩) hHeld ?_
                  rotate_left
                  · (intro wq hSw; go_simp; try with_reducible rfl)
                  try simp only [Act.put, List.setIfInBounds_toArray, List.set_cons_zero, List.set_cons_succ]
                  refine anyE_take (i := 1) (oi := ⟨some 97, _, _, _, _, _⟩) (v := ?_) rfl (by kernel_rfl) (by kernel_rfl) (by kernel_rfl) (by kernel_rfl) (fun _ _ _ h => h) (Or.inl ⟨by rfl, ?_⟩) hHeld ?_
                  rotate_left
                  · (intro wq hSw; go_simp; try with_reducible rfl)
                  try simp only [Act.put, List.setIfInBounds_toArray, List.set_cons_zero, List.set_cons_succ]
                  refine anyE_take (i := 2) (oi := ⟨some 98, _, _, _, _, _⟩) (v := ?_) rfl (by kernel_rfl) (by kernel_rfl) (by kernel_rfl) (by kernel_rfl) (fun _ _ _ h => h) (Or.inl ⟨by rfl, ?_⟩) hHeld ?_
                  rotate_left
                  · (intro wq hSw; go_simp; try with_reducible rfl)
                  try simp only [Act.put, List.setIfInBounds_toArray, List.set_cons_zero, List.set_cons_succ]
                  refine anyE_take (i := 3) (oi := ⟨some 99, _, _, _, _, _⟩) (v := .int .i64 (n1 : Int)) rfl (by kernel_rfl) (by kernel_rfl) (by kernel_rfl) (by kernel_rfl) (fun _ _ _ h => h) (Or.inl ⟨by rfl, ?_⟩) hHeld ?_
                  · (intro wq hSw; go_simp; try first | (with_reducible rfl) | (simp; omega) | (intros; omega) | simp [*])
                  try simp only [Act.put, List.setIfInBounds_toArray, List.set_cons_zero, List.set_cons_succ]
                  refine anyE_take (i := 4) (oi := ⟨some 100, _, _, _, _, _⟩) (v := ?_) rfl (by kernel_rfl) (by kernel_rfl) (by kernel_rfl) (by kernel_rfl) (fun _ _ _ h => h) (Or.inl ⟨by rfl, ?_⟩) hHeld ?_
                  rotate_left
                  · (intro wq hSw; go_simp; try with_reducible rfl)
                  try simp only [Act.put, List.setIfInBounds_toArray, List.set_cons_zero, List.set_cons_succ]
                  refine anyE_take (i := 5) (oi := ⟨some 101, _, _, _, _, _⟩) (v := ?_) rfl (by kernel_rfl) (by kernel_rfl) (by kernel_rfl) (by kernel_rfl) (fun _ _ _ h => h) (Or.inl ⟨by rfl, ?_⟩) hHeld ?_
                  rotate_left
                  · (intro wq hSw; have hb9 := hSw.blk H14.out (fun h => h); have x25 := hb9.cell (i := 25) rfl; clear hb9; have y0 := (hSw.cell (p := ⟨gk, off + n1, none⟩) HGL.out (fun h => h)).trans HC1.out; go_simp; try with_reducible rfl)
                  try simp only [Act.put, List.setIfInBounds_toArray, List.set_cons_zero, List.set_cons_succ]
                  refine anyE_take (i := 6) (oi := ⟨some 102, _, _, _, _, _⟩) (v := ?_) rfl (by kernel_rfl) (by kernel_rfl) (by kernel_rfl) (by kernel_rfl) (fun _ _ _ h => h) (Or.inl ⟨by rfl, ?_⟩) hHeld ?_
                  rotate_left
                  · (intro wq hSw; go_simp; try with_reducible rfl)
                  try simp only [Act.put, List.setIfInBounds_toArray, List.set_cons_zero, List.set_cons_succ]
                  refine anyE_take (i := 7) (oi := ⟨some 103, _, _, _, _, _⟩) (v := ?_) rfl (by kernel_rfl) (by kernel_rfl) (by kernel_rfl) (by kernel_rfl) (fun _ _ _ h => h) (Or.inl ⟨by rfl, ?_⟩) hHeld ?_
                  rotate_left
                  · (intro wq hSw; have hb9 := hSw.blk H14.out (fun h => h); have x25 := hb9.cell (i := 25) rfl; clear hb9; have y0 := (hSw.cell (p := ⟨gk, off + n1, none⟩) HGL.out (fun h => h)).trans HC1.out; go_simp; try with_reducible rfl)
                  try simp only [Act.put, List.setIfInBounds_toArray, List.set_cons_zero, List.set_cons_succ]
                  refine anyE_take (i := 8) (oi := ⟨some 104, _, _, _, _, _⟩) (v := .string mx) rfl (by kernel_rfl) (by kernel_rfl) (by kernel_rfl) (by kernel_rfl) (fun _ _ _ h => h) (Or.inl ⟨by rfl, ?_⟩) hHeld ?_
                  · (intro wq hSw; go_simp; try first | (with_reducible rfl) | (simp; omega) | (intros; omega) | simp [*])
                  try simp only [Act.put, List.setIfInBounds_toArray, List.set_cons_zero, List.set_cons_succ]
                  refine anyE_take (i := 9) (oi := ⟨some 105, _, _, _, _, _⟩) (v := .string hi) rfl (by kernel_rfl) (by kernel_rfl) (by kernel_rfl) (by kernel_rfl) (fun _ _ _ h => h) (Or.inl ⟨by rfl, ?_⟩) hHeld ?_
                  · (intro wq hSw; go_simp; try first | (with_reducible rfl) | (simp; omega) | (intros; omega) | simp [*])
                  try simp only [Act.put, List.setIfInBounds_toArray, List.set_cons_zero, List.set_cons_succ]
                  refine anyE_take (i := 10) (oi := ⟨some 106, _, _, _, _, _⟩) (v := ?_) rfl (by kernel_rfl) (by kernel_rfl) (by kernel_rfl) (by kernel_rfl) (fun _ _ _ h => h) (Or.inl ⟨by rfl, ?_⟩) hHeld ?_
                  rotate_left
                  · (intro wq hSw; go_simp; try with_reducible rfl)
                  try simp only [Act.put, List.setIfInBounds_toArray, List.set_cons_zero, List.set_cons_succ]
                  refine anyE_ready (i := 11) (o := ⟨none, _, _, _, _, _⟩) (by kernel_rfl) rfl (fun KK hK => ?_)
                  have hs9 := H16G.out
                  have s2 := hs9.cell (i := 2) rfl
                  have z2 := hs9.frozen 2
                  clear hs9
                  go_simp
                  have hks := (Kept.refl (fun k => k = r16) G).setCell (a := ⟨r16, 2, none⟩) (fun _ => rfl) (.string hi)
                  have hb16 := H16G.out.set 2 (.string hi)
                  have hK7 := HW.out.trans (T := fun k => k = r16) hks (fun k hk h => h)
                  clear s2 z2 hks
                  generalize G.setCell ⟨r16, 2, none⟩ (.string hi) = G2 at *
                  refine hK.out _ _ (fun h => absurd rfl h) (fun _ => ?_)
                  clear hK KK hHeld
                  try simp only [Act.put, List.setIfInBounds_toArray, List.set_cons_zero, List.set_cons_succ]
                  refine anyE_done (by kernel_rfl) ?_ _
                  go_wp2
                  go_meet
                  exact ⟨_, 3, rfl, fun h => (by cases h), Nat.le_refl _, hb16, HKA.out.trans hK7 (fun k hk h => h)⟩
              case rest =>
                obtain ⟨hi, rt, rfl, hhi, hrt, hb16, hK7⟩ := hcut
                rename World => V6
                clear H16
                have H16 := Lib.hid hb16
                have HHI := Lib.hid hhi
                have HRT := Lib.hid hrt
                replace HK := Lib.hid (HK.out.trans hK7 (fun k hk h => by have h1 := HSZ.out; show w.heap.size ≤ k; first | (have h2 : k = _ := h; omega) | (rcases h with h | h <;> omega)))
                replace H12 := Lib.hid (hK7.blk H12.out (fun h => by have h1 := HSZ.out; have h2 : _ := h; first | omega | (rcases h with h | h <;> omega)))
                replace H14 := Lib.hid (hK7.blk H14.out (fun h => by have h1 := HSZ.out; have h2 : _ := h; first | omega | (rcases h with h | h <;> omega)))
                replace HM := Lib.hid (HM.out.kept hK7 (fun h => by have h1 := HSZ.out; have h2 : _ := h; first | omega | (rcases h with h | h <;> omega)) (fun h => by have h1 := HSZ.out; have h2 : _ := h; first | omega | (rcases h with h | h <;> omega)))
                replace HRS := Lib.hid (HRS.out.keptF hK7 (fun a ha h => by have h0 := HAS.out a ha; have h1 := HSZ.out; first | omega | (rcases h with h | h <;> omega)))
                clear hb16 hK7 hhi hrt HKR
                obtain ⟨P, hP⟩ : ∃ P : Pg, P = ⟨lv, hi, la, rt, slotsE ks⟩ := ⟨_, rfl⟩
                have HPE := Lib.hid hP
                have HPG := Lib.hid (show HPg F P from by
                  have hl := slotsE_length ks
                  have hn := HNK.out
                  subst hP
                  exact ⟨slotsE_asc HKS.out.2, by show 1 ≤ (slotsE ks).length; omega, by show (slotsE ks).length ≤ F; omega, hlv2, fun x hx => by
                    obtain ⟨i, hi⟩ := List.getElem?_of_mem hx
                    exact HKS.out.1 x.1 (List.mem_of_getElem? (slotsE_at hi).1), fun x hx => by
                    obtain ⟨i, hi⟩ := List.getElem?_of_mem hx
                    have h1 := (slotsE_at hi).2
                    have h2 := (List.getElem?_eq_some_iff.1 hi).1
                    show x.2 < 1000
                    rw [h1]
                    have : (slotsE ks).length ≤ 6 := by omega
                    have h3 : i < (slotsE ks).length := h2
                    omega, HRT.out, HHI.out⟩)
                have HPF := Lib.hid (show P.lv = lv ∧ P.hi = hi ∧ P.la = la ∧ P.rt = rt ∧ P.xs = slotsE ks ∧ P.xs.length = nk from by subst hP; exact ⟨rfl, rfl, rfl, rfl, rfl, (slotsE_length ks).trans HNK.out⟩)
                replace HRS := Lib.hid (show Rs V6 A0 c0 P.xs by rw [HPF.out.2.2.2.2.1]; exact HRS.out)
                replace H16 := Lib.hid (show Blk V6 r16 31 [.int .i64 (P.lv : Int), .slice A0 P.xs.length c0, .string P.hi, .bool P.la, .int .u64 (P.rt : Int)] by rw [HPF.out.2.2.2.2.2, HPF.out.1, HPF.out.2.1, HPF.out.2.2.1, HPF.out.2.2.2.1]; exact H16.out)
                clear hP HHI HRT HKS
                go_upto_region 20 with fail
                have hb9 := H14.out
                have x0 := hb9.cell (i := 0) rfl
                have x1 := hb9.cell (i := 1) rfl
                have x2 := hb9.cell (i := 2) rfl
                have x3 := hb9.cell (i := 3) rfl
                have x4 := hb9.cell (i := 4) rfl
                have x5 := hb9.cell (i := 5) rfl
                have x6 := hb9.cell (i := 6) rfl
                have x17 := hb9.cell (i := 17) rfl
                clear hb9
                have hb9 := H16.out
                have p0 := hb9.cell (i := 0) rfl
                have p1 := hb9.cell (i := 1) rfl
                have p2 := hb9.cell (i := 2) rfl
                have p3 := hb9.cell (i := 3) rfl
                have p4 := hb9.cell (i := 4) rfl
                clear hb9
                go_wp2_with fail
                refine (kput_toT F 2 h4 h6 (by omega) (by omega) P.lv A0 c0 P.hi P.la P.rt P.xs P.xs.length rfl HPG.out.wf HPG.out.len (by have := HPG.out.lv; omega) b g l 0 _ HM.out HRS.out (fun a ha h => by have h1 := HAS.out a ha; have h3 := HSZ.out; rcases h with h | h <;> omega)).mono ?_; rintro e V7 ⟨rfl, hM2, hK2⟩
                replace HM := Lib.hid hM2
                replace HK := Lib.hid (HK.out.trans hK2 (fun k hk h => by have h1 := HSZ.out; show w.heap.size ≤ k; first | (have h2 : k = _ := h; omega) | (rcases h with h | h <;> omega)))
                replace H12 := Lib.hid (hK2.blk H12.out (fun h => by have h1 := HSZ.out; have h2 : _ := h; first | omega | (rcases h with h | h <;> omega)))
                replace H14 := Lib.hid (hK2.blk H14.out (fun h => by have h1 := HSZ.out; have h2 : _ := h; first | omega | (rcases h with h | h <;> omega)))
                replace H16 := Lib.hid (hK2.blk H16.out (fun h => by have h1 := HSZ.out; have h2 : _ := h; first | omega | (rcases h with h | h <;> omega)))
                replace HRS := Lib.hid (HRS.out.keptF hK2 (fun a ha h => by have h0 := HAS.out a ha; have h1 := HSZ.out; first | omega | (rcases h with h | h <;> omega)))
                clear hM2 hK2 x0 x1 x2 x3 x4 x5 x6 x17 p0 p1 p2 p3 p4
                go_upto_region 21 with fail
                refine region_E 4 (fun w' => Kept (fun _ => False) V7 w') (by kernel_rfl) ?_ (fun hHeld => ?_)
                · exact (Kept.refl _ _).drew
                have HW := Lib.hid ((Kept.refl (fun _ => False) V7).drew)
                have H14G := Lib.hid (show Blk V7.drew r14 35 (hldv F fb fd b 0 0 0 (.slice none 0 0) ⟨#[]⟩ false 0 key) from H14.out)
                generalize V7.drew = G at *
                refine anyE_take (i := 1) (oi := ⟨some 114, _, _, _, _, _⟩) (v := ?_) rfl (by kernel_rfl) (by kernel_rfl) (by kernel_rfl) (by kernel_rfl) (fun _ _ _ h => h) (Or.inl ⟨by rfl, ?_⟩) hHeld ?_
                rotate_left
                · (intro wq hSw; have hb9 := hSw.blk H16.out (fun h => h); have p0 := hb9.cell (i := 0) rfl; have p1 := hb9.cell (i := 1) rfl; have p2 := hb9.cell (i := 2) rfl; have p3 := hb9.cell (i := 3) rfl; have p4 := hb9.cell (i := 4) rfl; clear hb9; go_simp; try with_reducible rfl)
                try simp only [Act.put, List.setIfInBounds_toArray, List.set_cons_zero, List.set_cons_succ]
                refine anyE_ready (i := 0) (o := ⟨some 113, _, _, _, _, _⟩) (by kernel_rfl) rfl (fun KK hK => ?_)
                go_simp
                go_at_call 18
                refine (lock_of 40 41 (by decide) (by decide) _).mono ?_; rintro e G1 ⟨rfl, rfl⟩
                refine hK.out _ _ (fun _ => ?_) (fun hHeld2 => ?_)
                · exact HW.out
                clear hK KK hHeld
                have hHeld := hHeld2 (by decide)
                clear hHeld2
                try simp only [Act.put, List.setIfInBounds_toArray, List.set_cons_zero, List.set_cons_succ]
                refine anyE_take (i := 2) (oi := ⟨some 115, _, _, _, _, _⟩) (v := ?_) rfl (by kernel_rfl) (by kernel_rfl) (by kernel_rfl) (by kernel_rfl) (fun _ _ _ h => h) (Or.inl ⟨by rfl, ?_⟩) hHeld ?_
                rotate_left
                · (intro wq hSw; go_simp; try with_reducible rfl)
                try simp only [Act.put, List.setIfInBounds_toArray, List.set_cons_zero, List.set_cons_succ]
                refine anyE_take (i := 3) (oi := ⟨some 116, _, _, _, _, _⟩) (v := ?_) rfl (by kernel_rfl) (by kernel_rfl) (by kernel_rfl) (by kernel_rfl) (fun _ _ _ h => h) (Or.inl ⟨by rfl, ?_⟩) hHeld ?_
                rotate_left
                · (intro wq hSw; go_simp; try with_reducible rfl)
                try simp only [Act.put, List.setIfInBounds_toArray, List.set_cons_zero, List.set_cons_succ]
                refine anyE_ready (i := 4) (o := ⟨none, _, _, _, _, _⟩) (by kernel_rfl) rfl (fun KK hK => ?_)
                have hs9 := H14G.out
                have s18 := hs9.cell (i := 18) rfl; have z18 := hs9.frozen 18
                have s19 := hs9.cell (i := 19) rfl; have z19 := hs9.frozen 19
                have s20 := hs9.cell (i := 20) rfl; have z20 := hs9.frozen 20
                have s21 := hs9.cell (i := 21) rfl; have z21 := hs9.frozen 21
                have s22 := hs9.cell (i := 22) rfl; have z22 := hs9.frozen 22
                have s23 := hs9.cell (i := 23) rfl; have z23 := hs9.frozen 23
                have s24 := hs9.cell (i := 24) rfl; have z24 := hs9.frozen 24
                clear hs9
                go_simp
                have hks := ((((((((Kept.refl (fun k => k = r14) G)).setCell (a := ⟨r14, 18, none⟩) (fun _ => rfl) (.int .u64 2)).setCell (a := ⟨r14, 19, none⟩) (fun _ => rfl) (.int .u64 41)).setCell (a := ⟨r14, 20, none⟩) (fun _ => rfl) (.int .i64 (P.lv : Int))).setCell (a := ⟨r14, 21, none⟩) (fun _ => rfl) (.slice A0 P.xs.length c0)).setCell (a := ⟨r14, 22, none⟩) (fun _ => rfl) (.string P.hi)).setCell (a := ⟨r14, 23, none⟩) (fun _ => rfl) (.bool P.la)).setCell (a := ⟨r14, 24, none⟩) (fun _ => rfl) (.int .u64 (P.rt : Int))
                have hb14 := (((((((H14G.out).set 18 (.int .u64 2)).set 19 (.int .u64 41)).set 20 (.int .i64 (P.lv : Int))).set 21 (.slice A0 P.xs.length c0)).set 22 (.string P.hi)).set 23 (.bool P.la)).set 24 (.int .u64 (P.rt : Int))
                have hK7 := (HW.out.mono (T := fun k => k = r14) (fun _ h => h.elim)).trans (T := fun k => k = r14) hks (fun k hk h => h)
                clear s18 z18 s19 z19 s20 z20 s21 z21 s22 z22 s23 z23 s24 z24 hks
                generalize (((((((G).setCell ⟨r14, 18, none⟩ (.int .u64 2)).setCell ⟨r14, 19, none⟩ (.int .u64 41)).setCell ⟨r14, 20, none⟩ (.int .i64 (P.lv : Int))).setCell ⟨r14, 21, none⟩ (.slice A0 P.xs.length c0)).setCell ⟨r14, 22, none⟩ (.string P.hi)).setCell ⟨r14, 23, none⟩ (.bool P.la)).setCell ⟨r14, 24, none⟩ (.int .u64 (P.rt : Int)) = G2 at *
                refine hK.out _ _ (fun h => absurd rfl h) (fun _ => ?_)
                clear hK KK hHeld
                try simp only [Act.put, List.setIfInBounds_toArray, List.set_cons_zero, List.set_cons_succ]
                refine anyE_done (by kernel_rfl) ?_ _
                replace HK := Lib.hid (HK.out.trans hK7 (fun k hk h => by have h1 := HSZ.out; show w.heap.size ≤ k; first | (have h2 : k = _ := h; omega) | (rcases h with h | h <;> omega)))
                replace H12 := Lib.hid (hK7.blk H12.out (fun h => by have h1 := HSZ.out; have h2 : _ := h; first | omega | (rcases h with h | h <;> omega)))
                replace H16 := Lib.hid (hK7.blk H16.out (fun h => by have h1 := HSZ.out; have h2 : _ := h; first | omega | (rcases h with h | h <;> omega)))
                replace HM := Lib.hid (HM.out.kept hK7 (fun h => by have h1 := HSZ.out; have h2 : _ := h; first | omega | (rcases h with h | h <;> omega)) (fun h => by have h1 := HSZ.out; have h2 : _ := h; first | omega | (rcases h with h | h <;> omega)))
                replace HRS := Lib.hid (HRS.out.keptF hK7 (fun a ha h => by have h0 := HAS.out a ha; have h1 := HSZ.out; first | omega | (rcases h with h | h <;> omega)))
                clear H14 H14G HW hK7
                try clear hHeld
                rename World => V8
                have H14 := Lib.hid (show Blk V8 r14 35 (hldv F fb fd b 2 41 (P.lv : Int) (.slice A0 P.xs.length c0) P.hi P.la (P.rt : Int) key) from hb14)
                clear hb14
                go_upto_region 22 with fail
                refine region_E 9 (fun w' => Kept (fun _ => False) V8 w') (by kernel_rfl) ?_ (fun hHeld => ?_)
                · exact (Kept.refl _ _).drew
                have HW := Lib.hid ((Kept.refl (fun _ => False) V8).drew)
                generalize V8.drew = G at *
                refine anyU_take (i := 0) (oi := ⟨some 117, _, _, _, _, _⟩) (v := ?_) rfl (by kernel_rfl) (by kernel_rfl) (by kernel_rfl) 10 (by kernel_rfl) (by kernel_rfl) (fun _ _ _ h => h) (Or.inl ⟨by rfl, ?_⟩) hHeld ?_
                rotate_left
                · (intro wq hSw; go_simp; try with_reducible rfl)
                try simp only [Act.put, List.setIfInBounds_toArray, List.set_cons_zero, List.set_cons_succ]
                refine anyU_take (i := 1) (oi := ⟨some 118, _, _, _, _, _⟩) (v := ?_) rfl (by kernel_rfl) (by kernel_rfl) (by kernel_rfl) 10 (by kernel_rfl) (by kernel_rfl) (fun _ _ _ h => h) (Or.inl ⟨by rfl, ?_⟩) hHeld ?_
                rotate_left
                · (intro wq hSw; have hb9 := hSw.blk H14.out (fun h => h); have x0 := hb9.cell (i := 0) rfl; have x1 := hb9.cell (i := 1) rfl; have x2 := hb9.cell (i := 2) rfl; have x3 := hb9.cell (i := 3) rfl; have x4 := hb9.cell (i := 4) rfl; have x5 := hb9.cell (i := 5) rfl; have x6 := hb9.cell (i := 6) rfl; have x17 := hb9.cell (i := 17) rfl; have x19 := hb9.cell (i := 19) rfl; clear hb9; go_simp; try with_reducible rfl)
                try simp only [Act.put, List.setIfInBounds_toArray, List.set_cons_zero, List.set_cons_succ]
                refine anyU_take (i := 2) (oi := ⟨some 119, _, _, _, _, _⟩) (v := ?_) rfl (by kernel_rfl) (by kernel_rfl) (by kernel_rfl) 10 (by kernel_rfl) (by kernel_rfl) (fun _ _ _ h => h) (Or.inl ⟨by rfl, ?_⟩) hHeld ?_
                rotate_left
                · (intro wq hSw; go_simp; try with_reducible rfl)
                try simp only [Act.put, List.setIfInBounds_toArray, List.set_cons_zero, List.set_cons_succ]
                refine anyU_take (i := 3) (oi := ⟨some 120, _, _, _, _, _⟩) (v := ?_) rfl (by kernel_rfl) (by kernel_rfl) (by kernel_rfl) 10 (by kernel_rfl) (by kernel_rfl) (fun _ _ _ h => h) (Or.inl ⟨by rfl, ?_⟩) hHeld ?_
                rotate_left
                · (intro wq hSw; have hb9 := hSw.blk H14.out (fun h => h); have x0 := hb9.cell (i := 0) rfl; have x1 := hb9.cell (i := 1) rfl; have x2 := hb9.cell (i := 2) rfl; have x3 := hb9.cell (i := 3) rfl; have x4 := hb9.cell (i := 4) rfl; have x5 := hb9.cell (i := 5) rfl; have x6 := hb9.cell (i := 6) rfl; have x17 := hb9.cell (i := 17) rfl; have x19 := hb9.cell (i := 19) rfl; clear hb9; go_simp; try with_reducible rfl)
                try simp only [Act.put, List.setIfInBounds_toArray, List.set_cons_zero, List.set_cons_succ]
                refine anyU_take (i := 5) (oi := ⟨some 122, _, _, _, _, _⟩) (v := ?_) rfl (by kernel_rfl) (by kernel_rfl) (by kernel_rfl) 10 (by kernel_rfl) (by kernel_rfl) (fun _ _ _ h => h) (Or.inl ⟨by rfl, ?_⟩) hHeld ?_
                rotate_left
                · (intro wq hSw; go_simp; try with_reducible rfl)
                try simp only [Act.put, List.setIfInBounds_toArray, List.set_cons_zero, List.set_cons_succ]
                refine anyU_take (i := 6) (oi := ⟨some 123, _, _, _, _, _⟩) (v := ?_) rfl (by kernel_rfl) (by kernel_rfl) (by kernel_rfl) 10 (by kernel_rfl) (by kernel_rfl) (fun _ _ _ h => h) (Or.inl ⟨by rfl, ?_⟩) hHeld ?_
                rotate_left
                · (intro wq hSw; go_simp; try with_reducible rfl)
                try simp only [Act.put, List.setIfInBounds_toArray, List.set_cons_zero, List.set_cons_succ]
                refine anyU_take (i := 7) (oi := ⟨some 124, _, _, _, _, _⟩) (v := ?_) rfl (by kernel_rfl) (by kernel_rfl) (by kernel_rfl) 10 (by kernel_rfl) (by kernel_rfl) (fun _ _ _ h => h) (Or.inl ⟨by rfl, ?_⟩) hHeld ?_
                rotate_left
                · (intro wq hSw; have hb9 := hSw.blk H14.out (fun h => h); have x0 := hb9.cell (i := 0) rfl; have x1 := hb9.cell (i := 1) rfl; have x2 := hb9.cell (i := 2) rfl; have x3 := hb9.cell (i := 3) rfl; have x4 := hb9.cell (i := 4) rfl; have x5 := hb9.cell (i := 5) rfl; have x6 := hb9.cell (i := 6) rfl; have x17 := hb9.cell (i := 17) rfl; have x19 := hb9.cell (i := 19) rfl; clear hb9; go_simp; try with_reducible rfl)
                try simp only [Act.put, List.setIfInBounds_toArray, List.set_cons_zero, List.set_cons_succ]
                refine anyU_take (i := 8) (oi := ⟨some 125, _, _, _, _, _⟩) (v := ?_) rfl (by kernel_rfl) (by kernel_rfl) (by kernel_rfl) 10 (by kernel_rfl) (by kernel_rfl) (fun _ _ _ h => h) (Or.inl ⟨by rfl, ?_⟩) hHeld ?_
                rotate_left
                · (intro wq hSw; go_simp; try with_reducible rfl)
                try simp only [Act.put, List.setIfInBounds_toArray, List.set_cons_zero, List.set_cons_succ]
                refine anyE_ready (i := 4) (o := ⟨some 121, _, _, _, _, _⟩) (by kernel_rfl) rfl (fun KK hK => ?_)
                go_simp
                go_at_call 24
                refine (ref_toT F 2 0 h4 h6 (by omega) (nlaT F 2) rfl _).mono ?_; rintro e G1 ⟨rfl, hK⟩
                replace HW := Lib.hid (HW.out.trans hK (fun _ _ h => h))
                clear hK
                refine hK.out _ _ (fun _ => ?_) (fun hHeld2 => ?_)
                · exact HW.out
                clear hK KK hHeld
                have hHeld := hHeld2 (by decide)
                clear hHeld2
                try simp only [Act.put, List.setIfInBounds_toArray, List.set_cons_zero, List.set_cons_succ]
                refine anyE_ready (i := 9) (o := ⟨some 126, _, _, _, _, _⟩) (by kernel_rfl) rfl (fun KK hK => ?_)
                go_simp
                go_at_call 30
                refine (poke_any b g _ 0 (nlaT F 2) 41 0 ⟨#[]⟩ _ (HM.out.kept HW.out (fun h => h) (fun h => h))).mono ?_; rintro e G2 ⟨rfl, hM4, hK4⟩
                refine hK.out _ _ (fun h => absurd rfl h) (fun _ => ?_)
                clear hK KK hHeld
                try simp only [Act.put, List.setIfInBounds_toArray, List.set_cons_zero, List.set_cons_succ]
                refine anyE_done (by kernel_rfl) ?_ _
                have hKx := (HW.out.mono (T := Own b g) (fun _ h => h.elim)).trans hK4 (fun _ _ h => h)
                replace HM := Lib.hid hM4
                replace HK := Lib.hid (HK.out.trans hKx (fun k hk h => by have h1 := HSZ.out; show w.heap.size ≤ k; first | (have h2 : k = _ := h; omega) | (rcases h with h | h <;> omega)))
                replace H12 := Lib.hid (hKx.blk H12.out (fun h => by have h1 := HSZ.out; have h2 : _ := h; first | omega | (rcases h with h | h <;> omega)))
                replace H14 := Lib.hid (hKx.blk H14.out (fun h => by have h1 := HSZ.out; have h2 : _ := h; first | omega | (rcases h with h | h <;> omega)))
                replace H16 := Lib.hid (hKx.blk H16.out (fun h => by have h1 := HSZ.out; have h2 : _ := h; first | omega | (rcases h with h | h <;> omega)))
                replace HRS := Lib.hid (HRS.out.keptF hKx (fun a ha h => by have h0 := HAS.out a ha; have h1 := HSZ.out; first | omega | (rcases h with h | h <;> omega)))
                clear hKx hK4 hM4 HW
                try clear hHeld
                rename World => V9
                obtain ⟨um, hum⟩ : ∃ um : Nat, us % 8 = (um : Int) := ⟨(us % 8).toNat, by omega⟩
                have HUM := Lib.hid hum
                have hNvw : IntKind.u64.wrap (3 + (um : Int)) = (Nv : Int) := by have := HUS.out; have := HNV.out; rw [IntKind.wrap_u64]; omega
                have hNvw2 : IntKind.u64.wrap (Nv : Int) = (Nv : Int) := by have := HNV.out; rw [IntKind.wrap_u64]; omega
                have hNve : 3 + (um : Int) = (Nv : Int) := by have := HUS.out; omega
                have hum8 : um < 8 := by omega
                have humw : IntKind.u64.wrap (um : Int) = (um : Int) := by rw [IntKind.wrap_u64]; omega
                clear hum
                go_upto_region 23 with fail
                refine region_E 7 (fun w' => Kept (fun _ => False) V9 w') (by kernel_rfl) ?_ (fun hHeld => ?_)
                · exact (Kept.refl _ _).drew
                have HW := Lib.hid ((Kept.refl (fun _ => False) V9).drew)
                generalize V9.drew = G at *
                refine anyU_take (i := 0) (oi := ⟨some 127, _, _, _, _, _⟩) (v := ?_) rfl (by kernel_rfl) (by kernel_rfl) (by kernel_rfl) 8 (by kernel_rfl) (by kernel_rfl) (fun _ _ _ h => h) (Or.inl ⟨by rfl, ?_⟩) hHeld ?_
                rotate_left
                · (intro wq hSw; go_simp; try with_reducible rfl)
                try simp only [Act.put, List.setIfInBounds_toArray, List.set_cons_zero, List.set_cons_succ]
                refine anyU_take (i := 1) (oi := ⟨some 128, _, _, _, _, _⟩) (v := ?_) rfl (by kernel_rfl) (by kernel_rfl) (by kernel_rfl) 8 (by kernel_rfl) (by kernel_rfl) (fun _ _ _ h => h) (Or.inl ⟨by rfl, ?_⟩) hHeld ?_
                rotate_left
                · (intro wq hSw; have hb9 := hSw.blk H14.out (fun h => h); have x17 := hb9.cell (i := 17) rfl; clear hb9; go_simp; try with_reducible rfl)
                try simp only [Act.put, List.setIfInBounds_toArray, List.set_cons_zero, List.set_cons_succ]
                refine anyU_take (i := 2) (oi := ⟨some 129, _, _, _, _, _⟩) (v := ?_) rfl (by kernel_rfl) (by kernel_rfl) (by kernel_rfl) 8 (by kernel_rfl) (by kernel_rfl) (fun _ _ _ h => h) (Or.inl ⟨by rfl, ?_⟩) hHeld ?_
                rotate_left
                · (intro wq hSw; go_simp; try with_reducible rfl)
                try simp only [Act.put, List.setIfInBounds_toArray, List.set_cons_zero, List.set_cons_succ]
                refine anyE_ready (i := 3) (o := ⟨some 130, _, _, _, _, _⟩) (by kernel_rfl) rfl (fun KK hK => ?_)
                go_simp
                go_at_call 28
                refine (mod_of us 8 um _ (by omega) (by omega) HUM.out).mono ?_; rintro e G1 ⟨rfl, rfl⟩
                refine hK.out _ _ (fun _ => ?_) (fun hHeld2 => ?_)
                · exact HW.out
                clear hK KK hHeld
                have hHeld := hHeld2 (by decide)
                clear hHeld2
                try simp only [Act.put, List.setIfInBounds_toArray, List.set_cons_zero, List.set_cons_succ]
                refine anyU_take (i := 4) (oi := ⟨some 131, _, _, _, _, _⟩) (v := ?_) rfl (by kernel_rfl) (by kernel_rfl) (by kernel_rfl) 8 (by kernel_rfl) (by kernel_rfl) (fun _ _ _ h => h) (Or.inl ⟨by rfl, ?_⟩) hHeld ?_
                rotate_left
                · (intro wq hSw; go_simp; try with_reducible rfl)
                try simp only [Act.put, List.setIfInBounds_toArray, List.set_cons_zero, List.set_cons_succ]
                refine anyU_take (i := 5) (oi := ⟨some 132, _, _, _, _, _⟩) (v := ?_) rfl (by kernel_rfl) (by kernel_rfl) (by kernel_rfl) 8 (by kernel_rfl) (by kernel_rfl) (fun _ _ _ h => h) (Or.inl ⟨by rfl, ?_⟩) hHeld ?_
                rotate_left
                · (intro wq hSw; go_simp; try with_reducible rfl)
                try simp only [Act.put, List.setIfInBounds_toArray, List.set_cons_zero, List.set_cons_succ]
                refine anyU_take (i := 6) (oi := ⟨some 133, _, _, _, _, _⟩) (v := ?_) rfl (by kernel_rfl) (by kernel_rfl) (by kernel_rfl) 8 (by kernel_rfl) (by kernel_rfl) (fun _ _ _ h => h) (Or.inl ⟨by rfl, ?_⟩) hHeld ?_
                rotate_left
                · (intro wq hSw; go_simp; try with_reducible rfl)
                try simp only [Act.put, List.setIfInBounds_toArray, List.set_cons_zero, List.set_cons_succ]
                refine anyE_ready (i := 7) (o := ⟨some 134, _, _, _, _, _⟩) (by kernel_rfl) rfl (fun KK hK => ?_)
                go_simp
                go_at_call 30
                refine (poke_any b g _ 0 4 (Nv : Int) 0 ⟨#[]⟩ _ (HM.out.kept HW.out (fun h => h) (fun h => h))).mono ?_; rintro e G2 ⟨rfl, hM4, hK4⟩
                refine hK.out _ _ (fun h => absurd rfl h) (fun _ => ?_)
                clear hK KK hHeld
                try simp only [Act.put, List.setIfInBounds_toArray, List.set_cons_zero, List.set_cons_succ]
                refine anyE_done (by kernel_rfl) ?_ _
                have hKx := (HW.out.mono (T := Own b g) (fun _ h => h.elim)).trans hK4 (fun _ _ h => h)
                replace HM := Lib.hid hM4
                replace HK := Lib.hid (HK.out.trans hKx (fun k hk h => by have h1 := HSZ.out; show w.heap.size ≤ k; first | (have h2 : k = _ := h; omega) | (rcases h with h | h <;> omega)))
                replace H12 := Lib.hid (hKx.blk H12.out (fun h => by have h1 := HSZ.out; have h2 : _ := h; first | omega | (rcases h with h | h <;> omega)))
                replace H14 := Lib.hid (hKx.blk H14.out (fun h => by have h1 := HSZ.out; have h2 : _ := h; first | omega | (rcases h with h | h <;> omega)))
                replace H16 := Lib.hid (hKx.blk H16.out (fun h => by have h1 := HSZ.out; have h2 : _ := h; first | omega | (rcases h with h | h <;> omega)))
                replace HRS := Lib.hid (HRS.out.keptF hKx (fun a ha h => by have h0 := HAS.out a ha; have h1 := HSZ.out; first | omega | (rcases h with h | h <;> omega)))
                clear hKx hK4 hM4 HW
                try clear hHeld
                rename World => VA
                clear hNvw hNvw2 hNve hum8 humw HUM
                go_upto_region 24 with fail
                have hb9 := H14.out
                have x25 := hb9.cell (i := 25) rfl
                clear hb9
                have hb9 := H16.out
                have p0 := hb9.cell (i := 0) rfl
                have p1 := hb9.cell (i := 1) rfl
                have p2 := hb9.cell (i := 2) rfl
                have p3 := hb9.cell (i := 3) rfl
                have p4 := hb9.cell (i := 4) rfl
                clear hb9
                go_wp2_with fail
                refine (refFind_any (P.lv : Int) A0 c0 P.hi P.la P.rt P.xs key _ P.xs.length rfl (by have := HPG.out.len; omega) HRS.out).mono ?_; rintro e VB ⟨rfl, hB9⟩
                have hK9 := Below.kept hB9 (S := fun _ => False) (fun i hi h => by omega)
                replace HK := Lib.hid (HK.out.trans hK9 (fun _ _ h => h.elim))
                replace H12 := Lib.hid (hK9.blk H12.out (fun h => h))
                replace H14 := Lib.hid (hK9.blk H14.out (fun h => h))
                replace H16 := Lib.hid (hK9.blk H16.out (fun h => h))
                replace HM := Lib.hid (HM.out.kept hK9 (fun h => h) (fun h => h))
                replace HRS := Lib.hid (HRS.out.keptF hK9 (fun _ _ h => h))
                clear hB9 hK9 x25 p0 p1 p2 p3 p4
                go_upto_region 25 with fail
                have hu := Try.underlying35
                have h14z := H14.out
                have h12z := H12.out
                have hK12 := (Kept.refl (fun k => k = r12) VB).row (g := r12) (fun _ => rfl) ⟨(hldv F fb fd b 2 41 (P.lv : Int) (.slice A0 P.xs.length c0) P.hi P.la (P.rt : Int) key)⟩
                have hb12 := h12z.row (hldv F fb fd b 2 41 (P.lv : Int) (.slice A0 P.xs.length c0) P.hi P.la (P.rt : Int) key)
                go_wp2_with (first | (refine wpList_load_row rfl 35 (.tmp 14) rfl r14 rfl 35 ⟨(hldv F fb fd b 2 41 (P.lv : Int) (.slice A0 P.xs.length c0) P.hi P.la (P.rt : Int) key)⟩ (0, 0) _ h14z hu rfl infoHld ?_) | (refine wpList_store_row rfl 35 (.tmp 12) (.tmp 142) rfl r12 ⟨(hldv F fb fd b 2 41 (P.lv : Int) (.slice A0 P.xs.length c0) P.hi P.la (P.rt : Int) key)⟩ rfl rfl 35 ⟨[.int .i64 0, .int .i64 0, .int .i64 0, .int .i64 0, .int .i64 0, .int .i64 0, .int .u64 0, .int .i64 0, .int .i64 0, .int .i64 0, .int .i64 0, .int .i64 0, .int .i64 0, .int .u64 0, .int .i64 0, .int .i64 0, .int .i64 0, .pointer none, .int .u64 0, .int .u64 0, .int .i64 0, .slice none 0 0, .string ⟨#[]⟩, .bool false, .int .u64 0, .string ⟨#[]⟩]⟩ h12z infoHld rfl (by simp [hldv, Value.oneCell']) ?_))
                generalize VB.setRow r12 ⟨(hldv F fb fd b 2 41 (P.lv : Int) (.slice A0 P.xs.length c0) P.hi P.la (P.rt : Int) key)⟩ = VC at *
                have hld := run_loadVar_row (P := Try.prog) VC r12 35 35 ⟨(hldv F fb fd b 2 41 (P.lv : Int) (.slice A0 P.xs.length c0) P.hi P.la (P.rt : Int) key)⟩ (0, 0) _ hb12 hu rfl infoHld
                refine bodyPost_ret (v := .tuple #[.agg ⟨(hldv F fb fd b 2 41 (P.lv : Int) (.slice A0 P.xs.length c0) P.hi P.la (P.rt : Int) key)⟩, .bool (!has key P.xs)]) ?_ rfl ?_
                · rw [results_cell_tmp rfl]
                  simp [asAddr, Result.andThen, hld]
                · replace HM := Lib.hid (HM.out.kept hK12 (fun h => by have h1 := HSZ.out; have h2 : b = r12 := h; omega) (fun h => by have h1 := HSZ.out; have h2 : g = r12 := h; omega))
                  replace HRS := Lib.hid (HRS.out.keptF hK12 (fun a ha h => by have h0 := HAS.out a ha; have h1 := HSZ.out; omega))
                  replace HK := Lib.hid (HK.out.trans hK12 (fun k hk h => by have h1 := HSZ.out; show w.heap.size ≤ k; have h2 : k = r12 := h; omega))
                  have hM9 := HM.out
                  rw [HL.out] at hM9
                  exact ⟨b, g, fb, fd, P, A0, c0, key, rfl, hM9, HPG.out, by have := HKZ.out; omega, HRS.out, fun a ha => by have h0 := HAS.out a ha; have h1 := HSZ.out; omega, HD.out, by have h1 := HSZ.out; omega, by have h1 := HSZ.out; omega, HK.out⟩

end Go.Proofs.Ythpaolhpkmgelaa
