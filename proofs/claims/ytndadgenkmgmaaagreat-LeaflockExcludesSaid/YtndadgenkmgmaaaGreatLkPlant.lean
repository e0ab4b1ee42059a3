/-
  What the kit's Plant, View and Height answer. Condition: the kit's small configurations.
-/
import Derived.Test.YtndadgenkmgmaaaGreatLkView
import Derived.Test.YtndadgenkmgmaaaGreatLkTree
import Derived.Test.YtndadgenkmgmaaaGreatLkPage
namespace Go.Proofs.YtndadgenkmgmaaaGreat
section
open Go.RowKit Go.Deep Plain
set_option linter.unusedVariables false

theorem poke_to (b g : Nat) (l : List Cel) (k : Nat) (i N : Int) (nN : Nat) (M : Int) (K : ByteArray) (w : World) (hN : N = (nN : Int)) (h : Mem w b g l k) :
    Calls Tryz.prog 27 #[.pointer (some ⟨b, 0, none⟩), .int .i64 i, .agg #[.int .u64 N, .string K, .int .u64 M]] w fun e w' => e = .returned (.tuple #[]) ∧ Mem w' b g (putAt l i ((nN : Int), K, M)) k ∧ Kept (Own b g) w w' := by
  subst hN; exact poke_any b g l k i _ M K w h
section
variable {w : World} {ops : Array Oper} {rest : List Oper} {o : Oper} {a : Act} {Q : Exit → Act → World → Prop}
/-- append(s, x) of a slot that was just laid out: nothing but the row of s changes. -/
theorem wpList_snoc (hgd : o.guard = none) (s x : Operand) (ho : o.op = .call { callee := .builtin .append, args := #[s, x], argTypes := #[44, 44] })
    (base : Nat) (v : Value) (n : Nat) (xs : List Sl) (hs : a.eval s = v) (hown : w.ownsRow base 64 2 v n (flat xs)) (ad : Addr) (k : ByteArray) (r : Nat) (hx : a.eval x = .slice (some ad) 1 1)
    (hR : Rs w (some ad) 1 [(k, r)]) (h40 : n + 1 ≤ 1099511627776) (hbase : base ≤ w.heap.size)
    (h : ∀ v' w', w'.ownsRow base 64 2 v' (n + 1) (flat (xs ++ [(k, r)])) → Kept (fun i => some i = v.ownBlock) w w' → wpList Tryz.prog ops Q rest (a.put o.dst v') w') : wpList Tryz.prog ops Q (o :: rest) a w := by
  obtain ⟨i, hi, hz0, hz1, hz2⟩ := info_parts Tryz.info64
  refine wpList_append_own w hgd s x 44 ho base 64 i _ 2 24 Tryz.underlying44 hi hz0 hz1 hz2 rfl (by decide) v n (flat xs) hs hown ad 1 1 (flat [(k, r)]) hx (by rw [flat_length]; rfl) ?_ (flat_one _) (by unfold maxLen; omega) (by omega) hbase ?_
  · intro j u hu
    obtain ⟨g, off, e, _, hc⟩ := hR.some' (by simp)
    cases e
    rw [Addr.add_lit]; exact hc j u hu
  · intro v' w' hown' hgr _
    refine h v' w' (by rw [flat_append]; exact hown') ?_
    exact (Kept.refl _ w).grown hgr fun k hk _ => hk.symm
end
/-- A slice that reads as these strings. -/
def Kr (w : World) (A : Option Addr) (ks : List ByteArray) : Prop := 0 < ks.length → ∃ g off, A = some ⟨g, off, none⟩ ∧ g < w.heap.size ∧ ∀ (i : Nat) (k : ByteArray), ks[i]? = some k → w.cell? ⟨g, off + i, none⟩ = some (.string k)
theorem Kr.kept {w w' : World} {A : Option Addr} {ks : List ByteArray} {Y : Nat → Prop} (h : Kr w A ks) (hk : Kept Y w w') (hY : ∀ a, A = some a → ¬ Y a.block) : Kr w' A ks := fun hp => by
  obtain ⟨g, off, e, hg, hc⟩ := h hp
  exact ⟨g, off, e, Nat.lt_of_lt_of_le hg hk.size, fun i k hi => (hk.cell (p := ⟨g, off + i, none⟩) hg (show ¬ Y g from hY _ e)).trans (hc i k hi)⟩
set_option linter.unusedVariables false

theorem Rs.keptP {Y : Nat → Prop} {w w' : World} {A : Option Addr} {c : Nat} {xs : List Sl} (h : Rs w A c xs) (hk : Kept Y w w') (hA : 0 < xs.length → ∀ a, A = some a → ¬ Y a.block) : Rs w' A c xs :=
  ⟨h.le, h.max, h.none', fun hp => by
    obtain ⟨g, off, e, hg, hc⟩ := h.some' hp
    exact ⟨g, off, e, Nat.lt_of_lt_of_le hg hk.size, fun j u hu => (hk.cell (p := ⟨g, off + j, none⟩) hg (show ¬ Y g from hA hp _ e)).trans (hc j u hu)⟩⟩
theorem kput_to (F nid : Nat) (h4 : 4 ≤ F) (h6 : F ≤ 6) (hn1 : 1 ≤ nid) (hn2 : nid ≤ 100) (lv : Nat) (A : Option Addr) (c : Nat) (hi : ByteArray) (la : Bool) (rt : Nat) (xs : List Sl) (n : Nat) (hn : xs.length = n) (hw : la = true → hi = ⟨#[]⟩) (hlen : n ≤ F) (hlv : lv < 9223372036854775808) (b g : Nat) (l : List Cel) (k : Nat) (w : World) (hm : Mem w b g l k) (hR : Rs w A c xs) (hA : ∀ a, A = some a → ¬ Own b g a.block) :
    Calls Tryz.prog 26 #[.agg #[.int .i64 1, .int .i64 2, .int .i64 100, .int .i64 100, .int .i64 200, .int .i64 (F : Int), .int .u64 1000], .pointer (some ⟨b, 0, none⟩), .int .u64 (nid : Int), .agg #[.int .i64 (lv : Int), .slice A n c, .string hi, .bool la, .int .u64 (rt : Int)]] w fun e w' => e = .returned (.tuple #[]) ∧ Mem w' b g (app l (pst (nad F nid) (⟨lv, hi, la, rt, xs⟩ : Pg))) k ∧ Kept (Own b g) w w' := by
  subst hn; exact kput_any F nid h4 h6 hn1 hn2 ⟨lv, hi, la, rt, xs⟩ hw hlen hlv A c b g l k w hm hR hA
def slLen : Value → Nat
  | .slice _ n _ => n
  | _ => 0
theorem flat_take_snoc {ks : List ByteArray} {i : Nat} {k : ByteArray} (h : ks[i]? = some k) : flat (slotsOf (ks.take i) ++ [(k, i + 1)]) = flat (slotsOf (ks.take (i + 1))) := by rw [slotsOf_step h]
/-- What Plant leaves: a tree of the keys. -/
def Planted (F : Nat) (ks : List ByteArray) (hide : Bool) (n0 H : Nat) (l2 : List Cel) : Prop :=
  ∃ st mm lo pg off, Tr F l2 H st mm lo pg ∧ Leaves ks (mm 0) (lo 0) (pg 0) off ∧ st 0 = 1 ∧ (hide = false → Full H mm lo pg st) ∧ Nats l2 ∧ l2.length = n0 ∧ Rest F ks.length l2 ∧ (∀ n, 1 ≤ n → n ≤ 100 → cellAt l2 (nla F n) = cel0) ∧ ∀ L', L' < H → ∀ i, i < mm L' → ∀ x ∈ (pg L' i).xs, cov (pg L' i) x.1 = true
/-- What group answers is a division. -/
theorem pt_of {F least n L : Nat} {ps : List Nat} (h : Grp F least n 0 ps) (hn : 0 < n) (hL : 1 ≤ L → least = 2) : Pt F L n ps := by
  have hs := h.sum
  rw [Nat.add_zero] at hs
  refine ⟨?_, hs, fun i p hp => (h.le i p hp).2, fun _ i p hp => (h.le i p hp).1, fun h1 i p hp hi => ?_, fun e => by omega⟩
  · cases ps with
    | nil => simp at hs; omega
    | cons x r => simp
  · rcases h.ge i p hp with h2 | ⟨-, h2⟩
    · rw [hL h1] at h2; exact h2
    · omega
/-- A slice that reads as these numbers; its row lies at base or behind. -/
def Ir (w : World) (A : Option Addr) (base : Nat) (ps : List Nat) : Prop := 0 < ps.length → ∃ g off, A = some ⟨g, off, none⟩ ∧ g < w.heap.size ∧ base ≤ g ∧ ∀ (i p : Nat), ps[i]? = some p → w.cell? ⟨g, off + i, none⟩ = some (.int .i64 (p : Int))
theorem Ir.kept {w w' : World} {A : Option Addr} {base : Nat} {ps : List Nat} {Y : Nat → Prop} (h : Ir w A base ps) (hk : Kept Y w w') (hY : ∀ i, base ≤ i → ¬ Y i) : Ir w' A base ps := fun hp => by
  obtain ⟨g, off, e, hg, hb, hc⟩ := h hp
  exact ⟨g, off, e, Nat.lt_of_lt_of_le hg hk.size, hb, fun i p hi => (hk.cell (p := ⟨g, off + i, none⟩) hg (show ¬ Y g from hY _ hb)).trans (hc i p hi)⟩
theorem ints_read {w : World} {base n : Nat} {v : Value} {ps : List Nat} (h : w.ownsRow base 3 1 v n (ints ps)) : ∃ A c, v = .slice A ps.length c ∧ Ir w A base ps := by
  have hl : ps.length = n := by have := h.1; rw [ints_length] at this; omega
  rcases h.2 with ⟨rfl, rfl⟩ | ⟨g, cap, cur, rfl, hb, hg, hc, hm, rest⟩
  · exact ⟨none, 0, by rw [hl], fun hp => by omega⟩
  · refine ⟨_, cap, by rw [hl], fun _ => ⟨g, 0, rfl, (Array.getElem?_eq_some_iff.1 hg).1, hb, fun i p hi => ?_⟩⟩
    have := World.ownsRow.cells h (g := g) rfl i _ (ints_at hi)
    rw [Addr.add_lit] at this
    exact this
theorem Bt.small {F L nx : Nat} {l : List Cel} {S : List Sl} {ks : List ByteArray} {hide : Bool} {st mm : Nat → Nat} {lo : Nat → Nat → ByteArray} {pg : Nat → Nat → Pg} {off : Nat → Nat} (B : Bt F l L nx S ks hide st mm lo pg off) : S.length ≤ 1000 := by
  rcases Nat.eq_zero_or_pos L with e | e
  · have := (B.base e).2.2.1; omega
  · obtain ⟨L', rfl⟩ : ∃ L', L = L' + 1 := ⟨L - 1, by omega⟩
    have := (B.more L' rfl).2.2.2.1
    unfold cap at this; split at this <;> omega
theorem Bt.nx100 {F L nx : Nat} {l : List Cel} {S : List Sl} {ks : List ByteArray} {hide : Bool} {st mm : Nat → Nat} {lo : Nat → Nat → ByteArray} {pg : Nat → Nat → Pg} {off : Nat → Nat} (B : Bt F l L nx S ks hide st mm lo pg off) : nx ≤ 100 := by
  rcases Nat.eq_zero_or_pos L with e | e
  · have := (B.base e).1; omega
  · obtain ⟨L', rfl⟩ : ∃ L', L = L' + 1 := ⟨L - 1, by omega⟩
    have h1 := (B.more L' rfl).2.2.2.1
    have := cap_pos S.length
    omega
theorem pt_zero (F L : Nat) : Pt F L 0 [0] := ⟨by simp, rfl, fun i p hp => by
  have := (List.getElem?_eq_some_iff.1 hp).1
  simp at this; subst this; simp at hp; omega, fun h => by omega, fun _ i p _ hi => by simp at hi, fun _ => rfl⟩
set_option maxRecDepth 100000 in
set_option maxHeartbeats 8000000 in
theorem plant_any (F : Nat) (h4 : 4 ≤ F) (h6 : F ≤ 6) (b g : Nat) (l : List Cel) (k : Nat) (AK : Option Addr) (n cK : Nat) (ks : List ByteArray) (sh : Int) (hs : 0 ≤ sh) (hide : Bool) (w : World) (hm : Mem w b g l k) (hkr : Kr w AK ks) (hn : ks.length = n) (hk40 : ks.length ≤ 40) (hN : Nats l) (hbig : 10 + 100 * (F : Int) + 400 ≤ (l.length : Int)) (hz : ∀ m, 1 ≤ m → m ≤ 100 → cellAt l (nla F m) = cel0) (has : (∀ k ∈ ks, k.size ≤ 32) ∧ ∀ i a b, ks[i]? = some a → ks[i + 1]? = some b → kl a b = true) (hrz : ∀ i : Int, ((1 ≤ i ∧ i ≤ 3) ∨ (6 ≤ i ∧ i < 10) ∨ 10 + 100 * (F : Int) + 400 ≤ i) → cellAt l i = cel0) :
    Calls Tryz.prog 10 #[.agg #[.int .i64 1, .int .i64 2, .int .i64 100, .int .i64 100, .int .i64 200, .int .i64 (F : Int), .int .u64 1000], .pointer (some ⟨b, 0, none⟩), .slice AK n cK, .int .u64 sh, .bool hide] w fun e w' => ∃ (H : Nat) (l2 : List Cel), e = .returned (.int .i64 (H : Int)) ∧ Mem w' b g l2 k ∧ Planted F ks hide l.length H l2 ∧ Kept (Own b g) w w' := by
  have hbw := hm.obj.lt
  have hgw := hm.row.lt
  have hne := hm.ne
  have HM := Lib.hid hm
  have HKR := Lib.hid hkr
  have HN := Lib.hid hn
  have HNA := Lib.hid hN
  have HZ := Lib.hid hz
  have HAS := Lib.hid has
  have HBIG := Lib.hid hbig
  have HRZ := Lib.hid hrz
  have h40 : n ≤ 40 := hn ▸ hk40
  clear hm hkr hn hk40 hN hz has hbig hrz
  go_enter Tryz.func10, Tryz.ntmps10
  go_wp2
  have hal := (Kept.refl (fun _ => False) w).alloc (.cells #[.int .i64 1, .int .i64 2, .int .i64 100, .int .i64 100, .int .i64 200, .int .i64 (F : Int), .int .u64 1000] 25)
  have HBX := Lib.hid (Blk.new w [.int .i64 1, .int .i64 2, .int .i64 100, .int .i64 100, .int .i64 200, .int .i64 (F : Int), .int .u64 1000] 25)
  have HM0 := Lib.hid (HM.out.alloc (.cells #[.int .i64 1, .int .i64 2, .int .i64 100, .int .i64 100, .int .i64 200, .int .i64 (F : Int), .int .u64 1000] 25))
  have HKR0 := Lib.hid (HKR.out.kept hal (fun _ _ h => h))
  have hsz : (w.alloc (.cells #[.int .i64 1, .int .i64 2, .int .i64 100, .int .i64 100, .int .i64 200, .int .i64 (F : Int), .int .u64 1000] 25)).heap.size = w.heap.size + 1 := nblk_alloc _ _
  have HK0 := Lib.hid hal
  clear hal HM HKR
  generalize w.alloc (.cells #[.int .i64 1, .int .i64 2, .int .i64 100, .int .i64 100, .int .i64 200, .int .i64 (F : Int), .int .u64 1000] 25) = W at *
  generalize hr0 : w.heap.size = r0 at HBX ⊢
  have HR0 := Lib.hid hr0
  have hszl : r0 < W.heap.size := by omega
  have hwl : w.heap.size ≤ r0 := by omega
  clear hsz hr0
  go_loopw [11, 12] (fun v iv wr => ∃ i : Nat, i ≤ n ∧ iv = .int .i64 i ∧ slLen v = i ∧ wr.ownsRow W.heap.size 64 2 v i (flat (slotsOf (ks.take i))) ∧ Below W.heap.size W wr) (fun _ iv _ => n - (intOf iv).toNat)
  case atStart => exact ⟨0, Nat.zero_le _, rfl, rfl, World.ownsRow_nil _ _ _ _, Below.refl _ _⟩
  case round =>
    obtain ⟨i, hi, rfl, hsl, hO, hB⟩ := hrel
    have HO := Lib.hid hO
    have HB := Lib.hid hB
    have hzr := hB.size
    obtain ⟨A0, c0, rfl, -, -, -⟩ := Rs.own hO
    clear hO hB hsl
    by_cases hlt : i < n
    · obtain ⟨gk, off, rfl, hgk, hkc⟩ := HKR0.out (by have := HN.out; omega)
      obtain ⟨ki, hki⟩ : ∃ k, ks[i]? = some k := ⟨_, List.getElem?_eq_getElem (by have := HN.out; omega)⟩
      have hkc1 : wr.cell? ⟨gk, off + i, none⟩ = some (.string ki) := (HB.out.cell (p := ⟨gk, off + i, none⟩) hgk).trans (hkc i ki hki)
      have HKI := Lib.hid hki
      have hwi : IntKind.u64.wrap ((i : Int) + 1) = ((i + 1 : Nat) : Int) := by rw [IntKind.wrap_u64]; omega
      clear hkc hki
      go_wp2_with (at_builtin; go_must (refine wpList_snoc rfl (.tmp 28) (.tmp 37) rfl W.heap.size _ i (slotsOf (ks.take i)) rfl (HO.out.alloc _) ⟨wr.heap.size, 0, none⟩ ki (i + 1) rfl (Rs.one _ ki (i + 1)) (by omega) (by rw [nblk_alloc]; omega) ?_))
      intro v7 w7 hO7 hK7
      obtain ⟨A7, c7, rfl, -, -, -⟩ := Rs.own hO7
      have hB7 : Below W.heap.size wr w7 := ((Below.refl W.heap.size wr).alloc hzr (.cells #[.string ki, .int .u64 ((i + 1 : Nat) : Int)] 64)).trans (hK7.below (by rw [nblk_alloc]; omega) (fun j e => (HO.out.lt j e.symm).1))
      have HB7 := Lib.hid (HB.out.trans hB7)
      have HO7 := Lib.hid (show w7.ownsRow W.heap.size 64 2 (.slice A7 (i + 1) c7) (i + 1) (flat (slotsOf (ks.take (i + 1)))) from by rw [← flat_take_snoc HKI.out]; exact hO7)
      clear hO7 hK7 hB7 HO HB
      go_wp2
      go_roundw
      case rel => exact ⟨i + 1, by omega, by go_num, rfl, HO7.out, HB7.out⟩
      case measure => simp [intOf]; omega
    · obtain rfl : i = n := by omega
      rename World => V0
      rw [List.take_of_length_le (by rw [HN.out]; exact Nat.le_refl _)] at HO
      have HKb := Lib.hid (Below.kept HB.out (S := fun i => W.heap.size ≤ i) (fun i _ h => h))
      have hmm := HM0.out.kept HKb.out (by omega) (by omega)
      have HM1 := Lib.hid hmm
      have HBX1 := Lib.hid (HKb.out.blk HBX.out (by omega))
      have HK1 := Lib.hid (HK0.out.trans HKb.out (fun j hj h => by omega))
      obtain ⟨A, c, he, hlS, hRS, hAS⟩ := Rs.own HO.out
      cases he
      have HRS := Lib.hid hRS
      have AS1 := Lib.hid (show ∀ a, A0 = some a → ¬ Own b g a.block from fun a ha e => by have := hAS a ha; rcases e with e | e <;> omega)
      have hwi : IntKind.u64.wrap (i : Int) = (i : Int) := by rw [IntKind.wrap_u64]; omega
      clear hmm hRS hAS HO HB HKb HM0 HBX HKR0 HK0 hlS
      go_wp2_with fail
      refine (poke_any b g l k 5 (i : Int) 0 ⟨#[]⟩ _ HM1.out).mono ?_; rintro e V1 ⟨rfl, hM2, hK2⟩
      have HM2 := Lib.hid hM2
      have HBX2 := Lib.hid (hK2.blk HBX1.out (fun e => by rcases e with e | e <;> omega))
      have HRS2 := Lib.hid (HRS.out.keptF hK2 AS1.out)
      have HK2 := Lib.hid ((HK1.out.mono (T := Own b g) (fun _ h => h.elim)).trans hK2 (fun _ _ h => h))
      clear hM2 hK2 HM1 HBX1 HRS HK1
      obtain ⟨a1, a2, a3⟩ := Mv.ctrPoke (F := F) (nx := 101) h4 h6 (Nat.le_refl _) l (a := 5) (by omega) ((i : Int), ⟨#[]⟩, 0) ⟨i, 0, _, rfl, by omega, by omega⟩
      have HBT := Lib.hid (Bt.start (F := F) (l := putAt l 5 ((i : Int), ⟨#[]⟩, 0)) (ks := ks) (hide := hide) (a3 HNA.out) (by rw [putAt_length]; exact HBIG.out) (fun m h1 h2 => (a2 m h1 h2).trans (HZ.out m h1 h2)) (by rw [HN.out]; exact h40) HAS.out.2 (by
          rw [HN.out]
          refine ⟨fun j hj => ?_, cellAt_same ⟨by omega, by have := HBIG.out; omega⟩ _⟩
          rw [cellAt_other (by omega)]; exact HRZ.out j hj) (fun _ => 0) (fun _ => 0) (fun _ _ => ⟨#[]⟩) (fun _ _ => pg0) (fun _ => 0))
      clear a1 a2 a3
      go_wp2_with fail
      go_loopw [3, 11, 13, 14] (fun sv v nv lv wr => ∃ (s : Int) (S : List Sl) (L nx : Nat) (lc : List Cel) (st mm : Nat → Nat) (lo : Nat → Nat → ByteArray) (pg : Nat → Nat → Pg) (off : Nat → Nat) (A : Option Addr) (c : Nat), 0 ≤ s ∧ sv = .int .u64 s ∧ v = .slice A S.length c ∧ nv = .int .u64 (nx : Int) ∧ lv = .int .i64 (L : Int) ∧ Bt F lc L nx S ks hide st mm lo pg off ∧ Mem wr b g lc k ∧ lc.length = l.length ∧ Blk wr r0 25 [.int .i64 1, .int .i64 2, .int .i64 100, .int .i64 100, .int .i64 200, .int .i64 (F : Int), .int .u64 1000] ∧ Rs wr A c S ∧ (∀ a, A = some a → ¬ Own b g a.block) ∧ Kept (Own b g) w wr) (fun _ v _ lv _ => slLen v + (if intOf lv = 0 then 1 else 0))
      case atStart => exact ⟨sh, slotsOf ks, 0, 1, _, _, _, _, _, _, A0, c0, hs, rfl, by rw [slotsOf_length, HN.out], rfl, rfl, HBT.out, HM2.out, by rw [putAt_length], HBX2.out, HRS2.out, AS1.out, HK2.out⟩
      case round =>
        rename World => V
        obtain ⟨s, S, L, nx, lc, st, mm, lo, pg, off, A, c, hs0, rfl, rfl, rfl, rfl, hB, hM, hlc, hX, hR, hA, hK⟩ := hrel
        obtain ⟨m, hml⟩ : ∃ m, S.length = m := ⟨_, rfl⟩
        have hm1000 : m ≤ 1000 := by rw [← hml]; exact hB.small
        have hnx := hB.nx1
        have hnx1 : nx ≤ 100 := hB.nx100
        rw [hml]
        have HB := Lib.hid hB
        have HM := Lib.hid hM
        have HLC := Lib.hid hlc
        have HX := Lib.hid hX
        have HR := Lib.hid hR
        have HA := Lib.hid hA
        have HK := Lib.hid hK
        have HML := Lib.hid hml
        clear hB hM hlc hX hR hA hK hml HBT HM2 HBX2 HRS2 HK2
        have hx9 := HX.out
        have x5 := hx9.cell (i := 5) rfl
        clear hx9
        go_upto_region 8 with fail
        go_cut [15] from 45 to 53 (fun v wx => ∃ ps : List Nat, Grp F (min (L + 1) 2) m 0 ps ∧ wx.ownsRow V.heap.size 3 1 v ps.length (ints ps) ∧ Below V.heap.size V wx)
        case first =>
          by_cases hL1 : L ≤ 1
          · have hL2 : (L : Int) + 1 ≤ 2 := by omega
            have hL3 : IntKind.i64.wrap ((L : Int) + 1) = (L : Int) + 1 := by rw [IntKind.wrap_i64]; omega
            go_wp2_with fail
            refine (group_to F (min (L + 1) 2) m ((L : Int) + 1) (by omega) h4 h6 (by omega) (by omega) (by omega) s hs0 _).mono ?_; rintro e wg ⟨v, ps, rfl, hG, hO, hBl⟩
            have HG := Lib.hid hG
            have HO := Lib.hid hO
            have HBl := Lib.hid hBl
            clear hG hO hBl
            go_wp2
            go_meet
            exact ⟨ps, HG.out, HO.out, HBl.out⟩
          · have hL2 : ¬ (L : Int) + 1 ≤ 2 := by omega
            have hL4 : L ≤ 1000 := by omega
            go_wp2_with fail
            refine (group_to F (min (L + 1) 2) m 2 (by omega) h4 h6 (by omega) (by omega) (by omega) s hs0 _).mono ?_; rintro e wg ⟨v, ps, rfl, hG, hO, hBl⟩
            have HG := Lib.hid hG
            have HO := Lib.hid hO
            have HBl := Lib.hid hBl
            clear hG hO hBl
            go_wp2
            go_meet
            exact ⟨ps, HG.out, HO.out, HBl.out⟩
        case rest =>
          obtain ⟨ps, hG, hO, hBl⟩ := hcut
          have hwx := hBl.size
          obtain ⟨A9, c9, hv9, hIr⟩ := ints_read hO
          subst hv9
          have HG := Lib.hid hG
          have HIR := Lib.hid hIr
          have HBl := Lib.hid hBl
          have hpl := hG.len
          clear hG hO hBl hIr x5
          go_upto_if 56 with fail
          go_cut [15] from 57 to 57 (fun v wy => ∃ (qs : List Nat) (A : Option Addr) (c : Nat), Pt F L m qs ∧ qs.length ≤ 1000 ∧ v = .slice A qs.length c ∧ Ir wy A V.heap.size qs ∧ Kept (fun _ => False) V wy)
          case first =>
            by_cases hp0 : ps.length = 0
            · obtain rfl : ps = [] := List.eq_nil_of_length_eq_zero hp0
              have hm0 : m = 0 := by have := HG.out.sum; simpa using this.symm
              go_wp2
              go_meet
              refine ⟨[0], _, _, by rw [hm0]; exact pt_zero F L, by simp, rfl, fun _ => ⟨wc.heap.size, 0, rfl, by rw [nblk_alloc]; omega, hwx, fun j p hp => ?_⟩, (Below.kept HBl.out (S := fun _ => False) (fun i hi h => by omega)).alloc _⟩
              match j, hp with
              | 0, hp => simp at hp; subst hp; simp
              | j + 1, hp => simp at hp
            · have hp1 : ((ps.length : Int) == 0) = false := beq_false_of_ne (by omega)
              have hp2 : ¬ (ps.length : Int) = 0 := by omega
              have hm0 : 0 < m := by have := HG.out.sum; have := HG.out.len; omega
              go_wp2
              go_meet
              exact ⟨ps, _, _, pt_of HG.out hm0 (fun h => by omega), by omega, rfl, HIR.out, Below.kept HBl.out (S := fun _ => False) (fun i hi h => by omega)⟩
          case rest =>
            rename World => V2
            obtain ⟨qs, AQ, cQ, hpt, hq1000, rfl, hIr, hKz⟩ := hcut
            obtain ⟨p, hqp⟩ : ∃ p, qs.length = p := ⟨_, rfl⟩
            rw [hqp] at hq1000 ⊢
            have hproom := (HB.out.room (by rw [HML.out]; exact hpt)).1
            rw [hqp] at hproom
            have hp1 : 0 < p := by rw [← hqp]; exact hpt.ne
            have HPT := Lib.hid hpt
            have HIQ := Lib.hid hIr
            have HQP := Lib.hid hqp
            have HM2 := Lib.hid (HM.out.kept hKz (fun h => h) (fun h => h))
            have HX2 := Lib.hid (hKz.blk HX.out (fun h => h))
            have HR2 := Lib.hid (HR.out.keptF hKz (fun _ _ h => h))
            have HK2 := Lib.hid (HK.out.trans hKz (fun _ _ h => h.elim))
            have hlt2 := HK2.out.size
            have hwV := HK.out.size
            have hVV := hKz.size
            have hr02 := HX2.out.lt
            clear hpt hIr hqp hKz HG HIR HBl HM HX HR HK hwx hpl
            go_wp2_with fail
            go_loopw [16, 17, 18, 19] (fun av lv fv iv wr => ∃ (i : Nat) (ab : List Sl) (li : List Cel), i ≤ p ∧ slLen av = ab.length ∧ lv = .string (loL L S qs i) ∧ fv = .int .i64 ((fr qs i : Nat) : Int) ∧ iv = .int .i64 (i : Int) ∧ wr.ownsRow V2.heap.size 64 2 av ab.length (flat ab) ∧ Abv L S qs nx hide i ab ∧ Mv F nx lc li ∧ (∀ j, j < i → Holds (nad F (nx + j)) li (pgL L S qs nx j)) ∧ Mem wr b g li k ∧ Kept (Own b g) V2 wr) (fun _ _ _ iv _ => p - (intOf iv).toNat)
            case atStart => exact ⟨0, [], lc, Nat.zero_le _, rfl, by unfold loL; rw [if_pos rfl], rfl, rfl, World.ownsRow_nil _ _ _ _, Abv.nil hide, Mv.refl _ _ _, fun j h => by omega, HM2.out, Kept.refl _ _⟩
            case round =>
              obtain ⟨i, ab, li, hip, hsl, rfl, rfl, rfl, hO, hAb, hMv, hH, hM, hKr⟩ := hrel
              have HO := Lib.hid hO
              have HAB := Lib.hid hAb
              have HMV := Lib.hid hMv
              have HHO := Lib.hid hH
              have HM := Lib.hid hM
              have HKr := Lib.hid hKr
              have hzr := hKr.size
              obtain ⟨Aa, ca, rfl, -, -, -⟩ := Rs.own hO
              clear hO hAb hMv hH hM hKr hsl
              by_cases hlt : i < p
              · obtain ⟨pi, hpi, hpd⟩ := get_ps (ps := qs) (i := i) (by rw [HQP.out]; exact hlt)
                have hf1 := fr_step hpi
                have hfm := fr_le HPT.out (i := i + 1) (by rw [HQP.out]; omega)
                obtain ⟨f, hf⟩ : ∃ f, fr qs i = f := ⟨_, rfl⟩
                rw [hf] at hf1 ⊢
                rw [hf1] at hfm
                have hR3 := HR2.out.keptF HKr.out HA.out
                have hmc : m ≤ c := by have := hR3.le; rw [HML.out] at this; exact this
                obtain ⟨gq, offq, rfl, hgq, hgV, hqc⟩ := HIQ.out (by rw [HQP.out]; omega)
                have hqci : wr.cell? ⟨gq, offq + i, none⟩ = some (.int .i64 (pi : Int)) := (HKr.out.cell (p := ⟨gq, offq + i, none⟩) hgq (fun e => by have e : gq = b ∨ gq = g := e; omega)).trans (hqc i pi hpi)
                have HF := Lib.hid hf
                have HF1 := Lib.hid hf1
                have HPI := Lib.hid hpi
                have HPD := Lib.hid hpd
                have HR3 := Lib.hid hR3
                clear hf hf1 hpi hpd hR3 hqc
                obtain ⟨la, hla⟩ : ∃ la, decide (i + 1 = p) = la := ⟨_, rfl⟩
                have hip1 : ((i : Int) == (p : Int) - 1) = la := by rw [← hla]; by_cases h : i + 1 = p; simp [h]; omega; simp [h]; omega
                obtain ⟨At, hAt⟩ : ∃ At, (if c = f then A else A.map (·.add (f * 2))) = At := ⟨_, rfl⟩
                have hRt := (HR3.out.drop f (by rw [HML.out]; omega)).take pi
                rw [hAt] at hRt
                have HRT := Lib.hid hRt
                have HLA := Lib.hid hla
                have HOB := Lib.hid (show ∀ j, some j = (Value.slice Aa ab.length ca).ownBlock → V2.heap.size ≤ j ∧ j < wr.heap.size from fun j hj => HO.out.lt j hj.symm)
                have HATB := Lib.hid (show ∀ a, At = some a → ¬ Own b g a.block from fun a ha => by
                  rw [← hAt] at ha
                  split at ha
                  · exact HA.out a ha
                  · cases A with
                    | none => cases ha
                    | some a0 =>
                      cases ha
                      have := HA.out a0 rfl
                      have e : (a0.add (f * 2)).block = a0.block := by unfold Addr.add; split <;> rfl
                      show ¬ Own b g (a0.add (f * 2)).block
                      rw [e]; exact this)
                clear hRt hla
                go_upto_region 17 with fail
                clear hAt
                have hal := (Kept.refl (fun _ => False) wr).alloc (.cells #[.int .i64 (L : Int), .slice At pi (c - f), .string ⟨#[]⟩, .bool la, .int .u64 0] 46)
                have HPB := Lib.hid (Blk.new wr [.int .i64 (L : Int), .slice At pi (c - f), .string ⟨#[]⟩, .bool la, .int .u64 0] 46)
                have HMa := Lib.hid (HM.out.kept hal (fun h => h) (fun h => h))
                have HSB := Lib.hid (show ∀ a, A = some a → 0 < m → a.block < wr.heap.size from fun a ha h0 => by
                  obtain ⟨g', off', e, hlt', -⟩ := HR3.out.at (by rw [HML.out]; exact h0)
                  rw [e] at ha; cases ha; exact hlt')
                have HATL := Lib.hid (show 0 < ((S.drop f).take pi).length → ∀ a, At = some a → a.block < wr.heap.size from fun h0 a ha => by
                  obtain ⟨g', off', e, hlt', -⟩ := HRT.out.at h0
                  rw [e] at ha; cases ha; exact hlt')
                have HRa := Lib.hid (HR3.out.keptF hal (fun _ _ h => h))
                have HRTa := Lib.hid (HRT.out.keptF hal (fun _ _ h => h))
                have HKa := Lib.hid (HKr.out.trans hal (fun _ _ h => h.elim))
                have HOa := Lib.hid (HO.out.alloc (.cells #[.int .i64 (L : Int), .slice At pi (c - f), .string ⟨#[]⟩, .bool la, .int .u64 0] 46))
                have hpbl : wr.heap.size < (wr.alloc (.cells #[.int .i64 (L : Int), .slice At pi (c - f), .string ⟨#[]⟩, .bool la, .int .u64 0] 46)).heap.size := by rw [nblk_alloc]; omega
                have hqc5 := (hal.cell (p := ⟨gq, offq + i, none⟩) (show gq < _ by omega) (fun h => h)).trans hqci
                have hgq5 : gq < wr.heap.size := by omega
                clear hal HM HR3 HRT HKr HO hqci
                generalize hpb : wr.heap.size = pb at *
                have HPBE := Lib.hid hpb
                have hpb2 : V2.heap.size ≤ pb := hzr
                clear hpb
                generalize wr.alloc (.cells #[.int .i64 (L : Int), .slice At pi (c - f), .string ⟨#[]⟩, .bool la, .int .u64 0] 46) = W5 at *
                have hp9 := HPB.out
                have u0 := hp9.cell (i := 0) rfl
                have u1 := hp9.cell (i := 1) rfl
                have u2 := hp9.cell (i := 2) rfl
                have u3 := hp9.cell (i := 3) rfl
                have u4 := hp9.cell (i := 4) rfl
                have z0 := hp9.frozen 0
                have z1 := hp9.frozen 1
                have z2 := hp9.frozen 2
                have z3 := hp9.frozen 3
                have z4 := hp9.frozen 4
                clear hp9
                obtain ⟨f1, hf1e⟩ : ∃ f1, f + pi = f1 := ⟨_, rfl⟩
                have hf1I : (f : Int) + (pi : Int) = (f1 : Int) := by omega
                obtain ⟨nid, hnid⟩ : ∃ nid, nx + i = nid := ⟨_, rfl⟩
                have hnidI : (nx : Int) + (i : Int) = (nid : Int) := by omega
                have HNID := Lib.hid hnid
                have HF1E := Lib.hid hf1e
                have hf1m : f1 ≤ m := by omega
                have hni : 1 ≤ nid ∧ nid ≤ 100 := by omega
                clear hf1e hnid
                go_upto_if 92 with fail
                go_cut [20] from 64 to 116 (fun v wx => v = .pointer (some ⟨pb, 0, none⟩) ∧ Blk wx pb 46 [.int .i64 (L : Int), .slice At pi (c - f), .string (hiL L S qs i), .bool la, .int .u64 (((pgL L S qs nx i).rt : Nat) : Int)] ∧ Kept (fun j => j = pb) W5 wx)
                case first =>
                  cases la with
                  | true =>
                    have hi1 : i + 1 = p := by simpa using HLA.out
                    have eh : hiL L S qs i = ⟨#[]⟩ := by unfold hiL; rw [if_neg (by rw [HQP.out]; omega)]
                    have er : (pgL L S qs nx i).rt = 0 := by show (if i + 1 < qs.length then nx + i + 1 else 0) = 0; rw [if_neg (by rw [HQP.out]; omega)]
                    have EH := Lib.hid eh
                    have ER := Lib.hid er
                    clear hi1 eh er
                    go_wp2
                    go_meet
                    exact ⟨rfl, by rw [EH.out, ER.out]; exact HPB.out, Kept.refl _ _⟩
                  | false =>
                    have hi1 : i + 1 < p := by have : ¬ (i + 1 = p) := by simpa using HLA.out
                                               omega
                    have er : (pgL L S qs nx i).rt = nid + 1 := by show (if i + 1 < qs.length then nx + i + 1 else 0) = nid + 1; rw [if_pos (by rw [HQP.out]; omega), HNID.out]
                    have ER := Lib.hid er
                    obtain ⟨hq1, hq2⟩ := fr_lt HPT.out (i := i) (by rw [HQP.out]; omega)
                    rw [HF1.out, HF1E.out] at hq1 hq2
                    rw [HF.out] at hq1
                    obtain ⟨rf, hrf⟩ := kat_get (S := S) (i := f1) (by rw [HML.out]; exact hq2)
                    obtain ⟨gS, offS, hAe, hgS, hSc⟩ := HRa.out.at (by rw [HML.out]; omega)
                    have hgpb := HSB.out _ hAe (by omega)
                    subst hAe
                    replace hgpb : gS < pb := hgpb
                    have hgpb' : gS ≠ pb := by omega
                    have hkey := (hSc f1 _ hrf).1
                    obtain ⟨fm, hfm'⟩ : ∃ fm, f1 = fm + 1 := ⟨f1 - 1, by omega⟩
                    obtain ⟨rm, hrm⟩ := kat_get (S := S) (i := fm) (by rw [HML.out]; omega)
                    have hkeym := (hSc fm _ hrm).1
                    have hfmI : (f1 : Int) - 1 = (fm : Int) := by omega
                    have hfmm : (fm : Int) < (m : Int) := by omega
                    have hwfm : IntKind.i64.wrap (fm : Int) = (fm : Int) := by rw [IntKind.wrap_i64]; omega
                    have hf1mm : (f1 : Int) < (m : Int) := by omega
                    have HKEY := Lib.hid hkey
                    have HKEYM := Lib.hid hkeym
                    have HRF := Lib.hid hrf
                    have HRM := Lib.hid hrm
                    have HFM := Lib.hid hfm'
                    clear hSc hkey hkeym hrf hrm hfm' er hq1
                    have hwn : IntKind.u64.wrap ((nid : Int) + 1) = (nid : Int) + 1 := by rw [IntKind.wrap_u64]; omega
                    go_upto_region 20 with fail
                    clear u0 u1 u2 u3 u4 z0 z1 z2 z3 z4
                    have HPBc := Lib.hid (HPB.out.of (w' := W5.drew) rfl)
                    have HKG := Lib.hid ((Kept.refl (fun j => j = pb) W5).drew)
                    refine wp_region_held_drew (S := (fun w' => Kept (fun j => j = pb) W5 w')) (by kernel_rfl) ?_ (fun hHeld => ?_)
                    · exact HKG.out
                    generalize W5.drew = G at *
                    refine wpAnyH_take (i := 0) (oi := ⟨some 93, _, _, _, _, _⟩) (v := ?_) rfl (by kernel_rfl) (by kernel_rfl) (by kernel_rfl) (fun _ _ _ h => h) (Or.inl ⟨by rfl, ?_⟩) hHeld ?_
                    rotate_left
                    · (intro wq hSw; go_simp; try with_reducible rfl)
                    try simp only [Act.put, List.setIfInBounds_toArray, List.set_cons_zero, List.set_cons_succ]
                    refine wpAnyH_take (i := 1) (oi := ⟨some 94, _, _, _, _, _⟩) (v := ?_) rfl (by kernel_rfl) (by kernel_rfl) (by kernel_rfl) (fun _ _ _ h => h) (Or.inl ⟨by rfl, ?_⟩) hHeld ?_
                    rotate_left
                    · (intro wq hSw; go_simp; try with_reducible rfl)
                    try simp only [Act.put, List.setIfInBounds_toArray, List.set_cons_zero, List.set_cons_succ]
                    refine wpAnyH_take (i := 2) (oi := ⟨some 95, _, _, _, _, _⟩) (v := ?_) rfl (by kernel_rfl) (by kernel_rfl) (by kernel_rfl) (fun _ _ _ h => h) (Or.inl ⟨by rfl, ?_⟩) hHeld ?_
                    rotate_left
                    · (intro wq hSw; go_simp; try with_reducible rfl)
                    try simp only [Act.put, List.setIfInBounds_toArray, List.set_cons_zero, List.set_cons_succ]
                    refine wpAnyH_take (i := 3) (oi := ⟨some 96, _, _, _, _, _⟩) (v := ?_) rfl (by kernel_rfl) (by kernel_rfl) (by kernel_rfl) (fun _ _ _ h => h) (Or.inl ⟨by rfl, ?_⟩) hHeld ?_
                    rotate_left
                    · (intro wq hSw; go_simp; try with_reducible rfl)
                    try simp only [Act.put, List.setIfInBounds_toArray, List.set_cons_zero, List.set_cons_succ]
                    refine wpAnyH_take (i := 4) (oi := ⟨some 97, _, _, _, _, _⟩) (v := ?_) rfl (by kernel_rfl) (by kernel_rfl) (by kernel_rfl) (fun _ _ _ h => h) (Or.inl ⟨by rfl, ?_⟩) hHeld ?_
                    rotate_left
                    · (intro wq hSw; go_simp; try with_reducible rfl)
                    try simp only [Act.put, List.setIfInBounds_toArray, List.set_cons_zero, List.set_cons_succ]
                    refine wpAnyH_take (i := 5) (oi := ⟨some 98, _, _, _, _, _⟩) (v := ?_) rfl (by kernel_rfl) (by kernel_rfl) (by kernel_rfl) (fun _ _ _ h => h) (Or.inl ⟨by rfl, ?_⟩) hHeld ?_
                    rotate_left
                    · (intro wq hSw; go_simp; try with_reducible rfl)
                    try simp only [Act.put, List.setIfInBounds_toArray, List.set_cons_zero, List.set_cons_succ]
                    refine wpAnyH_take (i := 6) (oi := ⟨some 99, _, _, _, _, _⟩) (v := ?_) rfl (by kernel_rfl) (by kernel_rfl) (by kernel_rfl) (fun _ _ _ h => h) (Or.inl ⟨by rfl, ?_⟩) hHeld ?_
                    rotate_left
                    · (intro wq hSw; have y1 := (hSw.cell (p := ⟨gS, offS + f1 * 2, none⟩) hgS hgpb').trans HKEY.out; go_simp; try with_reducible rfl)
                    try simp only [Act.put, List.setIfInBounds_toArray, List.set_cons_zero, List.set_cons_succ]
                    refine wpAnyH_take (i := 7) (oi := ⟨some 100, _, _, _, _, _⟩) (v := ?_) rfl (by kernel_rfl) (by kernel_rfl) (by kernel_rfl) (fun _ _ _ h => h) (Or.inl ⟨by rfl, ?_⟩) hHeld ?_
                    rotate_left
                    · (intro wq hSw; go_simp; try with_reducible rfl)
                    try simp only [Act.put, List.setIfInBounds_toArray, List.set_cons_zero, List.set_cons_succ]
                    refine wpAnyH_ready (rs := [8]) (by kernel_rfl) (by simp) ?_
                    refine AllReadyH.cons (o := ⟨none, _, _, _, _, _⟩) rfl (fun KK hK => ?_) AllReadyH.nil
                    have h9 := HPBc.out
                    have u4 := h9.cell (i := 4) rfl
                    have z4 := h9.frozen 4
                    clear h9
                    go_simp
                    replace HPBc := Lib.hid (HPBc.out.set 4 (.int .u64 ((nid : Int) + 1)))
                    replace HKG := Lib.hid (HKG.out.setCell (a := ⟨pb, 4, none⟩) (fun _ => rfl) (.int .u64 ((nid : Int) + 1)))
                    clear u4 z4
                    generalize G.setCell ⟨pb, 4, none⟩ (.int .u64 ((nid : Int) + 1)) = G at *
                    refine hK.out _ _ ?_ (fun hHeld2 => ?_)
                    · exact HKG.out
                    clear hK KK hHeld
                    have hHeld := hHeld2
                    clear hHeld2
                    try simp only [Act.put, List.setIfInBounds_toArray, List.set_cons_zero, List.set_cons_succ]
                    refine wpAnyH_take (i := 9) (oi := ⟨some 101, _, _, _, _, _⟩) (v := ?_) rfl (by kernel_rfl) (by kernel_rfl) (by kernel_rfl) (fun _ _ _ h => h) (Or.inl ⟨by rfl, ?_⟩) hHeld ?_
                    rotate_left
                    · (intro wq hSw; go_simp; try with_reducible rfl)
                    try simp only [Act.put, List.setIfInBounds_toArray, List.set_cons_zero, List.set_cons_succ]
                    refine wpAnyH_ready (rs := [10]) (by kernel_rfl) (by simp) ?_
                    refine AllReadyH.cons (o := ⟨none, _, _, _, _, _⟩) rfl (fun KK hK => ?_) AllReadyH.nil
                    have h9 := HPBc.out
                    have u2 := h9.cell (i := 2) rfl
                    have z2 := h9.frozen 2
                    clear h9
                    go_simp
                    replace HPBc := Lib.hid (HPBc.out.set 2 (.string (kat S f1)))
                    replace HKG := Lib.hid (HKG.out.setCell (a := ⟨pb, 2, none⟩) (fun _ => rfl) (.string (kat S f1)))
                    clear u2 z2
                    generalize G.setCell ⟨pb, 2, none⟩ (.string (kat S f1)) = G at *
                    refine hK.out _ _ ?_ (fun hHeld2 => ?_)
                    · exact HKG.out
                    clear hK KK hHeld
                    have hHeld := hHeld2
                    clear hHeld2
                    try simp only [Act.put, List.setIfInBounds_toArray, List.set_cons_zero, List.set_cons_succ]
                    refine wpAnyH_done (by kernel_rfl) ?_ _
                    clear hHeld
                    by_cases hL0 : L = 0
                    · have d2 : ((L : Int) == 0) = true := by simp [hL0]
                      have HSZ := Lib.hid (show (kat S f1).size ≤ 4611686018427387904 from by
                        have h1 := (HB.out.base hL0).2.2.2 f1 _ HRF.out
                        have h2 : (kat S f1).size ≤ 32 := HAS.out.1 _ (List.mem_of_getElem? h1.1)
                        omega)
                      have HL0 := Lib.hid hL0
                      have hLl : L ≤ 0 := by omega
                      clear hL0
                      go_upto_region 22 with fail
                      have HPBd := Lib.hid (HPBc.out.of (w' := G.drew) rfl)
                      have HKH := Lib.hid HKG.out.drew
                      refine wp_region_held_drew (S := (fun w' => Kept (fun j => j = pb) W5 w')) (by kernel_rfl) ?_ (fun hHeld => ?_)
                      · exact HKH.out
                      generalize G.drew = G2 at *
                      refine wpAnyH_take (i := 0) (oi := ⟨some 104, _, _, _, _, _⟩) (v := ?_) rfl (by kernel_rfl) (by kernel_rfl) (by kernel_rfl) (fun _ _ _ h => h) (Or.inl ⟨by rfl, ?_⟩) hHeld ?_
                      rotate_left
                      · (intro wq hSw; go_simp; try with_reducible rfl)
                      try simp only [Act.put, List.setIfInBounds_toArray, List.set_cons_zero, List.set_cons_succ]
                      refine wpAnyH_take (i := 1) (oi := ⟨some 105, _, _, _, _, _⟩) (v := ?_) rfl (by kernel_rfl) (by kernel_rfl) (by kernel_rfl) (fun _ _ _ h => h) (Or.inl ⟨by rfl, ?_⟩) hHeld ?_
                      rotate_left
                      · (intro wq hSw; go_simp; try with_reducible rfl)
                      try simp only [Act.put, List.setIfInBounds_toArray, List.set_cons_zero, List.set_cons_succ]
                      refine wpAnyH_take (i := 2) (oi := ⟨some 106, _, _, _, _, _⟩) (v := ?_) rfl (by kernel_rfl) (by kernel_rfl) (by kernel_rfl) (fun _ _ _ h => h) (Or.inl ⟨by rfl, ?_⟩) hHeld ?_
                      rotate_left
                      · (intro wq hSw; go_simp; try with_reducible rfl)
                      try simp only [Act.put, List.setIfInBounds_toArray, List.set_cons_zero, List.set_cons_succ]
                      refine wpAnyH_take (i := 3) (oi := ⟨some 107, _, _, _, _, _⟩) (v := ?_) rfl (by kernel_rfl) (by kernel_rfl) (by kernel_rfl) (fun _ _ _ h => h) (Or.inl ⟨by rfl, ?_⟩) hHeld ?_
                      rotate_left
                      · (intro wq hSw; go_simp; try with_reducible rfl)
                      try simp only [Act.put, List.setIfInBounds_toArray, List.set_cons_zero, List.set_cons_succ]
                      refine wpAnyH_take (i := 4) (oi := ⟨some 108, _, _, _, _, _⟩) (v := ?_) rfl (by kernel_rfl) (by kernel_rfl) (by kernel_rfl) (fun _ _ _ h => h) (Or.inl ⟨by rfl, ?_⟩) hHeld ?_
                      rotate_left
                      · (intro wq hSw; go_simp; try with_reducible rfl)
                      try simp only [Act.put, List.setIfInBounds_toArray, List.set_cons_zero, List.set_cons_succ]
                      refine wpAnyH_take (i := 5) (oi := ⟨some 109, _, _, _, _, _⟩) (v := ?_) rfl (by kernel_rfl) (by kernel_rfl) (by kernel_rfl) (fun _ _ _ h => h) (Or.inl ⟨by rfl, ?_⟩) hHeld ?_
                      rotate_left
                      · (intro wq hSw; have y1 := (hSw.cell (p := ⟨gS, offS + f1 * 2, none⟩) hgS hgpb').trans HKEY.out; have y2 := (hSw.cell (p := ⟨gS, offS + fm * 2, none⟩) hgS hgpb').trans HKEYM.out; go_simp; try with_reducible rfl)
                      try simp only [Act.put, List.setIfInBounds_toArray, List.set_cons_zero, List.set_cons_succ]
                      refine wpAnyH_take (i := 6) (oi := ⟨some 110, _, _, _, _, _⟩) (v := ?_) rfl (by kernel_rfl) (by kernel_rfl) (by kernel_rfl) (fun _ _ _ h => h) (Or.inl ⟨by rfl, ?_⟩) hHeld ?_
                      rotate_left
                      · (intro wq hSw; go_simp; try with_reducible rfl)
                      try simp only [Act.put, List.setIfInBounds_toArray, List.set_cons_zero, List.set_cons_succ]
                      refine wpAnyH_take (i := 7) (oi := ⟨some 111, _, _, _, _, _⟩) (v := ?_) rfl (by kernel_rfl) (by kernel_rfl) (by kernel_rfl) (fun _ _ _ h => h) (Or.inl ⟨by rfl, ?_⟩) hHeld ?_
                      rotate_left
                      · (intro wq hSw; go_simp; try with_reducible rfl)
                      try simp only [Act.put, List.setIfInBounds_toArray, List.set_cons_zero, List.set_cons_succ]
                      refine wpAnyH_take (i := 8) (oi := ⟨some 112, _, _, _, _, _⟩) (v := ?_) rfl (by kernel_rfl) (by kernel_rfl) (by kernel_rfl) (fun _ _ _ h => h) (Or.inl ⟨by rfl, ?_⟩) hHeld ?_
                      rotate_left
                      · (intro wq hSw; go_simp; try with_reducible rfl)
                      try simp only [Act.put, List.setIfInBounds_toArray, List.set_cons_zero, List.set_cons_succ]
                      refine wpAnyH_take (i := 9) (oi := ⟨some 113, _, _, _, _, _⟩) (v := ?_) rfl (by kernel_rfl) (by kernel_rfl) (by kernel_rfl) (fun _ _ _ h => h) (Or.inl ⟨by rfl, ?_⟩) hHeld ?_
                      rotate_left
                      · (intro wq hSw; go_simp; try with_reducible rfl)
                      try simp only [Act.put, List.setIfInBounds_toArray, List.set_cons_zero, List.set_cons_succ]
                      refine wpAnyH_take (i := 10) (oi := ⟨some 114, _, _, _, _, _⟩) (v := ?_) rfl (by kernel_rfl) (by kernel_rfl) (by kernel_rfl) (fun _ _ _ h => h) (Or.inl ⟨by rfl, ?_⟩) hHeld ?_
                      rotate_left
                      · (intro wq hSw; have y1 := (hSw.cell (p := ⟨gS, offS + f1 * 2, none⟩) hgS hgpb').trans HKEY.out; have y2 := (hSw.cell (p := ⟨gS, offS + fm * 2, none⟩) hgS hgpb').trans HKEYM.out; go_simp; try with_reducible rfl)
                      try simp only [Act.put, List.setIfInBounds_toArray, List.set_cons_zero, List.set_cons_succ]
                      refine wpAnyH_ready (rs := [11]) (by kernel_rfl) (by simp) ?_
                      refine AllReadyH.cons (o := ⟨some 115, _, _, _, _, _⟩) rfl (fun KK hK => ?_) AllReadyH.nil
                      go_simp
                      go_at_call 45
                      refine Calls.mono (refSep_any (kat S fm) (kat S f1) _ HSZ.out) ?_; rintro e w7 ⟨rfl, hw7⟩; subst hw7
                      refine hK.out _ _ ?_ (fun hHeld2 => ?_)
                      · exact HKH.out
                      clear hK KK hHeld
                      have hHeld := hHeld2
                      clear hHeld2
                      try simp only [Act.put, List.setIfInBounds_toArray, List.set_cons_zero, List.set_cons_succ]
                      refine wpAnyH_take (i := 12) (oi := ⟨some 116, _, _, _, _, _⟩) (v := ?_) rfl (by kernel_rfl) (by kernel_rfl) (by kernel_rfl) (fun _ _ _ h => h) (Or.inl ⟨by rfl, ?_⟩) hHeld ?_
                      rotate_left
                      · (intro wq hSw; go_simp; try with_reducible rfl)
                      try simp only [Act.put, List.setIfInBounds_toArray, List.set_cons_zero, List.set_cons_succ]
                      refine wpAnyH_ready (rs := [13]) (by kernel_rfl) (by simp) ?_
                      refine AllReadyH.cons (o := ⟨none, _, _, _, _, _⟩) rfl (fun KK hK => ?_) AllReadyH.nil
                      have h9 := HPBd.out
                      have u2 := h9.cell (i := 2) rfl
                      have z2 := h9.frozen 2
                      clear h9
                      go_simp
                      replace HPBd := Lib.hid (HPBd.out.set 2 (.string (sepB (kat S fm) (kat S f1))))
                      replace HKH := Lib.hid (HKH.out.setCell (a := ⟨pb, 2, none⟩) (fun _ => rfl) (.string (sepB (kat S fm) (kat S f1))))
                      clear u2 z2
                      generalize G2.setCell ⟨pb, 2, none⟩ (.string (sepB (kat S fm) (kat S f1))) = G2 at *
                      refine hK.out _ _ ?_ (fun hHeld2 => ?_)
                      · exact HKH.out
                      clear hK KK hHeld
                      have hHeld := hHeld2
                      clear hHeld2
                      try simp only [Act.put, List.setIfInBounds_toArray, List.set_cons_zero, List.set_cons_succ]
                      refine wpAnyH_done (by kernel_rfl) ?_ _
                      clear hHeld
                      go_wp2
                      go_meet
                      refine ⟨rfl, ?_, HKH.out⟩
                      have eh : hiL L S qs i = sepB (kat S fm) (kat S f1) := by
                        unfold hiL; rw [if_pos (by rw [HQP.out]; omega), if_pos HL0.out, HF1.out, HF1E.out, show f1 - 1 = fm by have := HFM.out; omega]
                      rw [eh, ER.out]; exact HPBd.out
                    · have d2 : ((L : Int) == 0) = false := beq_false_of_ne (by omega)
                      have HL0 := Lib.hid hL0
                      have hLl : 1 ≤ L := by omega
                      clear hL0
                      go_wp2
                      go_meet
                      refine ⟨rfl, ?_, HKG.out⟩
                      have eh : hiL L S qs i = kat S f1 := by
                        unfold hiL; rw [if_pos (by rw [HQP.out]; omega), if_neg HL0.out, HF1.out, HF1E.out]
                      rw [eh, ER.out]; exact HPBc.out
                case rest =>
                  rename World => V6
                  obtain ⟨rfl, hPB6, hK6⟩ := hcut
                  have hlen6 := (pg_len (nx := nx) (by rw [HML.out]; exact HPT.out : Pt F L S.length qs) (i := i) (by rw [HQP.out]; exact hlt))
                  rw [HPD.out] at hlen6
                  have hPE : (⟨L, hiL L S qs i, la, (pgL L S qs nx i).rt, (S.drop f).take pi⟩ : Pg) = pgL L S qs nx i := by
                    unfold pgL; rw [HPD.out, HF.out, HQP.out, HLA.out]
                  have hfits := pg_fits (nx := nx) (by rw [HML.out]; exact HPT.out : Pt F L S.length qs) (by omega) (by omega) (by rw [HQP.out]; omega) HB.out.ref (i := i) (by rw [HQP.out]; exact hlt)
                  have hwf6 : la = true → hiL L S qs i = ⟨#[]⟩ := by
                    have := pg_wf (L := L) (nx := nx) (S := S) (ps := qs) i
                    rw [← hPE] at this; exact this
                  have hxl : ((S.drop f).take pi).length = pi := by have h1 := hlen6.1; rw [← hPE] at h1; exact h1
                  have HMb := Lib.hid (HMa.out.kept hK6 (by omega) (by omega))
                  have HRTb := Lib.hid (HRTa.out.keptP hK6 (fun h0 a ha e => by have := HATL.out h0 a ha; omega))
                  have HXb := Lib.hid (hK6.blk (HKa.out.blk HX2.out (fun e => by rcases e with e | e <;> omega)) (by omega))
                  have HOb := Lib.hid (own_kept HOa.out hK6 (fun j hj e => by have := (HOB.out j hj.symm).2; have := HPBE.out; omega))
                  have HKb := Lib.hid (HKa.out.trans hK6 (fun j hj e => by omega))
                  have HPE := Lib.hid hPE
                  have HFI := Lib.hid hfits
                  have HXL := Lib.hid hxl
                  have hL100 : L ≤ 1000 := by omega
                  have hpiF : pi ≤ F := hlen6.2.2
                  have HPB6 := Lib.hid hPB6
                  have hs6 : V2.heap.size ≤ V6.heap.size := by have := hK6.size; have := HPBE.out; omega
                  have hx9 := HXb.out
                  have x0 := hx9.cell (i := 0) rfl
                  have x1 := hx9.cell (i := 1) rfl
                  have x2 := hx9.cell (i := 2) rfl
                  have x3 := hx9.cell (i := 3) rfl
                  have x4 := hx9.cell (i := 4) rfl
                  have x5 := hx9.cell (i := 5) rfl
                  have x6 := hx9.cell (i := 6) rfl
                  have u0 := HPB6.out.cell (i := 0) rfl
                  have u1 := HPB6.out.cell (i := 1) rfl
                  have u2 := HPB6.out.cell (i := 2) rfl
                  have u3 := HPB6.out.cell (i := 3) rfl
                  have u4 := HPB6.out.cell (i := 4) rfl
                  clear hx9 hPE hfits hxl hlen6 hPB6 hK6 HMa HRTa HXb HOa HKa HRa hqc5 hgq5
                  go_wp2_with fail
                  refine (kput_to F nid h4 h6 hni.1 hni.2 L At (c - f) (hiL L S qs i) la ((pgL L S qs nx i).rt) ((S.drop f).take pi) pi HXL.out hwf6 hpiF (by omega) b g li k _ HMb.out HRTb.out HATB.out).mono ?_; rintro e V7 ⟨rfl, hM7, hK7⟩
                  rw [HPE.out] at hM7
                  obtain ⟨li2, hli2⟩ : ∃ li2, app li (pst (nad F nid) (pgL L S qs nx i)) = li2 := ⟨_, rfl⟩
                  have hxsF : (pgL L S qs nx i).xs.length ≤ F := by rw [← HPE.out]; show ((S.drop f).take pi).length ≤ F; rw [HXL.out]; exact hpiF
                  have hMv2 : Mv F nx lc li2 := by rw [← hli2]; exact HMV.out.trans (Mv.page h4 h6 (by omega) (by have := HNID.out; omega) hni.2 li hxsF HFI.out) (Nat.le_refl _)
                  have hH2 : ∀ j, j < i + 1 → Holds (nad F (nx + j)) li2 (pgL L S qs nx j) := fun j hj => by
                    by_cases e : j = i
                    · subst e
                      have had := ads_of (F := F) (nid := nid) (n := li.length) h4 h6 hni.1 hni.2 (by rw [HMV.out.len, HLC.out]; exact HBIG.out)
                      have hph := pst_holds had rfl hxsF _ (Nat.le_refl _)
                      rw [pst_all, hli2] at hph
                      rw [HNID.out]; exact hph
                    · have hmp := Mv.page h4 h6 hni.1 (Nat.le_refl nid) hni.2 li hxsF HFI.out
                      rw [hli2] at hmp
                      have hlj := (pg_len (nx := nx) (by rw [HML.out]; exact HPT.out : Pt F L S.length qs) (i := j) (by rw [HQP.out]; omega))
                      intro r hr
                      rw [hmp.low (nx + j) (by omega) (by have := HNID.out; omega) r (by omega)]
                      exact HHO.out j (by omega) r hr
                  rw [hli2] at hM7
                  have HM7 := Lib.hid hM7
                  have HMV2 := Lib.hid hMv2
                  have HH2 := Lib.hid hH2
                  have HOc := Lib.hid (own_kept HOb.out hK7 (fun j hj e => by have := (HOB.out j hj.symm).1; rcases e with e | e <;> omega))
                  have HPB7 := Lib.hid (hK7.blk HPB6.out (fun e => by rcases e with e | e <;> omega))
                  have HK7 := Lib.hid (HKb.out.trans hK7 (fun _ _ h => h))
                  have hs7 : V2.heap.size ≤ V7.heap.size := Nat.le_trans hs6 hK7.size
                  clear hM7 hli2 hMv2 hH2 hK7 HMb HRTb HOb HPB6 HKb HHO HMV x0 x1 x2 x3 x4 x5 x6 u0 u1 u2 u3 u4 hxsF
                  go_upto_region 24 with fail
                  go_cut [136] from 122 to 136 (fun v wx => ∃ e : Bool, v = .bool e ∧ (i = 0 → e = true) ∧ (hide = false → e = true) ∧ wx = V7)
                  case first =>
                    by_cases hi0 : i = 0
                    · have d3 : ((i : Int) == 0) = true := by simp [hi0]
                      clear hi0
                      go_wp2
                      go_meet
                      exact ⟨true, rfl, fun _ => rfl, fun _ => rfl, rfl⟩
                    · have d3 : ((i : Int) == 0) = false := beq_false_of_ne (by omega)
                      cases hide with
                      | false =>
                        go_wp2
                        go_meet
                        exact ⟨true, rfl, fun _ => rfl, fun _ => rfl, rfl⟩
                      | true =>
                        go_wp2
                        go_meet
                        exact ⟨_, rfl, fun e => absurd e hi0, (fun e => (by cases e)), rfl⟩
                  case rest =>
                    obtain ⟨ee, rfl, he0, heh, rfl⟩ := hcut
                    rename World => V7
                    have HE0 := Lib.hid he0
                    have HEH := Lib.hid heh
                    clear he0 heh
                    go_upto_if 136 with fail
                    go_cut [16] from 137 to 142 (fun v wx => ∃ ab' : List Sl, slLen v = ab'.length ∧ wx.ownsRow V2.heap.size 64 2 v ab'.length (flat ab') ∧ Abv L S qs nx hide (i + 1) ab' ∧ Mem wx b g li2 k ∧ Kept (Own b g) V2 wx ∧ Blk wx pb 46 [.int .i64 (L : Int), .slice At pi (c - f), .string (hiL L S qs i), .bool la, .int .u64 (((pgL L S qs nx i).rt : Nat) : Int)])
                    case first =>
                      cases ee with
                      | true =>
                        have hab40 : ab.length ≤ 1000 := by have := HAB.out.len; omega
                        have hown := HOc.out
                        go_wp2_with (at_builtin; go_must (refine wpList_snoc rfl (.tmp 137) (.tmp 141) rfl V2.heap.size _ ab.length ab rfl (hown.alloc _) ⟨V7.heap.size, 0, none⟩ (loL L S qs i) nid rfl (Rs.one _ (loL L S qs i) nid) (by omega) (by rw [nblk_alloc]; omega) ?_))
                        intro v8 w8 hO8 hK8
                        obtain ⟨A8, c8, rfl, -, -, -⟩ := Rs.own hO8
                        have hal := (Kept.refl (fun _ => False) V7).alloc (.cells #[.string (loL L S qs i), .int .u64 (nid : Int)] 64)
                        have hob := HOB.out
                        have hpe := HPBE.out
                        have hM8 := (HM7.out.kept hal (fun h => h) (fun h => h)).kept hK8 (fun e => by have := (hob b e).1; omega) (fun e => by have := (hob g e).1; omega)
                        have hP8 := hK8.blk (hal.blk HPB7.out (fun h => h)) (fun e => by have := (hob pb e).2; omega)
                        have hK8' := (HK7.out.trans hal (fun _ _ h => h.elim)).trans hK8 (fun j hj e => by have := (hob j e).1; omega)
                        have hab8 : Abv L S qs nx hide (i + 1) (ab ++ [(loL L S qs i, nid)]) := by rw [← HNID.out]; exact HAB.out.enter HB.out.asc (by rw [HML.out]; exact HPT.out) (by rw [HQP.out]; exact hlt)
                        clear hal hK8
                        go_wp2
                        go_meet
                        exact ⟨ab ++ [(loL L S qs i, nid)], by rw [List.length_append]; rfl, by rw [List.length_append]; exact hO8, hab8, hM8, hK8', hP8⟩
                      | false =>
                        have hi0 : 0 < i := by
                          rcases Nat.eq_zero_or_pos i with e | e
                          · have := HE0.out e; cases this
                          · exact e
                        have hhd : hide = true := by
                          cases h : hide
                          · have := HEH.out h; cases this
                          · rfl
                        have HHD := Lib.hid hhd
                        clear hhd
                        go_wp2
                        go_meet
                        exact ⟨ab, rfl, HOc.out, HAB.out.out hi0 HHD.out, HM7.out, HK7.out, HPB7.out⟩
                    case rest =>
                      rename World => V8
                      obtain ⟨ab2, hsl2, hO2, hAb2, hM8, hK8, hP8⟩ := hcut
                      have HO2 := Lib.hid hO2
                      have HAB2 := Lib.hid hAb2
                      have HM8 := Lib.hid hM8
                      have HK8 := Lib.hid hK8
                      have u2 := hP8.cell (i := 2) rfl
                      have HSL2 := Lib.hid hsl2
                      clear hO2 hAb2 hM8 hK8 hP8 hsl2
                      go_wp2
                      go_roundw
                      case rel => exact ⟨i + 1, ab2, li2, by omega, HSL2.out, by rw [loL_succ], by rw [HF1.out, HF1E.out], by go_num, HO2.out, HAB2.out, HMV2.out, HH2.out, HM8.out, HK8.out⟩
                      case measure => simp [intOf]; omega
              · obtain rfl : p = i := by omega
                rename World => V3
                have HM3 := HM
                have hs3 := HKr.out.size
                by_cases hone : p = 1
                · have d1 : ((p : Int) == 1) = true := by simp [hone]
                  have HONE := Lib.hid hone
                  have hpl : p ≤ 1 := by omega
                  clear hone
                  go_wp2_with fail
                  refine Calls.mono (poke_to b g li k 0 _ nx 0 ⟨#[]⟩ _ ?hN HM.out) ?_
                  case hN => omega
                  rintro e V4 ⟨rfl, hM4, hK4⟩
                  have HM4 := Lib.hid hM4
                  have HK4 := Lib.hid (HK2.out.trans (HKr.out.trans hK4 (fun _ _ h => h)) (fun _ _ h => h))
                  clear hM4 hK4
                  go_wp2_with fail
                  refine Calls.mono (poke_to b g _ k 4 _ nx 0 ⟨#[]⟩ _ ?hN HM4.out) ?_
                  case hN => omega
                  rintro e V5 ⟨rfl, hM5, hK5⟩
                  have HM5 := Lib.hid hM5
                  have HK5 := Lib.hid (HK4.out.trans hK5 (fun _ _ h => h))
                  clear hM5 hK5 HM4 HK4
                  go_wp2
                  go_ret
                  obtain ⟨st2, mm2, lo2, pg2, off2, hT, hL, h0, hFu, hNa, hle, hRe, hLa, hHi⟩ := HB.out.fin (by rw [HML.out]; exact HPT.out) h4 h6 HMV.out (fun j hj => HHO.out j (by have := HQP.out; omega)) (by rw [HQP.out]; exact HONE.out) rfl
                  exact ⟨L + 1, _, by go_num, HM5.out, ⟨st2, mm2, lo2, pg2, off2, hT, hL, h0, hFu, hNa, by rw [hle]; exact HLC.out, hRe, hLa, hHi⟩, HK5.out⟩
                · have d1 : ((p : Int) == 1) = false := beq_false_of_ne (by omega)
                  have hp2 : 2 ≤ p := by omega
                  clear hone
                  obtain ⟨A9, c9, he9, hla, hRa, hAa⟩ := Rs.own HO.out
                  cases he9
                  have HRa := Lib.hid hRa
                  have HAa := Lib.hid (show ∀ a, Aa = some a → ¬ Own b g a.block from fun a ha e => by have := hAa a ha; rcases e with e | e <;> omega)
                  obtain ⟨st2, mm2, lo2, pg2, off2, hBn⟩ := HB.out.step (by rw [HML.out]; exact HPT.out) HMV.out (fun j hj => HHO.out j (by have := HQP.out; omega)) (by rw [HQP.out]; exact HAB.out) (by rw [HQP.out]; exact hp2)
                  have hfew := HB.out.fewer (by rw [HML.out]; exact HPT.out) (by rw [HQP.out]; exact HAB.out) (by rw [HQP.out]; exact hp2)
                  rw [HQP.out] at hBn
                  rw [HML.out] at hfew
                  have HBN := Lib.hid hBn
                  have HFEW := Lib.hid hfew
                  have HKn := Lib.hid (HK2.out.trans HKr.out (fun _ _ h => h))
                  have HXn := Lib.hid (HKr.out.blk HX2.out (fun e => by rcases e with e | e <;> omega))
                  have hL1000 : L ≤ 1000 := by omega
                  clear hRa hAa hBn hfew hla
                  go_wp2
                  go_roundw
                  case rel => exact ⟨_, ab, L + 1, nx + p, li, st2, mm2, lo2, pg2, off2, Aa, ca, by first | (rw [IntKind.wrap_u64]; omega) | omega, rfl, rfl, by go_num, by go_num, HBN.out, HM.out, HMV.out.len.trans HLC.out, HXn.out, HRa.out, HAa.out, HKn.out⟩
                  case measure =>
                    have h1 := HFEW.out
                    have e1 : ¬ ((L : Int) + 1 = 0) := by omega
                    by_cases hL0 : L = 0
                    · rw [if_pos hL0] at h1
                      have e2 : (L : Int) = 0 := by omega
                      simp [slLen, intOf, e2]; omega
                    · rw [if_neg hL0] at h1
                      have e2 : ¬ (L : Int) = 0 := by omega
                      simp [slLen, intOf, e1, hL0]; omega
end

section
open Go.RowKit Go.Deep Plain
set_option linter.unusedVariables false

theorem cells_at (b g : Nat) (l : List Cel) (k : Nat) (w : World) (gv : Nat) (hgv : w.heap.size = gv) (h : Mem w b g l k) (hl : l.length ≤ 1099511627776) :
    Calls Tryz.prog 25 #[.pointer (some ⟨b, 0, none⟩)] w fun e w' => e = .returned (.slice (some ⟨gv, 0, none⟩) l.length l.length) ∧ Blk w' gv 56 (flat3 l) ∧ Kept (fun _ => False) w w' := by
  subst hgv; exact kitCells_any b g l k w h hl
set_option maxHeartbeats 2000000 in
theorem view_any (F : Nat) (b g : Nat) (l : List Cel) (k n : Nat) (hl : l.length = n) (hn : n ≤ 1048576) (w : World) (hm : Mem w b g l k) :
    Calls Tryz.prog 12 #[.agg #[.int .i64 1, .int .i64 2, .int .i64 100, .int .i64 100, .int .i64 200, .int .i64 (F : Int), .int .u64 1000], .pointer (some ⟨b, 0, none⟩)] w fun e w' => ∃ gv, e = .returned (.agg #[.int .i64 1, .int .i64 2, .int .i64 100, .int .i64 100, .int .i64 200, .int .i64 (F : Int), .int .u64 1000, .slice (some ⟨gv, 0, none⟩) n n]) ∧ Blk w' gv 56 (flat3 l) ∧ w.heap.size ≤ gv ∧ Kept (fun _ => False) w w' := by
  have HM := Lib.hid hm
  have HL := Lib.hid hl
  clear hm hl
  go_enter Tryz.func12, Tryz.ntmps12
  go_wp2_with fail
  have hal := ((Kept.refl (fun _ => False) w).alloc (.cells #[.int .i64 1, .int .i64 2, .int .i64 100, .int .i64 100, .int .i64 200, .int .i64 (F : Int), .int .u64 1000] 25)).alloc (.cells #[.int .i64 0, .int .i64 0, .int .i64 0, .int .i64 0, .int .i64 0, .int .i64 0, .int .u64 0, .slice none 0 0] 38)
  have HB := Lib.hid ((Blk.new w [.int .i64 1, .int .i64 2, .int .i64 100, .int .i64 100, .int .i64 200, .int .i64 (F : Int), .int .u64 1000] 25).alloc (.cells #[.int .i64 0, .int .i64 0, .int .i64 0, .int .i64 0, .int .i64 0, .int .i64 0, .int .u64 0, .slice none 0 0] 38))
  have hNN := Blk.new (w.alloc (.cells #[.int .i64 1, .int .i64 2, .int .i64 100, .int .i64 100, .int .i64 200, .int .i64 (F : Int), .int .u64 1000] 25)) [.int .i64 0, .int .i64 0, .int .i64 0, .int .i64 0, .int .i64 0, .int .i64 0, .int .u64 0, .slice none 0 0] 38
  have hsz1 : (w.alloc (.cells #[.int .i64 1, .int .i64 2, .int .i64 100, .int .i64 100, .int .i64 200, .int .i64 (F : Int), .int .u64 1000] 25)).heap.size = w.heap.size + 1 := nblk_alloc _ _
  rw [hsz1] at hNN
  have HN := Lib.hid hNN
  have HM2 := Lib.hid (HM.out.kept hal (fun h => h) (fun h => h))
  have HK := Lib.hid hal
  clear hal hNN hsz1 HM
  generalize (w.alloc (.cells #[.int .i64 1, .int .i64 2, .int .i64 100, .int .i64 100, .int .i64 200, .int .i64 (F : Int), .int .u64 1000] 25)).alloc (.cells #[.int .i64 0, .int .i64 0, .int .i64 0, .int .i64 0, .int .i64 0, .int .i64 0, .int .u64 0, .slice none 0 0] 38) = W at *
  generalize hr1 : w.heap.size + 1 = r1 at *
  generalize hr0 : w.heap.size = r0 at *
  have HR := Lib.hid (show r1 = r0 + 1 by omega)
  have HR0 := Lib.hid hr0
  clear hr0 hr1
  replace HM2 := Lib.hid (HM2.out.drew)
  replace HN := Lib.hid (HN.out.of (w' := W.drew) rfl)
  replace HB := Lib.hid (HB.out.of (w' := W.drew) rfl)
  replace HK := Lib.hid HK.out.drew
  refine wp_region_held_drew (S := (fun w' => Blk w' r0 25 [.int .i64 1, .int .i64 2, .int .i64 100, .int .i64 100, .int .i64 200, .int .i64 (F : Int), .int .u64 1000])) (by kernel_rfl) ?_ (fun hHeld => ?_)
  · exact HB.out
  have HN0 := Lib.hid (show r1 < W.drew.heap.size from HN.out.lt)
  generalize W.drew = G at *
  obtain ⟨gv, hgv⟩ : ∃ gv, G.heap.size = gv := ⟨_, rfl⟩
  replace HN0 := Lib.hid (show r1 < gv by have := HN0.out; omega)
  refine wpAnyH_take (i := 0) (oi := ⟨some 5, _, _, _, _, _⟩) (v := ?_) rfl (by kernel_rfl) (by kernel_rfl) (by kernel_rfl) (fun _ _ _ h => h) (Or.inl ⟨by rfl, ?_⟩) hHeld ?_
  rotate_left
  · (intro wq hSw; have hb9 := hSw; have x0 := hb9.cell (i := 0) rfl; have x1 := hb9.cell (i := 1) rfl; have x2 := hb9.cell (i := 2) rfl; have x3 := hb9.cell (i := 3) rfl; have x4 := hb9.cell (i := 4) rfl; have x5 := hb9.cell (i := 5) rfl; have x6 := hb9.cell (i := 6) rfl; clear hb9; go_simp; try with_reducible rfl)
  try simp only [Act.put, List.setIfInBounds_toArray, List.set_cons_zero, List.set_cons_succ]
  refine wpAnyH_take (i := 1) (oi := ⟨some 6, _, _, _, _, _⟩) (v := ?_) rfl (by kernel_rfl) (by kernel_rfl) (by kernel_rfl) (fun _ _ _ h => h) (Or.inl ⟨by rfl, ?_⟩) hHeld ?_
  rotate_left
  · (intro wq hSw; go_simp; try with_reducible rfl)
  try simp only [Act.put, List.setIfInBounds_toArray, List.set_cons_zero, List.set_cons_succ]
  refine wpAnyH_ready (rs := [2]) (by kernel_rfl) (by simp) ?_
  refine AllReadyH.cons (o := ⟨some 7, _, _, _, _, _⟩) rfl (fun KK hK => ?_) AllReadyH.nil
  go_simp
  go_at_call 25
  refine Calls.mono (cells_at b g l k G gv hgv HM2.out (by have := HL.out; omega)) ?_; rintro e G2 ⟨rfl, hBv, hKv⟩
  rw [HL.out]
  have HBv := Lib.hid hBv
  replace HN := Lib.hid (hKv.blk HN.out (fun h => h))
  replace HB := Lib.hid (hKv.blk HB.out (fun h => h))
  have HGV := Lib.hid (show r1 < gv by have := HN0.out; omega)
  replace HK := Lib.hid (HK.out.trans hKv (fun _ _ h => h))
  clear hBv hKv
  refine hK.out _ _ ?_ (fun hHeld2 => ?_)
  · exact HB.out
  clear hK KK hHeld
  have hHeld := hHeld2
  clear hHeld2
  try simp only [Act.put, List.setIfInBounds_toArray, List.set_cons_zero, List.set_cons_succ]
  refine wpAnyH_take (i := 3) (oi := ⟨some 8, _, _, _, _, _⟩) (v := ?_) rfl (by kernel_rfl) (by kernel_rfl) (by kernel_rfl) (fun _ _ _ h => h) (Or.inl ⟨by rfl, ?_⟩) hHeld ?_
  rotate_left
  · (intro wq hSw; go_simp; try with_reducible rfl)
  try simp only [Act.put, List.setIfInBounds_toArray, List.set_cons_zero, List.set_cons_succ]
  refine wpAnyH_ready (rs := [4]) (by kernel_rfl) (by simp) ?_
  refine AllReadyH.cons (o := ⟨none, _, _, _, _, _⟩) rfl (fun KK hK => ?_) AllReadyH.nil
  have h9 := HN.out
  have s0 := h9.cell (i := 0) rfl
  have s1 := h9.cell (i := 1) rfl
  have s2 := h9.cell (i := 2) rfl
  have s3 := h9.cell (i := 3) rfl
  have s4 := h9.cell (i := 4) rfl
  have s5 := h9.cell (i := 5) rfl
  have s6 := h9.cell (i := 6) rfl
  have s7 := h9.cell (i := 7) rfl
  have z0 := h9.frozen 0
  have z1 := h9.frozen 1
  have z2 := h9.frozen 2
  have z3 := h9.frozen 3
  have z4 := h9.frozen 4
  have z5 := h9.frozen 5
  have z6 := h9.frozen 6
  have z7 := h9.frozen 7
  clear h9
  go_simp
  replace HBv := Lib.hid (((((((((HBv.out).other (a := ⟨r1, 0, none⟩) (by have := HGV.out; show gv ≠ r1; omega) (.int .i64 1)).other (a := ⟨r1, 1, none⟩) (by have := HGV.out; show gv ≠ r1; omega) (.int .i64 2)).other (a := ⟨r1, 2, none⟩) (by have := HGV.out; show gv ≠ r1; omega) (.int .i64 100)).other (a := ⟨r1, 3, none⟩) (by have := HGV.out; show gv ≠ r1; omega) (.int .i64 100)).other (a := ⟨r1, 4, none⟩) (by have := HGV.out; show gv ≠ r1; omega) (.int .i64 200)).other (a := ⟨r1, 5, none⟩) (by have := HGV.out; show gv ≠ r1; omega) (.int .i64 (F : Int))).other (a := ⟨r1, 6, none⟩) (by have := HGV.out; show gv ≠ r1; omega) (.int .u64 1000)).other (a := ⟨r1, 7, none⟩) (by have := HGV.out; show gv ≠ r1; omega) (.slice (some ⟨gv, 0, none⟩) n n))
  replace HN := Lib.hid (((((((((HN.out).set 0 (.int .i64 1)).set 1 (.int .i64 2)).set 2 (.int .i64 100)).set 3 (.int .i64 100)).set 4 (.int .i64 200)).set 5 (.int .i64 (F : Int))).set 6 (.int .u64 1000)).set 7 (.slice (some ⟨gv, 0, none⟩) n n))
  replace HB := Lib.hid (((((((((HB.out).other (a := ⟨r1, 0, none⟩) (by have := HR.out; show r0 ≠ r1; omega) (.int .i64 1)).other (a := ⟨r1, 1, none⟩) (by have := HR.out; show r0 ≠ r1; omega) (.int .i64 2)).other (a := ⟨r1, 2, none⟩) (by have := HR.out; show r0 ≠ r1; omega) (.int .i64 100)).other (a := ⟨r1, 3, none⟩) (by have := HR.out; show r0 ≠ r1; omega) (.int .i64 100)).other (a := ⟨r1, 4, none⟩) (by have := HR.out; show r0 ≠ r1; omega) (.int .i64 200)).other (a := ⟨r1, 5, none⟩) (by have := HR.out; show r0 ≠ r1; omega) (.int .i64 (F : Int))).other (a := ⟨r1, 6, none⟩) (by have := HR.out; show r0 ≠ r1; omega) (.int .u64 1000)).other (a := ⟨r1, 7, none⟩) (by have := HR.out; show r0 ≠ r1; omega) (.slice (some ⟨gv, 0, none⟩) n n))
  replace HK := Lib.hid (((((((((HK.out).setNew (b := r1) (by rw [HR.out, HR0.out]; omega) 0 (.int .i64 1)).setNew (b := r1) (by rw [HR.out, HR0.out]; omega) 1 (.int .i64 2)).setNew (b := r1) (by rw [HR.out, HR0.out]; omega) 2 (.int .i64 100)).setNew (b := r1) (by rw [HR.out, HR0.out]; omega) 3 (.int .i64 100)).setNew (b := r1) (by rw [HR.out, HR0.out]; omega) 4 (.int .i64 200)).setNew (b := r1) (by rw [HR.out, HR0.out]; omega) 5 (.int .i64 (F : Int))).setNew (b := r1) (by rw [HR.out, HR0.out]; omega) 6 (.int .u64 1000)).setNew (b := r1) (by rw [HR.out, HR0.out]; omega) 7 (.slice (some ⟨gv, 0, none⟩) n n))
  clear s0 z0 s1 z1 s2 z2 s3 z3 s4 z4 s5 z5 s6 z6 s7 z7
  refine hK.out _ _ ?_ (fun hHeld2 => ?_)
  · exact HB.out
  clear hK KK hHeld
  have hHeld := hHeld2
  clear hHeld2
  try simp only [Act.put, List.setIfInBounds_toArray, List.set_cons_zero, List.set_cons_succ]
  refine wpAnyH_done (by kernel_rfl) ?_ _
  clear hHeld
  clear hgv
  have q0 := HN.out.cell (i := 0) rfl
  have q1 := HN.out.cell (i := 1) rfl
  have q2 := HN.out.cell (i := 2) rfl
  have q3 := HN.out.cell (i := 3) rfl
  have q4 := HN.out.cell (i := 4) rfl
  have q5 := HN.out.cell (i := 5) rfl
  have q6 := HN.out.cell (i := 6) rfl
  have q7 := HN.out.cell (i := 7) rfl
  go_wp2
  refine bodyPost_ret (v := .agg #[.int .i64 1, .int .i64 2, .int .i64 100, .int .i64 100, .int .i64 200, .int .i64 (F : Int), .int .u64 1000, .slice (some ⟨gv, 0, none⟩) n n]) ?_ rfl ?_
  · simp [results, Tryz.results12, go_sem, q0, q1, q2, q3, q4, q5, q6, q7]
  exact ⟨gv, rfl, HBv.out, by have := HGV.out; have := HR.out; have := HR0.out; omega, HK.out⟩

theorem pfield0 (lv : Int) (A : Option Addr) (n c : Nat) (hi : ByteArray) (la : Bool) (rt : Int) (w : World) : (Instr.field 46 (.agg #[.int .i64 lv, .slice A n c, .string hi, .bool la, .int .u64 rt]) 0).run Tryz.prog w = .ok (.int .i64 lv) w := by kernel_rfl
set_option maxHeartbeats 2000000 in
theorem height_any (F : Nat) (h4 : 4 ≤ F) (h6 : F ≤ 6) (g n : Nat) (l : List Cel) (hl : l.length = n) (rt : Nat) (M0 : Int) (K0 : ByteArray) (h1 : 1 ≤ rt) (h2 : rt ≤ 100) (P : Pg) (hH : Holds (nad F rt) l P) (hw : Wf P) (hF : P.xs.length ≤ F) (hlv : P.lv ≤ 1000) (w : World) (hv : Blk w g 56 (flat3 l)) (hc : cellAt l 0 = ((rt : Int), K0, M0)) :
    Calls Tryz.prog 13 #[.agg #[.int .i64 1, .int .i64 2, .int .i64 100, .int .i64 100, .int .i64 200, .int .i64 (F : Int), .int .u64 1000, .slice (some ⟨g, 0, none⟩) n n]] w fun e w' => e = .returned (.int .i64 ((P.lv : Int) + 1)) ∧ Kept (fun _ => False) w w' := by
  have HV0 := Lib.hid hv
  have HC := Lib.hid hc
  have HH := Lib.hid hH
  have HW := Lib.hid hw
  have hfd := field0 (rt : Int) M0 K0
  have hwr : IntKind.i64.wrap ((P.lv : Int) + 1) = (P.lv : Int) + 1 := by rw [IntKind.wrap_i64]; omega
  clear hv hc hH hw
  go_enter Tryz.func13, Tryz.ntmps13
  go_wp2_with fail
  have hal := (Kept.refl (fun _ => False) w).alloc (.cells #[.int .i64 1, .int .i64 2, .int .i64 100, .int .i64 100, .int .i64 200, .int .i64 (F : Int), .int .u64 1000, .slice (some ⟨g, 0, none⟩) n n] 38)
  have HB := Lib.hid (Blk.new w [.int .i64 1, .int .i64 2, .int .i64 100, .int .i64 100, .int .i64 200, .int .i64 (F : Int), .int .u64 1000, .slice (some ⟨g, 0, none⟩) n n] 38)
  have HV := Lib.hid (hal.blk HV0.out (fun h => h))
  have HK := Lib.hid hal
  clear hal HV0
  generalize w.heap.size = r0 at HB ⊢
  generalize w.alloc (.cells #[.int .i64 1, .int .i64 2, .int .i64 100, .int .i64 100, .int .i64 200, .int .i64 (F : Int), .int .u64 1000, .slice (some ⟨g, 0, none⟩) n n] 38) = W at *
  replace HV := Lib.hid (HV.out.of (w' := W.drew) rfl)
  replace HB := Lib.hid (HB.out.of (w' := W.drew) rfl)
  replace HK := Lib.hid HK.out.drew
  refine wp_region_held_drew (S := (fun w' => Blk w' r0 38 [.int .i64 1, .int .i64 2, .int .i64 100, .int .i64 100, .int .i64 200, .int .i64 (F : Int), .int .u64 1000, .slice (some ⟨g, 0, none⟩) n n])) (by kernel_rfl) ?_ (fun hHeld => ?_)
  · exact HB.out
  generalize W.drew = G0 at *
  refine wpAnyH_take (i := 0) (oi := ⟨some 3, _, _, _, _, _⟩) (v := ?_) rfl (by kernel_rfl) (by kernel_rfl) (by kernel_rfl) (fun _ _ _ h => h) (Or.inl ⟨by rfl, ?_⟩) hHeld ?_
  rotate_left
  · (intro wq hSw; have hb9 := hSw; have x0 := hb9.cell (i := 0) rfl; have x1 := hb9.cell (i := 1) rfl; have x2 := hb9.cell (i := 2) rfl; have x3 := hb9.cell (i := 3) rfl; have x4 := hb9.cell (i := 4) rfl; have x5 := hb9.cell (i := 5) rfl; have x6 := hb9.cell (i := 6) rfl; have x7 := hb9.cell (i := 7) rfl; clear hb9; go_simp; try with_reducible rfl)
  try simp only [Act.put, List.setIfInBounds_toArray, List.set_cons_zero, List.set_cons_succ]
  refine wpAnyH_take (i := 1) (oi := ⟨some 4, _, _, _, _, _⟩) (v := ?_) rfl (by kernel_rfl) (by kernel_rfl) (by kernel_rfl) (fun _ _ _ h => h) (Or.inl ⟨by rfl, ?_⟩) hHeld ?_
  rotate_left
  · (intro wq hSw; have hb9 := hSw; have x0 := hb9.cell (i := 0) rfl; have x1 := hb9.cell (i := 1) rfl; have x2 := hb9.cell (i := 2) rfl; have x3 := hb9.cell (i := 3) rfl; have x4 := hb9.cell (i := 4) rfl; have x5 := hb9.cell (i := 5) rfl; have x6 := hb9.cell (i := 6) rfl; have x7 := hb9.cell (i := 7) rfl; clear hb9; go_simp; try with_reducible rfl)
  try simp only [Act.put, List.setIfInBounds_toArray, List.set_cons_zero, List.set_cons_succ]
  refine wpAnyH_ready (rs := [2]) (by kernel_rfl) (by simp) ?_
  refine AllReadyH.cons (o := ⟨some 5, _, _, _, _, _⟩) rfl (fun KK hK => ?_) AllReadyH.nil
  go_simp
  go_at_call 46
  refine (vat_any F h4 h6 g n l hl 0 (rt : Int) M0 K0 _ HV.out HC.out).mono ?_; rintro e G ⟨rfl, hB⟩
  replace HV := Lib.hid (hB.blk HV.out (fun h => h))
  replace HB := Lib.hid (hB.blk HB.out (fun h => h))
  replace HK := Lib.hid (HK.out.trans hB (fun _ _ h => h))
  clear hB
  refine hK.out _ _ ?_ (fun hHeld2 => ?_)
  · exact HB.out
  clear hK KK hHeld
  have hHeld := hHeld2
  clear hHeld2
  try simp only [Act.put, List.setIfInBounds_toArray, List.set_cons_zero, List.set_cons_succ]
  refine wpAnyH_take (i := 3) (oi := ⟨some 6, _, _, _, _, _⟩) (v := .int .u64 (rt : Int)) rfl (by kernel_rfl) (by kernel_rfl) (by kernel_rfl) (fun _ _ _ h => h) (Or.inl ⟨by rfl, ?_⟩) hHeld ?_
  · (intro wq hSw; go_simp; try first | (with_reducible rfl) | (simp; omega) | (intros; omega) | simp [*])
  try simp only [Act.put, List.setIfInBounds_toArray, List.set_cons_zero, List.set_cons_succ]
  refine wpAnyH_ready (rs := [4]) (by kernel_rfl) (by simp) ?_
  refine AllReadyH.cons (o := ⟨some 7, _, _, _, _, _⟩) rfl (fun KK hK => ?_) AllReadyH.nil
  go_simp
  go_at_call 18
  refine (vpage_any F h4 h6 g n l hl rt h1 h2 P HH.out HW.out hF (by omega) _ HV.out).mono ?_; rintro e G3 ⟨A9, c9, rfl, -, -, hB⟩
  have hpf := pfield0 (P.lv : Int) A9 P.xs.length c9 P.hi P.la (P.rt : Int)
  replace HV := Lib.hid (hB.blk HV.out (fun h => h))
  replace HB := Lib.hid (hB.blk HB.out (fun h => h))
  replace HK := Lib.hid (HK.out.trans hB (fun _ _ h => h))
  clear hB
  refine hK.out _ _ ?_ (fun hHeld2 => ?_)
  · exact HB.out
  clear hK KK hHeld
  have hHeld := hHeld2
  clear hHeld2
  try simp only [Act.put, List.setIfInBounds_toArray, List.set_cons_zero, List.set_cons_succ]
  refine wpAnyH_take (i := 5) (oi := ⟨some 8, _, _, _, _, _⟩) (v := .int .i64 (P.lv : Int)) rfl (by kernel_rfl) (by kernel_rfl) (by kernel_rfl) (fun _ _ _ h => h) (Or.inl ⟨by rfl, ?_⟩) hHeld ?_
  · (intro wq hSw; go_simp; try first | (with_reducible rfl) | (simp; omega) | (intros; omega) | simp [*])
  try simp only [Act.put, List.setIfInBounds_toArray, List.set_cons_zero, List.set_cons_succ]
  refine wpAnyH_take (i := 6) (oi := ⟨some 9, _, _, _, _, _⟩) (v := .int .i64 ((P.lv : Int) + 1)) rfl (by kernel_rfl) (by kernel_rfl) (by kernel_rfl) (fun _ _ _ h => h) (Or.inl ⟨by rfl, ?_⟩) hHeld ?_
  · (intro wq hSw; go_simp; try first | (with_reducible rfl) | (simp; omega) | (intros; omega) | simp [*])
  try simp only [Act.put, List.setIfInBounds_toArray, List.set_cons_zero, List.set_cons_succ]
  refine wpAnyH_take (i := 7) (oi := ⟨some 2, _, _, _, _, _⟩) (v := ?_) rfl (by kernel_rfl) (by kernel_rfl) (by kernel_rfl) (fun _ _ _ h => h) (Or.inl ⟨by rfl, ?_⟩) hHeld ?_
  rotate_left
  · (intro wq hSw; go_simp; try with_reducible rfl)
  try simp only [Act.put, List.setIfInBounds_toArray, List.set_cons_zero, List.set_cons_succ]
  refine wpAnyH_done (by kernel_rfl) ?_ _
  clear hHeld
  go_wp2
  go_ret
  exact ⟨rfl, HK.out⟩
end
end Go.Proofs.YtndadgenkmgmaaaGreat
