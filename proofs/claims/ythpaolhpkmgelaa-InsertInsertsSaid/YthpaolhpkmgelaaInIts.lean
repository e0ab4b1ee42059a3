/-
  InsertInserts, walked. Condition: arguments within the model's reach.
-/
import Derived.Test.YthpaolhpkmgelaaInHow
import Derived.Test.YthpaolhpkmgelaaInRem
import Derived.Test.YthpaolhpkmgelaaInTe2
import Derived.Test.YthpaolhpkmgelaaLkSplit
import Derived.Deep.CutBlock
namespace Go.Proofs.Ythpaolhpkmgelaa
open Go.RowKit Go.Deep Plain
set_option linter.unusedVariables false

section
open Go.RowKit Go.Deep Plain
set_option linter.unusedVariables false

def Ypg (X : Pg) (m : Nat) (sp : ByteArray) : Option Nat → Pg
  | none => X
  | some num => lpg X m sp num
def Ysp (sp : ByteArray) : Option Nat → ByteArray
  | none => ⟨#[]⟩
  | some _ => sp
theorem leftY (F : Nat) (fb fd : Int) (i : Nat) (P X Y : Pg) (m : Nat) (sp : ByteArray) (Z : Nat → Prop) (fo : Option Nat) (hY : Ypg X m sp fo = Y) (w : World) (h : IAt Z w F 10 fb fd i 2 41 P X m sp 10 (.don fo)) (hlen : Y.xs.length ≤ 1000) :
    Calls Try.prog 13 #[.pointer (some ⟨i, 0, none⟩)] w fun e w' => ∃ A4 c4, e = .returned (.agg #[.int .u64 2, .int .u64 45, .int .i64 (Y.lv : Int), .slice A4 Y.xs.length c4, .string Y.hi, .bool Y.la, .int .u64 (Y.rt : Int)]) ∧ Rs w' A4 c4 Y.xs ∧ (∀ a, A4 = some a → w.heap.size ≤ a.block) ∧ Kept (fun _ => False) w w' := by
  subst hY
  cases fo with
  | none => exact is_left0 F 10 fb fd i 2 41 P X m sp 10 Z 0 w h (by have : X.xs.length ≤ 1000 := hlen; omega)
  | some num => exact is_left1 F 10 fb fd i 2 41 P X m sp 10 Z num w h (by have : (lpg X m sp num).xs.length ≤ 1000 := hlen; omega)
theorem sepY (F : Nat) (fb fd : Int) (i : Nat) (P X : Pg) (m : Nat) (sp s : ByteArray) (Z : Nat → Prop) (fo : Option Nat) (hs : Ysp sp fo = s) (w : World) (h : IAt Z w F 10 fb fd i 2 41 P X m sp 10 (.don fo)) :
    Calls Try.prog 21 #[.pointer (some ⟨i, 0, none⟩)] w fun e w' => e = .returned (.string s) ∧ Kept (fun _ => False) w w' := by
  subst hs
  cases fo with
  | none => exact is_sep0 F 10 fb fd i 2 41 P X m sp 10 Z 0 w h
  | some num => exact is_sep1 F 10 fb fd i 2 41 P X m sp 10 Z num w h
theorem new_startT (F : Nat) (fb fd : Int) (P : Pg) (A : Option Addr) (c : Nat) (key : ByteArray) (ref m Nv : Nat) (sp : ByteArray) (l0 : List Cel) (w : World) (O : Iok F 10 fb fd 2 41 P (npg P key ref) m sp 10 Nv l0 ⟨#[]⟩ 0) (hR : Rs w A c P.xs) (ha : Asc P.xs) (hk : has key P.xs = false) :
    Calls Try.prog 7 #[.agg #[.int .i64 1, .int .i64 2, .int .i64 10, .int .i64 100, .int .i64 200, .int .i64 (F : Int), .int .u64 1000, .int .i64 10, .int .i64 fb, .int .i64 fd], .agg #[.int .u64 2, .int .u64 41, .int .i64 (P.lv : Int), .slice A P.xs.length c, .string P.hi, .bool P.la, .int .u64 (P.rt : Int)], .string key, .int .u64 (ref : Int)] w fun e w' => ∃ (i : Nat) (Z : Nat → Prop) (s : Is) (d : Nat), e = .returned (.pointer (some ⟨i, 0, none⟩)) ∧ IAt Z w' F 10 fb fd i 2 41 P (npg P key ref) m sp 10 s ∧ Ipl F 10 2 41 P (npg P key ref) m sp 10 Nv l0 ⟨#[]⟩ 0 s l0 d ∧ s.two = decide (F < (npg P key ref).xs.length) ∧ 0 < d ∧ (∀ j, Z j → w.heap.size ≤ j ∧ j < w'.heap.size) ∧ Kept (fun _ => False) w w' :=
  new_startG F fb fd 2 41 10 Nv P A c key ref m sp l0 w O hR ha hk
/-- What is asked of the law's Insert. -/
theorem iok_law {F : Nat} {fb fd : Int} {P : Pg} {key : ByteArray} {ref Nv n : Nat} {l0 : List Cel} (h4 : 4 ≤ F) (h6 : F ≤ 6) (hd : Reach3 10 fb fd) (hp : HPg F P) (hk : key.size ≤ 1000) (hN : Nv ≤ 10) (hl : HL F P Nv n l0) : ∃ m sp, Iok F 10 fb fd 2 41 P (npg P key ref) m sp 10 Nv l0 ⟨#[]⟩ 0 ∧ m = P.xs.length + 1 - (P.xs.length + 1) / 2 := by
  have hx := npg_length P key ref
  have h1 := hp.pos
  have h2 := hp.len
  obtain ⟨sp, hsp⟩ := sepr_ex (npg P key ref).lv (npg P key ref).xs ((npg P key ref).xs.length - (npg P key ref).xs.length / 2) (by omega) (by omega)
  refine ⟨_, sp, ⟨limFT h4 h6, hd, by omega, by have := hp.lv; omega, ⟨by omega, by omega⟩, by have h3 := hp.lv; have h5 : (npg P key ref).lv = P.lv := rfl; omega, by omega, rfl, fun x hx => ?_, hsp, by omega, by have := hl.len; have := hl.lo; omega, hl.c4⟩, by rw [hx]⟩
  rcases ins_mem.1 hx with rfl | h
  · exact hk
  · have := hp.sz x h; omega
/-- The end of an Insert, by what it has done. -/
theorem ipl_last {F : Nat} {N : Int} {id wd : Nat} {P X : Pg} {m : Nat} {sp : ByteArray} {lim Nv : Nat} {l0 l : List Cel} {K : ByteArray} {M : Int} {s : Is} (I : Ipl F N id wd P X m sp lim Nv l0 K M s l 0) :
    (s.two = true ∧ lim ≤ Nv → s = .ful ∧ l = l0) ∧ (s.two = true ∧ Nv < lim → s = .don (some (Nv + 1)) ∧ l = app (app (memT l0 Nv K M) (frsN F N X m (Nv + 1))) (wrsN F N id wd P (lpg X m sp (Nv + 1)))) ∧ (s.two = false → s = .don Option.none ∧ l = app l0 (wrsN F N id wd P X)) := by
  generalize hd : 0 = d at I
  have hw1 := wrsN_len (F := F) (N := N) (id := id) (wd := wd) P (lpg X m sp (Nv + 1))
  cases I with
  | don1 hv => exact ⟨fun h => (by omega), fun _ => ⟨rfl, rfl⟩, fun h => (by cases h)⟩
  | don0 => exact ⟨fun h => (by cases h.1), fun h => (by cases h.1), fun _ => ⟨rfl, rfl⟩⟩
  | ful hv => exact ⟨fun _ => ⟨rfl, rfl⟩, fun h => (by omega), fun h => (by cases h)⟩
  | tak0 hv => omega
  | none hv => omega
  | tak1 hv => omega
  | fil hv hj => omega
  | wri1 hv hj => omega
  | wri0 hj => omega
theorem hfieldW2 (i wd lv : Int) (A : Option Addr) (n c : Nat) (hi : ByteArray) (la : Bool) (rt : Int) (w : World) : (Instr.field 33 (.agg #[.int .u64 i, .int .u64 wd, .int .i64 lv, .slice A n c, .string hi, .bool la, .int .u64 rt]) 1).run Try.prog w = .ok (.int .u64 wd) w := by kernel_rfl
theorem onesP (F : Nat) (fb fd : Int) (b : Nat) (id wd lv : Int) (A : Option Addr) (n c : Nat) (hi : ByteArray) (la : Bool) (rt : Int) (key : ByteArray) : (⟨hldv F fb fd b id wd lv (.slice A n c) hi la rt key⟩ : Array Value).all (·.oneCell') = true := by simp [hldv, Value.oneCell']
theorem wpList_storeP {ops : Array Oper} {rest : List Oper} {o : Oper} {a : Act} {w : World} {Q : Exit → Act → World → Prop} (hg : o.guard = none) (x y : Operand) (ho : o.op = .store 35 x y) (g : Nat) (F : Nat) (fb fd : Int) (b : Nat) (id wd lv : Int) (A : Option Addr) (n c : Nat) (hi : ByteArray) (la : Bool) (rt : Int) (key : ByteArray) (hx : a.eval x = .pointer (some ⟨g, 0, none⟩)) (hy : a.eval y = .agg ⟨hldv F fb fd b id wd lv (.slice A n c) hi la rt key⟩) (hb : Blk w g 35 [.int .i64 0, .int .i64 0, .int .i64 0, .int .i64 0, .int .i64 0, .int .i64 0, .int .u64 0, .int .i64 0, .int .i64 0, .int .i64 0, .int .i64 0, .int .i64 0, .int .i64 0, .int .u64 0, .int .i64 0, .int .i64 0, .int .i64 0, .pointer none, .int .u64 0, .int .u64 0, .int .i64 0, .slice none 0 0, .string ⟨#[]⟩, .bool false, .int .u64 0, .string ⟨#[]⟩]) (h : wpList Try.prog ops Q rest (a.put o.dst undef) (w.setRow g ⟨hldv F fb fd b id wd lv (.slice A n c) hi la rt key⟩)) : wpList Try.prog ops Q (o :: rest) a w :=
  wpList_store_row hg 35 x y ho g _ hx hy 35 ⟨[.int .i64 0, .int .i64 0, .int .i64 0, .int .i64 0, .int .i64 0, .int .i64 0, .int .u64 0, .int .i64 0, .int .i64 0, .int .i64 0, .int .i64 0, .int .i64 0, .int .i64 0, .int .u64 0, .int .i64 0, .int .i64 0, .int .i64 0, .pointer none, .int .u64 0, .int .u64 0, .int .i64 0, .slice none 0 0, .string ⟨#[]⟩, .bool false, .int .u64 0, .string ⟨#[]⟩]⟩ hb infoHld rfl (onesP F fb fd b id wd lv A n c hi la rt key) h
theorem infoPg : (Try.prog.info? 31).map (·.size) = some 5 := by kernel_rfl
theorem leftF2 (F : Nat) (fb fd : Int) (i : Nat) (P X : Pg) (m : Nat) (sp : ByteArray) (Z : Nat → Prop) (w : World) (h : IAt Z w F 10 fb fd i 2 41 P X m sp 10 .ful) (hlen : P.xs.length ≤ 1000) :
    Calls Try.prog 13 #[.pointer (some ⟨i, 0, none⟩)] w fun e w' => ∃ A4 c4, e = .returned (.agg #[.int .u64 2, .int .u64 41, .int .i64 (P.lv : Int), .slice A4 P.xs.length c4, .string P.hi, .bool P.la, .int .u64 (P.rt : Int)]) ∧ Rs w' A4 c4 P.xs ∧ (∀ a, A4 = some a → w.heap.size ≤ a.block) ∧ Kept (fun _ => False) w w' := is_leftF F 10 fb fd i 2 41 P X m sp 10 Z w h hlen
theorem Rs.capY {w : World} {A : Option Addr} {c m : Nat} {xs : List Sl} (h : Rs w A c xs) (h1 : xs.length ≤ m) (h2 : m ≤ c) : Rs w A m xs := by
  refine ⟨h1, by have := h.max; omega, fun hn => ?_, h.some'⟩
  have := h.none' hn; omega
theorem split_both (lv : Nat) (hl9 : lv ≤ 1000) (A : Option Addr) (c : Nat) (hi : ByteArray) (la : Bool) (rt right : Nat) (xs : List Sl) (n k : Nat) (sp : ByteArray) (w : World) (hn : xs.length = n) (h2 : 2 ≤ n) (h40 : n ≤ 1000) (hk : k = n - n / 2) (hR : Rs w A c xs) (hsz : ∀ x ∈ xs, x.1.size ≤ 1000) (hsp : Sepr lv xs k sp) :
    Calls Try.prog 17 #[.agg #[.int .i64 (lv : Int), .slice A n c, .string hi, .bool la, .int .u64 (rt : Int)], .int .u64 (right : Int)] w fun e w' => ∃ g o, A = some ⟨g, o, none⟩ ∧ e = .returned (.tuple #[.agg #[.int .i64 (lv : Int), .slice (some ⟨g, o, none⟩) k k, .string sp, .bool false, .int .u64 (right : Int)], .agg #[.int .i64 (lv : Int), .slice (some ⟨g, o + k * 2, none⟩) (n - k) (c - k), .string hi, .bool la, .int .u64 (rt : Int)], .string sp, .bool true]) ∧ Kept (fun _ => False) w w' := by
  by_cases h0 : lv = 0
  · subst h0
    exact refSplit_low A c hi la rt right xs n k sp w hn h2 h40 hk hR hsz (fun x0 x1 a0 a1 => by have := hsp x0 x1 a0 a1; simpa using this)
  · refine refSplit_in lv h0 hl9 A c hi la rt right xs n k sp w hn h2 h40 hk hR (fun x1 a1 => ?_)
    obtain ⟨y0, hy0⟩ : ∃ y, xs[k - 1]? = some y := ⟨_, List.getElem?_eq_getElem (by have := (List.getElem?_eq_some_iff.1 a1).1; omega)⟩
    have := hsp y0 x1 hy0 a1
    rw [if_neg h0] at this; exact this
theorem Rs.dropY {w : World} {g o c k : Nat} {xs : List Sl} (h : Rs w (some ⟨g, o, none⟩) c xs) (hk : k < xs.length) : Rs w (some ⟨g, o + k * 2, none⟩) (c - k) (xs.drop k) := by
  have h1 := h.drop k (by omega)
  have h2 : ¬ c = k := by have := h.le; omega
  rw [if_neg h2] at h1
  have h3 : (Option.map (fun x => Addr.add x (k * 2)) (some (⟨g, o, none⟩ : Addr))) = some ⟨g, o + k * 2, none⟩ := by
    simp only [Option.map]; unfold Addr.add; split <;> simp_all
  rw [h3] at h1; exact h1
end

set_option maxRecDepth 100000 in
set_option maxHeartbeats 4000000 in
theorem lawInserts (w : World) (AR : Option Addr) (nR cR : Nat) (ss : List ByteArray) (hnR : ss.length = nR) (hrd : Rdv w w.heap.size (.slice AR nR cR) nR (ss.map Value.string)) (hsz : ∀ s ∈ ss, s.size ≤ maxLen) (f lvI : Int) (la : Bool) (key0 : ByteArray) (hkey : key0.size ≤ maxLen) (ref : Nat) (href : ref < 18446744073709551616) (us : Int) :
    Calls Try.prog 3 #[.slice AR nR cR, .int .i64 f, .int .i64 lvI, .bool la, .string key0, .int .u64 (ref : Int), .int .i64 us] w fun e w' => e = .returned (.bool true) ∧ Below w.heap.size w w' := by
  obtain ⟨F, hF⟩ : ∃ F : Nat, 4 + f % 3 = (F : Int) := ⟨(4 + f % 3).toNat, by omega⟩
  obtain ⟨lv, hlv⟩ : ∃ lv : Nat, lvI % 3 = (lv : Int) := ⟨(lvI % 3).toNat, by omega⟩
  obtain ⟨Nv, hNv⟩ : ∃ Nv : Nat, 3 + us % 8 = (Nv : Int) := ⟨(3 + us % 8).toNat, by omega⟩
  have h4 : 4 ≤ F := by omega
  have h6 : F ≤ 6 := by omega
  have hN3 : 3 ≤ Nv ∧ Nv ≤ 10 := by omega
  have HHOLD := Lib.hid (hold_any w AR nR cR ss hnR hrd hsz f lvI F hF la key0 hkey us Nv hNv lv hlv)
  have HN3 := Lib.hid hN3
  clear hrd hsz hF hlv hNv hN3 hkey
  go_enter Try.func3, Try.ntmps3
  go_upto_region 1 with fail
  go_wp2_with fail
  refine HHOLD.out.mono ?_; rintro e w1 ⟨b, g, fb, fd, P, A, c, key, rfl, hM, hPG, hks, hRs, hA, hD, hb, hg, hK⟩
  clear HHOLD
  obtain ⟨hv, hhv⟩ : ∃ hv, has key P.xs = hv := ⟨_, rfl⟩
  rw [hhv]
  obtain ⟨l0, hl0⟩ : ∃ l0, holdL F P Nv = l0 := ⟨_, rfl⟩
  obtain ⟨n, hHL⟩ := HL.start (F := F) (P := P) (Nv := Nv) h4 h6 hPG.len
  have HHL := Lib.hid (show HL F P Nv n l0 from by rw [← hl0]; exact hHL)
  rw [hl0] at hM
  have HM := Lib.hid hM
  have HPG := Lib.hid hPG
  have HKS := Lib.hid hks
  have HRS := Lib.hid hRs
  have HA := Lib.hid hA
  have HD := Lib.hid hD
  have HB := Lib.hid (show w.heap.size ≤ b ∧ w.heap.size ≤ g ∧ b < w1.heap.size ∧ g < w1.heap.size from ⟨hb, hg, hM.obj.lt, hM.row.lt⟩)
  have HK := Lib.hid hK
  have HHV := Lib.hid hhv
  clear hHL hM hPG hks hRs hA hD hb hg hK hhv hl0
  have HRS0 := Lib.hid HRS.out
  go_upto_region 2 with (first | (refine wpList_allocH rfl rfl ?_) | (refine wpList_storeP rfl (.tmp 15) (.tmp 40) rfl w1.heap.size F fb fd b 2 41 (P.lv : Int) A P.xs.length c P.hi P.la (P.rt : Int) key rfl rfl (Blk.new w1 [.int .i64 0, .int .i64 0, .int .i64 0, .int .i64 0, .int .i64 0, .int .i64 0, .int .u64 0, .int .i64 0, .int .i64 0, .int .i64 0, .int .i64 0, .int .i64 0, .int .i64 0, .int .u64 0, .int .i64 0, .int .i64 0, .int .i64 0, .pointer none, .int .u64 0, .int .u64 0, .int .i64 0, .slice none 0 0, .string ⟨#[]⟩, .bool false, .int .u64 0, .string ⟨#[]⟩] 35) ?_))
  have h15 := (Blk.new w1 [.int .i64 0, .int .i64 0, .int .i64 0, .int .i64 0, .int .i64 0, .int .i64 0, .int .u64 0, .int .i64 0, .int .i64 0, .int .i64 0, .int .i64 0, .int .i64 0, .int .i64 0, .int .u64 0, .int .i64 0, .int .i64 0, .int .i64 0, .pointer none, .int .u64 0, .int .u64 0, .int .i64 0, .slice none 0 0, .string ⟨#[]⟩, .bool false, .int .u64 0, .string ⟨#[]⟩] 35).row (hldv F fb fd b 2 41 (P.lv : Int) (.slice A P.xs.length c) P.hi P.la (P.rt : Int) key)
  have hk15 := ((Kept.refl (fun _ => False) w1).alloc (.cells #[.int .i64 0, .int .i64 0, .int .i64 0, .int .i64 0, .int .i64 0, .int .i64 0, .int .u64 0, .int .i64 0, .int .i64 0, .int .i64 0, .int .i64 0, .int .i64 0, .int .i64 0, .int .u64 0, .int .i64 0, .int .i64 0, .int .i64 0, .pointer none, .int .u64 0, .int .u64 0, .int .i64 0, .slice none 0 0, .string ⟨#[]⟩, .bool false, .int .u64 0, .string ⟨#[]⟩] 35)).row (g := w1.heap.size) (fun h => absurd h (Nat.lt_irrefl _)) ⟨(hldv F fb fd b 2 41 (P.lv : Int) (.slice A P.xs.length c) P.hi P.la (P.rt : Int) key)⟩
  have H15 := Lib.hid h15
  replace HK := Lib.hid (HK.out.trans hk15 (fun _ _ h => h.elim))
  replace HRS := Lib.hid (HRS.out.keptF hk15 (fun _ _ h => h))
  replace HM := Lib.hid (HM.out.kept hk15 (fun h => h) (fun h => h))
  clear hk15
  have HAB0 : ∀ a, A = some a → 0 < P.xs.length → a.block < w1.heap.size := fun a ha hp => by
    obtain ⟨g9, o9, e9, h9, -⟩ := HRS0.out.at hp
    rw [e9] at ha; cases ha; exact h9
  generalize hr15 : w1.heap.size = r15 at *
  generalize (w1.alloc (.cells #[.int .i64 0, .int .i64 0, .int .i64 0, .int .i64 0, .int .i64 0, .int .i64 0, .int .u64 0, .int .i64 0, .int .i64 0, .int .i64 0, .int .i64 0, .int .i64 0, .int .i64 0, .int .u64 0, .int .i64 0, .int .i64 0, .int .i64 0, .pointer none, .int .u64 0, .int .u64 0, .int .i64 0, .slice none 0 0, .string ⟨#[]⟩, .bool false, .int .u64 0, .string ⟨#[]⟩] 35)).setRow r15 ⟨(hldv F fb fd b 2 41 (P.lv : Int) (.slice A P.xs.length c) P.hi P.la (P.rt : Int) key)⟩ = W1 at *
  have HR15 := Lib.hid (show w.heap.size ≤ b ∧ w.heap.size ≤ g ∧ b < r15 ∧ g < r15 ∧ r15 < W1.heap.size from by have h1 := HB.out; have h2 := h15.lt; omega)
  have HAB := Lib.hid HAB0
  clear hr15 h15 HB HAB0 HRS0
  go_wp2_with fail
  refine (awake13_any _).mono ?_; rintro e w2 ⟨rfl, hKa⟩
  replace HK := Lib.hid (HK.out.trans hKa (fun _ _ h => h.elim))
  replace H15 := Lib.hid (hKa.blk H15.out (fun h => h))
  replace HRS := Lib.hid (HRS.out.keptF hKa (fun _ _ h => h))
  replace HM := Lib.hid (HM.out.kept hKa (fun h => h) (fun h => h))
  clear hKa
  have hb9 := H15.out
  have x17 := hb9.cell (i := 17) rfl
  clear hb9
  go_upto_region 4 with fail
  clear x17
  cases hv with
  | true =>
    go_wp2
    go_ret
    exact ⟨rfl, HK.out.below (Nat.le_refl _) (fun _ h => h)⟩
  | false =>
    have hb9 := H15.out
    have x17 := hb9.cell (i := 17) rfl
    clear hb9
    go_upto_region 6 with fail
    obtain ⟨gw, hgw⟩ : ∃ gw, w2.heap.size = gw := ⟨_, rfl⟩
    go_wp2_with fail
    refine (cells_at b g l0 0 _ gw hgw HM.out (by have h1 := HHL.out.len; have h2 := HHL.out.hi; omega)).mono ?_; rintro e w3 ⟨rfl, hGW, hK3⟩
    rw [HHL.out.len]
    have HGWR := Lib.hid (show r15 < gw ∧ gw < w3.heap.size ∧ w.heap.size ≤ gw from by have h1 := H15.out.lt; have h2 := hGW.lt; have h3 := HR15.out; omega)
    replace HK := Lib.hid (HK.out.trans hK3 (fun _ _ h => h.elim))
    replace H15 := Lib.hid (hK3.blk H15.out (fun h => h))
    replace HRS := Lib.hid (HRS.out.keptF hK3 (fun _ _ h => h))
    replace HM := Lib.hid (HM.out.kept hK3 (fun h => h) (fun h => h))
    have HGW := Lib.hid hGW
    clear hK3 hGW hgw x17
    obtain ⟨m, sp, hO, hm⟩ := iok_law (key := key) (ref := ref) (Nv := Nv) h4 h6 HD.out HPG.out HKS.out HN3.out.2 HHL.out
    have HO := Lib.hid hO
    have HMM := Lib.hid hm
    clear hO hm
    go_upto_region 7 with fail
    have hb9 := H15.out
    have x7 := hb9.cell (i := 7) rfl
    have x8 := hb9.cell (i := 8) rfl
    have x9 := hb9.cell (i := 9) rfl
    have x10 := hb9.cell (i := 10) rfl
    have x11 := hb9.cell (i := 11) rfl
    have x12 := hb9.cell (i := 12) rfl
    have x13 := hb9.cell (i := 13) rfl
    have x14 := hb9.cell (i := 14) rfl
    have x15 := hb9.cell (i := 15) rfl
    have x16 := hb9.cell (i := 16) rfl
    have x17 := hb9.cell (i := 17) rfl
    have x18 := hb9.cell (i := 18) rfl
    have x19 := hb9.cell (i := 19) rfl
    have x20 := hb9.cell (i := 20) rfl
    have x21 := hb9.cell (i := 21) rfl
    have x22 := hb9.cell (i := 22) rfl
    have x23 := hb9.cell (i := 23) rfl
    have x24 := hb9.cell (i := 24) rfl
    have x25 := hb9.cell (i := 25) rfl
    clear hb9
    go_wp2_with fail
    refine (new_startT F fb fd P A c key ref m Nv sp l0 _ HO.out HRS.out HPG.out.asc HHV.out).mono ?_; rintro e w4 ⟨i, Z, s, d, rfl, hA4, hI4, ht4, hd4, hZ4, hK4⟩
    have HIA := Lib.hid hA4
    have HIP := Lib.hid hI4
    have HT := Lib.hid ht4
    have HZ := Lib.hid (show ∀ j, Z j → gw < j ∧ j < w4.heap.size from fun j hj => by have h1 := hZ4 j hj; have h2 := HGWR.out; omega)
    replace HK := Lib.hid (HK.out.trans hK4 (fun _ _ h => h.elim))
    replace H15 := Lib.hid (hK4.blk H15.out (fun h => h))
    replace HRS := Lib.hid (HRS.out.keptF hK4 (fun _ _ h => h))
    replace HM := Lib.hid (HM.out.kept hK4 (fun h => h) (fun h => h))
    replace HGW := Lib.hid (hK4.blk HGW.out (fun h => h))
    have hI4M := hI4.most HO.out
    clear hA4 hI4 ht4 hZ4 hK4
    clear x7 x8 x9 x10 x11 x12 x13 x14 x15 x16 x17 x18 x19 x20 x21 x22 x23 x24 x25
    obtain ⟨tw, htw⟩ : ∃ tw, decide (F < (npg P key ref).xs.length) = tw := ⟨_, rfl⟩
    rw [htw] at HT
    have HTW := Lib.hid htw
    have HDM := Lib.hid (hI4M)
    clear htw hI4M
    go_upto_region 8 with fail
    rename World => W5
    have HW5 := Lib.hid (show gw < W5.heap.size from HGW.out.lt)
    go_wp2_with fail
    go_loopw [19] (fun nv wr => ∃ (t t1 : Nat) (s' : Is) (d' : Nat) (l : List Cel) (Z' : Nat → Prop), t + 1 = t1 ∧ nv = .int .i64 (t1 : Int) ∧ 0 < d' ∧ t + d' = d ∧ IAt Z' wr F 10 fb fd i 2 41 P (npg P key ref) m sp 10 s' ∧ Ipl F 10 2 41 P (npg P key ref) m sp 10 Nv l0 ⟨#[]⟩ 0 s' l d' ∧ Mem wr b g l t ∧ s'.two = tw ∧ (∀ j, Z' j → gw < j ∧ j < wr.heap.size) ∧ Kept (fun j => gw < j ∨ j = b ∨ j = g) W5 wr) (fun nv _ => d - (intOf nv).toNat)
    case atStart => exact ⟨0, 1, s, d, l0, Z, rfl, rfl, hd4, by omega, HIA.out, HIP.out, HM.out, HT.out, HZ.out, Kept.refl _ _⟩
    case round =>
      rename World => V1
      obtain ⟨t, t1, s1, d1, l1, Z1, htt, rfl, hd1, htd, hA1, hI1, hM1, ht1, hZ1, hK1⟩ := hrel
      have HDD := Lib.hid (show 0 < d1 ∧ t + d1 = d from ⟨hd1, htd⟩)
      have HM1 := Lib.hid hM1
      have HK1 := Lib.hid hK1
      have HZ1 := Lib.hid hZ1
      have HT1 := Lib.hid ht1
      have H15V := Lib.hid (hK1.blk H15.out (fun h => by have h1 := HR15.out; have h2 := HGWR.out; rcases h with h | h | h <;> omega))
      have HTT := Lib.hid htt
      have ht500 : (t1 : Int) < 500 := by have h1 := HDM.out; have h2 := npg_length P key ref; have h3 := HPG.out.len; omega
      have hdt500 : decide ((t1 : Int) < 500) = true := by simp; omega
      clear htt
      have HSTEP := Lib.hid (ir_step (w := V1) HO.out hA1 hI1 hd1 b g t hM1 (fun h => by have h1 := hZ1 b h; have h2 := HGWR.out; have h3 := HR15.out; omega) (fun h => by have h1 := hZ1 g h; have h2 := HGWR.out; have h3 := HR15.out; omega) (by have h1 := HDM.out; have h2 := npg_length P key ref; have h3 := HPG.out.len; omega))
      clear hd1 htd hA1 hI1 hM1 ht1 hZ1 hK1
      have hb9 := H15V.out
      have x17 := hb9.cell (i := 17) rfl
      clear hb9
      go_wp2_with fail
      refine HSTEP.out.mono ?_; rintro e w6 ⟨s2, l2, rfl, hM2, hA2, hI2, hK2, ht2⟩
      clear HSTEP
      have hkk := HK1.out.trans hK2 (T := fun j => Z1 j ∨ j = b ∨ j = g) (S := fun j => gw < j ∨ j = b ∨ j = g) (fun j hj h => by
        rcases h with h | h | h
        · exact .inl (HZ1.out j h).1
        · exact .inr (.inl h)
        · exact .inr (.inr h))
      have hz2 : ∀ j, Zm Z1 V1 w6 j → gw < j ∧ j < w6.heap.size := fun j hj => by
        rcases hj with h | h
        · have h1 := HZ1.out j h
          have h2 := hK2.size
          omega
        · have h1 := HK1.out.size
          have h2 := HW5.out
          omega
      obtain ⟨dd, hdd⟩ : ∃ dd, decide (d1 = 1) = dd := ⟨_, rfl⟩
      rw [hdd]
      have HDE := Lib.hid hdd
      have HM2 := Lib.hid hM2
      have HA2 := Lib.hid hA2
      have HI2 := Lib.hid hI2
      have HKK := Lib.hid hkk
      have HZ2 := Lib.hid hz2
      have HT2 := Lib.hid (ht2.trans HT1.out)
      clear hdd hM2 hA2 hI2 hkk hz2 ht2 hK2 x17 H15V
      cases dd with
      | false =>
        obtain ⟨t2, ht2⟩ : ∃ t2, t1 + 1 = t2 := ⟨_, rfl⟩
        have HT12 := Lib.hid ht2
        have hw1 : IntKind.i64.wrap ((t1 : Int) + 1) = (t2 : Int) := by rw [IntKind.wrap_i64]; omega
        clear ht2 hdt500
        go_wp2
        go_roundw
        case rel => exact ⟨t1, t2, s2, d1 - 1, l2, _, HT12.out, by go_num, by have h1 := HDE.out; have h2 := HDD.out; simp at h1; omega, by have h1 := HDE.out; have h2 := HDD.out; have h3 := HTT.out; simp at h1; omega, HA2.out, HI2.out, by have h3 := HTT.out; rw [← h3]; exact HM2.out, HT2.out, HZ2.out, HKK.out⟩
        case measure => have h1 := HDE.out; have h2 := HDD.out; have h3 := HTT.out; have h4 := HT12.out; simp [intOf]; simp at h1; omega
      | true =>
        have hd11 : d1 = 1 := by have h1 := HDE.out; simpa using h1
        have hI3 := HI2.out
        rw [hd11] at hI3
        have HLAST := Lib.hid (ipl_last hI3)
        replace HM2 := Lib.hid (show Mem w6 b g l2 t1 from by rw [← HTT.out]; exact HM2.out)
        have ht15 : t1 < 500 := by omega
        have HT500 := Lib.hid ht15
        clear hd11 ht15 hI3 HDE HI2 HDD HM1 HK1 HZ1 HT1 hd4 HIA HIP HM
        have HM := Lib.hid HM2.out
        have HIA := Lib.hid HA2.out
        replace HK := Lib.hid (HK.out.trans HKK.out (fun k hk h => by have h1 := HR15.out; have h2 := HGWR.out; show w.heap.size ≤ k; rcases h with h | h | h <;> omega))
        replace H15 := Lib.hid (HKK.out.blk H15.out (fun h => by have h1 := HR15.out; have h2 := HGWR.out; rcases h with h | h | h <;> omega))
        replace HGW := Lib.hid (HKK.out.blk HGW.out (fun h => by have h1 := HR15.out; have h2 := HGWR.out; rcases h with h | h | h <;> omega))
        replace HRS := Lib.hid (HRS.out.keptP HKK.out (fun hp a ha h => by
          have h1 := HA.out a ha
          have h2 := HAB.out a ha hp
          have h3 := HR15.out
          have h4 := HGWR.out
          rcases h with h | h | h <;> omega))
        clear HM2 HA2 HKK
        have HL2 := Lib.hid (show l2.length = n from by
          have h1 := HLAST.out
          have h0 := HHL.out.len
          cases htwo : s2.two with
          | false => rw [(h1.2.2 htwo).2, app_length]; exact h0
          | true =>
            rcases Nat.lt_or_ge Nv 10 with h | h
            · rw [(h1.2.1 ⟨htwo, h⟩).2, app_length, app_length]; unfold memT; rw [putAt_length]; exact h0
            · rw [(h1.1 ⟨htwo, h⟩).2]; exact h0)
        go_upto_region 11 with fail
        have hb9 := H15.out
        have x0 := hb9.cell (i := 0) rfl
        have x1 := hb9.cell (i := 1) rfl
        have x2 := hb9.cell (i := 2) rfl
        have x3 := hb9.cell (i := 3) rfl
        have x4 := hb9.cell (i := 4) rfl
        have x5 := hb9.cell (i := 5) rfl
        have x6 := hb9.cell (i := 6) rfl
        have x17 := hb9.cell (i := 17) rfl
        clear hb9
        go_wp2_with fail
        refine (view_anyT F b g l2 t1 n HL2.out HHL.out.hi _ HM.out).mono ?_; rintro e w7 ⟨gv, rfl, hGV, hgv, hK7⟩
        replace HK := Lib.hid (HK.out.trans hK7 (fun _ _ h => h.elim))
        replace H15 := Lib.hid (hK7.blk H15.out (fun h => h))
        replace HRS := Lib.hid (HRS.out.keptF hK7 (fun _ _ h => h))
        replace HM := Lib.hid (HM.out.kept hK7 (fun h => h) (fun h => h))
        replace HGW := Lib.hid (hK7.blk HGW.out (fun h => h))
        replace HIA := Lib.hid (HIA.out.kept hK7 (fun _ _ h => h))
        have HGV := Lib.hid hGV
        have HGVR := Lib.hid hgv
        clear hK7 hGV hgv
        clear x0 x1 x2 x3 x4 x5 x6 x17
        go_upto_region 12 with fail
        have hr20a : gw < w7.heap.size ∧ gv < w7.heap.size := ⟨HGW.out.lt, HGV.out.lt⟩
        have hal := (Kept.refl (fun _ => False) w7).alloc (.cells #[.int .i64 1, .int .i64 2, .int .i64 10, .int .i64 100, .int .i64 200, .int .i64 (F : Int), .int .u64 1000, .slice (some ⟨gv, 0, none⟩) n n] 45)
        have H20 := Lib.hid (Blk.new w7 [.int .i64 1, .int .i64 2, .int .i64 10, .int .i64 100, .int .i64 200, .int .i64 (F : Int), .int .u64 1000, .slice (some ⟨gv, 0, none⟩) n n] 45)
        replace HK := Lib.hid (HK.out.trans hal (fun _ _ h => h.elim))
        replace H15 := Lib.hid (hal.blk H15.out (fun h => h))
        replace HRS := Lib.hid (HRS.out.keptF hal (fun _ _ h => h))
        replace HM := Lib.hid (HM.out.kept hal (fun h => h) (fun h => h))
        replace HGW := Lib.hid (hal.blk HGW.out (fun h => h))
        replace HGV := Lib.hid (hal.blk HGV.out (fun h => h))
        replace HIA := Lib.hid (HIA.out.kept hal (fun _ _ h => h))
        clear hal
        generalize hr20 : w7.heap.size = r20 at *
        generalize w7.alloc (.cells #[.int .i64 1, .int .i64 2, .int .i64 10, .int .i64 100, .int .i64 200, .int .i64 (F : Int), .int .u64 1000, .slice (some ⟨gv, 0, none⟩) n n] 45) = W8 at *
        have HR20 := Lib.hid (show gw < r20 ∧ gv < r20 ∧ w6.heap.size ≤ gv from ⟨hr20a.1, hr20a.2, HGVR.out⟩)
        clear hr20 hr20a
        have hb9 := H15.out
        have x20 := hb9.cell (i := 20) rfl
        have x21 := hb9.cell (i := 21) rfl
        have x22 := hb9.cell (i := 22) rfl
        have x23 := hb9.cell (i := 23) rfl
        have x24 := hb9.cell (i := 24) rfl
        have x25 := hb9.cell (i := 25) rfl
        clear hb9
        go_wp2_with fail
        refine (refInsert_yes (P.lv : Int) A c P.hi P.la P.rt P.xs key ref _ P.xs.length rfl (by have := HPG.out.len; omega) HRS.out HPG.out.asc HHV.out (by have := HPG.out.len; omega)).mono ?_; rintro e w9 ⟨A2, c2, rfl, hO9, hB9⟩
        obtain ⟨A9, c9, he9, -, hR9, hA9⟩ := Rs.own hO9
        cases he9
        have hK9 := Below.kept hB9 (S := fun _ => False) (fun i hi h => by omega)
        replace HK := Lib.hid (HK.out.trans hK9 (fun _ _ h => h.elim))
        replace H15 := Lib.hid (hK9.blk H15.out (fun h => h))
        replace HRS := Lib.hid (HRS.out.keptF hK9 (fun _ _ h => h))
        replace HM := Lib.hid (HM.out.kept hK9 (fun h => h) (fun h => h))
        replace HGW := Lib.hid (hK9.blk HGW.out (fun h => h))
        replace HGV := Lib.hid (hK9.blk HGV.out (fun h => h))
        replace H20 := Lib.hid (hK9.blk H20.out (fun h => h))
        replace HIA := Lib.hid (HIA.out.kept hK9 (fun _ _ h => h))
        have HR2 := Lib.hid (show Rs w9 A2 c2 (npg P key ref).xs from hR9)
        clear hO9 hB9 hR9 hA9 hK9
        clear x20 x21 x22 x23 x24 x25
        go_upto_region 13 with fail
        have hr21a : r20 < w9.heap.size := H20.out.lt
        have ha2 : ∀ a, A2 = some a → a.block < w9.heap.size := fun a ha => by
          obtain ⟨g9, o9, e9, h9, -⟩ := HR2.out.at (by rw [npg_length]; omega)
          rw [e9] at ha; cases ha; exact h9
        have hal := (Kept.refl (fun _ => False) w9).alloc (.cells #[.int .i64 (P.lv : Int), .slice A2 (P.xs.length + 1) c2, .string P.hi, .bool P.la, .int .u64 (P.rt : Int)] 31)
        have H21 := Lib.hid (Blk.new w9 [.int .i64 (P.lv : Int), .slice A2 (P.xs.length + 1) c2, .string P.hi, .bool P.la, .int .u64 (P.rt : Int)] 31)
        replace HK := Lib.hid (HK.out.trans hal (fun _ _ h => h.elim))
        replace H15 := Lib.hid (hal.blk H15.out (fun h => h))
        replace HRS := Lib.hid (HRS.out.keptF hal (fun _ _ h => h))
        replace HM := Lib.hid (HM.out.kept hal (fun h => h) (fun h => h))
        replace HGW := Lib.hid (hal.blk HGW.out (fun h => h))
        replace HGV := Lib.hid (hal.blk HGV.out (fun h => h))
        replace H20 := Lib.hid (hal.blk H20.out (fun h => h))
        replace HR2 := Lib.hid (HR2.out.keptF hal (fun _ _ h => h))
        replace HIA := Lib.hid (HIA.out.kept hal (fun _ _ h => h))
        clear hal
        generalize hr21 : w9.heap.size = r21 at *
        generalize w9.alloc (.cells #[.int .i64 (P.lv : Int), .slice A2 (P.xs.length + 1) c2, .string P.hi, .bool P.la, .int .u64 (P.rt : Int)] 31) = WA at *
        have HR21 := Lib.hid (show r20 < r21 ∧ r21 < WA.heap.size from ⟨hr21a, H21.out.lt⟩)
        have HA2 := Lib.hid (show ∀ a, A2 = some a → a.block < r21 from ha2)
        clear hr21 hr21a ha2
        have hlen1 : P.xs.length + 1 = (npg P key ref).xs.length := (npg_length P key ref).symm
        obtain ⟨n1, hn1⟩ : ∃ n1, P.xs.length + 1 = n1 := ⟨_, rfl⟩
        have HN1 := Lib.hid (show (npg P key ref).xs.length = n1 ∧ P.xs.length + 1 = n1 from ⟨by rw [← hlen1]; exact hn1, hn1⟩)
        replace H21 := Lib.hid (show Blk WA r21 31 [.int .i64 (P.lv : Int), .slice A2 n1 c2, .string P.hi, .bool P.la, .int .u64 (P.rt : Int)] from by rw [← hn1]; exact H21.out)
        have htw3 : decide (F < n1) = tw := by
          have h1 := HTW.out
          have h2 := HN1.out.1
          rw [h2] at h1
          exact h1
        have htw2 : decide ((F : Int) < (n1 : Int)) = tw := by
          have h1 := HTW.out
          have h2 := HN1.out.1
          rw [h2] at h1
          rw [← h1]; simp
        have hnF : (n1 : Int) ≤ 7 := by have h1 := HN1.out.2; have h2 := HPG.out.len; omega
        have hb9 := H15.out
        have x5 := hb9.cell (i := 5) rfl
        clear hb9
        have p1 := H21.out.cell (i := 1) rfl
        go_upto_region 14 with fail
        clear p1 x5
        obtain ⟨id, hid⟩ : ∃ id, Nv + 1 = id := ⟨_, rfl⟩
        have HID := Lib.hid hid
        have hidw : IntKind.u64.wrap ((Nv : Int) + 1) = (id : Int) := by have := HN3.out; rw [IntKind.wrap_u64]; omega
        have h4n : (4 : Int) < (n : Int) := by have h1 := HHL.out.lo; omega
        have h4nN : 4 < n := by omega
        have HC4 := Lib.hid (show (flat3 l0)[12]? = some (.int .u64 (Nv : Int)) from by
          have h1 := HHL.out.c4
          have h0 := HHL.out.len
          have h2 : l0[4]? = some (cellAt l0 4) := by rw [show (4 : Int) = ((4 : Nat) : Int) from rfl, cellAt_in l0 4 (by omega)]; exact List.getElem?_eq_getElem (by omega)
          have h3 := (flat3_at l0 4 _ h2).1
          rw [h1] at h3; exact h3)
        have y12 := HGW.out.cell HC4.out
        clear hid
        go_upto_region 15 with fail
        clear y12
        have ht1a : ¬ (500 : Int) ≤ (t1 : Int) := by have := HT500.out; omega
        have ht1b : decide ((500 : Int) ≤ (t1 : Int)) = false := by simp; have := HT500.out; omega
        have ht1w : IntKind.u64.wrap (t1 : Int) = (t1 : Int) := by have := HT500.out; rw [IntKind.wrap_u64]; omega
        have hb9 := H15.out
        have x17 := hb9.cell (i := 17) rfl
        clear hb9
        go_wp2_with fail
        refine (accesses_any b g l2 t1 _ HM.out).mono ?_; rintro e wB ⟨rfl, rfl⟩
        go_upto_region 17 with fail
        clear x17 ht1a ht1b ht1w
        rename World => WB
        have hw10 : IntKind.u64.wrap 10 = 10 := by rw [IntKind.wrap_u64]; omega
        go_cut [121] from 110 to 121 (fun v wx => ∃ e : Bool, v = .bool e ∧ (e = true → tw = true ∧ 10 ≤ Nv) ∧ (e = false → tw = true → Nv < 10) ∧ Kept (fun _ => False) WB wx)
        case first =>
          cases tw with
          | false =>
            refine qregion (fun w' => Kept (fun _ => False) WB w') (by kernel_rfl) (by kernel_rfl) (Kept.refl _ _).drew ?_
            refine qstep (o := ⟨some 110, _, _, _, _, _⟩) (v := .bool false) (by rfl) (fun wq hSw => ?_) ?_
            · (go_simp; try first | (with_reducible rfl) | (simp; omega) | (intros; omega) | simp [*])
            try simp only [Act.put, List.setIfInBounds_toArray, List.set_cons_zero, List.set_cons_succ]
            refine qstep (o := ⟨some 111, _, _, _, _, _⟩) (v := .bool false) (by rfl) (fun wq hSw => ?_) ?_
            · (go_simp; try first | (with_reducible rfl) | (simp; omega) | (intros; omega) | simp [*])
            try simp only [Act.put, List.setIfInBounds_toArray, List.set_cons_zero, List.set_cons_succ]
            go_big_quiet_skip
            try simp only [Act.put, List.setIfInBounds_toArray, List.set_cons_zero, List.set_cons_succ]
            go_big_quiet_skip
            try simp only [Act.put, List.setIfInBounds_toArray, List.set_cons_zero, List.set_cons_succ]
            go_big_quiet_skip
            try simp only [Act.put, List.setIfInBounds_toArray, List.set_cons_zero, List.set_cons_succ]
            go_big_quiet_skip
            try simp only [Act.put, List.setIfInBounds_toArray, List.set_cons_zero, List.set_cons_succ]
            go_big_quiet_skip
            try simp only [Act.put, List.setIfInBounds_toArray, List.set_cons_zero, List.set_cons_succ]
            go_big_quiet_skip
            try simp only [Act.put, List.setIfInBounds_toArray, List.set_cons_zero, List.set_cons_succ]
            go_big_quiet_skip
            try simp only [Act.put, List.setIfInBounds_toArray, List.set_cons_zero, List.set_cons_succ]
            go_big_quiet_skip
            try simp only [Act.put, List.setIfInBounds_toArray, List.set_cons_zero, List.set_cons_succ]
            go_big_quiet_skip
            try simp only [Act.put, List.setIfInBounds_toArray, List.set_cons_zero, List.set_cons_succ]
            refine qstep (o := ⟨some 121, _, _, _, _, _⟩) (v := .bool false) (by rfl) (fun wq hSw => ?_) ?_
            · (go_simp; try first | (with_reducible rfl) | (simp; omega) | (intros; omega) | simp [*])
            try simp only [Act.put, List.setIfInBounds_toArray, List.set_cons_zero, List.set_cons_succ]
            refine wpQuiet_nil ?_
            intro wz hHeld
            go_wp2
            go_meet
            exact ⟨_, rfl, fun h => (by cases h), fun _ h => (by cases h), hHeld⟩
          | true =>
            by_cases hN10 : 10 ≤ Nv
            · have hN10I : (10 : Int) ≤ (Nv : Int) := by omega
              have hN10d : decide ((10 : Int) ≤ (Nv : Int)) = true := by simp; omega
              have HNN := Lib.hid hN10
              clear hN10
              refine qregion (fun w' => Kept (fun _ => False) WB w') (by kernel_rfl) (by kernel_rfl) (Kept.refl _ _).drew ?_
              refine qstep (o := ⟨some 110, _, _, _, _, _⟩) (v := .bool true) (by rfl) (fun wq hSw => ?_) ?_
              · (go_simp; try first | (with_reducible rfl) | (simp; omega) | (intros; omega) | simp [*])
              try simp only [Act.put, List.setIfInBounds_toArray, List.set_cons_zero, List.set_cons_succ]
              refine qstep (o := ⟨some 111, _, _, _, _, _⟩) (v := .bool true) (by rfl) (fun wq hSw => ?_) ?_
              · (go_simp; try first | (with_reducible rfl) | (simp; omega) | (intros; omega) | simp [*])
              try simp only [Act.put, List.setIfInBounds_toArray, List.set_cons_zero, List.set_cons_succ]
              refine qstep (o := ⟨some 112, _, _, _, _, _⟩) (v := ?_) (by rfl) (fun wq hSw => ?_) ?_
              rotate_left
              · (go_simp; try with_reducible rfl)
              try simp only [Act.put, List.setIfInBounds_toArray, List.set_cons_zero, List.set_cons_succ]
              refine qstep (o := ⟨some 113, _, _, _, _, _⟩) (v := ?_) (by rfl) (fun wq hSw => ?_) ?_
              rotate_left
              · (go_simp; try with_reducible rfl)
              try simp only [Act.put, List.setIfInBounds_toArray, List.set_cons_zero, List.set_cons_succ]
              refine qstep (o := ⟨some 114, _, _, _, _, _⟩) (v := ?_) (by rfl) (fun wq hSw => ?_) ?_
              rotate_left
              · (go_simp; try with_reducible rfl)
              try simp only [Act.put, List.setIfInBounds_toArray, List.set_cons_zero, List.set_cons_succ]
              refine qstep (o := ⟨some 115, _, _, _, _, _⟩) (v := ?_) (by rfl) (fun wq hSw => ?_) ?_
              rotate_left
              · (have hb9 := hSw.blk H15.out (fun h => h); have x2 := hb9.cell (i := 2) rfl; clear hb9; have hb9 := hSw.blk HGW.out (fun h => h); have y12 := hb9.cell HC4.out; clear hb9; go_simp; try with_reducible rfl)
              try simp only [Act.put, List.setIfInBounds_toArray, List.set_cons_zero, List.set_cons_succ]
              refine qstep (o := ⟨some 116, _, _, _, _, _⟩) (v := ?_) (by rfl) (fun wq hSw => ?_) ?_
              rotate_left
              · (go_simp; try with_reducible rfl)
              try simp only [Act.put, List.setIfInBounds_toArray, List.set_cons_zero, List.set_cons_succ]
              refine qstep (o := ⟨some 117, _, _, _, _, _⟩) (v := ?_) (by rfl) (fun wq hSw => ?_) ?_
              rotate_left
              · (go_simp; try with_reducible rfl)
              try simp only [Act.put, List.setIfInBounds_toArray, List.set_cons_zero, List.set_cons_succ]
              refine qstep (o := ⟨some 118, _, _, _, _, _⟩) (v := ?_) (by rfl) (fun wq hSw => ?_) ?_
              rotate_left
              · (have hb9 := hSw.blk H15.out (fun h => h); have x2 := hb9.cell (i := 2) rfl; clear hb9; have hb9 := hSw.blk HGW.out (fun h => h); have y12 := hb9.cell HC4.out; clear hb9; go_simp; try with_reducible rfl)
              try simp only [Act.put, List.setIfInBounds_toArray, List.set_cons_zero, List.set_cons_succ]
              refine qstep (o := ⟨some 119, _, _, _, _, _⟩) (v := ?_) (by rfl) (fun wq hSw => ?_) ?_
              rotate_left
              · (go_simp; try with_reducible rfl)
              try simp only [Act.put, List.setIfInBounds_toArray, List.set_cons_zero, List.set_cons_succ]
              refine qstep (o := ⟨some 120, _, _, _, _, _⟩) (v := .bool true) (by rfl) (fun wq hSw => ?_) ?_
              · (go_simp; try first | (with_reducible rfl) | (simp; omega) | (intros; omega) | simp [*])
              try simp only [Act.put, List.setIfInBounds_toArray, List.set_cons_zero, List.set_cons_succ]
              refine qstep (o := ⟨some 121, _, _, _, _, _⟩) (v := .bool true) (by rfl) (fun wq hSw => ?_) ?_
              · (go_simp; try first | (with_reducible rfl) | (simp; omega) | (intros; omega) | simp [*])
              try simp only [Act.put, List.setIfInBounds_toArray, List.set_cons_zero, List.set_cons_succ]
              refine wpQuiet_nil ?_
              intro wz hHeld
              go_wp2
              go_meet
              exact ⟨_, rfl, fun _ => ⟨by first | rfl | trivial, HNN.out⟩, fun h => (by cases h), hHeld⟩
            · have hN10I : ¬ (10 : Int) ≤ (Nv : Int) := by omega
              have hN10d : decide ((10 : Int) ≤ (Nv : Int)) = false := by simp; omega
              have HNN := Lib.hid hN10
              clear hN10
              refine qregion (fun w' => Kept (fun _ => False) WB w') (by kernel_rfl) (by kernel_rfl) (Kept.refl _ _).drew ?_
              refine qstep (o := ⟨some 110, _, _, _, _, _⟩) (v := .bool true) (by rfl) (fun wq hSw => ?_) ?_
              · (go_simp; try first | (with_reducible rfl) | (simp; omega) | (intros; omega) | simp [*])
              try simp only [Act.put, List.setIfInBounds_toArray, List.set_cons_zero, List.set_cons_succ]
              refine qstep (o := ⟨some 111, _, _, _, _, _⟩) (v := .bool true) (by rfl) (fun wq hSw => ?_) ?_
              · (go_simp; try first | (with_reducible rfl) | (simp; omega) | (intros; omega) | simp [*])
              try simp only [Act.put, List.setIfInBounds_toArray, List.set_cons_zero, List.set_cons_succ]
              refine qstep (o := ⟨some 112, _, _, _, _, _⟩) (v := ?_) (by rfl) (fun wq hSw => ?_) ?_
              rotate_left
              · (go_simp; try with_reducible rfl)
              try simp only [Act.put, List.setIfInBounds_toArray, List.set_cons_zero, List.set_cons_succ]
              refine qstep (o := ⟨some 113, _, _, _, _, _⟩) (v := ?_) (by rfl) (fun wq hSw => ?_) ?_
              rotate_left
              · (go_simp; try with_reducible rfl)
              try simp only [Act.put, List.setIfInBounds_toArray, List.set_cons_zero, List.set_cons_succ]
              refine qstep (o := ⟨some 114, _, _, _, _, _⟩) (v := ?_) (by rfl) (fun wq hSw => ?_) ?_
              rotate_left
              · (go_simp; try with_reducible rfl)
              try simp only [Act.put, List.setIfInBounds_toArray, List.set_cons_zero, List.set_cons_succ]
              refine qstep (o := ⟨some 115, _, _, _, _, _⟩) (v := ?_) (by rfl) (fun wq hSw => ?_) ?_
              rotate_left
              · (have hb9 := hSw.blk H15.out (fun h => h); have x2 := hb9.cell (i := 2) rfl; clear hb9; have hb9 := hSw.blk HGW.out (fun h => h); have y12 := hb9.cell HC4.out; clear hb9; go_simp; try with_reducible rfl)
              try simp only [Act.put, List.setIfInBounds_toArray, List.set_cons_zero, List.set_cons_succ]
              refine qstep (o := ⟨some 116, _, _, _, _, _⟩) (v := ?_) (by rfl) (fun wq hSw => ?_) ?_
              rotate_left
              · (go_simp; try with_reducible rfl)
              try simp only [Act.put, List.setIfInBounds_toArray, List.set_cons_zero, List.set_cons_succ]
              refine qstep (o := ⟨some 117, _, _, _, _, _⟩) (v := ?_) (by rfl) (fun wq hSw => ?_) ?_
              rotate_left
              · (go_simp; try with_reducible rfl)
              try simp only [Act.put, List.setIfInBounds_toArray, List.set_cons_zero, List.set_cons_succ]
              refine qstep (o := ⟨some 118, _, _, _, _, _⟩) (v := ?_) (by rfl) (fun wq hSw => ?_) ?_
              rotate_left
              · (have hb9 := hSw.blk H15.out (fun h => h); have x2 := hb9.cell (i := 2) rfl; clear hb9; have hb9 := hSw.blk HGW.out (fun h => h); have y12 := hb9.cell HC4.out; clear hb9; go_simp; try with_reducible rfl)
              try simp only [Act.put, List.setIfInBounds_toArray, List.set_cons_zero, List.set_cons_succ]
              refine qstep (o := ⟨some 119, _, _, _, _, _⟩) (v := ?_) (by rfl) (fun wq hSw => ?_) ?_
              rotate_left
              · (go_simp; try with_reducible rfl)
              try simp only [Act.put, List.setIfInBounds_toArray, List.set_cons_zero, List.set_cons_succ]
              refine qstep (o := ⟨some 120, _, _, _, _, _⟩) (v := .bool false) (by rfl) (fun wq hSw => ?_) ?_
              · (go_simp; try first | (with_reducible rfl) | (simp; omega) | (intros; omega) | simp [*])
              try simp only [Act.put, List.setIfInBounds_toArray, List.set_cons_zero, List.set_cons_succ]
              refine qstep (o := ⟨some 121, _, _, _, _, _⟩) (v := .bool false) (by rfl) (fun wq hSw => ?_) ?_
              · (go_simp; try first | (with_reducible rfl) | (simp; omega) | (intros; omega) | simp [*])
              try simp only [Act.put, List.setIfInBounds_toArray, List.set_cons_zero, List.set_cons_succ]
              refine wpQuiet_nil ?_
              intro wz hHeld
              go_wp2
              go_meet
              exact ⟨_, rfl, fun h => (by cases h), fun _ _ => by have := HNN.out; omega, hHeld⟩
        case rest =>
          obtain ⟨ee, rfl, hee1, hee2, hK8⟩ := hcut
          rename World => WC
          replace HK := Lib.hid (HK.out.trans hK8 (fun _ _ h => h.elim))
          replace H15 := Lib.hid (hK8.blk H15.out (fun h => h))
          replace HRS := Lib.hid (HRS.out.keptF hK8 (fun _ _ h => h))
          replace HM := Lib.hid (HM.out.kept hK8 (fun h => h) (fun h => h))
          replace HGW := Lib.hid (hK8.blk HGW.out (fun h => h))
          replace HGV := Lib.hid (hK8.blk HGV.out (fun h => h))
          replace H20 := Lib.hid (hK8.blk H20.out (fun h => h))
          replace H21 := Lib.hid (hK8.blk H21.out (fun h => h))
          replace HR2 := Lib.hid (HR2.out.keptF hK8 (fun _ _ h => h))
          replace HIA := Lib.hid (HIA.out.kept hK8 (fun _ _ h => h))
          clear hK8
          have HE1 := Lib.hid hee1
          have HE2 := Lib.hid hee2
          clear hee1 hee2 hidw h4n
          cases ee with
          | true =>
            as_aux_lemma =>
              have hA3 := HLAST.out.1
              have h1 := HE1.out rfl
              obtain ⟨hsf, hlf⟩ := hA3 ⟨HT2.out.trans h1.1, h1.2⟩
              have HIF := Lib.hid (show IAt (Zm Z1 V1 w6) WC F 10 fb fd i 2 41 P (npg P key ref) m sp 10 .ful from by have h := HIA.out; rw [hsf] at h; exact h)
              have HGVZ := Lib.hid (show Blk WC gv 50 (flat3 l0) from by have h := HGV.out; rw [hlf] at h; exact h)
              clear hA3 h1 hsf hlf
              go_upto_region 18 with fail
              refine wp_region_held_drew (S := (fun w' => Kept (fun _ => False) WC w')) (by kernel_rfl) ?_ (fun hHeld => ?_)
              · exact (Kept.refl _ _).drew
              have HW := Lib.hid ((Kept.refl (fun _ => False) WC).drew)
              generalize WC.drew = G at *
              refine wpAnyH_take (i := 0) (oi := ⟨some 122, _, _, _, _, _⟩) (v := ?_) rfl (by kernel_rfl) (by kernel_rfl) (by kernel_rfl) (fun _ _ _ h => h) (Or.inl ⟨by rfl, ?_⟩) hHeld ?_
              rotate_left
              · (intro wq hSw; go_simp; try with_reducible rfl)
              try simp only [Act.put, List.setIfInBounds_toArray, List.set_cons_zero, List.set_cons_succ]
              refine wpAnyH_ready (rs := [1]) (by kernel_rfl) (by simp) ?_
              refine AllReadyH.cons (o := ⟨some 123, _, _, _, _, _⟩) rfl (fun KK hK => ?_) AllReadyH.nil
              go_simp
              go_at_call 12
              refine (is_errF F 10 fb fd i 2 41 P (npg P key ref) m sp 10 _ 0 _ (HIF.out.kept HW.out (fun _ _ h => h))).mono ?_; rintro e GN ⟨rfl, hKq⟩
              replace HW := Lib.hid (HW.out.trans hKq (fun _ _ h => h))
              clear hKq
              rename World => G
              refine hK.out _ _ ?_ (fun hHeld2 => ?_)
              · exact HW.out
              clear hK KK hHeld
              have hHeld := hHeld2
              clear hHeld2
              try simp only [Act.put, List.setIfInBounds_toArray, List.set_cons_zero, List.set_cons_succ]
              refine wpAnyH_take (i := 2) (oi := ⟨some 124, _, _, _, _, _⟩) (v := .bool true) rfl (by kernel_rfl) (by kernel_rfl) (by kernel_rfl) (fun _ _ _ h => h) (Or.inl ⟨by rfl, ?_⟩) hHeld ?_
              · (intro wq hSw; go_simp; try first | (with_reducible rfl) | (simp; omega) | (intros; omega) | simp [*])
              try simp only [Act.put, List.setIfInBounds_toArray, List.set_cons_zero, List.set_cons_succ]
              refine wpAnyH_take (i := 3) (oi := ⟨some 125, _, _, _, _, _⟩) (v := .bool true) rfl (by kernel_rfl) (by kernel_rfl) (by kernel_rfl) (fun _ _ _ h => h) (Or.inl ⟨by rfl, ?_⟩) hHeld ?_
              · (intro wq hSw; go_simp; try first | (with_reducible rfl) | (simp; omega) | (intros; omega) | simp [*])
              try simp only [Act.put, List.setIfInBounds_toArray, List.set_cons_zero, List.set_cons_succ]
              refine wpAnyH_take (i := 4) (oi := ⟨some 126, _, _, _, _, _⟩) (v := ?_) rfl (by kernel_rfl) (by kernel_rfl) (by kernel_rfl) (fun _ _ _ h => h) (Or.inl ⟨by rfl, ?_⟩) hHeld ?_
              rotate_left
              · (intro wq hSw; go_simp; try with_reducible rfl)
              try simp only [Act.put, List.setIfInBounds_toArray, List.set_cons_zero, List.set_cons_succ]
              refine wpAnyH_ready (rs := [5]) (by kernel_rfl) (by simp) ?_
              refine AllReadyH.cons (o := ⟨some 127, _, _, _, _, _⟩) rfl (fun KK hK => ?_) AllReadyH.nil
              go_simp
              go_at_call 13
              refine (leftF2 F fb fd i P (npg P key ref) m sp _ _ (HIF.out.kept HW.out (fun _ _ h => h)) (by have := HPG.out.len; omega)).mono ?_; rintro e GN ⟨A5, c5, rfl, hR5, -, hK5⟩
              replace HW := Lib.hid (HW.out.trans hK5 (fun _ _ h => h))
              have HR5 := Lib.hid hR5
              have f05 := fun ww => hfield0 2 41 (P.lv : Int) A5 P.xs.length c5 P.hi P.la (P.rt : Int) ww
              have f15 := fun ww => hfieldW2 2 41 (P.lv : Int) A5 P.xs.length c5 P.hi P.la (P.rt : Int) ww
              have f25 := fun ww => hfield2 2 41 (P.lv : Int) A5 P.xs.length c5 P.hi P.la (P.rt : Int) ww
              clear hR5 hK5
              rename World => G
              refine hK.out _ _ ?_ (fun hHeld2 => ?_)
              · exact HW.out
              clear hK KK hHeld
              have hHeld := hHeld2
              clear hHeld2
              try simp only [Act.put, List.setIfInBounds_toArray, List.set_cons_zero, List.set_cons_succ]
              refine wpAnyH_take (i := 6) (oi := ⟨some 128, _, _, _, _, _⟩) (v := ?_) rfl (by kernel_rfl) (by kernel_rfl) (by kernel_rfl) (fun _ _ _ h => h) (Or.inl ⟨by rfl, ?_⟩) hHeld ?_
              rotate_left
              · (intro wq hSw; go_simp; try with_reducible rfl)
              try simp only [Act.put, List.setIfInBounds_toArray, List.set_cons_zero, List.set_cons_succ]
              refine wpAnyH_take (i := 7) (oi := ⟨some 129, _, _, _, _, _⟩) (v := .bool true) rfl (by kernel_rfl) (by kernel_rfl) (by kernel_rfl) (fun _ _ _ h => h) (Or.inl ⟨by rfl, ?_⟩) hHeld ?_
              · (intro wq hSw; go_simp; try first | (with_reducible rfl) | (simp; omega) | (intros; omega) | simp [*])
              try simp only [Act.put, List.setIfInBounds_toArray, List.set_cons_zero, List.set_cons_succ]
              refine wpAnyH_take (i := 8) (oi := ⟨some 130, _, _, _, _, _⟩) (v := .bool true) rfl (by kernel_rfl) (by kernel_rfl) (by kernel_rfl) (fun _ _ _ h => h) (Or.inl ⟨by rfl, ?_⟩) hHeld ?_
              · (intro wq hSw; go_simp; try first | (with_reducible rfl) | (simp; omega) | (intros; omega) | simp [*])
              try simp only [Act.put, List.setIfInBounds_toArray, List.set_cons_zero, List.set_cons_succ]
              refine wpAnyH_take (i := 9) (oi := ⟨some 131, _, _, _, _, _⟩) (v := .bool true) rfl (by kernel_rfl) (by kernel_rfl) (by kernel_rfl) (fun _ _ _ h => h) (Or.inl ⟨by rfl, ?_⟩) hHeld ?_
              · (intro wq hSw; go_simp; try first | (with_reducible rfl) | (simp; omega) | (intros; omega) | simp [*])
              try simp only [Act.put, List.setIfInBounds_toArray, List.set_cons_zero, List.set_cons_succ]
              refine wpAnyH_take (i := 10) (oi := ⟨some 132, _, _, _, _, _⟩) (v := ?_) rfl (by kernel_rfl) (by kernel_rfl) (by kernel_rfl) (fun _ _ _ h => h) (Or.inl ⟨by rfl, ?_⟩) hHeld ?_
              rotate_left
              · (intro wq hSw; go_simp; try with_reducible rfl)
              try simp only [Act.put, List.setIfInBounds_toArray, List.set_cons_zero, List.set_cons_succ]
              refine wpAnyH_take (i := 13) (oi := ⟨some 135, _, _, _, _, _⟩) (v := ?_) rfl (by kernel_rfl) (by kernel_rfl) (by kernel_rfl) (fun _ _ _ h => h) (Or.inl ⟨by rfl, ?_⟩) hHeld ?_
              rotate_left
              · (intro wq hSw; go_simp; try with_reducible rfl)
              try simp only [Act.put, List.setIfInBounds_toArray, List.set_cons_zero, List.set_cons_succ]
              refine wpAnyH_take (i := 14) (oi := ⟨some 136, _, _, _, _, _⟩) (v := ?_) rfl (by kernel_rfl) (by kernel_rfl) (by kernel_rfl) (fun _ _ _ h => h) (Or.inl ⟨by rfl, ?_⟩) hHeld ?_
              rotate_left
              · (intro wq hSw; go_simp; try with_reducible rfl)
              try simp only [Act.put, List.setIfInBounds_toArray, List.set_cons_zero, List.set_cons_succ]
              refine wpAnyH_take (i := 15) (oi := ⟨some 137, _, _, _, _, _⟩) (v := ?_) rfl (by kernel_rfl) (by kernel_rfl) (by kernel_rfl) (fun _ _ _ h => h) (Or.inl ⟨by rfl, ?_⟩) hHeld ?_
              rotate_left
              · (intro wq hSw; have hb9 := hSw.blk H15.out (fun h => h); have x19 := hb9.cell (i := 19) rfl; have x20 := hb9.cell (i := 20) rfl; have x21 := hb9.cell (i := 21) rfl; have x22 := hb9.cell (i := 22) rfl; have x23 := hb9.cell (i := 23) rfl; have x24 := hb9.cell (i := 24) rfl; clear hb9; have hb9 := hSw.blk H20.out (fun h => h); have v7 := hb9.cell (i := 7) rfl; clear hb9; go_simp; try with_reducible rfl)
              try simp only [Act.put, List.setIfInBounds_toArray, List.set_cons_zero, List.set_cons_succ]
              refine wpAnyH_ready (rs := [11]) (by kernel_rfl) (by simp) ?_
              refine AllReadyH.cons (o := ⟨some 133, _, _, _, _, _⟩) rfl (fun KK hK => ?_) AllReadyH.nil
              go_simp
              go_at_call 13
              refine (leftF2 F fb fd i P (npg P key ref) m sp _ _ (HIF.out.kept HW.out (fun _ _ h => h)) (by have := HPG.out.len; omega)).mono ?_; rintro e GN ⟨A6, c6, rfl, hR6, -, hK6⟩
              replace HW := Lib.hid (HW.out.trans hK6 (fun _ _ h => h))
              have HR6 := Lib.hid hR6
              have f06 := fun ww => hfield0 2 41 (P.lv : Int) A6 P.xs.length c6 P.hi P.la (P.rt : Int) ww
              have f16 := fun ww => hfieldW2 2 41 (P.lv : Int) A6 P.xs.length c6 P.hi P.la (P.rt : Int) ww
              have f26 := fun ww => hfield2 2 41 (P.lv : Int) A6 P.xs.length c6 P.hi P.la (P.rt : Int) ww
              clear hR6 hK6
              rename World => G
              refine hK.out _ _ ?_ (fun hHeld2 => ?_)
              · exact HW.out
              clear hK KK hHeld
              have hHeld := hHeld2
              clear hHeld2
              try simp only [Act.put, List.setIfInBounds_toArray, List.set_cons_zero, List.set_cons_succ]
              refine wpAnyH_take (i := 12) (oi := ⟨some 134, _, _, _, _, _⟩) (v := ?_) rfl (by kernel_rfl) (by kernel_rfl) (by kernel_rfl) (fun _ _ _ h => h) (Or.inl ⟨by rfl, ?_⟩) hHeld ?_
              rotate_left
              · (intro wq hSw; go_simp; try with_reducible rfl)
              try simp only [Act.put, List.setIfInBounds_toArray, List.set_cons_zero, List.set_cons_succ]
              refine wpAnyH_take (i := 16) (oi := ⟨some 138, _, _, _, _, _⟩) (v := .bool true) rfl (by kernel_rfl) (by kernel_rfl) (by kernel_rfl) (fun _ _ _ h => h) (Or.inl ⟨by rfl, ?_⟩) hHeld ?_
              · (intro wq hSw; go_simp; try first | (with_reducible rfl) | (simp; omega) | (intros; omega) | simp [*])
              try simp only [Act.put, List.setIfInBounds_toArray, List.set_cons_zero, List.set_cons_succ]
              refine wpAnyH_take (i := 17) (oi := ⟨some 139, _, _, _, _, _⟩) (v := .bool true) rfl (by kernel_rfl) (by kernel_rfl) (by kernel_rfl) (fun _ _ _ h => h) (Or.inl ⟨by rfl, ?_⟩) hHeld ?_
              · (intro wq hSw; go_simp; try first | (with_reducible rfl) | (simp; omega) | (intros; omega) | simp [*])
              try simp only [Act.put, List.setIfInBounds_toArray, List.set_cons_zero, List.set_cons_succ]
              refine wpAnyH_take (i := 18) (oi := ⟨some 140, _, _, _, _, _⟩) (v := .bool true) rfl (by kernel_rfl) (by kernel_rfl) (by kernel_rfl) (fun _ _ _ h => h) (Or.inl ⟨by rfl, ?_⟩) hHeld ?_
              · (intro wq hSw; go_simp; try first | (with_reducible rfl) | (simp; omega) | (intros; omega) | simp [*])
              try simp only [Act.put, List.setIfInBounds_toArray, List.set_cons_zero, List.set_cons_succ]
              refine wpAnyH_take (i := 19) (oi := ⟨some 141, _, _, _, _, _⟩) (v := ?_) rfl (by kernel_rfl) (by kernel_rfl) (by kernel_rfl) (fun _ _ _ h => h) (Or.inl ⟨by rfl, ?_⟩) hHeld ?_
              rotate_left
              · (intro wq hSw; go_simp; try with_reducible rfl)
              try simp only [Act.put, List.setIfInBounds_toArray, List.set_cons_zero, List.set_cons_succ]
              refine wpAnyH_take (i := 22) (oi := ⟨some 144, _, _, _, _, _⟩) (v := ?_) rfl (by kernel_rfl) (by kernel_rfl) (by kernel_rfl) (fun _ _ _ h => h) (Or.inl ⟨by rfl, ?_⟩) hHeld ?_
              rotate_left
              · (intro wq hSw; go_simp; try with_reducible rfl)
              try simp only [Act.put, List.setIfInBounds_toArray, List.set_cons_zero, List.set_cons_succ]
              refine wpAnyH_take (i := 23) (oi := ⟨some 145, _, _, _, _, _⟩) (v := ?_) rfl (by kernel_rfl) (by kernel_rfl) (by kernel_rfl) (fun _ _ _ h => h) (Or.inl ⟨by rfl, ?_⟩) hHeld ?_
              rotate_left
              · (intro wq hSw; go_simp; try with_reducible rfl)
              try simp only [Act.put, List.setIfInBounds_toArray, List.set_cons_zero, List.set_cons_succ]
              refine wpAnyH_take (i := 24) (oi := ⟨some 146, _, _, _, _, _⟩) (v := ?_) rfl (by kernel_rfl) (by kernel_rfl) (by kernel_rfl) (fun _ _ _ h => h) (Or.inl ⟨by rfl, ?_⟩) hHeld ?_
              rotate_left
              · (intro wq hSw; have hb9 := hSw.blk H15.out (fun h => h); have x19 := hb9.cell (i := 19) rfl; have x20 := hb9.cell (i := 20) rfl; have x21 := hb9.cell (i := 21) rfl; have x22 := hb9.cell (i := 22) rfl; have x23 := hb9.cell (i := 23) rfl; have x24 := hb9.cell (i := 24) rfl; clear hb9; have hb9 := hSw.blk H20.out (fun h => h); have v7 := hb9.cell (i := 7) rfl; clear hb9; go_simp; try with_reducible rfl)
              try simp only [Act.put, List.setIfInBounds_toArray, List.set_cons_zero, List.set_cons_succ]
              refine wpAnyH_ready (rs := [20]) (by kernel_rfl) (by simp) ?_
              refine AllReadyH.cons (o := ⟨some 142, _, _, _, _, _⟩) rfl (fun KK hK => ?_) AllReadyH.nil
              go_simp
              go_at_call 13
              refine (leftF2 F fb fd i P (npg P key ref) m sp _ _ (HIF.out.kept HW.out (fun _ _ h => h)) (by have := HPG.out.len; omega)).mono ?_; rintro e GN ⟨A7, c7, rfl, hR7, -, hK7⟩
              replace HW := Lib.hid (HW.out.trans hK7 (fun _ _ h => h))
              have HR7 := Lib.hid hR7
              have f07 := fun ww => hfield0 2 41 (P.lv : Int) A7 P.xs.length c7 P.hi P.la (P.rt : Int) ww
              have f17 := fun ww => hfieldW2 2 41 (P.lv : Int) A7 P.xs.length c7 P.hi P.la (P.rt : Int) ww
              have f27 := fun ww => hfield2 2 41 (P.lv : Int) A7 P.xs.length c7 P.hi P.la (P.rt : Int) ww
              clear hR7 hK7
              rename World => G
              refine hK.out _ _ ?_ (fun hHeld2 => ?_)
              · exact HW.out
              clear hK KK hHeld
              have hHeld := hHeld2
              clear hHeld2
              try simp only [Act.put, List.setIfInBounds_toArray, List.set_cons_zero, List.set_cons_succ]
              refine wpAnyH_take (i := 21) (oi := ⟨some 143, _, _, _, _, _⟩) (v := ?_) rfl (by kernel_rfl) (by kernel_rfl) (by kernel_rfl) (fun _ _ _ h => h) (Or.inl ⟨by rfl, ?_⟩) hHeld ?_
              rotate_left
              · (intro wq hSw; go_simp; try with_reducible rfl)
              try simp only [Act.put, List.setIfInBounds_toArray, List.set_cons_zero, List.set_cons_succ]
              refine wpAnyH_ready (rs := [25]) (by kernel_rfl) (by simp) ?_
              refine AllReadyH.cons (o := ⟨some 147, _, _, _, _, _⟩) rfl (fun KK hK => ?_) AllReadyH.nil
              go_simp
              go_at_call 14
              refine (refSame_yes P A7 A c7 c _ (by have := HPG.out.len; omega) HR7.out (HRS.out.keptF HW.out (fun _ _ h => h))).mono ?_; rintro e GN ⟨rfl, hKq⟩
              replace HW := Lib.hid (HW.out.trans hKq (fun _ _ h => h))
              clear hKq
              rename World => G
              refine hK.out _ _ ?_ (fun hHeld2 => ?_)
              · exact HW.out
              clear hK KK hHeld
              have hHeld := hHeld2
              clear hHeld2
              try simp only [Act.put, List.setIfInBounds_toArray, List.set_cons_zero, List.set_cons_succ]
              refine wpAnyH_take (i := 26) (oi := ⟨some 148, _, _, _, _, _⟩) (v := .bool true) rfl (by kernel_rfl) (by kernel_rfl) (by kernel_rfl) (fun _ _ _ h => h) (Or.inl ⟨by rfl, ?_⟩) hHeld ?_
              · (intro wq hSw; go_simp; try first | (with_reducible rfl) | (simp; omega) | (intros; omega) | simp [*])
              try simp only [Act.put, List.setIfInBounds_toArray, List.set_cons_zero, List.set_cons_succ]
              refine wpAnyH_take (i := 27) (oi := ⟨some 149, _, _, _, _, _⟩) (v := .bool true) rfl (by kernel_rfl) (by kernel_rfl) (by kernel_rfl) (fun _ _ _ h => h) (Or.inl ⟨by rfl, ?_⟩) hHeld ?_
              · (intro wq hSw; go_simp; try first | (with_reducible rfl) | (simp; omega) | (intros; omega) | simp [*])
              try simp only [Act.put, List.setIfInBounds_toArray, List.set_cons_zero, List.set_cons_succ]
              refine wpAnyH_take (i := 28) (oi := ⟨some 150, _, _, _, _, _⟩) (v := ?_) rfl (by kernel_rfl) (by kernel_rfl) (by kernel_rfl) (fun _ _ _ h => h) (Or.inl ⟨by rfl, ?_⟩) hHeld ?_
              rotate_left
              · (intro wq hSw; go_simp; try with_reducible rfl)
              try simp only [Act.put, List.setIfInBounds_toArray, List.set_cons_zero, List.set_cons_succ]
              refine wpAnyH_ready (rs := [29]) (by kernel_rfl) (by simp) ?_
              refine AllReadyH.cons (o := ⟨some 151, _, _, _, _, _⟩) rfl (fun KK hK => ?_) AllReadyH.nil
              go_simp
              go_at_call 15
              refine (is_rightF F 10 fb fd i 2 41 P (npg P key ref) m sp 10 _ _ (HIF.out.kept HW.out (fun _ _ h => h))).mono ?_; rintro e GN ⟨rfl, hKq⟩
              replace HW := Lib.hid (HW.out.trans hKq (fun _ _ h => h))
              clear hKq
              rename World => G
              have fz := fun ww => hfield0 0 0 0 none 0 0 ⟨#[]⟩ false 0 ww
              refine hK.out _ _ ?_ (fun hHeld2 => ?_)
              · exact HW.out
              clear hK KK hHeld
              have hHeld := hHeld2
              clear hHeld2
              try simp only [Act.put, List.setIfInBounds_toArray, List.set_cons_zero, List.set_cons_succ]
              refine wpAnyH_take (i := 30) (oi := ⟨some 152, _, _, _, _, _⟩) (v := ?_) rfl (by kernel_rfl) (by kernel_rfl) (by kernel_rfl) (fun _ _ _ h => h) (Or.inl ⟨by rfl, ?_⟩) hHeld ?_
              rotate_left
              · (intro wq hSw; go_simp; try with_reducible rfl)
              try simp only [Act.put, List.setIfInBounds_toArray, List.set_cons_zero, List.set_cons_succ]
              refine wpAnyH_take (i := 31) (oi := ⟨some 153, _, _, _, _, _⟩) (v := .bool true) rfl (by kernel_rfl) (by kernel_rfl) (by kernel_rfl) (fun _ _ _ h => h) (Or.inl ⟨by rfl, ?_⟩) hHeld ?_
              · (intro wq hSw; go_simp; try first | (with_reducible rfl) | (simp; omega) | (intros; omega) | simp [*])
              try simp only [Act.put, List.setIfInBounds_toArray, List.set_cons_zero, List.set_cons_succ]
              refine wpAnyH_take (i := 32) (oi := ⟨some 154, _, _, _, _, _⟩) (v := .bool true) rfl (by kernel_rfl) (by kernel_rfl) (by kernel_rfl) (fun _ _ _ h => h) (Or.inl ⟨by rfl, ?_⟩) hHeld ?_
              · (intro wq hSw; go_simp; try first | (with_reducible rfl) | (simp; omega) | (intros; omega) | simp [*])
              try simp only [Act.put, List.setIfInBounds_toArray, List.set_cons_zero, List.set_cons_succ]
              refine wpAnyH_take (i := 33) (oi := ⟨some 155, _, _, _, _, _⟩) (v := .bool true) rfl (by kernel_rfl) (by kernel_rfl) (by kernel_rfl) (fun _ _ _ h => h) (Or.inl ⟨by rfl, ?_⟩) hHeld ?_
              · (intro wq hSw; go_simp; try first | (with_reducible rfl) | (simp; omega) | (intros; omega) | simp [*])
              try simp only [Act.put, List.setIfInBounds_toArray, List.set_cons_zero, List.set_cons_succ]
              refine wpAnyH_take (i := 34) (oi := ⟨some 156, _, _, _, _, _⟩) (v := ?_) rfl (by kernel_rfl) (by kernel_rfl) (by kernel_rfl) (fun _ _ _ h => h) (Or.inl ⟨by rfl, ?_⟩) hHeld ?_
              rotate_left
              · (intro wq hSw; go_simp; try with_reducible rfl)
              try simp only [Act.put, List.setIfInBounds_toArray, List.set_cons_zero, List.set_cons_succ]
              refine wpAnyH_take (i := 35) (oi := ⟨some 157, _, _, _, _, _⟩) (v := ?_) rfl (by kernel_rfl) (by kernel_rfl) (by kernel_rfl) (fun _ _ _ h => h) (Or.inl ⟨by rfl, ?_⟩) hHeld ?_
              rotate_left
              · (intro wq hSw; have hb9 := hSw.blk H15.out (fun h => h); have x19 := hb9.cell (i := 19) rfl; have x20 := hb9.cell (i := 20) rfl; have x21 := hb9.cell (i := 21) rfl; have x22 := hb9.cell (i := 22) rfl; have x23 := hb9.cell (i := 23) rfl; have x24 := hb9.cell (i := 24) rfl; clear hb9; have hb9 := hSw.blk H20.out (fun h => h); have v7 := hb9.cell (i := 7) rfl; clear hb9; go_simp; try with_reducible rfl)
              try simp only [Act.put, List.setIfInBounds_toArray, List.set_cons_zero, List.set_cons_succ]
              refine wpAnyH_take (i := 36) (oi := ⟨some 158, _, _, _, _, _⟩) (v := ?_) rfl (by kernel_rfl) (by kernel_rfl) (by kernel_rfl) (fun _ _ _ h => h) (Or.inl ⟨by rfl, ?_⟩) hHeld ?_
              rotate_left
              · (intro wq hSw; go_simp; try with_reducible rfl)
              try simp only [Act.put, List.setIfInBounds_toArray, List.set_cons_zero, List.set_cons_succ]
              refine wpAnyH_ready (rs := [37]) (by kernel_rfl) (by simp) ?_
              refine AllReadyH.cons (o := ⟨some 159, _, _, _, _, _⟩) rfl (fun KK hK => ?_) AllReadyH.nil
              go_simp
              go_at_call 16
              refine (same_n gv gw n n n l0 _ HHL.out.len (fun j u hj => (HW.out.blk HGVZ.out (fun h => h)).cell hj) (fun j u hj => (HW.out.blk HGW.out (fun h => h)).cell hj) (by have := HHL.out.hi; omega)).mono ?_; rintro e GN ⟨rfl, qd, rfl⟩
              replace HW := Lib.hid (HW.out.drewN qd)
              refine hK.out _ _ ?_ (fun hHeld2 => ?_)
              · exact HW.out
              clear hK KK hHeld
              have hHeld := hHeld2
              clear hHeld2
              try simp only [Act.put, List.setIfInBounds_toArray, List.set_cons_zero, List.set_cons_succ]
              refine wpAnyH_take (i := 38) (oi := ⟨some 160, _, _, _, _, _⟩) (v := .bool true) rfl (by kernel_rfl) (by kernel_rfl) (by kernel_rfl) (fun _ _ _ h => h) (Or.inl ⟨by rfl, ?_⟩) hHeld ?_
              · (intro wq hSw; go_simp; try first | (with_reducible rfl) | (simp; omega) | (intros; omega) | simp [*])
              try simp only [Act.put, List.setIfInBounds_toArray, List.set_cons_zero, List.set_cons_succ]
              refine wpAnyH_take (i := 39) (oi := ⟨some 14, _, _, _, _, _⟩) (v := ?_) rfl (by kernel_rfl) (by kernel_rfl) (by kernel_rfl) (fun _ _ _ h => h) (Or.inl ⟨by rfl, ?_⟩) hHeld ?_
              rotate_left
              · (intro wq hSw; go_simp; try with_reducible rfl)
              try simp only [Act.put, List.setIfInBounds_toArray, List.set_cons_zero, List.set_cons_succ]
              refine wpAnyH_done (by kernel_rfl) ?_ _
              clear hHeld
              go_wp2
              go_ret
              exact ⟨rfl, (HK.out.trans HW.out (fun _ _ h => h.elim)).below (Nat.le_refl _) (fun _ h => h)⟩
          | false =>
            clear HE1
            go_upto_region 20 with fail
            have hr25a : r21 < WC.heap.size := H21.out.lt
            have hal := (Kept.refl (fun _ => False) WC).alloc (.cells #[.int .i64 0, .slice none 0 0, .string ⟨#[]⟩, .bool false, .int .u64 0] 31)
            have H25 := Lib.hid (Blk.new WC [.int .i64 0, .slice none 0 0, .string ⟨#[]⟩, .bool false, .int .u64 0] 31)
            replace HK := Lib.hid (HK.out.trans hal (fun _ _ h => h.elim))
            replace H15 := Lib.hid (hal.blk H15.out (fun h => h))
            replace HRS := Lib.hid (HRS.out.keptF hal (fun _ _ h => h))
            replace HM := Lib.hid (HM.out.kept hal (fun h => h) (fun h => h))
            replace HGW := Lib.hid (hal.blk HGW.out (fun h => h))
            replace HGV := Lib.hid (hal.blk HGV.out (fun h => h))
            replace H20 := Lib.hid (hal.blk H20.out (fun h => h))
            replace H21 := Lib.hid (hal.blk H21.out (fun h => h))
            replace HR2 := Lib.hid (HR2.out.keptF hal (fun _ _ h => h))
            replace HIA := Lib.hid (HIA.out.kept hal (fun _ _ h => h))
            clear hal
            generalize hr25 : WC.heap.size = r25 at *
            generalize WC.alloc (.cells #[.int .i64 0, .slice none 0 0, .string ⟨#[]⟩, .bool false, .int .u64 0] 31) = WD at *
            have HFAR := Lib.hid (show w.heap.size ≤ b ∧ w.heap.size ≤ g ∧ b < r15 ∧ g < r15 ∧ r15 < gw ∧ gw < r20 ∧ w6.heap.size ≤ gv ∧ gv < r20 ∧ r20 < r21 ∧ r21 < r25 from by have h1 := HR15.out; have h2 := HGWR.out; have h3 := HR20.out; have h5 := HR21.out; omega)
            clear hr25 hr25a
            go_upto_if 161 with fail
            go_cut [26, 27] from 162 to 229 (fun vs vr wx => ∃ (fo : Option Nat) (Y : Pg) (AY : Option Addr) (cY : Nat) (spY : ByteArray), vs = .string spY ∧ Blk wx r21 31 [.int .i64 (Y.lv : Int), .slice AY Y.xs.length cY, .string Y.hi, .bool Y.la, .int .u64 (Y.rt : Int)] ∧ Rs wx AY cY Y.xs ∧ Ypg (npg P key ref) m sp fo = Y ∧ Ysp sp fo = spY ∧ s2 = .don fo ∧ cellAt l2 (nlaT F 2) = ((45 : Int), (⟨#[]⟩ : ByteArray), (0 : Int)) ∧ Holds (nadT F 2) l2 Y ∧ Y.xs.length ≤ F ∧ Wf Y ∧ Y.lv ≤ 2 ∧ (∀ q : Int, q ≠ 4 → (∀ j : Nat, j < F + 4 → q ≠ nlaT F 2 + (j : Int)) → (tw = true → ∀ j : Nat, j < F + 4 → q ≠ nlaT F id + (j : Int)) → cellAt l2 q = cellAt l0 q) ∧ Kept (fun k => k = r21 ∨ k = r25) WD wx)
            case first =>
              cases tw with
              | false =>
                as_aux_lemma =>
                  have hlf := HLAST.out.2.2 HT2.out
                  have hx1 : (npg P key ref).xs.length ≤ F := by
                    have h1 := HTW.out
                    simp at h1; omega
                  have HXF := Lib.hid hx1
                  have HEND := Lib.hid (HHL.out.end0 (X := (npg P key ref)) (wb := beginW 41) (we := endW (beginW 41)) h4 h6 HPG.out.len hx1 l2 hlf.2)
                  have HV4 := Lib.hid (show (flat3 l2)[12]? = some (.int .u64 (Nv : Int)) from by
                    have h1 := HEND.out.2.1
                    have h0 := HL2.out
                    have h5 := h4nN
                    have h2 : l2[4]? = some (cellAt l2 4) := by rw [show (4 : Int) = ((4 : Nat) : Int) from rfl, cellAt_in l2 4 (by omega)]; exact List.getElem?_eq_getElem (by omega)
                    have h3 := (flat3_at l2 4 _ h2).1
                    rw [h1] at h3; exact h3)
                  have HIF := Lib.hid (show IAt (Zm Z1 V1 w6) WD F 10 fb fd i 2 41 P (npg P key ref) m sp 10 (.don Option.none) from by have h := HIA.out; rw [hlf.1] at h; exact h)
                  have HS2 := Lib.hid hlf.1
                  clear hlf hx1
                  have h4n : (4 : Int) < (n : Int) := by omega
                  go_upto_region 26 with fail
                  refine wp_region_held_drew (S := (fun w' => Kept (fun _ => False) WD w')) (by kernel_rfl) ?_ (fun hHeld => ?_)
                  · exact (Kept.refl _ _).drew
                  have HW := Lib.hid ((Kept.refl (fun _ => False) WD).drew)
                  generalize WD.drew = G at *
                  refine wpAnyH_take (i := 0) (oi := ⟨some 214, _, _, _, _, _⟩) (v := ?_) rfl (by kernel_rfl) (by kernel_rfl) (by kernel_rfl) (fun _ _ _ h => h) (Or.inl ⟨by rfl, ?_⟩) hHeld ?_
                  rotate_left
                  · (intro wq hSw; go_simp; try with_reducible rfl)
                  try simp only [Act.put, List.setIfInBounds_toArray, List.set_cons_zero, List.set_cons_succ]
                  refine wpAnyH_ready (rs := [1]) (by kernel_rfl) (by simp) ?_
                  refine AllReadyH.cons (o := ⟨some 215, _, _, _, _, _⟩) rfl (fun KK hK => ?_) AllReadyH.nil
                  go_simp
                  go_at_call 15
                  refine (is_right0 F 10 fb fd i 2 41 P (npg P key ref) m sp 10 _ _ (HIF.out.kept HW.out (fun _ _ h => h))).mono ?_; rintro e GN ⟨rfl, hKq⟩
                  replace HW := Lib.hid (HW.out.trans hKq (fun _ _ h => h))
                  clear hKq
                  rename World => G
                  have fz := fun ww => hfield0 0 0 0 none 0 0 ⟨#[]⟩ false 0 ww
                  refine hK.out _ _ ?_ (fun hHeld2 => ?_)
                  · exact HW.out
                  clear hK KK hHeld
                  have hHeld := hHeld2
                  clear hHeld2
                  try simp only [Act.put, List.setIfInBounds_toArray, List.set_cons_zero, List.set_cons_succ]
                  refine wpAnyH_take (i := 2) (oi := ⟨some 216, _, _, _, _, _⟩) (v := ?_) rfl (by kernel_rfl) (by kernel_rfl) (by kernel_rfl) (fun _ _ _ h => h) (Or.inl ⟨by rfl, ?_⟩) hHeld ?_
                  rotate_left
                  · (intro wq hSw; go_simp; try with_reducible rfl)
                  try simp only [Act.put, List.setIfInBounds_toArray, List.set_cons_zero, List.set_cons_succ]
                  refine wpAnyH_take (i := 3) (oi := ⟨some 217, _, _, _, _, _⟩) (v := .bool false) rfl (by kernel_rfl) (by kernel_rfl) (by kernel_rfl) (fun _ _ _ h => h) (Or.inl ⟨by rfl, ?_⟩) hHeld ?_
                  · (intro wq hSw; go_simp; try first | (with_reducible rfl) | (simp; omega) | (intros; omega) | simp [*])
                  try simp only [Act.put, List.setIfInBounds_toArray, List.set_cons_zero, List.set_cons_succ]
                  refine wpAnyH_take (i := 4) (oi := ⟨some 218, _, _, _, _, _⟩) (v := .bool false) rfl (by kernel_rfl) (by kernel_rfl) (by kernel_rfl) (fun _ _ _ h => h) (Or.inl ⟨by rfl, ?_⟩) hHeld ?_
                  · (intro wq hSw; go_simp; try first | (with_reducible rfl) | (simp; omega) | (intros; omega) | simp [*])
                  try simp only [Act.put, List.setIfInBounds_toArray, List.set_cons_zero, List.set_cons_succ]
                  refine wpAnyH_take (i := 5) (oi := ⟨some 219, _, _, _, _, _⟩) (v := ?_) rfl (by kernel_rfl) (by kernel_rfl) (by kernel_rfl) (fun _ _ _ h => h) (Or.inl ⟨by rfl, ?_⟩) hHeld ?_
                  rotate_left
                  · (intro wq hSw; go_simp; try with_reducible rfl)
                  try simp only [Act.put, List.setIfInBounds_toArray, List.set_cons_zero, List.set_cons_succ]
                  refine wpAnyH_take (i := 6) (oi := ⟨some 220, _, _, _, _, _⟩) (v := ?_) rfl (by kernel_rfl) (by kernel_rfl) (by kernel_rfl) (fun _ _ _ h => h) (Or.inl ⟨by rfl, ?_⟩) hHeld ?_
                  rotate_left
                  · (intro wq hSw; have hb9 := hSw.blk H20.out (fun h => h); have v7 := hb9.cell (i := 7) rfl; clear hb9; have hb9 := hSw.blk HGW.out (fun h => h); have y12 := hb9.cell HC4.out; clear hb9; have hb9 := hSw.blk HGV.out (fun h => h); have u12 := hb9.cell HV4.out; clear hb9; go_simp; try with_reducible rfl)
                  try simp only [Act.put, List.setIfInBounds_toArray, List.set_cons_zero, List.set_cons_succ]
                  refine wpAnyH_take (i := 7) (oi := ⟨some 221, _, _, _, _, _⟩) (v := ?_) rfl (by kernel_rfl) (by kernel_rfl) (by kernel_rfl) (fun _ _ _ h => h) (Or.inl ⟨by rfl, ?_⟩) hHeld ?_
                  rotate_left
                  · (intro wq hSw; go_simp; try with_reducible rfl)
                  try simp only [Act.put, List.setIfInBounds_toArray, List.set_cons_zero, List.set_cons_succ]
                  refine wpAnyH_take (i := 8) (oi := ⟨some 222, _, _, _, _, _⟩) (v := ?_) rfl (by kernel_rfl) (by kernel_rfl) (by kernel_rfl) (fun _ _ _ h => h) (Or.inl ⟨by rfl, ?_⟩) hHeld ?_
                  rotate_left
                  · (intro wq hSw; go_simp; try with_reducible rfl)
                  try simp only [Act.put, List.setIfInBounds_toArray, List.set_cons_zero, List.set_cons_succ]
                  refine wpAnyH_take (i := 9) (oi := ⟨some 223, _, _, _, _, _⟩) (v := ?_) rfl (by kernel_rfl) (by kernel_rfl) (by kernel_rfl) (fun _ _ _ h => h) (Or.inl ⟨by rfl, ?_⟩) hHeld ?_
                  rotate_left
                  · (intro wq hSw; have hb9 := hSw.blk H20.out (fun h => h); have v7 := hb9.cell (i := 7) rfl; clear hb9; have hb9 := hSw.blk HGW.out (fun h => h); have y12 := hb9.cell HC4.out; clear hb9; have hb9 := hSw.blk HGV.out (fun h => h); have u12 := hb9.cell HV4.out; clear hb9; go_simp; try with_reducible rfl)
                  try simp only [Act.put, List.setIfInBounds_toArray, List.set_cons_zero, List.set_cons_succ]
                  refine wpAnyH_take (i := 10) (oi := ⟨some 224, _, _, _, _, _⟩) (v := ?_) rfl (by kernel_rfl) (by kernel_rfl) (by kernel_rfl) (fun _ _ _ h => h) (Or.inl ⟨by rfl, ?_⟩) hHeld ?_
                  rotate_left
                  · (intro wq hSw; go_simp; try with_reducible rfl)
                  try simp only [Act.put, List.setIfInBounds_toArray, List.set_cons_zero, List.set_cons_succ]
                  refine wpAnyH_take (i := 11) (oi := ⟨some 225, _, _, _, _, _⟩) (v := ?_) rfl (by kernel_rfl) (by kernel_rfl) (by kernel_rfl) (fun _ _ _ h => h) (Or.inl ⟨by rfl, ?_⟩) hHeld ?_
                  rotate_left
                  · (intro wq hSw; go_simp; try with_reducible rfl)
                  try simp only [Act.put, List.setIfInBounds_toArray, List.set_cons_zero, List.set_cons_succ]
                  refine wpAnyH_take (i := 12) (oi := ⟨some 226, _, _, _, _, _⟩) (v := ?_) rfl (by kernel_rfl) (by kernel_rfl) (by kernel_rfl) (fun _ _ _ h => h) (Or.inl ⟨by rfl, ?_⟩) hHeld ?_
                  rotate_left
                  · (intro wq hSw; go_simp; try with_reducible rfl)
                  try simp only [Act.put, List.setIfInBounds_toArray, List.set_cons_zero, List.set_cons_succ]
                  refine wpAnyH_take (i := 13) (oi := ⟨some 227, _, _, _, _, _⟩) (v := ?_) rfl (by kernel_rfl) (by kernel_rfl) (by kernel_rfl) (fun _ _ _ h => h) (Or.inl ⟨by rfl, ?_⟩) hHeld ?_
                  rotate_left
                  · (intro wq hSw; have hb9 := hSw.blk H20.out (fun h => h); have v7 := hb9.cell (i := 7) rfl; clear hb9; have hb9 := hSw.blk HGW.out (fun h => h); have y12 := hb9.cell HC4.out; clear hb9; have hb9 := hSw.blk HGV.out (fun h => h); have u12 := hb9.cell HV4.out; clear hb9; go_simp; try with_reducible rfl)
                  try simp only [Act.put, List.setIfInBounds_toArray, List.set_cons_zero, List.set_cons_succ]
                  refine wpAnyH_take (i := 14) (oi := ⟨some 228, _, _, _, _, _⟩) (v := .bool false) rfl (by kernel_rfl) (by kernel_rfl) (by kernel_rfl) (fun _ _ _ h => h) (Or.inl ⟨by rfl, ?_⟩) hHeld ?_
                  · (intro wq hSw; go_simp; try first | (with_reducible rfl) | (simp; omega) | (intros; omega) | simp [*])
                  try simp only [Act.put, List.setIfInBounds_toArray, List.set_cons_zero, List.set_cons_succ]
                  refine wpAnyH_take (i := 15) (oi := ⟨some 229, _, _, _, _, _⟩) (v := .bool false) rfl (by kernel_rfl) (by kernel_rfl) (by kernel_rfl) (fun _ _ _ h => h) (Or.inl ⟨by rfl, ?_⟩) hHeld ?_
                  · (intro wq hSw; go_simp; try first | (with_reducible rfl) | (simp; omega) | (intros; omega) | simp [*])
                  try simp only [Act.put, List.setIfInBounds_toArray, List.set_cons_zero, List.set_cons_succ]
                  refine wpAnyH_done (by kernel_rfl) ?_ _
                  clear hHeld
                  go_wp2
                  go_meet
                  have hn9 := HN1.out
                  refine ⟨Option.none, (npg P key ref), A2, c2, ⟨#[]⟩, rfl, ?_, HR2.out.keptF HW.out (fun _ _ h => h), rfl, rfl, HS2.out, HEND.out.2.2.1, HEND.out.2.2.2.1, HXF.out, HPG.out.wf, HPG.out.lv, fun q _ h2 _ => HEND.out.2.2.2.2 q h2, HW.out.mono (fun _ h => h.elim)⟩
                  rw [hn9.1]
                  exact HW.out.blk H21.out (fun h => h)
              | true =>
                as_aux_lemma =>
                  have hv10 : Nv < 10 := HE2.out rfl (by first | rfl | trivial)
                  have hlf := HLAST.out.2.1 ⟨HT2.out, hv10⟩
                  rw [HID.out] at hlf
                  have HS2 := Lib.hid hlf.1
                  have HIDR := Lib.hid (show 3 ≤ id ∧ id ≤ 10 from by have h1 := HID.out; have h2 := HN3.out; omega)
                  have HMB := Lib.hid (show 1 ≤ m ∧ m < n1 ∧ m ≤ F ∧ n1 - m ≤ F ∧ n1 ≤ 7 ∧ 2 ≤ n1 from by
                    have hx1 := HN1.out
                    have hmm := HMM.out
                    have hnF2 := HPG.out.len
                    have hn2 := HPG.out.pos
                    omega)
                  have HLF := Lib.hid (show (lpg (npg P key ref) m sp id).xs.length = m from lpg_length (by have h1 := HMB.out; have h2 := HN1.out; omega))
                  have HRL := Lib.hid (show (rpg (npg P key ref) m).xs.length = n1 - m from by rw [rpg_length, HN1.out.1])
                  have HRF := Lib.hid (show (rpg (npg P key ref) m).xs.length ≤ F from by rw [HRL.out]; exact HMB.out.2.2.2.1)
                  have HEND := Lib.hid (HHL.out.end1 (Y := (lpg (npg P key ref) m sp id)) (R := (rpg (npg P key ref) m)) (wb := beginW 41) (we := endW (beginW 41)) (id := id) h4 h6 HPG.out.len (by rw [HLF.out]; exact HMB.out.2.2.1) HRF.out HIDR.out.1 HIDR.out.2 l2 (by
                    rw [hlf.2]
                    unfold memT frsN wrsN
                    rw [HID.out]; rfl))
                  have HV4 := Lib.hid (show (flat3 l2)[12]? = some (.int .u64 (id : Int)) from by
                    have h1 := HEND.out.2.1
                    have h0 := HL2.out
                    have h5 := h4nN
                    have h2 : l2[4]? = some (cellAt l2 4) := by rw [show (4 : Int) = ((4 : Nat) : Int) from rfl, cellAt_in l2 4 (by omega)]; exact List.getElem?_eq_getElem (by omega)
                    have h3 := (flat3_at l2 4 _ h2).1
                    rw [h1] at h3; exact h3)
                  have HIF := Lib.hid (show IAt (Zm Z1 V1 w6) WD F 10 fb fd i 2 41 P (npg P key ref) m sp 10 (.don (some id)) from by have h := HIA.out; rw [hlf.1] at h; exact h)
                  clear hv10 hlf
                  have h4n : (4 : Int) < (n : Int) := by omega
                  go_upto_region 22 with fail
                  have hb9 := H21.out
                  have p0 := hb9.cell (i := 0) rfl
                  have p1 := hb9.cell (i := 1) rfl
                  have p2 := hb9.cell (i := 2) rfl
                  have p3 := hb9.cell (i := 3) rfl
                  have p4 := hb9.cell (i := 4) rfl
                  clear hb9
                  go_wp2_with fail
                  refine (split_both P.lv (by have := HPG.out.lv; omega) A2 c2 P.hi P.la P.rt id (npg P key ref).xs n1 m sp _ HN1.out.1 HMB.out.2.2.2.2.2 (by have h1 := HMB.out; omega) (by have h1 := HMM.out; have h2 := HN1.out.2; rw [h2] at h1; exact h1) HR2.out (fun x hx => HO.out.sz x hx) HO.out.sep).mono ?_; rintro e WE ⟨g2, o2, rfl, rfl, hKs⟩
                  replace HK := Lib.hid (HK.out.trans hKs (fun _ _ h => h.elim))
                  replace H15 := Lib.hid (hKs.blk H15.out (fun h => h))
                  replace HRS := Lib.hid (HRS.out.keptF hKs (fun _ _ h => h))
                  replace HM := Lib.hid (HM.out.kept hKs (fun h => h) (fun h => h))
                  replace HGW := Lib.hid (hKs.blk HGW.out (fun h => h))
                  replace HGV := Lib.hid (hKs.blk HGV.out (fun h => h))
                  replace H20 := Lib.hid (hKs.blk H20.out (fun h => h))
                  replace HR2 := Lib.hid (HR2.out.keptF hKs (fun _ _ h => h))
                  replace H21 := Lib.hid (hKs.blk H21.out (fun h => h))
                  replace H25 := Lib.hid (hKs.blk H25.out (fun h => h))
                  replace HIF := Lib.hid (HIF.out.kept hKs (fun _ _ h => h))
                  have HKD := Lib.hid (hKs.mono (T := fun k => k = r21 ∨ k = r25) (fun _ h => h.elim))
                  clear hKs
                  clear p0 p1 p2 p3 p4
                  have h21s := H21.out
                  have h25s := ((Kept.refl (fun k => k = r21) WE).row (g := r21) (fun _ => rfl) ⟨[.int .i64 (P.lv : Int), .slice (some ⟨g2, o2, none⟩) m m, .string sp, .bool false, .int .u64 (id : Int)]⟩).blk H25.out (fun h => by have h1 := HFAR.out; have h2 : r25 = r21 := h; omega)
                  go_upto_region 23 with (first | (refine wpList_store_row rfl 31 (.tmp 21) (.tmp 166) rfl r21 ⟨[.int .i64 (P.lv : Int), .slice (some ⟨g2, o2, none⟩) m m, .string sp, .bool false, .int .u64 (id : Int)]⟩ rfl rfl 31 ⟨[.int .i64 (P.lv : Int), .slice (some ⟨g2, o2, none⟩) n1 c2, .string P.hi, .bool P.la, .int .u64 (P.rt : Int)]⟩ h21s infoPg rfl (by simp [Value.oneCell']) ?_) | (refine wpList_store_row rfl 31 (.tmp 25) (.tmp 167) rfl r25 ⟨[.int .i64 (P.lv : Int), .slice (some ⟨g2, o2 + m * 2, none⟩) (n1 - m) (c2 - m), .string P.hi, .bool P.la, .int .u64 (P.rt : Int)]⟩ rfl rfl 31 ⟨[.int .i64 0, .slice none 0 0, .string ⟨#[]⟩, .bool false, .int .u64 0]⟩ h25s infoPg rfl (by simp [Value.oneCell']) ?_))
                  have hks := ((Kept.refl (fun k => k = r21 ∨ k = r25) WE).row (g := r21) (fun _ => .inl rfl) ⟨[.int .i64 (P.lv : Int), .slice (some ⟨g2, o2, none⟩) m m, .string sp, .bool false, .int .u64 (id : Int)]⟩).row (g := r25) (fun _ => .inr rfl) ⟨[.int .i64 (P.lv : Int), .slice (some ⟨g2, o2 + m * 2, none⟩) (n1 - m) (c2 - m), .string P.hi, .bool P.la, .int .u64 (P.rt : Int)]⟩
                  have h21b := ((Kept.refl (fun k => k = r25) (WE.setRow r21 ⟨[.int .i64 (P.lv : Int), .slice (some ⟨g2, o2, none⟩) m m, .string sp, .bool false, .int .u64 (id : Int)]⟩)).row (g := r25) (fun _ => rfl) ⟨[.int .i64 (P.lv : Int), .slice (some ⟨g2, o2 + m * 2, none⟩) (n1 - m) (c2 - m), .string P.hi, .bool P.la, .int .u64 (P.rt : Int)]⟩).blk (h21s.row [.int .i64 (P.lv : Int), .slice (some ⟨g2, o2, none⟩) m m, .string sp, .bool false, .int .u64 (id : Int)]) (fun h => by have h1 := HFAR.out; have h2 : r21 = r25 := h; omega)
                  have h25b := h25s.row [.int .i64 (P.lv : Int), .slice (some ⟨g2, o2 + m * 2, none⟩) (n1 - m) (c2 - m), .string P.hi, .bool P.la, .int .u64 (P.rt : Int)]
                  generalize (WE.setRow r21 ⟨[.int .i64 (P.lv : Int), .slice (some ⟨g2, o2, none⟩) m m, .string sp, .bool false, .int .u64 (id : Int)]⟩).setRow r25 ⟨[.int .i64 (P.lv : Int), .slice (some ⟨g2, o2 + m * 2, none⟩) (n1 - m) (c2 - m), .string P.hi, .bool P.la, .int .u64 (P.rt : Int)]⟩ = WF at *
                  clear h21s h25s H21 H25
                  have H21 := Lib.hid (show Blk WF r21 31 [.int .i64 ((lpg (npg P key ref) m sp id).lv : Int), .slice (some ⟨g2, o2, none⟩) (lpg (npg P key ref) m sp id).xs.length m, .string (lpg (npg P key ref) m sp id).hi, .bool (lpg (npg P key ref) m sp id).la, .int .u64 ((lpg (npg P key ref) m sp id).rt : Int)] from by rw [HLF.out]; exact h21b)
                  have H25 := Lib.hid (show Blk WF r25 31 [.int .i64 ((rpg (npg P key ref) m).lv : Int), .slice (some ⟨g2, o2 + m * 2, none⟩) (rpg (npg P key ref) m).xs.length (c2 - m), .string (rpg (npg P key ref) m).hi, .bool (rpg (npg P key ref) m).la, .int .u64 ((rpg (npg P key ref) m).rt : Int)] from by rw [HRL.out]; exact h25b)
                  replace HK := Lib.hid (HK.out.trans hks (fun k hk h => by have h1 := HFAR.out; show w.heap.size ≤ k; rcases h with h | h <;> omega))
                  replace H15 := Lib.hid (hks.blk H15.out (fun h => by have h1 := HFAR.out; rcases h with h | h <;> omega))
                  replace HRS := Lib.hid (HRS.out.keptP hks (fun hp a ha h => by have h1 := HFAR.out; have h2 := HAB.out a ha hp; rcases h with h | h <;> omega))
                  replace HM := Lib.hid (HM.out.kept hks (fun h => by have h1 := HFAR.out; rcases h with h | h <;> omega) (fun h => by have h1 := HFAR.out; rcases h with h | h <;> omega))
                  replace HGW := Lib.hid (hks.blk HGW.out (fun h => by have h1 := HFAR.out; rcases h with h | h <;> omega))
                  replace HGV := Lib.hid (hks.blk HGV.out (fun h => by have h1 := HFAR.out; rcases h with h | h <;> omega))
                  replace H20 := Lib.hid (hks.blk H20.out (fun h => by have h1 := HFAR.out; rcases h with h | h <;> omega))
                  replace HR2 := Lib.hid (HR2.out.keptP hks (fun hp a ha h => by have h1 := HFAR.out; have h2 := HA2.out a ha; rcases h with h | h <;> omega))
                  replace HIF := Lib.hid (HIF.out.kept hks (fun k hk h => by have h1 := HFAR.out; have h2 := HZ2.out k hk; rcases h with h | h <;> omega))
                  replace HKD := Lib.hid (HKD.out.trans hks (fun _ _ h => h))
                  clear hks h21b h25b
                  have HRR := Lib.hid (Rs.dropY HR2.out (k := m) (by have h1 := HMB.out; have h2 := HN1.out; omega))
                  go_wp2_with fail
                  refine (is_right1 F 10 fb fd i 2 41 P (npg P key ref) m sp 10 _ id _ HIF.out (by have := HRF.out; omega)).mono ?_; rintro e WH ⟨A4, c4, rfl, hR4, -, hK4⟩
                  replace HK := Lib.hid (HK.out.trans hK4 (fun _ _ h => h.elim))
                  replace H15 := Lib.hid (hK4.blk H15.out (fun h => h))
                  replace HRS := Lib.hid (HRS.out.keptF hK4 (fun _ _ h => h))
                  replace HM := Lib.hid (HM.out.kept hK4 (fun h => h) (fun h => h))
                  replace HGW := Lib.hid (hK4.blk HGW.out (fun h => h))
                  replace HGV := Lib.hid (hK4.blk HGV.out (fun h => h))
                  replace H20 := Lib.hid (hK4.blk H20.out (fun h => h))
                  replace HR2 := Lib.hid (HR2.out.keptF hK4 (fun _ _ h => h))
                  replace H21 := Lib.hid (hK4.blk H21.out (fun h => h))
                  replace H25 := Lib.hid (hK4.blk H25.out (fun h => h))
                  replace HRR := Lib.hid (HRR.out.keptF hK4 (fun _ _ h => h))
                  replace HIF := Lib.hid (HIF.out.kept hK4 (fun _ _ h => h))
                  replace HKD := Lib.hid (HKD.out.trans hK4 (fun _ _ h => h.elim))
                  have HR4 := Lib.hid hR4
                  clear hR4 hK4
                  go_upto_region 24 with fail
                  have hal := (Kept.refl (fun _ => False) WH).alloc (.cells #[.int .u64 (id : Int), .int .u64 1, .int .i64 ((rpg (npg P key ref) m).lv : Int), .slice A4 (rpg (npg P key ref) m).xs.length c4, .string (rpg (npg P key ref) m).hi, .bool (rpg (npg P key ref) m).la, .int .u64 ((rpg (npg P key ref) m).rt : Int)] 33)
                  have H27 := Lib.hid (Blk.new WH [.int .u64 (id : Int), .int .u64 1, .int .i64 ((rpg (npg P key ref) m).lv : Int), .slice A4 (rpg (npg P key ref) m).xs.length c4, .string (rpg (npg P key ref) m).hi, .bool (rpg (npg P key ref) m).la, .int .u64 ((rpg (npg P key ref) m).rt : Int)] 33)
                  replace HK := Lib.hid (HK.out.trans hal (fun _ _ h => h.elim))
                  replace H15 := Lib.hid (hal.blk H15.out (fun h => h))
                  replace HRS := Lib.hid (HRS.out.keptF hal (fun _ _ h => h))
                  replace HM := Lib.hid (HM.out.kept hal (fun h => h) (fun h => h))
                  replace HGW := Lib.hid (hal.blk HGW.out (fun h => h))
                  replace HGV := Lib.hid (hal.blk HGV.out (fun h => h))
                  replace H20 := Lib.hid (hal.blk H20.out (fun h => h))
                  replace HR2 := Lib.hid (HR2.out.keptF hal (fun _ _ h => h))
                  replace H21 := Lib.hid (hal.blk H21.out (fun h => h))
                  replace H25 := Lib.hid (hal.blk H25.out (fun h => h))
                  replace HRR := Lib.hid (HRR.out.keptF hal (fun _ _ h => h))
                  replace HR4 := Lib.hid (HR4.out.keptF hal (fun _ _ h => h))
                  replace HIF := Lib.hid (HIF.out.kept hal (fun _ _ h => h))
                  replace HKD := Lib.hid (HKD.out.trans hal (fun _ _ h => h.elim))
                  clear hal
                  generalize WH.heap.size = r27 at *
                  generalize WH.alloc (.cells #[.int .u64 (id : Int), .int .u64 1, .int .i64 ((rpg (npg P key ref) m).lv : Int), .slice A4 (rpg (npg P key ref) m).xs.length c4, .string (rpg (npg P key ref) m).hi, .bool (rpg (npg P key ref) m).la, .int .u64 ((rpg (npg P key ref) m).rt : Int)] 33) = WG at *
                  refine wp_region_held_drew (S := (fun w' => Kept (fun _ => False) WG w')) (by kernel_rfl) ?_ (fun hHeld => ?_)
                  · exact (Kept.refl _ _).drew
                  have HW := Lib.hid ((Kept.refl (fun _ => False) WG).drew)
                  generalize WG.drew = G at *
                  refine wpAnyH_take (i := 0) (oi := ⟨some 172, _, _, _, _, _⟩) (v := ?_) rfl (by kernel_rfl) (by kernel_rfl) (by kernel_rfl) (fun _ _ _ h => h) (Or.inl ⟨by rfl, ?_⟩) hHeld ?_
                  rotate_left
                  · (intro wq hSw; go_simp; try with_reducible rfl)
                  try simp only [Act.put, List.setIfInBounds_toArray, List.set_cons_zero, List.set_cons_succ]
                  refine wpAnyH_take (i := 1) (oi := ⟨some 173, _, _, _, _, _⟩) (v := ?_) rfl (by kernel_rfl) (by kernel_rfl) (by kernel_rfl) (fun _ _ _ h => h) (Or.inl ⟨by rfl, ?_⟩) hHeld ?_
                  rotate_left
                  · (intro wq hSw; have hb9 := hSw.blk H27.out (fun h => h); have r0 := hb9.cell (i := 0) rfl; have r1 := hb9.cell (i := 1) rfl; have r2 := hb9.cell (i := 2) rfl; have r3 := hb9.cell (i := 3) rfl; have r4 := hb9.cell (i := 4) rfl; have r5 := hb9.cell (i := 5) rfl; have r6 := hb9.cell (i := 6) rfl; clear hb9; have hb9 := hSw.blk H25.out (fun h => h); have q0 := hb9.cell (i := 0) rfl; have q1 := hb9.cell (i := 1) rfl; have q2 := hb9.cell (i := 2) rfl; have q3 := hb9.cell (i := 3) rfl; have q4 := hb9.cell (i := 4) rfl; clear hb9; have hb9 := hSw.blk H20.out (fun h => h); have v0 := hb9.cell (i := 0) rfl; have v1 := hb9.cell (i := 1) rfl; have v2 := hb9.cell (i := 2) rfl; have v3 := hb9.cell (i := 3) rfl; have v4 := hb9.cell (i := 4) rfl; have v5 := hb9.cell (i := 5) rfl; have v6 := hb9.cell (i := 6) rfl; have v7 := hb9.cell (i := 7) rfl; clear hb9; have hb9 := hSw.blk HGV.out (fun h => h); have u12 := hb9.cell HV4.out; clear hb9; go_simp; try with_reducible rfl)
                  try simp only [Act.put, List.setIfInBounds_toArray, List.set_cons_zero, List.set_cons_succ]
                  refine wpAnyH_take (i := 2) (oi := ⟨some 174, _, _, _, _, _⟩) (v := ?_) rfl (by kernel_rfl) (by kernel_rfl) (by kernel_rfl) (fun _ _ _ h => h) (Or.inl ⟨by rfl, ?_⟩) hHeld ?_
                  rotate_left
                  · (intro wq hSw; go_simp; try with_reducible rfl)
                  try simp only [Act.put, List.setIfInBounds_toArray, List.set_cons_zero, List.set_cons_succ]
                  refine wpAnyH_take (i := 3) (oi := ⟨some 175, _, _, _, _, _⟩) (v := .bool false) rfl (by kernel_rfl) (by kernel_rfl) (by kernel_rfl) (fun _ _ _ h => h) (Or.inl ⟨by rfl, ?_⟩) hHeld ?_
                  · (intro wq hSw; go_simp; try first | (with_reducible rfl) | (simp; omega) | (intros; omega) | simp [*])
                  try simp only [Act.put, List.setIfInBounds_toArray, List.set_cons_zero, List.set_cons_succ]
                  refine wpAnyH_take (i := 4) (oi := ⟨some 176, _, _, _, _, _⟩) (v := .bool false) rfl (by kernel_rfl) (by kernel_rfl) (by kernel_rfl) (fun _ _ _ h => h) (Or.inl ⟨by rfl, ?_⟩) hHeld ?_
                  · (intro wq hSw; go_simp; try first | (with_reducible rfl) | (simp; omega) | (intros; omega) | simp [*])
                  try simp only [Act.put, List.setIfInBounds_toArray, List.set_cons_zero, List.set_cons_succ]
                  refine wpAnyH_take (i := 5) (oi := ⟨some 177, _, _, _, _, _⟩) (v := ?_) rfl (by kernel_rfl) (by kernel_rfl) (by kernel_rfl) (fun _ _ _ h => h) (Or.inl ⟨by rfl, ?_⟩) hHeld ?_
                  rotate_left
                  · (intro wq hSw; go_simp; try with_reducible rfl)
                  try simp only [Act.put, List.setIfInBounds_toArray, List.set_cons_zero, List.set_cons_succ]
                  refine wpAnyH_take (i := 6) (oi := ⟨some 178, _, _, _, _, _⟩) (v := ?_) rfl (by kernel_rfl) (by kernel_rfl) (by kernel_rfl) (fun _ _ _ h => h) (Or.inl ⟨by rfl, ?_⟩) hHeld ?_
                  rotate_left
                  · (intro wq hSw; have hb9 := hSw.blk H27.out (fun h => h); have r0 := hb9.cell (i := 0) rfl; have r1 := hb9.cell (i := 1) rfl; have r2 := hb9.cell (i := 2) rfl; have r3 := hb9.cell (i := 3) rfl; have r4 := hb9.cell (i := 4) rfl; have r5 := hb9.cell (i := 5) rfl; have r6 := hb9.cell (i := 6) rfl; clear hb9; have hb9 := hSw.blk H25.out (fun h => h); have q0 := hb9.cell (i := 0) rfl; have q1 := hb9.cell (i := 1) rfl; have q2 := hb9.cell (i := 2) rfl; have q3 := hb9.cell (i := 3) rfl; have q4 := hb9.cell (i := 4) rfl; clear hb9; have hb9 := hSw.blk H20.out (fun h => h); have v0 := hb9.cell (i := 0) rfl; have v1 := hb9.cell (i := 1) rfl; have v2 := hb9.cell (i := 2) rfl; have v3 := hb9.cell (i := 3) rfl; have v4 := hb9.cell (i := 4) rfl; have v5 := hb9.cell (i := 5) rfl; have v6 := hb9.cell (i := 6) rfl; have v7 := hb9.cell (i := 7) rfl; clear hb9; have hb9 := hSw.blk HGV.out (fun h => h); have u12 := hb9.cell HV4.out; clear hb9; go_simp; try with_reducible rfl)
                  try simp only [Act.put, List.setIfInBounds_toArray, List.set_cons_zero, List.set_cons_succ]
                  refine wpAnyH_ready (rs := [7]) (by kernel_rfl) (by simp) ?_
                  refine AllReadyH.cons (o := ⟨some 179, _, _, _, _, _⟩) rfl (fun KK hK => ?_) AllReadyH.nil
                  go_simp
                  go_at_call 18
                  refine (lock_of 0 1 (by decide) (by decide) _).mono ?_; rintro e GN ⟨rfl, rfl⟩
                  refine hK.out _ _ ?_ (fun hHeld2 => ?_)
                  · exact HW.out
                  clear hK KK hHeld
                  have hHeld := hHeld2
                  clear hHeld2
                  try simp only [Act.put, List.setIfInBounds_toArray, List.set_cons_zero, List.set_cons_succ]
                  refine wpAnyH_take (i := 8) (oi := ⟨some 180, _, _, _, _, _⟩) (v := .bool false) rfl (by kernel_rfl) (by kernel_rfl) (by kernel_rfl) (fun _ _ _ h => h) (Or.inl ⟨by rfl, ?_⟩) hHeld ?_
                  · (intro wq hSw; go_simp; try first | (with_reducible rfl) | (simp; omega) | (intros; omega) | simp [*])
                  try simp only [Act.put, List.setIfInBounds_toArray, List.set_cons_zero, List.set_cons_succ]
                  refine wpAnyH_take (i := 9) (oi := ⟨some 181, _, _, _, _, _⟩) (v := .bool false) rfl (by kernel_rfl) (by kernel_rfl) (by kernel_rfl) (fun _ _ _ h => h) (Or.inl ⟨by rfl, ?_⟩) hHeld ?_
                  · (intro wq hSw; go_simp; try first | (with_reducible rfl) | (simp; omega) | (intros; omega) | simp [*])
                  try simp only [Act.put, List.setIfInBounds_toArray, List.set_cons_zero, List.set_cons_succ]
                  refine wpAnyH_take (i := 10) (oi := ⟨some 182, _, _, _, _, _⟩) (v := .bool false) rfl (by kernel_rfl) (by kernel_rfl) (by kernel_rfl) (fun _ _ _ h => h) (Or.inl ⟨by rfl, ?_⟩) hHeld ?_
                  · (intro wq hSw; go_simp; try first | (with_reducible rfl) | (simp; omega) | (intros; omega) | simp [*])
                  try simp only [Act.put, List.setIfInBounds_toArray, List.set_cons_zero, List.set_cons_succ]
                  refine wpAnyH_take (i := 11) (oi := ⟨some 183, _, _, _, _, _⟩) (v := ?_) rfl (by kernel_rfl) (by kernel_rfl) (by kernel_rfl) (fun _ _ _ h => h) (Or.inl ⟨by rfl, ?_⟩) hHeld ?_
                  rotate_left
                  · (intro wq hSw; go_simp; try with_reducible rfl)
                  try simp only [Act.put, List.setIfInBounds_toArray, List.set_cons_zero, List.set_cons_succ]
                  refine wpAnyH_take (i := 12) (oi := ⟨some 184, _, _, _, _, _⟩) (v := ?_) rfl (by kernel_rfl) (by kernel_rfl) (by kernel_rfl) (fun _ _ _ h => h) (Or.inl ⟨by rfl, ?_⟩) hHeld ?_
                  rotate_left
                  · (intro wq hSw; have hb9 := hSw.blk H27.out (fun h => h); have r0 := hb9.cell (i := 0) rfl; have r1 := hb9.cell (i := 1) rfl; have r2 := hb9.cell (i := 2) rfl; have r3 := hb9.cell (i := 3) rfl; have r4 := hb9.cell (i := 4) rfl; have r5 := hb9.cell (i := 5) rfl; have r6 := hb9.cell (i := 6) rfl; clear hb9; have hb9 := hSw.blk H25.out (fun h => h); have q0 := hb9.cell (i := 0) rfl; have q1 := hb9.cell (i := 1) rfl; have q2 := hb9.cell (i := 2) rfl; have q3 := hb9.cell (i := 3) rfl; have q4 := hb9.cell (i := 4) rfl; clear hb9; have hb9 := hSw.blk H20.out (fun h => h); have v0 := hb9.cell (i := 0) rfl; have v1 := hb9.cell (i := 1) rfl; have v2 := hb9.cell (i := 2) rfl; have v3 := hb9.cell (i := 3) rfl; have v4 := hb9.cell (i := 4) rfl; have v5 := hb9.cell (i := 5) rfl; have v6 := hb9.cell (i := 6) rfl; have v7 := hb9.cell (i := 7) rfl; clear hb9; have hb9 := hSw.blk HGV.out (fun h => h); have u12 := hb9.cell HV4.out; clear hb9; go_simp; try with_reducible rfl)
                  try simp only [Act.put, List.setIfInBounds_toArray, List.set_cons_zero, List.set_cons_succ]
                  refine wpAnyH_take (i := 13) (oi := ⟨some 185, _, _, _, _, _⟩) (v := ?_) rfl (by kernel_rfl) (by kernel_rfl) (by kernel_rfl) (fun _ _ _ h => h) (Or.inl ⟨by rfl, ?_⟩) hHeld ?_
                  rotate_left
                  · (intro wq hSw; have hb9 := hSw.blk H27.out (fun h => h); have r0 := hb9.cell (i := 0) rfl; have r1 := hb9.cell (i := 1) rfl; have r2 := hb9.cell (i := 2) rfl; have r3 := hb9.cell (i := 3) rfl; have r4 := hb9.cell (i := 4) rfl; have r5 := hb9.cell (i := 5) rfl; have r6 := hb9.cell (i := 6) rfl; clear hb9; have hb9 := hSw.blk H25.out (fun h => h); have q0 := hb9.cell (i := 0) rfl; have q1 := hb9.cell (i := 1) rfl; have q2 := hb9.cell (i := 2) rfl; have q3 := hb9.cell (i := 3) rfl; have q4 := hb9.cell (i := 4) rfl; clear hb9; have hb9 := hSw.blk H20.out (fun h => h); have v0 := hb9.cell (i := 0) rfl; have v1 := hb9.cell (i := 1) rfl; have v2 := hb9.cell (i := 2) rfl; have v3 := hb9.cell (i := 3) rfl; have v4 := hb9.cell (i := 4) rfl; have v5 := hb9.cell (i := 5) rfl; have v6 := hb9.cell (i := 6) rfl; have v7 := hb9.cell (i := 7) rfl; clear hb9; have hb9 := hSw.blk HGV.out (fun h => h); have u12 := hb9.cell HV4.out; clear hb9; go_simp; try with_reducible rfl)
                  try simp only [Act.put, List.setIfInBounds_toArray, List.set_cons_zero, List.set_cons_succ]
                  refine wpAnyH_ready (rs := [14]) (by kernel_rfl) (by simp) ?_
                  refine AllReadyH.cons (o := ⟨some 186, _, _, _, _, _⟩) rfl (fun KK hK => ?_) AllReadyH.nil
                  go_simp
                  go_at_call 14
                  refine (refSame_yes (rpg (npg P key ref) m) A4 (some ⟨g2, o2 + m * 2, none⟩) c4 (c2 - m) _ (by have := HRF.out; omega) (HR4.out.keptF HW.out (fun _ _ h => h)) (HRR.out.keptF HW.out (fun _ _ h => h))).mono ?_; rintro e GN ⟨rfl, hKq⟩
                  replace HW := Lib.hid (HW.out.trans hKq (fun _ _ h => h))
                  clear hKq
                  rename World => G
                  refine hK.out _ _ ?_ (fun hHeld2 => ?_)
                  · exact HW.out
                  clear hK KK hHeld
                  have hHeld := hHeld2
                  clear hHeld2
                  try simp only [Act.put, List.setIfInBounds_toArray, List.set_cons_zero, List.set_cons_succ]
                  refine wpAnyH_take (i := 15) (oi := ⟨some 187, _, _, _, _, _⟩) (v := .bool false) rfl (by kernel_rfl) (by kernel_rfl) (by kernel_rfl) (fun _ _ _ h => h) (Or.inl ⟨by rfl, ?_⟩) hHeld ?_
                  · (intro wq hSw; go_simp; try first | (with_reducible rfl) | (simp; omega) | (intros; omega) | simp [*])
                  try simp only [Act.put, List.setIfInBounds_toArray, List.set_cons_zero, List.set_cons_succ]
                  refine wpAnyH_take (i := 16) (oi := ⟨some 188, _, _, _, _, _⟩) (v := .bool false) rfl (by kernel_rfl) (by kernel_rfl) (by kernel_rfl) (fun _ _ _ h => h) (Or.inl ⟨by rfl, ?_⟩) hHeld ?_
                  · (intro wq hSw; go_simp; try first | (with_reducible rfl) | (simp; omega) | (intros; omega) | simp [*])
                  try simp only [Act.put, List.setIfInBounds_toArray, List.set_cons_zero, List.set_cons_succ]
                  refine wpAnyH_take (i := 17) (oi := ⟨some 189, _, _, _, _, _⟩) (v := .bool false) rfl (by kernel_rfl) (by kernel_rfl) (by kernel_rfl) (fun _ _ _ h => h) (Or.inl ⟨by rfl, ?_⟩) hHeld ?_
                  · (intro wq hSw; go_simp; try first | (with_reducible rfl) | (simp; omega) | (intros; omega) | simp [*])
                  try simp only [Act.put, List.setIfInBounds_toArray, List.set_cons_zero, List.set_cons_succ]
                  refine wpAnyH_take (i := 18) (oi := ⟨some 190, _, _, _, _, _⟩) (v := ?_) rfl (by kernel_rfl) (by kernel_rfl) (by kernel_rfl) (fun _ _ _ h => h) (Or.inl ⟨by rfl, ?_⟩) hHeld ?_
                  rotate_left
                  · (intro wq hSw; have hb9 := hSw.blk H27.out (fun h => h); have r0 := hb9.cell (i := 0) rfl; have r1 := hb9.cell (i := 1) rfl; have r2 := hb9.cell (i := 2) rfl; have r3 := hb9.cell (i := 3) rfl; have r4 := hb9.cell (i := 4) rfl; have r5 := hb9.cell (i := 5) rfl; have r6 := hb9.cell (i := 6) rfl; clear hb9; have hb9 := hSw.blk H25.out (fun h => h); have q0 := hb9.cell (i := 0) rfl; have q1 := hb9.cell (i := 1) rfl; have q2 := hb9.cell (i := 2) rfl; have q3 := hb9.cell (i := 3) rfl; have q4 := hb9.cell (i := 4) rfl; clear hb9; have hb9 := hSw.blk H20.out (fun h => h); have v0 := hb9.cell (i := 0) rfl; have v1 := hb9.cell (i := 1) rfl; have v2 := hb9.cell (i := 2) rfl; have v3 := hb9.cell (i := 3) rfl; have v4 := hb9.cell (i := 4) rfl; have v5 := hb9.cell (i := 5) rfl; have v6 := hb9.cell (i := 6) rfl; have v7 := hb9.cell (i := 7) rfl; clear hb9; have hb9 := hSw.blk HGV.out (fun h => h); have u12 := hb9.cell HV4.out; clear hb9; go_simp; try with_reducible rfl)
                  try simp only [Act.put, List.setIfInBounds_toArray, List.set_cons_zero, List.set_cons_succ]
                  refine wpAnyH_take (i := 19) (oi := ⟨some 191, _, _, _, _, _⟩) (v := ?_) rfl (by kernel_rfl) (by kernel_rfl) (by kernel_rfl) (fun _ _ _ h => h) (Or.inl ⟨by rfl, ?_⟩) hHeld ?_
                  rotate_left
                  · (intro wq hSw; go_simp; try with_reducible rfl)
                  try simp only [Act.put, List.setIfInBounds_toArray, List.set_cons_zero, List.set_cons_succ]
                  refine wpAnyH_take (i := 21) (oi := ⟨some 193, _, _, _, _, _⟩) (v := ?_) rfl (by kernel_rfl) (by kernel_rfl) (by kernel_rfl) (fun _ _ _ h => h) (Or.inl ⟨by rfl, ?_⟩) hHeld ?_
                  rotate_left
                  · (intro wq hSw; have hb9 := hSw.blk H27.out (fun h => h); have r0 := hb9.cell (i := 0) rfl; have r1 := hb9.cell (i := 1) rfl; have r2 := hb9.cell (i := 2) rfl; have r3 := hb9.cell (i := 3) rfl; have r4 := hb9.cell (i := 4) rfl; have r5 := hb9.cell (i := 5) rfl; have r6 := hb9.cell (i := 6) rfl; clear hb9; have hb9 := hSw.blk H25.out (fun h => h); have q0 := hb9.cell (i := 0) rfl; have q1 := hb9.cell (i := 1) rfl; have q2 := hb9.cell (i := 2) rfl; have q3 := hb9.cell (i := 3) rfl; have q4 := hb9.cell (i := 4) rfl; clear hb9; have hb9 := hSw.blk H20.out (fun h => h); have v0 := hb9.cell (i := 0) rfl; have v1 := hb9.cell (i := 1) rfl; have v2 := hb9.cell (i := 2) rfl; have v3 := hb9.cell (i := 3) rfl; have v4 := hb9.cell (i := 4) rfl; have v5 := hb9.cell (i := 5) rfl; have v6 := hb9.cell (i := 6) rfl; have v7 := hb9.cell (i := 7) rfl; clear hb9; have hb9 := hSw.blk HGV.out (fun h => h); have u12 := hb9.cell HV4.out; clear hb9; go_simp; try with_reducible rfl)
                  try simp only [Act.put, List.setIfInBounds_toArray, List.set_cons_zero, List.set_cons_succ]
                  refine wpAnyH_ready (rs := [20]) (by kernel_rfl) (by simp) ?_
                  refine AllReadyH.cons (o := ⟨some 192, _, _, _, _, _⟩) rfl (fun KK hK => ?_) AllReadyH.nil
                  go_simp
                  go_at_call 19
                  refine (vpage_anyT F h4 h6 gv n l2 HL2.out id (by have := HIDR.out; omega) HIDR.out.2 (rpg (npg P key ref) m) HEND.out.2.2.2.2.2.1 HPG.out.wf HRF.out (by have h9 : (rpg (npg P key ref) m).lv ≤ 2 := HPG.out.lv; omega) _ (HW.out.blk HGV.out (fun h => h))).mono ?_; rintro e GN ⟨A6, c6, rfl, hR6, -, hK6⟩
                  replace HW := Lib.hid (HW.out.trans hK6 (fun _ _ h => h))
                  have HR6 := Lib.hid hR6
                  clear hR6 hK6
                  rename World => G
                  refine hK.out _ _ ?_ (fun hHeld2 => ?_)
                  · exact HW.out
                  clear hK KK hHeld
                  have hHeld := hHeld2
                  clear hHeld2
                  try simp only [Act.put, List.setIfInBounds_toArray, List.set_cons_zero, List.set_cons_succ]
                  refine wpAnyH_ready (rs := [22]) (by kernel_rfl) (by simp) ?_
                  refine AllReadyH.cons (o := ⟨some 194, _, _, _, _, _⟩) rfl (fun KK hK => ?_) AllReadyH.nil
                  go_simp
                  go_at_call 14
                  refine (refSame_yes (rpg (npg P key ref) m) A6 (some ⟨g2, o2 + m * 2, none⟩) c6 (c2 - m) _ (by have := HRF.out; omega) HR6.out (HRR.out.keptF HW.out (fun _ _ h => h))).mono ?_; rintro e GN ⟨rfl, hKq⟩
                  replace HW := Lib.hid (HW.out.trans hKq (fun _ _ h => h))
                  clear hKq
                  rename World => G
                  refine hK.out _ _ ?_ (fun hHeld2 => ?_)
                  · exact HW.out
                  clear hK KK hHeld
                  have hHeld := hHeld2
                  clear hHeld2
                  try simp only [Act.put, List.setIfInBounds_toArray, List.set_cons_zero, List.set_cons_succ]
                  refine wpAnyH_take (i := 23) (oi := ⟨some 195, _, _, _, _, _⟩) (v := .bool false) rfl (by kernel_rfl) (by kernel_rfl) (by kernel_rfl) (fun _ _ _ h => h) (Or.inl ⟨by rfl, ?_⟩) hHeld ?_
                  · (intro wq hSw; go_simp; try first | (with_reducible rfl) | (simp; omega) | (intros; omega) | simp [*])
                  try simp only [Act.put, List.setIfInBounds_toArray, List.set_cons_zero, List.set_cons_succ]
                  refine wpAnyH_take (i := 24) (oi := ⟨some 196, _, _, _, _, _⟩) (v := .bool false) rfl (by kernel_rfl) (by kernel_rfl) (by kernel_rfl) (fun _ _ _ h => h) (Or.inl ⟨by rfl, ?_⟩) hHeld ?_
                  · (intro wq hSw; go_simp; try first | (with_reducible rfl) | (simp; omega) | (intros; omega) | simp [*])
                  try simp only [Act.put, List.setIfInBounds_toArray, List.set_cons_zero, List.set_cons_succ]
                  refine wpAnyH_take (i := 25) (oi := ⟨some 197, _, _, _, _, _⟩) (v := .bool false) rfl (by kernel_rfl) (by kernel_rfl) (by kernel_rfl) (fun _ _ _ h => h) (Or.inl ⟨by rfl, ?_⟩) hHeld ?_
                  · (intro wq hSw; go_simp; try first | (with_reducible rfl) | (simp; omega) | (intros; omega) | simp [*])
                  try simp only [Act.put, List.setIfInBounds_toArray, List.set_cons_zero, List.set_cons_succ]
                  refine wpAnyH_take (i := 26) (oi := ⟨some 198, _, _, _, _, _⟩) (v := ?_) rfl (by kernel_rfl) (by kernel_rfl) (by kernel_rfl) (fun _ _ _ h => h) (Or.inl ⟨by rfl, ?_⟩) hHeld ?_
                  rotate_left
                  · (intro wq hSw; have hb9 := hSw.blk H27.out (fun h => h); have r0 := hb9.cell (i := 0) rfl; have r1 := hb9.cell (i := 1) rfl; have r2 := hb9.cell (i := 2) rfl; have r3 := hb9.cell (i := 3) rfl; have r4 := hb9.cell (i := 4) rfl; have r5 := hb9.cell (i := 5) rfl; have r6 := hb9.cell (i := 6) rfl; clear hb9; have hb9 := hSw.blk H25.out (fun h => h); have q0 := hb9.cell (i := 0) rfl; have q1 := hb9.cell (i := 1) rfl; have q2 := hb9.cell (i := 2) rfl; have q3 := hb9.cell (i := 3) rfl; have q4 := hb9.cell (i := 4) rfl; clear hb9; have hb9 := hSw.blk H20.out (fun h => h); have v0 := hb9.cell (i := 0) rfl; have v1 := hb9.cell (i := 1) rfl; have v2 := hb9.cell (i := 2) rfl; have v3 := hb9.cell (i := 3) rfl; have v4 := hb9.cell (i := 4) rfl; have v5 := hb9.cell (i := 5) rfl; have v6 := hb9.cell (i := 6) rfl; have v7 := hb9.cell (i := 7) rfl; clear hb9; have hb9 := hSw.blk HGV.out (fun h => h); have u12 := hb9.cell HV4.out; clear hb9; go_simp; try with_reducible rfl)
                  try simp only [Act.put, List.setIfInBounds_toArray, List.set_cons_zero, List.set_cons_succ]
                  refine wpAnyH_take (i := 27) (oi := ⟨some 199, _, _, _, _, _⟩) (v := ?_) rfl (by kernel_rfl) (by kernel_rfl) (by kernel_rfl) (fun _ _ _ h => h) (Or.inl ⟨by rfl, ?_⟩) hHeld ?_
                  rotate_left
                  · (intro wq hSw; go_simp; try with_reducible rfl)
                  try simp only [Act.put, List.setIfInBounds_toArray, List.set_cons_zero, List.set_cons_succ]
                  refine wpAnyH_take (i := 29) (oi := ⟨some 201, _, _, _, _, _⟩) (v := ?_) rfl (by kernel_rfl) (by kernel_rfl) (by kernel_rfl) (fun _ _ _ h => h) (Or.inl ⟨by rfl, ?_⟩) hHeld ?_
                  rotate_left
                  · (intro wq hSw; go_simp; try with_reducible rfl)
                  try simp only [Act.put, List.setIfInBounds_toArray, List.set_cons_zero, List.set_cons_succ]
                  refine wpAnyH_take (i := 30) (oi := ⟨some 202, _, _, _, _, _⟩) (v := ?_) rfl (by kernel_rfl) (by kernel_rfl) (by kernel_rfl) (fun _ _ _ h => h) (Or.inl ⟨by rfl, ?_⟩) hHeld ?_
                  rotate_left
                  · (intro wq hSw; have hb9 := hSw.blk H27.out (fun h => h); have r0 := hb9.cell (i := 0) rfl; have r1 := hb9.cell (i := 1) rfl; have r2 := hb9.cell (i := 2) rfl; have r3 := hb9.cell (i := 3) rfl; have r4 := hb9.cell (i := 4) rfl; have r5 := hb9.cell (i := 5) rfl; have r6 := hb9.cell (i := 6) rfl; clear hb9; have hb9 := hSw.blk H25.out (fun h => h); have q0 := hb9.cell (i := 0) rfl; have q1 := hb9.cell (i := 1) rfl; have q2 := hb9.cell (i := 2) rfl; have q3 := hb9.cell (i := 3) rfl; have q4 := hb9.cell (i := 4) rfl; clear hb9; have hb9 := hSw.blk H20.out (fun h => h); have v0 := hb9.cell (i := 0) rfl; have v1 := hb9.cell (i := 1) rfl; have v2 := hb9.cell (i := 2) rfl; have v3 := hb9.cell (i := 3) rfl; have v4 := hb9.cell (i := 4) rfl; have v5 := hb9.cell (i := 5) rfl; have v6 := hb9.cell (i := 6) rfl; have v7 := hb9.cell (i := 7) rfl; clear hb9; have hb9 := hSw.blk HGV.out (fun h => h); have u12 := hb9.cell HV4.out; clear hb9; go_simp; try with_reducible rfl)
                  try simp only [Act.put, List.setIfInBounds_toArray, List.set_cons_zero, List.set_cons_succ]
                  refine wpAnyH_ready (rs := [28]) (by kernel_rfl) (by simp) ?_
                  refine AllReadyH.cons (o := ⟨some 200, _, _, _, _, _⟩) rfl (fun KK hK => ?_) AllReadyH.nil
                  go_simp
                  go_at_call 20
                  refine (vlatch_anyT F h4 h6 gv n l2 HL2.out id (nlaT F id) rfl 1 0 ⟨#[]⟩ _ (HW.out.blk HGV.out (fun h => h)) HEND.out.2.2.2.1).mono ?_; rintro e GN ⟨rfl, hKq⟩
                  replace HW := Lib.hid (HW.out.trans hKq (fun _ _ h => h))
                  clear hKq
                  rename World => G
                  refine hK.out _ _ ?_ (fun hHeld2 => ?_)
                  · exact HW.out
                  clear hK KK hHeld
                  have hHeld := hHeld2
                  clear hHeld2
                  try simp only [Act.put, List.setIfInBounds_toArray, List.set_cons_zero, List.set_cons_succ]
                  refine wpAnyH_take (i := 31) (oi := ⟨some 203, _, _, _, _, _⟩) (v := .bool false) rfl (by kernel_rfl) (by kernel_rfl) (by kernel_rfl) (fun _ _ _ h => h) (Or.inl ⟨by rfl, ?_⟩) hHeld ?_
                  · (intro wq hSw; go_simp; try first | (with_reducible rfl) | (simp; omega) | (intros; omega) | simp [*])
                  try simp only [Act.put, List.setIfInBounds_toArray, List.set_cons_zero, List.set_cons_succ]
                  refine wpAnyH_take (i := 32) (oi := ⟨some 204, _, _, _, _, _⟩) (v := .bool false) rfl (by kernel_rfl) (by kernel_rfl) (by kernel_rfl) (fun _ _ _ h => h) (Or.inl ⟨by rfl, ?_⟩) hHeld ?_
                  · (intro wq hSw; go_simp; try first | (with_reducible rfl) | (simp; omega) | (intros; omega) | simp [*])
                  try simp only [Act.put, List.setIfInBounds_toArray, List.set_cons_zero, List.set_cons_succ]
                  refine wpAnyH_take (i := 33) (oi := ⟨some 205, _, _, _, _, _⟩) (v := .bool false) rfl (by kernel_rfl) (by kernel_rfl) (by kernel_rfl) (fun _ _ _ h => h) (Or.inl ⟨by rfl, ?_⟩) hHeld ?_
                  · (intro wq hSw; go_simp; try first | (with_reducible rfl) | (simp; omega) | (intros; omega) | simp [*])
                  try simp only [Act.put, List.setIfInBounds_toArray, List.set_cons_zero, List.set_cons_succ]
                  refine wpAnyH_take (i := 34) (oi := ⟨some 206, _, _, _, _, _⟩) (v := ?_) rfl (by kernel_rfl) (by kernel_rfl) (by kernel_rfl) (fun _ _ _ h => h) (Or.inl ⟨by rfl, ?_⟩) hHeld ?_
                  rotate_left
                  · (intro wq hSw; go_simp; try with_reducible rfl)
                  try simp only [Act.put, List.setIfInBounds_toArray, List.set_cons_zero, List.set_cons_succ]
                  refine wpAnyH_take (i := 35) (oi := ⟨some 207, _, _, _, _, _⟩) (v := ?_) rfl (by kernel_rfl) (by kernel_rfl) (by kernel_rfl) (fun _ _ _ h => h) (Or.inl ⟨by rfl, ?_⟩) hHeld ?_
                  rotate_left
                  · (intro wq hSw; have hb9 := hSw.blk H27.out (fun h => h); have r0 := hb9.cell (i := 0) rfl; have r1 := hb9.cell (i := 1) rfl; have r2 := hb9.cell (i := 2) rfl; have r3 := hb9.cell (i := 3) rfl; have r4 := hb9.cell (i := 4) rfl; have r5 := hb9.cell (i := 5) rfl; have r6 := hb9.cell (i := 6) rfl; clear hb9; have hb9 := hSw.blk H25.out (fun h => h); have q0 := hb9.cell (i := 0) rfl; have q1 := hb9.cell (i := 1) rfl; have q2 := hb9.cell (i := 2) rfl; have q3 := hb9.cell (i := 3) rfl; have q4 := hb9.cell (i := 4) rfl; clear hb9; have hb9 := hSw.blk H20.out (fun h => h); have v0 := hb9.cell (i := 0) rfl; have v1 := hb9.cell (i := 1) rfl; have v2 := hb9.cell (i := 2) rfl; have v3 := hb9.cell (i := 3) rfl; have v4 := hb9.cell (i := 4) rfl; have v5 := hb9.cell (i := 5) rfl; have v6 := hb9.cell (i := 6) rfl; have v7 := hb9.cell (i := 7) rfl; clear hb9; have hb9 := hSw.blk HGV.out (fun h => h); have u12 := hb9.cell HV4.out; clear hb9; go_simp; try with_reducible rfl)
                  try simp only [Act.put, List.setIfInBounds_toArray, List.set_cons_zero, List.set_cons_succ]
                  refine wpAnyH_take (i := 36) (oi := ⟨some 208, _, _, _, _, _⟩) (v := ?_) rfl (by kernel_rfl) (by kernel_rfl) (by kernel_rfl) (fun _ _ _ h => h) (Or.inl ⟨by rfl, ?_⟩) hHeld ?_
                  rotate_left
                  · (intro wq hSw; go_simp; try with_reducible rfl)
                  try simp only [Act.put, List.setIfInBounds_toArray, List.set_cons_zero, List.set_cons_succ]
                  refine wpAnyH_take (i := 37) (oi := ⟨some 209, _, _, _, _, _⟩) (v := ?_) rfl (by kernel_rfl) (by kernel_rfl) (by kernel_rfl) (fun _ _ _ h => h) (Or.inl ⟨by rfl, ?_⟩) hHeld ?_
                  rotate_left
                  · (intro wq hSw; go_simp; try with_reducible rfl)
                  try simp only [Act.put, List.setIfInBounds_toArray, List.set_cons_zero, List.set_cons_succ]
                  refine wpAnyH_take (i := 38) (oi := ⟨some 210, _, _, _, _, _⟩) (v := ?_) rfl (by kernel_rfl) (by kernel_rfl) (by kernel_rfl) (fun _ _ _ h => h) (Or.inl ⟨by rfl, ?_⟩) hHeld ?_
                  rotate_left
                  · (intro wq hSw; have hb9 := hSw.blk H27.out (fun h => h); have r0 := hb9.cell (i := 0) rfl; have r1 := hb9.cell (i := 1) rfl; have r2 := hb9.cell (i := 2) rfl; have r3 := hb9.cell (i := 3) rfl; have r4 := hb9.cell (i := 4) rfl; have r5 := hb9.cell (i := 5) rfl; have r6 := hb9.cell (i := 6) rfl; clear hb9; have hb9 := hSw.blk H25.out (fun h => h); have q0 := hb9.cell (i := 0) rfl; have q1 := hb9.cell (i := 1) rfl; have q2 := hb9.cell (i := 2) rfl; have q3 := hb9.cell (i := 3) rfl; have q4 := hb9.cell (i := 4) rfl; clear hb9; have hb9 := hSw.blk H20.out (fun h => h); have v0 := hb9.cell (i := 0) rfl; have v1 := hb9.cell (i := 1) rfl; have v2 := hb9.cell (i := 2) rfl; have v3 := hb9.cell (i := 3) rfl; have v4 := hb9.cell (i := 4) rfl; have v5 := hb9.cell (i := 5) rfl; have v6 := hb9.cell (i := 6) rfl; have v7 := hb9.cell (i := 7) rfl; clear hb9; have hb9 := hSw.blk HGV.out (fun h => h); have u12 := hb9.cell HV4.out; clear hb9; go_simp; try with_reducible rfl)
                  try simp only [Act.put, List.setIfInBounds_toArray, List.set_cons_zero, List.set_cons_succ]
                  refine wpAnyH_take (i := 39) (oi := ⟨some 211, _, _, _, _, _⟩) (v := ?_) rfl (by kernel_rfl) (by kernel_rfl) (by kernel_rfl) (fun _ _ _ h => h) (Or.inl ⟨by rfl, ?_⟩) hHeld ?_
                  rotate_left
                  · (intro wq hSw; go_simp; try with_reducible rfl)
                  try simp only [Act.put, List.setIfInBounds_toArray, List.set_cons_zero, List.set_cons_succ]
                  refine wpAnyH_take (i := 40) (oi := ⟨some 212, _, _, _, _, _⟩) (v := .bool false) rfl (by kernel_rfl) (by kernel_rfl) (by kernel_rfl) (fun _ _ _ h => h) (Or.inl ⟨by rfl, ?_⟩) hHeld ?_
                  · (intro wq hSw; go_simp; try first | (with_reducible rfl) | (simp; omega) | (intros; omega) | simp [*])
                  try simp only [Act.put, List.setIfInBounds_toArray, List.set_cons_zero, List.set_cons_succ]
                  refine wpAnyH_take (i := 41) (oi := ⟨some 213, _, _, _, _, _⟩) (v := .bool false) rfl (by kernel_rfl) (by kernel_rfl) (by kernel_rfl) (fun _ _ _ h => h) (Or.inl ⟨by rfl, ?_⟩) hHeld ?_
                  · (intro wq hSw; go_simp; try first | (with_reducible rfl) | (simp; omega) | (intros; omega) | simp [*])
                  try simp only [Act.put, List.setIfInBounds_toArray, List.set_cons_zero, List.set_cons_succ]
                  refine wpAnyH_done (by kernel_rfl) ?_ _
                  clear hHeld
                  go_wp2
                  go_meet
                  have hkd := HKD.out.trans HW.out (fun _ _ h => h.elim)
                  refine ⟨some id, (lpg (npg P key ref) m sp id), some ⟨g2, o2, none⟩, m, sp, rfl, HW.out.blk H21.out (fun h => h), ?_, rfl, rfl, HS2.out, HEND.out.2.2.1, HEND.out.2.2.2.2.1, by rw [HLF.out]; exact HMB.out.2.2.1, fun h => (by cases h), HPG.out.lv, fun q h1 h2 h3 => HEND.out.2.2.2.2.2.2 q h1 (fun j hj => ⟨h2 j hj, h3 (by first | rfl | trivial) j hj⟩), hkd⟩
                  exact ((HR2.out.take m).capY (by rw [List.length_take]; omega) (by have h1 := HR2.out.le; have h2 := HMB.out; have h3 := HN1.out; omega)).keptF HW.out (fun _ _ h => h)
            case rest =>
              obtain ⟨fo, Y, AY, cY, spY, rfl, h21, hRY, hY, hsp, hfo, hlat, hhold, hYF, hYw, hYl, hoth, hKy⟩ := hcut
              rename World => WX
              clear H21
              replace HK := Lib.hid (HK.out.trans hKy (fun k hk h => by have h1 := HFAR.out; show w.heap.size ≤ k; rcases h with h | h <;> omega))
              replace H15 := Lib.hid (hKy.blk H15.out (fun h => by have h1 := HFAR.out; rcases h with h | h <;> omega))
              replace HRS := Lib.hid (HRS.out.keptP hKy (fun hp a ha h => by have h1 := HFAR.out; have h2 := HAB.out a ha hp; rcases h with h | h <;> omega))
              replace HM := Lib.hid (HM.out.kept hKy (fun h => by have h1 := HFAR.out; rcases h with h | h <;> omega) (fun h => by have h1 := HFAR.out; rcases h with h | h <;> omega))
              replace HGW := Lib.hid (hKy.blk HGW.out (fun h => by have h1 := HFAR.out; rcases h with h | h <;> omega))
              replace HGV := Lib.hid (hKy.blk HGV.out (fun h => by have h1 := HFAR.out; rcases h with h | h <;> omega))
              replace H20 := Lib.hid (hKy.blk H20.out (fun h => by have h1 := HFAR.out; rcases h with h | h <;> omega))
              replace HIA := Lib.hid (HIA.out.kept hKy (fun k hk h => by have h1 := HFAR.out; have h2 := HZ2.out k hk; rcases h with h | h <;> omega))
              have H21 := Lib.hid h21
              have HRY := Lib.hid hRY
              have HY := Lib.hid hY
              have HSP := Lib.hid hsp
              have HLT := Lib.hid hlat
              have HHY := Lib.hid hhold
              have HYB := Lib.hid (show Y.xs.length ≤ F ∧ Wf Y ∧ Y.lv ≤ 2 from ⟨hYF, hYw, hYl⟩)
              have HOTH := Lib.hid hoth
              have HIF := Lib.hid (show IAt (Zm Z1 V1 w6) WX F 10 fb fd i 2 41 P (npg P key ref) m sp 10 (.don fo) from by have h := HIA.out; rw [hfo] at h; exact h)
              clear h21 hRY hY hsp hfo hlat hhold hYF hYw hYl hoth hKy H25 HIA
              go_upto_region 28 with fail
              go_wp2_with fail
              refine (leftY F fb fd i P (npg P key ref) Y m sp _ fo HY.out _ HIF.out (by have := HYB.out.1; omega)).mono ?_; rintro e WZ ⟨A4, c4, rfl, hR4, -, hK4⟩
              replace HK := Lib.hid (HK.out.trans hK4 (fun _ _ h => h.elim))
              replace H15 := Lib.hid (hK4.blk H15.out (fun h => h))
              replace HRS := Lib.hid (HRS.out.keptF hK4 (fun _ _ h => h))
              replace HM := Lib.hid (HM.out.kept hK4 (fun h => h) (fun h => h))
              replace HGW := Lib.hid (hK4.blk HGW.out (fun h => h))
              replace HGV := Lib.hid (hK4.blk HGV.out (fun h => h))
              replace H20 := Lib.hid (hK4.blk H20.out (fun h => h))
              replace H21 := Lib.hid (hK4.blk H21.out (fun h => h))
              replace HRY := Lib.hid (HRY.out.keptF hK4 (fun _ _ h => h))
              replace HIF := Lib.hid (HIF.out.kept hK4 (fun _ _ h => h))
              have HR4 := Lib.hid hR4
              clear hR4 hK4
              go_upto_region 29 with fail
              have hal := (Kept.refl (fun _ => False) WZ).alloc (.cells #[.int .u64 2, .int .u64 45, .int .i64 (Y.lv : Int), .slice A4 Y.xs.length c4, .string Y.hi, .bool Y.la, .int .u64 (Y.rt : Int)] 33)
              have H28 := Lib.hid (Blk.new WZ [.int .u64 2, .int .u64 45, .int .i64 (Y.lv : Int), .slice A4 Y.xs.length c4, .string Y.hi, .bool Y.la, .int .u64 (Y.rt : Int)] 33)
              replace HK := Lib.hid (HK.out.trans hal (fun _ _ h => h.elim))
              replace H15 := Lib.hid (hal.blk H15.out (fun h => h))
              replace HRS := Lib.hid (HRS.out.keptF hal (fun _ _ h => h))
              replace HM := Lib.hid (HM.out.kept hal (fun h => h) (fun h => h))
              replace HGW := Lib.hid (hal.blk HGW.out (fun h => h))
              replace HGV := Lib.hid (hal.blk HGV.out (fun h => h))
              replace H20 := Lib.hid (hal.blk H20.out (fun h => h))
              replace H21 := Lib.hid (hal.blk H21.out (fun h => h))
              replace HRY := Lib.hid (HRY.out.keptF hal (fun _ _ h => h))
              replace HR4 := Lib.hid (HR4.out.keptF hal (fun _ _ h => h))
              replace HIF := Lib.hid (HIF.out.kept hal (fun _ _ h => h))
              clear hal
              generalize WZ.heap.size = r28 at *
              generalize WZ.alloc (.cells #[.int .u64 2, .int .u64 45, .int .i64 (Y.lv : Int), .slice A4 Y.xs.length c4, .string Y.hi, .bool Y.la, .int .u64 (Y.rt : Int)] 33) = WY at *
              refine wp_region_held_drew (S := (fun w' => Kept (fun _ => False) WY w')) (by kernel_rfl) ?_ (fun hHeld => ?_)
              · exact (Kept.refl _ _).drew
              have HW := Lib.hid ((Kept.refl (fun _ => False) WY).drew)
              generalize WY.drew = G at *
              refine wpAnyH_take (i := 0) (oi := ⟨some 232, _, _, _, _, _⟩) (v := ?_) rfl (by kernel_rfl) (by kernel_rfl) (by kernel_rfl) (fun _ _ _ h => h) (Or.inl ⟨by rfl, ?_⟩) hHeld ?_
              rotate_left
              · (intro wq hSw; go_simp; try with_reducible rfl)
              try simp only [Act.put, List.setIfInBounds_toArray, List.set_cons_zero, List.set_cons_succ]
              refine wpAnyH_ready (rs := [1]) (by kernel_rfl) (by simp) ?_
              refine AllReadyH.cons (o := ⟨some 233, _, _, _, _, _⟩) rfl (fun KK hK => ?_) AllReadyH.nil
              go_simp
              go_at_call 12
              refine (is_err F 10 fb fd i 2 41 P (npg P key ref) m sp 10 _ fo _ (HIF.out.kept HW.out (fun _ _ h => h))).mono ?_; rintro e GN ⟨rfl, hKq⟩
              replace HW := Lib.hid (HW.out.trans hKq (fun _ _ h => h))
              clear hKq
              rename World => G
              refine hK.out _ _ ?_ (fun hHeld2 => ?_)
              · exact HW.out
              clear hK KK hHeld
              have hHeld := hHeld2
              clear hHeld2
              try simp only [Act.put, List.setIfInBounds_toArray, List.set_cons_zero, List.set_cons_succ]
              refine wpAnyH_take (i := 2) (oi := ⟨some 234, _, _, _, _, _⟩) (v := .bool false) rfl (by kernel_rfl) (by kernel_rfl) (by kernel_rfl) (fun _ _ _ h => h) (Or.inl ⟨by rfl, ?_⟩) hHeld ?_
              · (intro wq hSw; go_simp; try first | (with_reducible rfl) | (simp; omega) | (intros; omega) | simp [*])
              try simp only [Act.put, List.setIfInBounds_toArray, List.set_cons_zero, List.set_cons_succ]
              refine wpAnyH_take (i := 3) (oi := ⟨some 235, _, _, _, _, _⟩) (v := .bool false) rfl (by kernel_rfl) (by kernel_rfl) (by kernel_rfl) (fun _ _ _ h => h) (Or.inl ⟨by rfl, ?_⟩) hHeld ?_
              · (intro wq hSw; go_simp; try first | (with_reducible rfl) | (simp; omega) | (intros; omega) | simp [*])
              try simp only [Act.put, List.setIfInBounds_toArray, List.set_cons_zero, List.set_cons_succ]
              refine wpAnyH_take (i := 4) (oi := ⟨some 236, _, _, _, _, _⟩) (v := ?_) rfl (by kernel_rfl) (by kernel_rfl) (by kernel_rfl) (fun _ _ _ h => h) (Or.inl ⟨by rfl, ?_⟩) hHeld ?_
              rotate_left
              · (intro wq hSw; go_simp; try with_reducible rfl)
              try simp only [Act.put, List.setIfInBounds_toArray, List.set_cons_zero, List.set_cons_succ]
              refine wpAnyH_take (i := 6) (oi := ⟨some 238, _, _, _, _, _⟩) (v := ?_) rfl (by kernel_rfl) (by kernel_rfl) (by kernel_rfl) (fun _ _ _ h => h) (Or.inl ⟨by rfl, ?_⟩) hHeld ?_
              rotate_left
              · (intro wq hSw; go_simp; try with_reducible rfl)
              try simp only [Act.put, List.setIfInBounds_toArray, List.set_cons_zero, List.set_cons_succ]
              refine wpAnyH_ready (rs := [5]) (by kernel_rfl) (by simp) ?_
              refine AllReadyH.cons (o := ⟨some 237, _, _, _, _, _⟩) rfl (fun KK hK => ?_) AllReadyH.nil
              go_simp
              go_at_call 21
              refine (sepY F fb fd i P (npg P key ref) m sp spY _ fo HSP.out _ (HIF.out.kept HW.out (fun _ _ h => h))).mono ?_; rintro e GN ⟨rfl, hKq⟩
              replace HW := Lib.hid (HW.out.trans hKq (fun _ _ h => h))
              clear hKq
              rename World => G
              refine hK.out _ _ ?_ (fun hHeld2 => ?_)
              · exact HW.out
              clear hK KK hHeld
              have hHeld := hHeld2
              clear hHeld2
              try simp only [Act.put, List.setIfInBounds_toArray, List.set_cons_zero, List.set_cons_succ]
              refine wpAnyH_take (i := 7) (oi := ⟨some 239, _, _, _, _, _⟩) (v := .bool false) rfl (by kernel_rfl) (by kernel_rfl) (by kernel_rfl) (fun _ _ _ h => h) (Or.inl ⟨by rfl, ?_⟩) hHeld ?_
              · (intro wq hSw; go_simp; try first | (with_reducible rfl) | (simp; omega) | (intros; omega) | simp [*])
              try simp only [Act.put, List.setIfInBounds_toArray, List.set_cons_zero, List.set_cons_succ]
              refine wpAnyH_take (i := 8) (oi := ⟨some 240, _, _, _, _, _⟩) (v := .bool false) rfl (by kernel_rfl) (by kernel_rfl) (by kernel_rfl) (fun _ _ _ h => h) (Or.inl ⟨by rfl, ?_⟩) hHeld ?_
              · (intro wq hSw; go_simp; try first | (with_reducible rfl) | (simp; omega) | (intros; omega) | simp [*])
              try simp only [Act.put, List.setIfInBounds_toArray, List.set_cons_zero, List.set_cons_succ]
              refine wpAnyH_take (i := 9) (oi := ⟨some 241, _, _, _, _, _⟩) (v := .bool false) rfl (by kernel_rfl) (by kernel_rfl) (by kernel_rfl) (fun _ _ _ h => h) (Or.inl ⟨by rfl, ?_⟩) hHeld ?_
              · (intro wq hSw; go_simp; try first | (with_reducible rfl) | (simp; omega) | (intros; omega) | simp [*])
              try simp only [Act.put, List.setIfInBounds_toArray, List.set_cons_zero, List.set_cons_succ]
              refine wpAnyH_take (i := 10) (oi := ⟨some 242, _, _, _, _, _⟩) (v := ?_) rfl (by kernel_rfl) (by kernel_rfl) (by kernel_rfl) (fun _ _ _ h => h) (Or.inl ⟨by rfl, ?_⟩) hHeld ?_
              rotate_left
              · (intro wq hSw; go_simp; try with_reducible rfl)
              try simp only [Act.put, List.setIfInBounds_toArray, List.set_cons_zero, List.set_cons_succ]
              refine wpAnyH_take (i := 11) (oi := ⟨some 243, _, _, _, _, _⟩) (v := ?_) rfl (by kernel_rfl) (by kernel_rfl) (by kernel_rfl) (fun _ _ _ h => h) (Or.inl ⟨by rfl, ?_⟩) hHeld ?_
              rotate_left
              · (intro wq hSw; have hb9 := hSw.blk H28.out (fun h => h); have r0 := hb9.cell (i := 0) rfl; have r1 := hb9.cell (i := 1) rfl; have r2 := hb9.cell (i := 2) rfl; have r3 := hb9.cell (i := 3) rfl; have r4 := hb9.cell (i := 4) rfl; have r5 := hb9.cell (i := 5) rfl; have r6 := hb9.cell (i := 6) rfl; clear hb9; have hb9 := hSw.blk H21.out (fun h => h); have q0 := hb9.cell (i := 0) rfl; have q1 := hb9.cell (i := 1) rfl; have q2 := hb9.cell (i := 2) rfl; have q3 := hb9.cell (i := 3) rfl; have q4 := hb9.cell (i := 4) rfl; clear hb9; have hb9 := hSw.blk H20.out (fun h => h); have v0 := hb9.cell (i := 0) rfl; have v1 := hb9.cell (i := 1) rfl; have v2 := hb9.cell (i := 2) rfl; have v3 := hb9.cell (i := 3) rfl; have v4 := hb9.cell (i := 4) rfl; have v5 := hb9.cell (i := 5) rfl; have v6 := hb9.cell (i := 6) rfl; have v7 := hb9.cell (i := 7) rfl; clear hb9; have hb9 := hSw.blk H15.out (fun h => h); have x19 := hb9.cell (i := 19) rfl; clear hb9; go_simp; try with_reducible rfl)
              try simp only [Act.put, List.setIfInBounds_toArray, List.set_cons_zero, List.set_cons_succ]
              refine wpAnyH_take (i := 12) (oi := ⟨some 244, _, _, _, _, _⟩) (v := .bool false) rfl (by kernel_rfl) (by kernel_rfl) (by kernel_rfl) (fun _ _ _ h => h) (Or.inl ⟨by rfl, ?_⟩) hHeld ?_
              · (intro wq hSw; go_simp; try first | (with_reducible rfl) | (simp; omega) | (intros; omega) | simp [*])
              try simp only [Act.put, List.setIfInBounds_toArray, List.set_cons_zero, List.set_cons_succ]
              refine wpAnyH_take (i := 13) (oi := ⟨some 245, _, _, _, _, _⟩) (v := .bool false) rfl (by kernel_rfl) (by kernel_rfl) (by kernel_rfl) (fun _ _ _ h => h) (Or.inl ⟨by rfl, ?_⟩) hHeld ?_
              · (intro wq hSw; go_simp; try first | (with_reducible rfl) | (simp; omega) | (intros; omega) | simp [*])
              try simp only [Act.put, List.setIfInBounds_toArray, List.set_cons_zero, List.set_cons_succ]
              refine wpAnyH_take (i := 14) (oi := ⟨some 246, _, _, _, _, _⟩) (v := .bool false) rfl (by kernel_rfl) (by kernel_rfl) (by kernel_rfl) (fun _ _ _ h => h) (Or.inl ⟨by rfl, ?_⟩) hHeld ?_
              · (intro wq hSw; go_simp; try first | (with_reducible rfl) | (simp; omega) | (intros; omega) | simp [*])
              try simp only [Act.put, List.setIfInBounds_toArray, List.set_cons_zero, List.set_cons_succ]
              refine wpAnyH_take (i := 15) (oi := ⟨some 247, _, _, _, _, _⟩) (v := ?_) rfl (by kernel_rfl) (by kernel_rfl) (by kernel_rfl) (fun _ _ _ h => h) (Or.inl ⟨by rfl, ?_⟩) hHeld ?_
              rotate_left
              · (intro wq hSw; go_simp; try with_reducible rfl)
              try simp only [Act.put, List.setIfInBounds_toArray, List.set_cons_zero, List.set_cons_succ]
              refine wpAnyH_take (i := 16) (oi := ⟨some 248, _, _, _, _, _⟩) (v := ?_) rfl (by kernel_rfl) (by kernel_rfl) (by kernel_rfl) (fun _ _ _ h => h) (Or.inl ⟨by rfl, ?_⟩) hHeld ?_
              rotate_left
              · (intro wq hSw; have hb9 := hSw.blk H28.out (fun h => h); have r0 := hb9.cell (i := 0) rfl; have r1 := hb9.cell (i := 1) rfl; have r2 := hb9.cell (i := 2) rfl; have r3 := hb9.cell (i := 3) rfl; have r4 := hb9.cell (i := 4) rfl; have r5 := hb9.cell (i := 5) rfl; have r6 := hb9.cell (i := 6) rfl; clear hb9; have hb9 := hSw.blk H21.out (fun h => h); have q0 := hb9.cell (i := 0) rfl; have q1 := hb9.cell (i := 1) rfl; have q2 := hb9.cell (i := 2) rfl; have q3 := hb9.cell (i := 3) rfl; have q4 := hb9.cell (i := 4) rfl; clear hb9; have hb9 := hSw.blk H20.out (fun h => h); have v0 := hb9.cell (i := 0) rfl; have v1 := hb9.cell (i := 1) rfl; have v2 := hb9.cell (i := 2) rfl; have v3 := hb9.cell (i := 3) rfl; have v4 := hb9.cell (i := 4) rfl; have v5 := hb9.cell (i := 5) rfl; have v6 := hb9.cell (i := 6) rfl; have v7 := hb9.cell (i := 7) rfl; clear hb9; have hb9 := hSw.blk H15.out (fun h => h); have x19 := hb9.cell (i := 19) rfl; clear hb9; go_simp; try with_reducible rfl)
              try simp only [Act.put, List.setIfInBounds_toArray, List.set_cons_zero, List.set_cons_succ]
              refine wpAnyH_take (i := 17) (oi := ⟨some 249, _, _, _, _, _⟩) (v := ?_) rfl (by kernel_rfl) (by kernel_rfl) (by kernel_rfl) (fun _ _ _ h => h) (Or.inl ⟨by rfl, ?_⟩) hHeld ?_
              rotate_left
              · (intro wq hSw; go_simp; try with_reducible rfl)
              try simp only [Act.put, List.setIfInBounds_toArray, List.set_cons_zero, List.set_cons_succ]
              refine wpAnyH_take (i := 18) (oi := ⟨some 250, _, _, _, _, _⟩) (v := ?_) rfl (by kernel_rfl) (by kernel_rfl) (by kernel_rfl) (fun _ _ _ h => h) (Or.inl ⟨by rfl, ?_⟩) hHeld ?_
              rotate_left
              · (intro wq hSw; go_simp; try with_reducible rfl)
              try simp only [Act.put, List.setIfInBounds_toArray, List.set_cons_zero, List.set_cons_succ]
              refine wpAnyH_take (i := 19) (oi := ⟨some 251, _, _, _, _, _⟩) (v := ?_) rfl (by kernel_rfl) (by kernel_rfl) (by kernel_rfl) (fun _ _ _ h => h) (Or.inl ⟨by rfl, ?_⟩) hHeld ?_
              rotate_left
              · (intro wq hSw; have hb9 := hSw.blk H28.out (fun h => h); have r0 := hb9.cell (i := 0) rfl; have r1 := hb9.cell (i := 1) rfl; have r2 := hb9.cell (i := 2) rfl; have r3 := hb9.cell (i := 3) rfl; have r4 := hb9.cell (i := 4) rfl; have r5 := hb9.cell (i := 5) rfl; have r6 := hb9.cell (i := 6) rfl; clear hb9; have hb9 := hSw.blk H21.out (fun h => h); have q0 := hb9.cell (i := 0) rfl; have q1 := hb9.cell (i := 1) rfl; have q2 := hb9.cell (i := 2) rfl; have q3 := hb9.cell (i := 3) rfl; have q4 := hb9.cell (i := 4) rfl; clear hb9; have hb9 := hSw.blk H20.out (fun h => h); have v0 := hb9.cell (i := 0) rfl; have v1 := hb9.cell (i := 1) rfl; have v2 := hb9.cell (i := 2) rfl; have v3 := hb9.cell (i := 3) rfl; have v4 := hb9.cell (i := 4) rfl; have v5 := hb9.cell (i := 5) rfl; have v6 := hb9.cell (i := 6) rfl; have v7 := hb9.cell (i := 7) rfl; clear hb9; have hb9 := hSw.blk H15.out (fun h => h); have x19 := hb9.cell (i := 19) rfl; clear hb9; go_simp; try with_reducible rfl)
              try simp only [Act.put, List.setIfInBounds_toArray, List.set_cons_zero, List.set_cons_succ]
              refine wpAnyH_ready (rs := [20]) (by kernel_rfl) (by simp) ?_
              refine AllReadyH.cons (o := ⟨some 252, _, _, _, _, _⟩) rfl (fun KK hK => ?_) AllReadyH.nil
              go_simp
              go_at_call 23
              refine (begin_of 41 43 (by decide) (by decide) _).mono ?_; rintro e GN ⟨rfl, rfl⟩
              refine hK.out _ _ ?_ (fun hHeld2 => ?_)
              · exact HW.out
              clear hK KK hHeld
              have hHeld := hHeld2
              clear hHeld2
              try simp only [Act.put, List.setIfInBounds_toArray, List.set_cons_zero, List.set_cons_succ]
              refine wpAnyH_ready (rs := [21]) (by kernel_rfl) (by simp) ?_
              refine AllReadyH.cons (o := ⟨some 253, _, _, _, _, _⟩) rfl (fun KK hK => ?_) AllReadyH.nil
              go_simp
              go_at_call 22
              refine (end_of 43 45 (by decide) (by decide) _).mono ?_; rintro e GN ⟨rfl, rfl⟩
              refine hK.out _ _ ?_ (fun hHeld2 => ?_)
              · exact HW.out
              clear hK KK hHeld
              have hHeld := hHeld2
              clear hHeld2
              try simp only [Act.put, List.setIfInBounds_toArray, List.set_cons_zero, List.set_cons_succ]
              refine wpAnyH_take (i := 22) (oi := ⟨some 254, _, _, _, _, _⟩) (v := .bool false) rfl (by kernel_rfl) (by kernel_rfl) (by kernel_rfl) (fun _ _ _ h => h) (Or.inl ⟨by rfl, ?_⟩) hHeld ?_
              · (intro wq hSw; go_simp; try first | (with_reducible rfl) | (simp; omega) | (intros; omega) | simp [*])
              try simp only [Act.put, List.setIfInBounds_toArray, List.set_cons_zero, List.set_cons_succ]
              refine wpAnyH_take (i := 23) (oi := ⟨some 255, _, _, _, _, _⟩) (v := .bool false) rfl (by kernel_rfl) (by kernel_rfl) (by kernel_rfl) (fun _ _ _ h => h) (Or.inl ⟨by rfl, ?_⟩) hHeld ?_
              · (intro wq hSw; go_simp; try first | (with_reducible rfl) | (simp; omega) | (intros; omega) | simp [*])
              try simp only [Act.put, List.setIfInBounds_toArray, List.set_cons_zero, List.set_cons_succ]
              refine wpAnyH_take (i := 24) (oi := ⟨some 256, _, _, _, _, _⟩) (v := .bool false) rfl (by kernel_rfl) (by kernel_rfl) (by kernel_rfl) (fun _ _ _ h => h) (Or.inl ⟨by rfl, ?_⟩) hHeld ?_
              · (intro wq hSw; go_simp; try first | (with_reducible rfl) | (simp; omega) | (intros; omega) | simp [*])
              try simp only [Act.put, List.setIfInBounds_toArray, List.set_cons_zero, List.set_cons_succ]
              refine wpAnyH_take (i := 25) (oi := ⟨some 257, _, _, _, _, _⟩) (v := ?_) rfl (by kernel_rfl) (by kernel_rfl) (by kernel_rfl) (fun _ _ _ h => h) (Or.inl ⟨by rfl, ?_⟩) hHeld ?_
              rotate_left
              · (intro wq hSw; have hb9 := hSw.blk H28.out (fun h => h); have r0 := hb9.cell (i := 0) rfl; have r1 := hb9.cell (i := 1) rfl; have r2 := hb9.cell (i := 2) rfl; have r3 := hb9.cell (i := 3) rfl; have r4 := hb9.cell (i := 4) rfl; have r5 := hb9.cell (i := 5) rfl; have r6 := hb9.cell (i := 6) rfl; clear hb9; have hb9 := hSw.blk H21.out (fun h => h); have q0 := hb9.cell (i := 0) rfl; have q1 := hb9.cell (i := 1) rfl; have q2 := hb9.cell (i := 2) rfl; have q3 := hb9.cell (i := 3) rfl; have q4 := hb9.cell (i := 4) rfl; clear hb9; have hb9 := hSw.blk H20.out (fun h => h); have v0 := hb9.cell (i := 0) rfl; have v1 := hb9.cell (i := 1) rfl; have v2 := hb9.cell (i := 2) rfl; have v3 := hb9.cell (i := 3) rfl; have v4 := hb9.cell (i := 4) rfl; have v5 := hb9.cell (i := 5) rfl; have v6 := hb9.cell (i := 6) rfl; have v7 := hb9.cell (i := 7) rfl; clear hb9; have hb9 := hSw.blk H15.out (fun h => h); have x19 := hb9.cell (i := 19) rfl; clear hb9; go_simp; try with_reducible rfl)
              try simp only [Act.put, List.setIfInBounds_toArray, List.set_cons_zero, List.set_cons_succ]
              refine wpAnyH_take (i := 27) (oi := ⟨some 259, _, _, _, _, _⟩) (v := ?_) rfl (by kernel_rfl) (by kernel_rfl) (by kernel_rfl) (fun _ _ _ h => h) (Or.inl ⟨by rfl, ?_⟩) hHeld ?_
              rotate_left
              · (intro wq hSw; go_simp; try with_reducible rfl)
              try simp only [Act.put, List.setIfInBounds_toArray, List.set_cons_zero, List.set_cons_succ]
              refine wpAnyH_take (i := 28) (oi := ⟨some 260, _, _, _, _, _⟩) (v := ?_) rfl (by kernel_rfl) (by kernel_rfl) (by kernel_rfl) (fun _ _ _ h => h) (Or.inl ⟨by rfl, ?_⟩) hHeld ?_
              rotate_left
              · (intro wq hSw; have hb9 := hSw.blk H28.out (fun h => h); have r0 := hb9.cell (i := 0) rfl; have r1 := hb9.cell (i := 1) rfl; have r2 := hb9.cell (i := 2) rfl; have r3 := hb9.cell (i := 3) rfl; have r4 := hb9.cell (i := 4) rfl; have r5 := hb9.cell (i := 5) rfl; have r6 := hb9.cell (i := 6) rfl; clear hb9; have hb9 := hSw.blk H21.out (fun h => h); have q0 := hb9.cell (i := 0) rfl; have q1 := hb9.cell (i := 1) rfl; have q2 := hb9.cell (i := 2) rfl; have q3 := hb9.cell (i := 3) rfl; have q4 := hb9.cell (i := 4) rfl; clear hb9; have hb9 := hSw.blk H20.out (fun h => h); have v0 := hb9.cell (i := 0) rfl; have v1 := hb9.cell (i := 1) rfl; have v2 := hb9.cell (i := 2) rfl; have v3 := hb9.cell (i := 3) rfl; have v4 := hb9.cell (i := 4) rfl; have v5 := hb9.cell (i := 5) rfl; have v6 := hb9.cell (i := 6) rfl; have v7 := hb9.cell (i := 7) rfl; clear hb9; have hb9 := hSw.blk H15.out (fun h => h); have x19 := hb9.cell (i := 19) rfl; clear hb9; go_simp; try with_reducible rfl)
              try simp only [Act.put, List.setIfInBounds_toArray, List.set_cons_zero, List.set_cons_succ]
              refine wpAnyH_ready (rs := [26]) (by kernel_rfl) (by simp) ?_
              refine AllReadyH.cons (o := ⟨some 258, _, _, _, _, _⟩) rfl (fun KK hK => ?_) AllReadyH.nil
              go_simp
              go_at_call 20
              refine (vlatch_anyT F h4 h6 gv n l2 HL2.out 2 (nlaT F 2) rfl 45 0 ⟨#[]⟩ _ (HW.out.blk HGV.out (fun h => h)) HLT.out).mono ?_; rintro e GN ⟨rfl, hKq⟩
              replace HW := Lib.hid (HW.out.trans hKq (fun _ _ h => h))
              clear hKq
              rename World => G
              refine hK.out _ _ ?_ (fun hHeld2 => ?_)
              · exact HW.out
              clear hK KK hHeld
              have hHeld := hHeld2
              clear hHeld2
              try simp only [Act.put, List.setIfInBounds_toArray, List.set_cons_zero, List.set_cons_succ]
              refine wpAnyH_take (i := 29) (oi := ⟨some 261, _, _, _, _, _⟩) (v := .bool false) rfl (by kernel_rfl) (by kernel_rfl) (by kernel_rfl) (fun _ _ _ h => h) (Or.inl ⟨by rfl, ?_⟩) hHeld ?_
              · (intro wq hSw; go_simp; try first | (with_reducible rfl) | (simp; omega) | (intros; omega) | simp [*])
              try simp only [Act.put, List.setIfInBounds_toArray, List.set_cons_zero, List.set_cons_succ]
              refine wpAnyH_take (i := 30) (oi := ⟨some 262, _, _, _, _, _⟩) (v := .bool false) rfl (by kernel_rfl) (by kernel_rfl) (by kernel_rfl) (fun _ _ _ h => h) (Or.inl ⟨by rfl, ?_⟩) hHeld ?_
              · (intro wq hSw; go_simp; try first | (with_reducible rfl) | (simp; omega) | (intros; omega) | simp [*])
              try simp only [Act.put, List.setIfInBounds_toArray, List.set_cons_zero, List.set_cons_succ]
              refine wpAnyH_take (i := 31) (oi := ⟨some 263, _, _, _, _, _⟩) (v := .bool false) rfl (by kernel_rfl) (by kernel_rfl) (by kernel_rfl) (fun _ _ _ h => h) (Or.inl ⟨by rfl, ?_⟩) hHeld ?_
              · (intro wq hSw; go_simp; try first | (with_reducible rfl) | (simp; omega) | (intros; omega) | simp [*])
              try simp only [Act.put, List.setIfInBounds_toArray, List.set_cons_zero, List.set_cons_succ]
              refine wpAnyH_take (i := 32) (oi := ⟨some 264, _, _, _, _, _⟩) (v := ?_) rfl (by kernel_rfl) (by kernel_rfl) (by kernel_rfl) (fun _ _ _ h => h) (Or.inl ⟨by rfl, ?_⟩) hHeld ?_
              rotate_left
              · (intro wq hSw; go_simp; try with_reducible rfl)
              try simp only [Act.put, List.setIfInBounds_toArray, List.set_cons_zero, List.set_cons_succ]
              refine wpAnyH_take (i := 33) (oi := ⟨some 265, _, _, _, _, _⟩) (v := ?_) rfl (by kernel_rfl) (by kernel_rfl) (by kernel_rfl) (fun _ _ _ h => h) (Or.inl ⟨by rfl, ?_⟩) hHeld ?_
              rotate_left
              · (intro wq hSw; have hb9 := hSw.blk H28.out (fun h => h); have r0 := hb9.cell (i := 0) rfl; have r1 := hb9.cell (i := 1) rfl; have r2 := hb9.cell (i := 2) rfl; have r3 := hb9.cell (i := 3) rfl; have r4 := hb9.cell (i := 4) rfl; have r5 := hb9.cell (i := 5) rfl; have r6 := hb9.cell (i := 6) rfl; clear hb9; have hb9 := hSw.blk H21.out (fun h => h); have q0 := hb9.cell (i := 0) rfl; have q1 := hb9.cell (i := 1) rfl; have q2 := hb9.cell (i := 2) rfl; have q3 := hb9.cell (i := 3) rfl; have q4 := hb9.cell (i := 4) rfl; clear hb9; have hb9 := hSw.blk H20.out (fun h => h); have v0 := hb9.cell (i := 0) rfl; have v1 := hb9.cell (i := 1) rfl; have v2 := hb9.cell (i := 2) rfl; have v3 := hb9.cell (i := 3) rfl; have v4 := hb9.cell (i := 4) rfl; have v5 := hb9.cell (i := 5) rfl; have v6 := hb9.cell (i := 6) rfl; have v7 := hb9.cell (i := 7) rfl; clear hb9; have hb9 := hSw.blk H15.out (fun h => h); have x19 := hb9.cell (i := 19) rfl; clear hb9; go_simp; try with_reducible rfl)
              try simp only [Act.put, List.setIfInBounds_toArray, List.set_cons_zero, List.set_cons_succ]
              refine wpAnyH_take (i := 34) (oi := ⟨some 266, _, _, _, _, _⟩) (v := ?_) rfl (by kernel_rfl) (by kernel_rfl) (by kernel_rfl) (fun _ _ _ h => h) (Or.inl ⟨by rfl, ?_⟩) hHeld ?_
              rotate_left
              · (intro wq hSw; have hb9 := hSw.blk H28.out (fun h => h); have r0 := hb9.cell (i := 0) rfl; have r1 := hb9.cell (i := 1) rfl; have r2 := hb9.cell (i := 2) rfl; have r3 := hb9.cell (i := 3) rfl; have r4 := hb9.cell (i := 4) rfl; have r5 := hb9.cell (i := 5) rfl; have r6 := hb9.cell (i := 6) rfl; clear hb9; have hb9 := hSw.blk H21.out (fun h => h); have q0 := hb9.cell (i := 0) rfl; have q1 := hb9.cell (i := 1) rfl; have q2 := hb9.cell (i := 2) rfl; have q3 := hb9.cell (i := 3) rfl; have q4 := hb9.cell (i := 4) rfl; clear hb9; have hb9 := hSw.blk H20.out (fun h => h); have v0 := hb9.cell (i := 0) rfl; have v1 := hb9.cell (i := 1) rfl; have v2 := hb9.cell (i := 2) rfl; have v3 := hb9.cell (i := 3) rfl; have v4 := hb9.cell (i := 4) rfl; have v5 := hb9.cell (i := 5) rfl; have v6 := hb9.cell (i := 6) rfl; have v7 := hb9.cell (i := 7) rfl; clear hb9; have hb9 := hSw.blk H15.out (fun h => h); have x19 := hb9.cell (i := 19) rfl; clear hb9; go_simp; try with_reducible rfl)
              try simp only [Act.put, List.setIfInBounds_toArray, List.set_cons_zero, List.set_cons_succ]
              refine wpAnyH_ready (rs := [35]) (by kernel_rfl) (by simp) ?_
              refine AllReadyH.cons (o := ⟨some 267, _, _, _, _, _⟩) rfl (fun KK hK => ?_) AllReadyH.nil
              go_simp
              go_at_call 14
              refine (refSame_yes Y A4 AY c4 cY _ (by have := HYB.out.1; omega) (HR4.out.keptF HW.out (fun _ _ h => h)) (HRY.out.keptF HW.out (fun _ _ h => h))).mono ?_; rintro e GN ⟨rfl, hKq⟩
              replace HW := Lib.hid (HW.out.trans hKq (fun _ _ h => h))
              clear hKq
              rename World => G
              refine hK.out _ _ ?_ (fun hHeld2 => ?_)
              · exact HW.out
              clear hK KK hHeld
              have hHeld := hHeld2
              clear hHeld2
              try simp only [Act.put, List.setIfInBounds_toArray, List.set_cons_zero, List.set_cons_succ]
              refine wpAnyH_take (i := 36) (oi := ⟨some 268, _, _, _, _, _⟩) (v := .bool false) rfl (by kernel_rfl) (by kernel_rfl) (by kernel_rfl) (fun _ _ _ h => h) (Or.inl ⟨by rfl, ?_⟩) hHeld ?_
              · (intro wq hSw; go_simp; try first | (with_reducible rfl) | (simp; omega) | (intros; omega) | simp [*])
              try simp only [Act.put, List.setIfInBounds_toArray, List.set_cons_zero, List.set_cons_succ]
              refine wpAnyH_take (i := 37) (oi := ⟨some 269, _, _, _, _, _⟩) (v := .bool false) rfl (by kernel_rfl) (by kernel_rfl) (by kernel_rfl) (fun _ _ _ h => h) (Or.inl ⟨by rfl, ?_⟩) hHeld ?_
              · (intro wq hSw; go_simp; try first | (with_reducible rfl) | (simp; omega) | (intros; omega) | simp [*])
              try simp only [Act.put, List.setIfInBounds_toArray, List.set_cons_zero, List.set_cons_succ]
              refine wpAnyH_take (i := 38) (oi := ⟨some 270, _, _, _, _, _⟩) (v := .bool false) rfl (by kernel_rfl) (by kernel_rfl) (by kernel_rfl) (fun _ _ _ h => h) (Or.inl ⟨by rfl, ?_⟩) hHeld ?_
              · (intro wq hSw; go_simp; try first | (with_reducible rfl) | (simp; omega) | (intros; omega) | simp [*])
              try simp only [Act.put, List.setIfInBounds_toArray, List.set_cons_zero, List.set_cons_succ]
              refine wpAnyH_take (i := 39) (oi := ⟨some 271, _, _, _, _, _⟩) (v := ?_) rfl (by kernel_rfl) (by kernel_rfl) (by kernel_rfl) (fun _ _ _ h => h) (Or.inl ⟨by rfl, ?_⟩) hHeld ?_
              rotate_left
              · (intro wq hSw; have hb9 := hSw.blk H28.out (fun h => h); have r0 := hb9.cell (i := 0) rfl; have r1 := hb9.cell (i := 1) rfl; have r2 := hb9.cell (i := 2) rfl; have r3 := hb9.cell (i := 3) rfl; have r4 := hb9.cell (i := 4) rfl; have r5 := hb9.cell (i := 5) rfl; have r6 := hb9.cell (i := 6) rfl; clear hb9; have hb9 := hSw.blk H21.out (fun h => h); have q0 := hb9.cell (i := 0) rfl; have q1 := hb9.cell (i := 1) rfl; have q2 := hb9.cell (i := 2) rfl; have q3 := hb9.cell (i := 3) rfl; have q4 := hb9.cell (i := 4) rfl; clear hb9; have hb9 := hSw.blk H20.out (fun h => h); have v0 := hb9.cell (i := 0) rfl; have v1 := hb9.cell (i := 1) rfl; have v2 := hb9.cell (i := 2) rfl; have v3 := hb9.cell (i := 3) rfl; have v4 := hb9.cell (i := 4) rfl; have v5 := hb9.cell (i := 5) rfl; have v6 := hb9.cell (i := 6) rfl; have v7 := hb9.cell (i := 7) rfl; clear hb9; have hb9 := hSw.blk H15.out (fun h => h); have x19 := hb9.cell (i := 19) rfl; clear hb9; go_simp; try with_reducible rfl)
              try simp only [Act.put, List.setIfInBounds_toArray, List.set_cons_zero, List.set_cons_succ]
              refine wpAnyH_take (i := 41) (oi := ⟨some 273, _, _, _, _, _⟩) (v := ?_) rfl (by kernel_rfl) (by kernel_rfl) (by kernel_rfl) (fun _ _ _ h => h) (Or.inl ⟨by rfl, ?_⟩) hHeld ?_
              rotate_left
              · (intro wq hSw; have hb9 := hSw.blk H28.out (fun h => h); have r0 := hb9.cell (i := 0) rfl; have r1 := hb9.cell (i := 1) rfl; have r2 := hb9.cell (i := 2) rfl; have r3 := hb9.cell (i := 3) rfl; have r4 := hb9.cell (i := 4) rfl; have r5 := hb9.cell (i := 5) rfl; have r6 := hb9.cell (i := 6) rfl; clear hb9; have hb9 := hSw.blk H21.out (fun h => h); have q0 := hb9.cell (i := 0) rfl; have q1 := hb9.cell (i := 1) rfl; have q2 := hb9.cell (i := 2) rfl; have q3 := hb9.cell (i := 3) rfl; have q4 := hb9.cell (i := 4) rfl; clear hb9; have hb9 := hSw.blk H20.out (fun h => h); have v0 := hb9.cell (i := 0) rfl; have v1 := hb9.cell (i := 1) rfl; have v2 := hb9.cell (i := 2) rfl; have v3 := hb9.cell (i := 3) rfl; have v4 := hb9.cell (i := 4) rfl; have v5 := hb9.cell (i := 5) rfl; have v6 := hb9.cell (i := 6) rfl; have v7 := hb9.cell (i := 7) rfl; clear hb9; have hb9 := hSw.blk H15.out (fun h => h); have x19 := hb9.cell (i := 19) rfl; clear hb9; go_simp; try with_reducible rfl)
              try simp only [Act.put, List.setIfInBounds_toArray, List.set_cons_zero, List.set_cons_succ]
              refine wpAnyH_ready (rs := [40]) (by kernel_rfl) (by simp) ?_
              refine AllReadyH.cons (o := ⟨some 272, _, _, _, _, _⟩) rfl (fun KK hK => ?_) AllReadyH.nil
              go_simp
              go_at_call 19
              refine (vpage_anyT F h4 h6 gv n l2 HL2.out 2 (by omega) (by omega) Y HHY.out HYB.out.2.1 HYB.out.1 (by have h9 : Y.lv ≤ 2 := HYB.out.2.2; omega) _ (HW.out.blk HGV.out (fun h => h))).mono ?_; rintro e GN ⟨A6, c6, rfl, hR6, -, hK6⟩
              replace HW := Lib.hid (HW.out.trans hK6 (fun _ _ h => h))
              have HR6 := Lib.hid hR6
              clear hR6 hK6
              rename World => G
              refine hK.out _ _ ?_ (fun hHeld2 => ?_)
              · exact HW.out
              clear hK KK hHeld
              have hHeld := hHeld2
              clear hHeld2
              try simp only [Act.put, List.setIfInBounds_toArray, List.set_cons_zero, List.set_cons_succ]
              refine wpAnyH_ready (rs := [42]) (by kernel_rfl) (by simp) ?_
              refine AllReadyH.cons (o := ⟨some 274, _, _, _, _, _⟩) rfl (fun KK hK => ?_) AllReadyH.nil
              go_simp
              go_at_call 14
              refine (refSame_yes Y A6 AY c6 cY _ (by have := HYB.out.1; omega) HR6.out (HRY.out.keptF HW.out (fun _ _ h => h))).mono ?_; rintro e GN ⟨rfl, hKq⟩
              replace HW := Lib.hid (HW.out.trans hKq (fun _ _ h => h))
              clear hKq
              rename World => G
              refine hK.out _ _ ?_ (fun hHeld2 => ?_)
              · exact HW.out
              clear hK KK hHeld
              have hHeld := hHeld2
              clear hHeld2
              try simp only [Act.put, List.setIfInBounds_toArray, List.set_cons_zero, List.set_cons_succ]
              refine wpAnyH_take (i := 43) (oi := ⟨some 275, _, _, _, _, _⟩) (v := .bool false) rfl (by kernel_rfl) (by kernel_rfl) (by kernel_rfl) (fun _ _ _ h => h) (Or.inl ⟨by rfl, ?_⟩) hHeld ?_
              · (intro wq hSw; go_simp; try first | (with_reducible rfl) | (simp; omega) | (intros; omega) | simp [*])
              try simp only [Act.put, List.setIfInBounds_toArray, List.set_cons_zero, List.set_cons_succ]
              refine wpAnyH_take (i := 44) (oi := ⟨some 276, _, _, _, _, _⟩) (v := .bool false) rfl (by kernel_rfl) (by kernel_rfl) (by kernel_rfl) (fun _ _ _ h => h) (Or.inl ⟨by rfl, ?_⟩) hHeld ?_
              · (intro wq hSw; go_simp; try first | (with_reducible rfl) | (simp; omega) | (intros; omega) | simp [*])
              try simp only [Act.put, List.setIfInBounds_toArray, List.set_cons_zero, List.set_cons_succ]
              refine wpAnyH_done (by kernel_rfl) ?_ _
              clear hHeld
              replace HK := Lib.hid (HK.out.trans HW.out (fun _ _ h => h.elim))
              replace H15 := Lib.hid (HW.out.blk H15.out (fun h => h))
              replace HGW := Lib.hid (HW.out.blk HGW.out (fun h => h))
              replace HGV := Lib.hid (HW.out.blk HGV.out (fun h => h))
              replace H20 := Lib.hid (HW.out.blk H20.out (fun h => h))
              clear HW HIF HRY HR4 H21 H28 HR6 HRS HM
              try clear hHeld
              go_upto_region 31 with fail
              rename World => WL
              obtain ⟨f4, hf4⟩ : ∃ f4, F + 4 = f4 := ⟨_, rfl⟩
              have HF4 := Lib.hid hf4
              have hf4w : IntKind.i64.wrap ((F : Int) + 4) = (f4 : Int) := by rw [IntKind.wrap_i64]; omega
              have HIDB := Lib.hid (show tw = true → 1 ≤ id ∧ id ≤ 10 from fun ht => by have h1 := HID.out; have h2 := HE2.out (by first | rfl | trivial) ht; omega)
              clear hf4
              go_wp2_with fail
              go_loopw [29, 30, 31] (fun kv mv jv wr => ∃ k : Nat, k ≤ n ∧ kv = .int .i64 (k : Int) ∧ Kept (fun _ => False) WL wr) (fun kv _ _ _ => n - (intOf kv).toNat)
              case atStart => exact ⟨0, Nat.zero_le _, rfl, Kept.refl _ _⟩
              case round =>
                rename World => WK
                obtain ⟨k, hkn, rfl, hKL⟩ := hrel
                have HKL := Lib.hid hKL
                have H15K := Lib.hid (hKL.blk H15.out (fun h => h))
                have HKNN := Lib.hid hkn
                clear hkn hKL
                by_cases hlt : k < n
                · obtain ⟨k1, hk1⟩ : ∃ k1, k + 1 = k1 := ⟨_, rfl⟩
                  have HK11 := Lib.hid (show k + 1 = k1 ∧ k < n from ⟨hk1, hlt⟩)
                  have hw9 : IntKind.i64.wrap ((k : Int) + 1) = (k1 : Int) := by rw [IntKind.wrap_i64]; have := HHL.out.hi; omega
                  have hltI : (k : Int) < (n : Int) := by omega
                  obtain ⟨mb, hmb⟩ : ∃ mb, ((k : Int) == 4) = mb := ⟨_, rfl⟩
                  have HMB4 := Lib.hid hmb
                  clear hk1 hlt
                  go_upto_region 35 with fail
                  clear hltI hmb
                  rename World => WJ
                  replace HK := Lib.hid (HK.out.trans HKL.out (fun _ _ h => h.elim))
                  replace H15 := Lib.hid (HKL.out.blk H15.out (fun h => h))
                  replace HGW := Lib.hid (HKL.out.blk HGW.out (fun h => h))
                  replace HGV := Lib.hid (HKL.out.blk HGV.out (fun h => h))
                  replace H20 := Lib.hid (HKL.out.blk H20.out (fun h => h))
                  go_wp2_with fail
                  go_loopw [30, 31] (fun mv jv wr => ∃ (bb : Bool) (j : Nat), mv = .bool bb ∧ jv = .int .i64 (j : Int) ∧ j ≤ F + 4 ∧ (bb = false → k ≠ 4 ∧ ∀ j' : Nat, j' < j → (k : Int) ≠ nlaT F 2 + (j' : Int) ∧ (tw = true → (k : Int) ≠ nlaT F id + (j' : Int))) ∧ Kept (fun _ => False) WJ wr) (fun _ jv _ => F + 4 - (intOf jv).toNat)
                  case atStart => exact ⟨mb, 0, rfl, rfl, by omega, fun h => ⟨fun e => (by have h1 := HMB4.out; rw [h] at h1; simp at h1; omega), fun j' hj' => (by omega)⟩, Kept.refl _ _⟩
                  case round =>
                    rename World => WI
                    obtain ⟨bb, j, rfl, rfl, hjl, hbb, hKI⟩ := hrel
                    have HBB := Lib.hid hbb
                    have HKI := Lib.hid hKI
                    have HJL := Lib.hid hjl
                    have H15I := Lib.hid (hKI.blk H15.out (fun h => h))
                    clear hjl hbb hKI
                    by_cases hjF : j < F + 4
                    · have hjI : (j : Int) < (f4 : Int) := by have := HF4.out; omega
                      obtain ⟨j1, hj1⟩ : ∃ j1, j + 1 = j1 := ⟨_, rfl⟩
                      have HJ1 := Lib.hid (show j + 1 = j1 ∧ j < F + 4 from ⟨hj1, hjF⟩)
                      have hw1 : IntKind.i64.wrap ((j : Int) + 1) = (j1 : Int) := by rw [IntKind.wrap_i64]; omega
                      clear hj1 hjF
                      have hb9 := H15I.out
                      have x0 := hb9.cell (i := 0) rfl
                      have x1 := hb9.cell (i := 1) rfl
                      have x2 := hb9.cell (i := 2) rfl
                      have x3 := hb9.cell (i := 3) rfl
                      have x4 := hb9.cell (i := 4) rfl
                      have x5 := hb9.cell (i := 5) rfl
                      have x6 := hb9.cell (i := 6) rfl
                      clear hb9
                      cases bb with
                      | true =>
                        go_wp2
                        go_roundw
                        case rel => exact ⟨true, j1, rfl, by go_num, by have := HJ1.out; omega, fun h => (by cases h), HKI.out⟩
                        case measure => have := HJ1.out; have := HJL.out; simp [intOf]; omega
                      | false =>
                        obtain ⟨a2, ha2⟩ : ∃ a2 : Int, nlaT F 2 + (j : Int) = a2 := ⟨_, rfl⟩
                        have HNA := Lib.hid (show nodeAt 10 (F : Int) 10 ((2 : Nat) : Int) (j : Int) = a2 from by rw [← ha2]; unfold nlaT nodeAt; rw [if_pos (by omega), if_pos (by omega)]; omega)
                        have HA22 := Lib.hid ha2
                        clear ha2
                        go_wp2_with fail
                        refine (ref_toT F 2 j h4 h6 (by have := HJ1.out; omega) a2 HNA.out _).mono ?_; rintro e WN ⟨rfl, hKn⟩
                        have HKN := Lib.hid (HKI.out.trans hKn (fun _ _ h => h))
                        have H15N := Lib.hid (hKn.blk H15I.out (fun h => h))
                        clear hKn x0 x1 x2 x3 x4 x5 x6
                        by_cases hk2 : (k : Int) = a2
                        · have hk2d : ((k : Int) == a2) = true := by simp; exact hk2
                          have HK2 := Lib.hid hk2
                          clear hk2
                          go_wp2
                          go_roundw
                          case rel => exact ⟨true, j1, rfl, by go_num, by have := HJ1.out; omega, fun h => (by cases h), HKN.out⟩
                          case measure => have := HJ1.out; have := HJL.out; simp [intOf]; omega
                        · have hk2d : ((k : Int) == a2) = false := by simp; exact hk2
                          have HK2 := Lib.hid hk2
                          clear hk2
                          cases tw with
                          | false =>
                            go_wp2
                            go_roundw
                            case rel => exact ⟨false, j1, rfl, by go_num, by have := HJ1.out; omega, fun _ => ⟨(HBB.out (by first | rfl | trivial)).1, fun j' hj' => by have h1 := HJ1.out; rcases Nat.lt_or_ge j' j with h | h; exact (HBB.out (by first | rfl | trivial)).2 j' h; have h2 : j' = j := (by omega); rw [h2]; exact ⟨by rw [HA22.out]; exact HK2.out, fun h => (by cases h)⟩⟩, HKN.out⟩
                            case measure => have := HJ1.out; have := HJL.out; simp [intOf]; omega
                          | true =>
                            obtain ⟨a3, ha3⟩ : ∃ a3 : Int, nlaT F id + (j : Int) = a3 := ⟨_, rfl⟩
                            have HNB := Lib.hid (show nodeAt 10 (F : Int) 10 ((id : Nat) : Int) (j : Int) = a3 from by rw [← ha3]; have h1 := HIDB.out (by first | rfl | trivial); unfold nlaT nodeAt; rw [if_pos (by omega), if_pos (by omega)]; omega)
                            have HA33 := Lib.hid ha3
                            clear ha3
                            have hb9 := H15N.out
                            have x0 := hb9.cell (i := 0) rfl
                            have x1 := hb9.cell (i := 1) rfl
                            have x2 := hb9.cell (i := 2) rfl
                            have x3 := hb9.cell (i := 3) rfl
                            have x4 := hb9.cell (i := 4) rfl
                            have x5 := hb9.cell (i := 5) rfl
                            have x6 := hb9.cell (i := 6) rfl
                            clear hb9
                            go_wp2_with fail
                            refine (ref_toT F id j h4 h6 (by have := HJ1.out; omega) a3 HNB.out _).mono ?_; rintro e WM ⟨rfl, hKm⟩
                            have HKM := Lib.hid (HKN.out.trans hKm (fun _ _ h => h))
                            clear hKm x0 x1 x2 x3 x4 x5 x6
                            by_cases hk3 : (k : Int) = a3
                            · have hk3d : ((k : Int) == a3) = true := by simp; exact hk3
                              have HK3 := Lib.hid hk3
                              clear hk3
                              go_wp2
                              go_roundw
                              case rel => exact ⟨true, j1, rfl, by go_num, by have := HJ1.out; omega, fun h => (by cases h), HKM.out⟩
                              case measure => have := HJ1.out; have := HJL.out; simp [intOf]; omega
                            · have hk3d : ((k : Int) == a3) = false := by simp; exact hk3
                              have HK3 := Lib.hid hk3
                              clear hk3
                              go_wp2
                              go_roundw
                              case rel => exact ⟨false, j1, rfl, by go_num, by have := HJ1.out; omega, fun _ => ⟨(HBB.out (by first | rfl | trivial)).1, fun j' hj' => by have h1 := HJ1.out; rcases Nat.lt_or_ge j' j with h | h; exact (HBB.out (by first | rfl | trivial)).2 j' h; have h2 : j' = j := (by omega); rw [h2]; exact ⟨by rw [HA22.out]; exact HK2.out, fun _ => by rw [HA33.out]; exact HK3.out⟩⟩, HKM.out⟩
                              case measure => have := HJ1.out; have := HJL.out; simp [intOf]; omega
                    · have hjI : ¬ (j : Int) < (f4 : Int) := by have := HF4.out; omega
                      have HJE := Lib.hid (show j = F + 4 from by have := HJL.out; omega)
                      clear hjF
                      have hb9 := H15I.out
                      have x0 := hb9.cell (i := 0) rfl
                      have x1 := hb9.cell (i := 1) rfl
                      have x2 := hb9.cell (i := 2) rfl
                      have x3 := hb9.cell (i := 3) rfl
                      have x4 := hb9.cell (i := 4) rfl
                      have x5 := hb9.cell (i := 5) rfl
                      have x6 := hb9.cell (i := 6) rfl
                      clear hb9
                      go_upto_region 39 with fail
                      clear x0 x1 x2 x3 x4 x5 x6 hjI
                      replace HK := Lib.hid (HK.out.trans HKI.out (fun _ _ h => h.elim))
                      replace H15 := Lib.hid (HKI.out.blk H15.out (fun h => h))
                      replace HGW := Lib.hid (HKI.out.blk HGW.out (fun h => h))
                      replace HGV := Lib.hid (HKI.out.blk HGV.out (fun h => h))
                      replace H20 := Lib.hid (HKI.out.blk H20.out (fun h => h))
                      replace HKL := Lib.hid (HKL.out.trans HKI.out (fun _ _ h => h))
                      cases bb with
                      | true =>
                        refine qregion (fun w' => Kept (fun _ => False) WI w') (by kernel_rfl) (by kernel_rfl) (Kept.refl _ _).drew ?_
                        refine qstep (o := ⟨some 314, _, _, _, _, _⟩) (v := ?_) (by rfl) (fun wq hSw => ?_) ?_
                        rotate_left
                        · (go_simp; try with_reducible rfl)
                        try simp only [Act.put, List.setIfInBounds_toArray, List.set_cons_zero, List.set_cons_succ]
                        refine qstep (o := ⟨some 315, _, _, _, _, _⟩) (v := .bool false) (by rfl) (fun wq hSw => ?_) ?_
                        · (go_simp; try first | (with_reducible rfl) | (simp; omega) | (intros; omega) | simp [*])
                        try simp only [Act.put, List.setIfInBounds_toArray, List.set_cons_zero, List.set_cons_succ]
                        refine qstep (o := ⟨some 316, _, _, _, _, _⟩) (v := .bool false) (by rfl) (fun wq hSw => ?_) ?_
                        · (go_simp; try first | (with_reducible rfl) | (simp; omega) | (intros; omega) | simp [*])
                        try simp only [Act.put, List.setIfInBounds_toArray, List.set_cons_zero, List.set_cons_succ]
                        go_big_quiet_skip
                        try simp only [Act.put, List.setIfInBounds_toArray, List.set_cons_zero, List.set_cons_succ]
                        go_big_quiet_skip
                        try simp only [Act.put, List.setIfInBounds_toArray, List.set_cons_zero, List.set_cons_succ]
                        go_big_quiet_skip
                        try simp only [Act.put, List.setIfInBounds_toArray, List.set_cons_zero, List.set_cons_succ]
                        go_big_quiet_skip
                        try simp only [Act.put, List.setIfInBounds_toArray, List.set_cons_zero, List.set_cons_succ]
                        go_big_quiet_skip
                        try simp only [Act.put, List.setIfInBounds_toArray, List.set_cons_zero, List.set_cons_succ]
                        go_big_quiet_skip
                        try simp only [Act.put, List.setIfInBounds_toArray, List.set_cons_zero, List.set_cons_succ]
                        go_big_quiet_skip
                        try simp only [Act.put, List.setIfInBounds_toArray, List.set_cons_zero, List.set_cons_succ]
                        go_big_quiet_skip
                        try simp only [Act.put, List.setIfInBounds_toArray, List.set_cons_zero, List.set_cons_succ]
                        go_big_quiet_skip
                        try simp only [Act.put, List.setIfInBounds_toArray, List.set_cons_zero, List.set_cons_succ]
                        go_big_quiet_skip
                        try simp only [Act.put, List.setIfInBounds_toArray, List.set_cons_zero, List.set_cons_succ]
                        refine qstep (o := ⟨some 327, _, _, _, _, _⟩) (v := .bool false) (by rfl) (fun wq hSw => ?_) ?_
                        · (go_simp; try first | (with_reducible rfl) | (simp; omega) | (intros; omega) | simp [*])
                        try simp only [Act.put, List.setIfInBounds_toArray, List.set_cons_zero, List.set_cons_succ]
                        refine wpQuiet_nil ?_
                        intro wz hHeld
                        go_wp2
                        go_roundw
                        case rel => exact ⟨k1, by have := HK11.out; omega, by go_num, HKL.out.trans hHeld (fun _ _ h => h)⟩
                        case measure => have := HK11.out; simp [intOf]; omega
                      | false =>
                        have hcell : cellAt l2 (k : Int) = cellAt l0 (k : Int) := HOTH.out (k : Int) (by have := (HBB.out (by first | rfl | trivial)).1; omega) (fun j' hj' => ((HBB.out (by first | rfl | trivial)).2 j' (by have := HJE.out; omega)).1) (fun ht j' hj' => ((HBB.out (by first | rfl | trivial)).2 j' (by have := HJE.out; omega)).2 ht)
                        obtain ⟨⟨cN, cK, cM⟩, hc0⟩ : ∃ c : Cel, cellAt l0 (k : Int) = c := ⟨_, rfl⟩
                        have hg0 : l0[k]? = some (cN, cK, cM) := by rw [← hc0, cellAt_in l0 k (by have := HHL.out.len; have := HK11.out; omega)]; exact List.getElem?_eq_getElem _
                        have hg2 : l2[k]? = some (cN, cK, cM) := by rw [← hc0, ← hcell, cellAt_in l2 k (by have := HL2.out; have := HK11.out; omega)]; exact List.getElem?_eq_getElem _
                        obtain ⟨f1, f2, f3⟩ := flat3_at l0 k _ hg0
                        obtain ⟨k1', k2', k3'⟩ := flat3_at l2 k _ hg2
                        have HF1 := Lib.hid f1
                        have HF2 := Lib.hid f2
                        have HF3 := Lib.hid f3
                        have HG1 := Lib.hid k1'
                        have HG2 := Lib.hid k2'
                        have HG3 := Lib.hid k3'
                        have hneq := neq_cel cN cM cK
                        clear hcell hc0 hg0 hg2 f1 f2 f3 k1' k2' k3'
                        have hknI : (k : Int) < (n : Int) := by have := HK11.out; omega
                        have hknN : k < n := by have := HK11.out; omega
                        refine qregion (fun w' => Kept (fun _ => False) WI w') (by kernel_rfl) (by kernel_rfl) (Kept.refl _ _).drew ?_
                        refine qstep (o := ⟨some 314, _, _, _, _, _⟩) (v := ?_) (by rfl) (fun wq hSw => ?_) ?_
                        rotate_left
                        · (go_simp; try with_reducible rfl)
                        try simp only [Act.put, List.setIfInBounds_toArray, List.set_cons_zero, List.set_cons_succ]
                        refine qstep (o := ⟨some 315, _, _, _, _, _⟩) (v := .bool true) (by rfl) (fun wq hSw => ?_) ?_
                        · (go_simp; try first | (with_reducible rfl) | (simp; omega) | (intros; omega) | simp [*])
                        try simp only [Act.put, List.setIfInBounds_toArray, List.set_cons_zero, List.set_cons_succ]
                        refine qstep (o := ⟨some 316, _, _, _, _, _⟩) (v := .bool true) (by rfl) (fun wq hSw => ?_) ?_
                        · (go_simp; try first | (with_reducible rfl) | (simp; omega) | (intros; omega) | simp [*])
                        try simp only [Act.put, List.setIfInBounds_toArray, List.set_cons_zero, List.set_cons_succ]
                        refine qstep (o := ⟨some 317, _, _, _, _, _⟩) (v := ?_) (by rfl) (fun wq hSw => ?_) ?_
                        rotate_left
                        · (go_simp; try with_reducible rfl)
                        try simp only [Act.put, List.setIfInBounds_toArray, List.set_cons_zero, List.set_cons_succ]
                        refine qstep (o := ⟨some 318, _, _, _, _, _⟩) (v := ?_) (by rfl) (fun wq hSw => ?_) ?_
                        rotate_left
                        · (have hb9 := hSw.blk H20.out (fun h => h); have v7 := hb9.cell (i := 7) rfl; clear hb9; have hb9 := hSw.blk HGW.out (fun h => h); have d1 := hb9.cell HF1.out; have d2 := hb9.cell HF2.out; have d3 := hb9.cell HF3.out; clear hb9; have hb9 := hSw.blk HGV.out (fun h => h); have e1 := hb9.cell HG1.out; have e2 := hb9.cell HG2.out; have e3 := hb9.cell HG3.out; clear hb9; go_simp; try with_reducible rfl)
                        try simp only [Act.put, List.setIfInBounds_toArray, List.set_cons_zero, List.set_cons_succ]
                        refine qstep (o := ⟨some 319, _, _, _, _, _⟩) (v := ?_) (by rfl) (fun wq hSw => ?_) ?_
                        rotate_left
                        · (go_simp; try with_reducible rfl)
                        try simp only [Act.put, List.setIfInBounds_toArray, List.set_cons_zero, List.set_cons_succ]
                        refine qstep (o := ⟨some 320, _, _, _, _, _⟩) (v := ?_) (by rfl) (fun wq hSw => ?_) ?_
                        rotate_left
                        · (go_simp; try with_reducible rfl)
                        try simp only [Act.put, List.setIfInBounds_toArray, List.set_cons_zero, List.set_cons_succ]
                        refine qstep (o := ⟨some 321, _, _, _, _, _⟩) (v := .agg #[.int .u64 cN, .string cK, .int .u64 cM]) (by rfl) (fun wq hSw => ?_) ?_
                        · (have hb9 := hSw.blk H20.out (fun h => h); have v7 := hb9.cell (i := 7) rfl; clear hb9; have hb9 := hSw.blk HGW.out (fun h => h); have d1 := hb9.cell HF1.out; have d2 := hb9.cell HF2.out; have d3 := hb9.cell HF3.out; clear hb9; have hb9 := hSw.blk HGV.out (fun h => h); have e1 := hb9.cell HG1.out; have e2 := hb9.cell HG2.out; have e3 := hb9.cell HG3.out; clear hb9; go_simp; try first | (with_reducible rfl) | (simp; omega) | (intros; omega) | simp [*])
                        try simp only [Act.put, List.setIfInBounds_toArray, List.set_cons_zero, List.set_cons_succ]
                        refine qstep (o := ⟨some 322, _, _, _, _, _⟩) (v := ?_) (by rfl) (fun wq hSw => ?_) ?_
                        rotate_left
                        · (go_simp; try with_reducible rfl)
                        try simp only [Act.put, List.setIfInBounds_toArray, List.set_cons_zero, List.set_cons_succ]
                        refine qstep (o := ⟨some 323, _, _, _, _, _⟩) (v := ?_) (by rfl) (fun wq hSw => ?_) ?_
                        rotate_left
                        · (go_simp; try with_reducible rfl)
                        try simp only [Act.put, List.setIfInBounds_toArray, List.set_cons_zero, List.set_cons_succ]
                        refine qstep (o := ⟨some 324, _, _, _, _, _⟩) (v := ?_) (by rfl) (fun wq hSw => ?_) ?_
                        rotate_left
                        · (go_simp; try with_reducible rfl)
                        try simp only [Act.put, List.setIfInBounds_toArray, List.set_cons_zero, List.set_cons_succ]
                        refine qstep (o := ⟨some 325, _, _, _, _, _⟩) (v := .agg #[.int .u64 cN, .string cK, .int .u64 cM]) (by rfl) (fun wq hSw => ?_) ?_
                        · (have hb9 := hSw.blk H20.out (fun h => h); have v7 := hb9.cell (i := 7) rfl; clear hb9; have hb9 := hSw.blk HGW.out (fun h => h); have d1 := hb9.cell HF1.out; have d2 := hb9.cell HF2.out; have d3 := hb9.cell HF3.out; clear hb9; have hb9 := hSw.blk HGV.out (fun h => h); have e1 := hb9.cell HG1.out; have e2 := hb9.cell HG2.out; have e3 := hb9.cell HG3.out; clear hb9; go_simp; try first | (with_reducible rfl) | (simp; omega) | (intros; omega) | simp [*])
                        try simp only [Act.put, List.setIfInBounds_toArray, List.set_cons_zero, List.set_cons_succ]
                        refine qstep (o := ⟨some 326, _, _, _, _, _⟩) (v := .bool false) (by rfl) (fun wq hSw => ?_) ?_
                        · (go_simp; try first | (with_reducible rfl) | (simp; omega) | (intros; omega) | simp [*])
                        try simp only [Act.put, List.setIfInBounds_toArray, List.set_cons_zero, List.set_cons_succ]
                        refine qstep (o := ⟨some 327, _, _, _, _, _⟩) (v := .bool false) (by rfl) (fun wq hSw => ?_) ?_
                        · (go_simp; try first | (with_reducible rfl) | (simp; omega) | (intros; omega) | simp [*])
                        try simp only [Act.put, List.setIfInBounds_toArray, List.set_cons_zero, List.set_cons_succ]
                        refine wpQuiet_nil ?_
                        intro wz hHeld
                        go_wp2
                        go_roundw
                        case rel => exact ⟨k1, by have := HK11.out; omega, by go_num, HKL.out.trans hHeld (fun _ _ h => h)⟩
                        case measure => have := HK11.out; simp [intOf]; omega
                · have hltI : ¬ (k : Int) < (n : Int) := by omega
                  clear hlt
                  go_wp2
                  go_ret
                  exact ⟨rfl, (HK.out.trans HKL.out (fun _ _ h => h.elim)).below (Nat.le_refl _) (fun _ h => h)⟩

end Go.Proofs.Ythpaolhpkmgelaa
