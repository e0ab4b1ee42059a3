/-
 Package insert: the rest of what an Insert answers. Condition: none.
-/
import Derived.Test.YtjnodgebpklaoaaGreatMgRes
import Derived.Test.YtjnodgebpklaoaaGreatInIns
namespace Go.Proofs.YtjnodgebpklaoaaGreat
set_option maxHeartbeats 8000000
set_option maxRecDepth 100000
open Go.RowKit Go.Deep Plain
set_option linter.unusedVariables false

section
open Go.RowKit Go.Deep Plain
set_option linter.unusedVariables false

theorem is_rightF (F : Nat) (N fb fd : Int) (i id wd : Nat) (P X : Pg) (m : Nat) (sp : ByteArray) (lim : Nat) (Z : Nat → Prop) (w : World) (h : IAt Z w F N fb fd i id wd P X m sp lim .ful) :
  Calls Tryz.prog 22 #[.pointer (some ⟨i, 0, none⟩)] w fun e w' => e = .returned (.agg #[.int .u64 0, .int .u64 0, .int .i64 0, .slice none 0 0, .string ⟨#[]⟩, .bool false, .int .u64 0]) ∧ Kept (fun _ => False) w w' := by
 cases h with
 | ful h hi hR hA =>
  rename_i tk fr wp A c A2 c2 s0
  obtain ⟨s, hs⟩ : ∃ s, w.heap.size = s := ⟨_, rfl⟩
  have hi0 := h
  go_enter Tryz.func22, Tryz.ntmps22
  go_upto_region 1 with fail
  have hk0 := (Kept.refl (fun _ => False) w).alloc (.cells #[.int .u64 0, .int .u64 0, .int .i64 0, .slice none 0 0, .string ⟨#[]⟩, .bool false, .int .u64 0] 40)
  have HS1 := Hd (Blk.new w [.int .u64 0, .int .u64 0, .int .i64 0, .slice none 0 0, .string ⟨#[]⟩, .bool false, .int .u64 0] 40)
  have HSS := Hd (show s = w.heap.size from hs.symm)
  replace hi0 := hk0.blk hi0 (fun h => h)
  rw [hs] at HS1
  have HSZ := Hd (show s < (w.alloc (.cells #[.int .u64 0, .int .u64 0, .int .i64 0, .slice none 0 0, .string ⟨#[]⟩, .bool false, .int .u64 0] 40)).heap.size from HS1.out.lt)
  generalize w.alloc (.cells #[.int .u64 0, .int .u64 0, .int .i64 0, .slice none 0 0, .string ⟨#[]⟩, .bool false, .int .u64 0] 40) = w1 at *
  have HK := Hd hk0
  have x22 := hi0.k 22 rfl; have x24 := hi0.k 24 rfl
  clear hk0 hi0 h hs
  have hs1 := HS1.out
  obtain ⟨y0, y1, y2, y3, y4, y5, y6⟩ := hs1.c7; have z0 := hs1.frozen 0; have z1 := hs1.frozen 1; have z2 := hs1.frozen 2; have z3 := hs1.frozen 3; have z4 := hs1.frozen 4; have z5 := hs1.frozen 5; have z6 := hs1.frozen 6
  clear hs1
  go_wp2
  have hks := (((((((Kept.refl (fun k => k = s) w1).setCell (a := ⟨s, 0, none⟩) (fun _ => rfl) (.int .u64 0)).setCell (a := ⟨s, 1, none⟩) (fun _ => rfl) (.int .u64 0)).setCell (a := ⟨s, 2, none⟩) (fun _ => rfl) (.int .i64 0)).setCell (a := ⟨s, 3, none⟩) (fun _ => rfl) (.slice none 0 0)).setCell (a := ⟨s, 4, none⟩) (fun _ => rfl) (.string ⟨#[]⟩)).setCell (a := ⟨s, 5, none⟩) (fun _ => rfl) (.bool false)).setCell (a := ⟨s, 6, none⟩) (fun _ => rfl) (.int .u64 0)
  have hb0 := (((((((HS1.out).set 0 (.int .u64 0)).set 1 (.int .u64 0)).set 2 (.int .i64 0)).set 3 (.slice none 0 0)).set 4 (.string ⟨#[]⟩)).set 5 (.bool false)).set 6 (.int .u64 0)
  clear y0 z0 y1 z1 y2 z2 y3 z3 y4 z4 y5 z5 y6 z6 HS1
  generalize (((((((w1).setCell ⟨s, 0, none⟩ (.int .u64 0)).setCell ⟨s, 1, none⟩ (.int .u64 0)).setCell ⟨s, 2, none⟩ (.int .i64 0)).setCell ⟨s, 3, none⟩ (.slice none 0 0)).setCell ⟨s, 4, none⟩ (.string ⟨#[]⟩)).setCell ⟨s, 5, none⟩ (.bool false)).setCell ⟨s, 6, none⟩ (.int .u64 0) = w3 at *
  have hb : Blk w3 s 40 [.int .u64 0, .int .u64 0, .int .i64 0, .slice none 0 0, .string ⟨#[]⟩, .bool false, .int .u64 0] := hb0
  clear hb0
  have HF := Hd (show Kept (fun _ => False) w w3 from HK.out.trans hks (fun i hi h => by have h2 := HSS.out; omega))
  clear hks HK
  obtain ⟨q0, q1, q2, q3, q4, q5, q6⟩ := hb.c7
  clear hb
  refine bodyPost_ret (v := .agg #[.int .u64 0, .int .u64 0, .int .i64 0, .slice none 0 0, .string ⟨#[]⟩, .bool false, .int .u64 0]) (by simp [results, Tryz.results22, go_sem, q0, q1, q2, q3, q4, q5, q6]) rfl ⟨rfl, HF.out⟩

theorem is_right0 (F : Nat) (N fb fd : Int) (i id wd : Nat) (P X : Pg) (m : Nat) (sp : ByteArray) (lim : Nat) (Z : Nat → Prop) (w : World) (h : IAt Z w F N fb fd i id wd P X m sp lim (.don none)) :
  Calls Tryz.prog 22 #[.pointer (some ⟨i, 0, none⟩)] w fun e w' => e = .returned (.agg #[.int .u64 0, .int .u64 0, .int .i64 0, .slice none 0 0, .string ⟨#[]⟩, .bool false, .int .u64 0]) ∧ Kept (fun _ => False) w w' := by
 cases h with
 | don0 h hw hi hz =>
  rename_i q2 tk Zw A c A2 c2
  obtain ⟨s, hs⟩ : ∃ s, w.heap.size = s := ⟨_, rfl⟩
  have hi0 := h
  go_enter Tryz.func22, Tryz.ntmps22
  go_upto_region 1 with fail
  have hk0 := (Kept.refl (fun _ => False) w).alloc (.cells #[.int .u64 0, .int .u64 0, .int .i64 0, .slice none 0 0, .string ⟨#[]⟩, .bool false, .int .u64 0] 40)
  have HS1 := Hd (Blk.new w [.int .u64 0, .int .u64 0, .int .i64 0, .slice none 0 0, .string ⟨#[]⟩, .bool false, .int .u64 0] 40)
  have HSS := Hd (show s = w.heap.size from hs.symm)
  replace hi0 := hk0.blk hi0 (fun h => h)
  rw [hs] at HS1
  have HSZ := Hd (show s < (w.alloc (.cells #[.int .u64 0, .int .u64 0, .int .i64 0, .slice none 0 0, .string ⟨#[]⟩, .bool false, .int .u64 0] 40)).heap.size from HS1.out.lt)
  generalize w.alloc (.cells #[.int .u64 0, .int .u64 0, .int .i64 0, .slice none 0 0, .string ⟨#[]⟩, .bool false, .int .u64 0] 40) = w1 at *
  have HK := Hd hk0
  have x22 := hi0.k 22 rfl; have x24 := hi0.k 24 rfl
  clear hk0 hi0 h hs
  have hs1 := HS1.out
  obtain ⟨y0, y1, y2, y3, y4, y5, y6⟩ := hs1.c7; have z0 := hs1.frozen 0; have z1 := hs1.frozen 1; have z2 := hs1.frozen 2; have z3 := hs1.frozen 3; have z4 := hs1.frozen 4; have z5 := hs1.frozen 5; have z6 := hs1.frozen 6
  clear hs1
  go_wp2
  have hks := (((((((Kept.refl (fun k => k = s) w1).setCell (a := ⟨s, 0, none⟩) (fun _ => rfl) (.int .u64 0)).setCell (a := ⟨s, 1, none⟩) (fun _ => rfl) (.int .u64 0)).setCell (a := ⟨s, 2, none⟩) (fun _ => rfl) (.int .i64 0)).setCell (a := ⟨s, 3, none⟩) (fun _ => rfl) (.slice none 0 0)).setCell (a := ⟨s, 4, none⟩) (fun _ => rfl) (.string ⟨#[]⟩)).setCell (a := ⟨s, 5, none⟩) (fun _ => rfl) (.bool false)).setCell (a := ⟨s, 6, none⟩) (fun _ => rfl) (.int .u64 0)
  have hb0 := (((((((HS1.out).set 0 (.int .u64 0)).set 1 (.int .u64 0)).set 2 (.int .i64 0)).set 3 (.slice none 0 0)).set 4 (.string ⟨#[]⟩)).set 5 (.bool false)).set 6 (.int .u64 0)
  clear y0 z0 y1 z1 y2 z2 y3 z3 y4 z4 y5 z5 y6 z6 HS1
  generalize (((((((w1).setCell ⟨s, 0, none⟩ (.int .u64 0)).setCell ⟨s, 1, none⟩ (.int .u64 0)).setCell ⟨s, 2, none⟩ (.int .i64 0)).setCell ⟨s, 3, none⟩ (.slice none 0 0)).setCell ⟨s, 4, none⟩ (.string ⟨#[]⟩)).setCell ⟨s, 5, none⟩ (.bool false)).setCell ⟨s, 6, none⟩ (.int .u64 0) = w3 at *
  have hb : Blk w3 s 40 [.int .u64 0, .int .u64 0, .int .i64 0, .slice none 0 0, .string ⟨#[]⟩, .bool false, .int .u64 0] := hb0
  clear hb0
  have HF := Hd (show Kept (fun _ => False) w w3 from HK.out.trans hks (fun i hi h => by have h2 := HSS.out; omega))
  clear hks HK
  obtain ⟨q0, q1, q2, q3, q4, q5, q6⟩ := hb.c7
  clear hb
  refine bodyPost_ret (v := .agg #[.int .u64 0, .int .u64 0, .int .i64 0, .slice none 0 0, .string ⟨#[]⟩, .bool false, .int .u64 0]) (by simp [results, Tryz.results22, go_sem, q0, q1, q2, q3, q4, q5, q6]) rfl ⟨rfl, HF.out⟩

theorem new_startG (F : Nat) (fb fd : Int) (id wd lim Nv : Nat) (P : Pg) (A : Option Addr) (c : Nat) (key : ByteArray) (ref m : Nat) (sp : ByteArray) (l0 : List Cel) (w : World) (O : Iok F (lim : Int) fb fd id wd P (npg P key ref) m sp lim Nv l0 ⟨#[]⟩ 0) (hR : Rs w A c P.xs) (ha : Asc P.xs) (hk : has key P.xs = false) :
  Calls Tryz.prog 18 #[.agg #[.int .i64 1, .int .i64 2, .int .i64 (lim : Int), .int .i64 100, .int .i64 200, .int .i64 (F : Int), .int .u64 1000, .int .i64 10, .int .i64 fb, .int .i64 fd], .agg #[.int .u64 (id : Int), .int .u64 (wd : Int), .int .i64 (P.lv : Int), .slice A P.xs.length c, .string P.hi, .bool P.la, .int .u64 (P.rt : Int)], .string key, .int .u64 (ref : Int)] w fun e w' => ∃ (i : Nat) (Z : Nat → Prop) (s : Is) (d : Nat), e = .returned (.pointer (some ⟨i, 0, none⟩)) ∧ IAt Z w' F (lim : Int) fb fd i id wd P (npg P key ref) m sp lim s ∧ Ipl F (lim : Int) id wd P (npg P key ref) m sp lim Nv l0 ⟨#[]⟩ 0 s l0 d ∧ s.two = decide (F < (npg P key ref).xs.length) ∧ 0 < d ∧ (∀ j, Z j → w.heap.size ≤ j ∧ j < w'.heap.size) ∧ Kept (fun _ => False) w w' := by
 have hw0 := wrsN_len (F := F) (N := (lim : Int)) (id := id) (wd := wd) P (npg P key ref)
 by_cases hf : F < (npg P key ref).xs.length
 ·refine (newInsert_take (lim : Int) F fb fd O.lim O.reach id wd P A c key ref lim w (by have := O.pl; omega) O.plv O.word rfl hR ha hk hf).mono ?_
  rintro e w' ⟨i, q, A1, c1, A2, c2, rfl, hI, hQ, hR1, hR2, hGE, hK⟩
  obtain ⟨d, hd, hIp⟩ : ∃ d, 0 < d ∧ Ipl F (lim : Int) id wd P (npg P key ref) m sp lim Nv l0 ⟨#[]⟩ 0 (.tak false 0 ⟨#[]⟩ 0) l0 d := by
   by_cases hv : Nv < lim
   ·exact ⟨_, by omega, .tak0 hv⟩
   ·exact ⟨1, by omega, .none (by omega)⟩
  refine ⟨i, fun j => w.heap.size ≤ j ∧ j < w'.heap.size, _, d, rfl, IAt.tak hI hQ ⟨by omega, hI.lt⟩ ⟨by omega, hQ.lt⟩ (by omega) hR1 hR2 (fun a ha hp => ?_) (fun a ha => ?_), hIp, by simp [Is.two, hf], hd, fun j hj => hj, hK⟩
  ·obtain ⟨g9, o9, e9, h9, -⟩ := hR1.at hp
   have h1 := hGE.2.2.1 a ha hp
   rw [e9] at ha; cases ha
   exact ⟨⟨h1.1, h9⟩, h1.2.1, h1.2.2⟩
  ·obtain ⟨g9, o9, e9, h9, -⟩ := hR2.at (by rw [npg_length]; omega)
   have h1 := hGE.2.2.2 a ha
   rw [e9] at ha; cases ha
   exact ⟨⟨h1.1, h9⟩, h1.2.1, h1.2.2⟩
 ·refine (newInsert_write (lim : Int) F fb fd O.lim O.reach id wd P A c key ref lim w (by have := O.pl; omega) O.plv O.word rfl hR ha hk (by omega)).mono ?_
  rintro e w' ⟨i, q, Zw, A1, c1, A2, c2, rfl, hI, hS, hGE, hK⟩
  have hI0 := Ipl.wri0 (F := F) (N := (lim : Int)) (id := id) (wd := wd) (P := P) (X := (npg P key ref)) (m := m) (sp := sp) (lim := lim) (Nv := Nv) (l0 := l0) (K := ⟨#[]⟩) (M := 0) (j := 0) (by omega)
  rw [List.take_zero, app_nil] at hI0
  exact ⟨i, fun j => j = i ∨ Zw j, _, _, rfl, IAt.wri0 hI hS (.inl rfl) (fun k hk => ⟨.inr hk, (hGE.2 k hk).2⟩), hI0, by simp [Is.two, hf], by omega, fun j hj => by
   rcases hj with hj | hj
   ·rw [hj]; exact ⟨hGE.1, hI.lt⟩
   ·exact ⟨(hGE.2 j hj).1, hS.lt j hj⟩, hK⟩
end
end Go.Proofs.YtjnodgebpklaoaaGreat
