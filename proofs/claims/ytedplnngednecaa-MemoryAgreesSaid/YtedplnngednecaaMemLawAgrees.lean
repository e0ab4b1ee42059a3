/-
  The statement of layer 2 'every call of a sequence returns what a list of cells returns; just Load, Store and Swap are counted; a copy keeps its contents': it returns true for every two numbers and every list of calls; nothing that was there is written. Condition: the list within the model's reach.
-/
import Derived.Test.YtedplnngednecaaMemAgreesParts
import Derived.Deep.RegionHeld3
import Derived.Deep.DeepCutAuto
namespace Go.Proofs.Ytedplnngednecaa
open Go.RowKit Go.Deep

theorem keep8 {W w' : World} {g o : Nat} {a b c d e f x y : Value} (hk : Kept (fun _ => False) W w') (hr : g < W.heap.size) (h : W.cell? ⟨g, o, none⟩ = some a ∧ W.cell? ⟨g, o + 1, none⟩ = some b ∧ W.cell? ⟨g, o + 2, none⟩ = some c ∧ W.cell? ⟨g, o + 3, none⟩ = some d ∧
      W.cell? ⟨g, o + 4, none⟩ = some e ∧ W.cell? ⟨g, o + 5, none⟩ = some f ∧ W.cell? ⟨g, o + 6, none⟩ = some x ∧ W.cell? ⟨g, o + 7, none⟩ = some y) :
    w'.cell? ⟨g, o, none⟩ = some a ∧ w'.cell? ⟨g, o + 1, none⟩ = some b ∧ w'.cell? ⟨g, o + 2, none⟩ = some c ∧ w'.cell? ⟨g, o + 3, none⟩ = some d ∧
      w'.cell? ⟨g, o + 4, none⟩ = some e ∧ w'.cell? ⟨g, o + 5, none⟩ = some f ∧ w'.cell? ⟨g, o + 6, none⟩ = some x ∧ w'.cell? ⟨g, o + 7, none⟩ = some y :=
  ⟨(hk.cell (p := ⟨g, _, none⟩) hr id).trans h.1, (hk.cell (p := ⟨g, _, none⟩) hr id).trans h.2.1, (hk.cell (p := ⟨g, _, none⟩) hr id).trans h.2.2.1, (hk.cell (p := ⟨g, _, none⟩) hr id).trans h.2.2.2.1,
   (hk.cell (p := ⟨g, _, none⟩) hr id).trans h.2.2.2.2.1, (hk.cell (p := ⟨g, _, none⟩) hr id).trans h.2.2.2.2.2.1, (hk.cell (p := ⟨g, _, none⟩) hr id).trans h.2.2.2.2.2.2.1, (hk.cell (p := ⟨g, _, none⟩) hr id).trans h.2.2.2.2.2.2.2⟩
theorem keep3 {W w' : World} {r : Nat} {a b c : Value} (hk : Kept (fun _ => False) W w') (hr : r < W.heap.size) (h : W.cell? ⟨r, 0, none⟩ = some a ∧ W.cell? ⟨r, 1, none⟩ = some b ∧ W.cell? ⟨r, 2, none⟩ = some c) :
    w'.cell? ⟨r, 0, none⟩ = some a ∧ w'.cell? ⟨r, 1, none⟩ = some b ∧ w'.cell? ⟨r, 2, none⟩ = some c :=
  ⟨(hk.cell (p := ⟨r, 0, none⟩) hr id).trans h.1, (hk.cell (p := ⟨r, 1, none⟩) hr id).trans h.2.1, (hk.cell (p := ⟨r, 2, none⟩) hr id).trans h.2.2⟩

set_option maxRecDepth 100000 in
set_option maxHeartbeats 1000000 in
theorem lawAgrees_long (cells copyAt : Int) (A : Option Addr) (n c : Nat) (w : World) (hn : 100 < n) (hm : n ≤ maxLen) :
    Calls Try.prog 4 #[.int .i64 cells, .slice A n c, .int .i64 copyAt] w fun e w' => e = .returned (.bool true) ∧ Below w.heap.size w w' := by
  unfold maxLen at hm
  go_enter Try.func4, Try.ntmps4
  go_wp2_with fail
  refine (awake_any _).mono ?_; rintro e w5 ⟨rfl, hK5⟩
  have HK5 := Lib.hid hK5
  clear hK5
  go_wp2
  go_ret
  exact ⟨rfl, HK5.out.below (Nat.le_refl _) (fun _ h => h.elim)⟩

set_option maxRecDepth 100000 in
set_option maxHeartbeats 8000000 in
theorem lawAgrees (w : World) (cells copyAt : Int) (A : Option Addr) (c : Nat) (ls : List Cal) (hn : ls.length ≤ 100)
    (hA : 0 < ls.length → ∃ g off, A = some ⟨g, off, none⟩ ∧ g < w.heap.size ∧ ∀ (i : Nat) (c : Cal), ls[i]? = some c →
        w.cell? ⟨g, off + i * 8, none⟩ = some (.int .i64 c.kind) ∧ w.cell? ⟨g, off + i * 8 + 1, none⟩ = some (.int .i64 c.pos) ∧ w.cell? ⟨g, off + i * 8 + 2, none⟩ = some (.int .u64 c.old) ∧
        w.cell? ⟨g, off + i * 8 + 3, none⟩ = some (.int .u64 c.cel.1) ∧ w.cell? ⟨g, off + i * 8 + 4, none⟩ = some (.string c.cel.2.1) ∧ w.cell? ⟨g, off + i * 8 + 5, none⟩ = some (.int .u64 c.cel.2.2) ∧
        w.cell? ⟨g, off + i * 8 + 6, none⟩ = some (.bool c.raw) ∧ w.cell? ⟨g, off + i * 8 + 7, none⟩ = some (.bool c.fit)) :
    Calls Try.prog 4 #[.int .i64 cells, .slice A ls.length c, .int .i64 copyAt] w fun e w' => e = .returned (.bool true) ∧ Below w.heap.size w w' := by
  obtain ⟨i0, hi, hz0, hz1, hz2⟩ := info_parts Try.info32
  obtain ⟨s, hs, hs2⟩ := mod_ex cells 8 (by omega)
  obtain ⟨r, hr, hr2⟩ := mod_ex copyAt 60 (by omega)
  have HS := Lib.hid hs
  have HR := Lib.hid hr
  obtain ⟨n, hnn⟩ : ∃ n : Nat, (1 : Int) + s = n := ⟨1 + s, by omega⟩
  have hs8 : s < 8 := by omega
  have hr60 : r < 60 := by omega
  have hn1 : 1 ≤ n ∧ n ≤ 8 := by omega
  obtain ⟨hn1, hn8⟩ := hn1
  have HN := Lib.hid hnn
  have HA := Lib.hid hA
  have hmk := make_cells n (by omega)
  clear hs hr hnn hs2 hr2 hA
  go_enter Try.func4, Try.ntmps4
  go_wp2_with fail
  refine (mod_of _ _ s _ (by omega) (by omega) HS.out).mono ?_; rintro e w2 ⟨rfl, rfl⟩
  go_wp2_with fail
  rw [HN.out]
  refine (new_of _ n _ rfl (by omega) (by omega)).mono ?_; rintro e w3 ⟨rfl, hM3, hK3⟩
  have HM3 := Lib.hid hM3
  have HK3 := Lib.hid hK3
  clear hM3 hK3
  go_wp2_with fail
  refine (awake_any _).mono ?_; rintro e w4 ⟨rfl, hK4⟩
  have HM4 := Lib.hid (HM3.out.kept hK4 id id)
  have HK4 := Lib.hid (HK3.out.trans hK4 (fun _ _ h => h))
  have hz4 : w.heap.size + 1 < w4.heap.size := HM4.out.obj.lt
  clear hK4 HK3 HM3
  obtain ⟨gl, hgl⟩ : ∃ gl, gl = w4.heap.size := ⟨_, rfl⟩
  go_wp2_with fail
  have h0 : Agr w (w4.alloc (.cells (flat3 (List.replicate n cel0)).toArray 32)) gl n 0 0 (List.replicate n cel0) (.pointer none) (.slice none 0 0) (.int .u64 0) :=
    ⟨by simp, by omega, HM4.out.alloc _, by rw [hgl]; exact Blk.new w4 _ _, .inl ⟨rfl, rfl, rfl⟩, HK4.out.alloc _⟩
  have H0 := Lib.hid h0
  rw [← hgl]
  rw [← hgl] at hz4
  clear h0 HM4 HK4 hgl
  go_loopw [11, 12, 13, 14, 15] (fun cs o v oc i wr => ∃ (k cnt : Nat) (L : List Cel), k ≤ ls.length ∧ i = .int .i64 k ∧ cs = .int .u64 cnt ∧ Agr w wr gl n k cnt L o v oc) (fun _ _ _ _ i _ => ls.length - (intOf i).toNat)
  case atStart => exact ⟨0, 0, _, by omega, rfl, rfl, H0.out⟩
  case round =>
    obtain ⟨k, cnt, L, hk, rfl, rfl, hA⟩ := hrel
    have HG := Lib.hid hA
    clear hA
    by_cases hlt : k < ls.length
    · go_upto_if 54 with (go_at_call 8; refine (mod_of _ _ r _ (by omega) (by omega) HR.out).mono ?_; rintro e w' ⟨rfl, rfl⟩)
      go_cut [12, 13, 14] (fun o v oc wx => Agr w wx gl n k cnt L o v oc)
      case first =>
        by_cases hkr : k = r
        · have h1 : ((k : Int) == (r : Int)) = true := by rw [hkr]; simp
          clear hkr
          have hll := HG.out.ll
          go_wp2_with fail
          refine (copy_any _ _ _ _ _ HG.out.mem (by omega)).mono ?_; rintro e w5 ⟨rfl, hM5, hK5⟩
          have HM5 := Lib.hid hM5
          have HK5 := Lib.hid hK5
          have hrow := hK5.blk HG.out.row id
          have HROW := Lib.hid hrow
          have hglr := HG.out.row.lt
          have hb5 := hM5.obj.lt
          clear hM5 hK5 hrow
          go_wp2_with (at_builtin; go_must (refine wpList_append_own _ rfl (.const (.slice none 0 0)) (.tmp 57) 36 rfl w5.heap.size 32 i0 _ 3 32 Try.underlying36 hi hz0 hz1 hz2 rfl (by decide) _ 0 [] rfl (World.ownsRow_nil _ _ _ _) ⟨gl, 0, none⟩ n n (flat3 L) rfl ?a1 ?b1 ?c1 ?d1 ?e1 ?f1 ?_))
          try case a1 => rw [flat3_length, hll]
          try case b1 => exact fun j u hu => by rw [Addr.add_lit, Nat.zero_add]; exact HROW.out.cell hu
          try case c1 => exact flat3_one L
          try case d1 => unfold maxLen; omega
          try case e1 => omega
          try case f1 => exact Nat.le_refl _
          intro v6 w6 hown6 hgr6 _
          obtain ⟨gv, cap, rfl, hv1, hv2, hv3⟩ := own_slice hown6 (by omega)
          have hK6 : Kept (fun _ => False) w5 w6 := (Kept.refl _ _).grown hgr6 (fun k hk => by simp [Value.ownBlock] at hk)
          have HNEW := Lib.hid (HG.out.saved (cap := cap) (HK5.out.trans hK6 (fun _ _ h => h)) (HM5.out.kept hK6 id id) (by omega) (by omega) (by omega) hv2 hv3)
          clear hown6 hgr6 hv1 hv2 hv3 hK6 HM5 HK5 HROW HG
          go_wp2
          go_meet
          exact HNEW.out
        · have h1 : ((k : Int) == (r : Int)) = false := by rw [beq_eq_false_iff_ne]; omega
          clear hkr
          go_wp2
          go_meet
          exact HG.out
      case rest =>
        have HG := Lib.hid hcut
        clear hcut
        rename World => W1
        obtain ⟨g0, off, rfl, hg0, hcell⟩ := HA.out (by omega)
        obtain ⟨x, hx⟩ : ∃ x, ls[k]? = some x := ⟨_, List.getElem?_eq_getElem (by omega)⟩
        obtain ⟨f0, f1, f2, f3, f4, f5, f6, f7⟩ := hcell k x hx
        obtain ⟨i, hi19⟩ : ∃ i, x.at n = i := ⟨_, rfl⟩
        have HI := Lib.hid hi19
        obtain ⟨kind, pos, old, ⟨cN, cK, cM⟩, raw, fit⟩ := x
        have hkk := HG.out.kept
        have hgc : g0 < W1.heap.size := Nat.lt_of_lt_of_le hg0 hkk.size
        have c0 := (hkk.cell (p := ⟨g0, _, none⟩) hg0 id).trans f0
        have c1 := (hkk.cell (p := ⟨g0, _, none⟩) hg0 id).trans f1
        have c2 := (hkk.cell (p := ⟨g0, _, none⟩) hg0 id).trans f2
        have c3 := (hkk.cell (p := ⟨g0, _, none⟩) hg0 id).trans f3
        have c4 := (hkk.cell (p := ⟨g0, _, none⟩) hg0 id).trans f4
        have c5 := (hkk.cell (p := ⟨g0, _, none⟩) hg0 id).trans f5
        have c6 := (hkk.cell (p := ⟨g0, _, none⟩) hg0 id).trans f6
        have c7 := (hkk.cell (p := ⟨g0, _, none⟩) hg0 id).trans f7
        simp only at c0 c1 c2 c3 c4 c5 c6 c7
        clear f0 f1 f2 f3 f4 f5 f6 f7 hkk hcell hx hi19
        go_upto_region 19 with fail
        go_cut [16, 17] (fun s16 s17 wx => ∃ rc, s16 = .pointer (some ⟨rc, 0, none⟩) ∧ s17 = .int .i64 i ∧ Blk wx rc 39 [.int .i64 kind, .int .i64 pos, .int .u64 old, .int .u64 cN, .string cK, .int .u64 cM, .bool raw, .bool fit] ∧ Kept (fun _ => False) W1 wx ∧ W1.heap.size ≤ rc)
        case first =>
          go_region_held3 (fun w' => w'.cell? ⟨g0, off + k * 8, none⟩ = some (.int .i64 kind) ∧ w'.cell? ⟨g0, off + k * 8 + 1, none⟩ = some (.int .i64 pos) ∧ w'.cell? ⟨g0, off + k * 8 + 2, none⟩ = some (.int .u64 old) ∧ w'.cell? ⟨g0, off + k * 8 + 3, none⟩ = some (.int .u64 cN) ∧ w'.cell? ⟨g0, off + k * 8 + 4, none⟩ = some (.string cK) ∧ w'.cell? ⟨g0, off + k * 8 + 5, none⟩ = some (.int .u64 cM) ∧ w'.cell? ⟨g0, off + k * 8 + 6, none⟩ = some (.bool raw) ∧ w'.cell? ⟨g0, off + k * 8 + 7, none⟩ = some (.bool fit))
            ((refine keep8 ?_ hgc ⟨c0, c1, c2, c3, c4, c5, c6, c7⟩; repeat (first | with_reducible refine Kept.alloc ?_ _ | with_reducible refine Kept.drew ?_ | with_reducible exact Kept.refl _ _)))
            (first | (go_at_call 15; refine (at_any ⟨kind, pos, old, (cN, cK, cM), raw, fit⟩ n _ (by omega) i HI.out).mono ?_; rintro e w9 ⟨rfl, rfl⟩))
          · go_wp2_with fail
            go_meet
            exact ⟨W1.heap.size + 1, rfl, rfl, (by have := Blk.new (W1.alloc (.cells #[.int .i64 kind, .int .i64 pos, .int .u64 old, .int .u64 cN, .string cK, .int .u64 cM, .bool raw, .bool fit] 39)) [.int .i64 kind, .int .i64 pos, .int .u64 old, .int .u64 cN, .string cK, .int .u64 cM, .bool raw, .bool fit] 39; rwa [nblk_alloc] at this), ((((Kept.refl _ _).alloc _).alloc _).drew), Nat.le_succ _⟩
          · go_wp2_with fail
            go_meet
            exact ⟨W1.heap.size, rfl, rfl, (Blk.new W1 [.int .i64 kind, .int .i64 pos, .int .u64 old, .int .u64 cN, .string cK, .int .u64 cM, .bool raw, .bool fit] 39).alloc _, ((((Kept.refl _ _).alloc _).alloc _).drew), Nat.le_refl _⟩
        case rest =>
          obtain ⟨rc, rfl, rfl, hrc, hkc, hrc2⟩ := hcut
          rename World => W2
          have hG := HG.out.same hkc
          have hrcg : gl < rc := Nat.lt_of_lt_of_le HG.out.row.lt hrc2
          clear HG c0 c1 c2 c3 c4 c5 c6 c7 hgc hkc hrc2
          have HG := Lib.hid hG
          have HRC := Lib.hid hrc
          obtain ⟨lim, hlim⟩ : ∃ lim, lim = L.length := ⟨_, rfl⟩
          have hll : lim = n := hlim.trans hG.ll
          have HLIM := Lib.hid hlim
          clear hG hrc hlim
          go_upto_region 20 with fail
          go_cut [18] (fun s18 wx => s18 = .bool (isIn L i) ∧ wx = W2)
          case first =>
            have hb : isIn L i = decide (0 ≤ i ∧ i < (n : Int)) := by unfold isIn; rw [← HLIM.out, hll]
            by_cases h0 : 0 ≤ i
            · by_cases h1 : i < (n : Int)
              · have hb' : Hid (Value.bool true = .bool (isIn L i)) := Lib.hid (by rw [hb]; simp [h0, h1])
                clear hb
                go_wp2
                go_meet
                exact ⟨hb'.out, rfl⟩
              · have hb' : Hid (Value.bool false = .bool (isIn L i)) := Lib.hid (by rw [hb]; simp [h1])
                have h2 : decide (i < (n : Int)) = false := by simpa using h1
                clear hb
                go_wp2
                go_meet
                exact ⟨hb'.out, rfl⟩
            · have hb' : Hid (Value.bool false = .bool (isIn L i)) := Lib.hid (by rw [hb]; simp [h0])
              have h2 : decide (0 ≤ i) = false := by simpa using h0
              clear hb
              go_wp2
              go_meet
              exact ⟨hb'.out, rfl⟩
          case rest =>
            obtain ⟨rfl, rfl⟩ := hcut
            rename World => wc
            have hrc := HRC.out
            have hrcl := hrc.lt
            have hgl1 : w.heap.size + 1 < gl := hz4
            have c0 := hrc.cell (i := 0) rfl
            have c1 := hrc.cell (i := 1) rfl
            have c2 := hrc.cell (i := 2) rfl
            have c3 := hrc.cell (i := 3) rfl
            have c4 := hrc.cell (i := 4) rfl
            have c5 := hrc.cell (i := 5) rfl
            have c6 := hrc.cell (i := 6) rfl
            have c7 := hrc.cell (i := 7) rfl
            obtain ⟨kd, hkd, hkd2⟩ := mod_ex kind 5 (by omega)
            have hkd5 : kd < 5 := by omega
            have HKD := Lib.hid hkd
            clear hkd hkd2 HRC
            cases hb : isIn L i
            · have HIN := Lib.hid hb
              clear hb
              have HOUT : Hid (i < 0 ∨ (L.length : Int) ≤ i) := Lib.hid (by
                have := HIN.out
                unfold isIn at this
                simp at this
                omega)
              obtain ⟨aN, aK, aM, h1, h2, h3⟩ : ∃ (aN : Int) (aK : ByteArray) (aM : Int), aN = 0 ∧ aK = ⟨#[]⟩ ∧ aM = 0 := ⟨_, _, _, rfl, rfl, rfl⟩
              have HCA : Hid (cellAt L i = (aN, aK, aM)) := Lib.hid (by rw [cellAt_out L i (by have := HOUT.out; omega), h1, h2, h3]; rfl)
              have HZ := Lib.hid (And.intro h1 (And.intro h2 h3))
              clear h1 h2 h3
              go_wp2_with fail

              have hN8 := Blk.new wc [.int .u64 0, .string ⟨#[]⟩, .int .u64 0] 32
              have hB8 := hrc.alloc (.cells #[.int .u64 0, .string ⟨#[]⟩, .int .u64 0] 32)
              have hG8 := HG.out.same ((Kept.refl (fun _ => False) wc).alloc (.cells #[.int .u64 0, .string ⟨#[]⟩, .int .u64 0] 32))
              have hrn := hN8.lt
              have hrn2 : gl < wc.heap.size := HG.out.row.lt
              clear c0 c1 c2 c3 c4 c5 c6 c7
              generalize wc.alloc (.cells #[.int .u64 0, .string ⟨#[]⟩, .int .u64 0] 32) = w8 at *
              generalize wc.heap.size = rn at *
              have HG8 := Lib.hid hG8
              have HB8 := Lib.hid hB8
              have x0 := hN8.cell (i := 0) rfl
              have x1 := hN8.cell (i := 1) rfl
              have x2 := hN8.cell (i := 2) rfl
              rw [← HZ.out.1] at x0; rw [← HZ.out.2.1] at x1; rw [← HZ.out.2.2] at x2
              have c0 := hB8.cell (i := 0) rfl
              have c2 := hB8.cell (i := 2) rfl
              have c3 := hB8.cell (i := 3) rfl
              have c4 := hB8.cell (i := 4) rfl
              have c5 := hB8.cell (i := 5) rfl
              have c7 := hB8.cell (i := 7) rfl
              clear hG8 hB8 hN8 hrc HG
              rcases (by omega : kd = 0 ∨ kd = 1 ∨ kd = 2 ∨ kd = 3 ∨ kd = 4) with rfl | rfl | rfl | rfl | rfl
              all_goals (refine (mod_of _ _ _ _ (by omega) (by omega) HKD.out).mono ?_; rintro e w5 ⟨rfl, rfl⟩)
              · skip
                have hcl := HG8.out.cl
                go_wp2_with fail
                go_region_held3 (fun w' => w'.cell? ⟨rn, 0, none⟩ = some (.int .u64 aN) ∧ w'.cell? ⟨rn, 1, none⟩ = some (.string aK) ∧ w'.cell? ⟨rn, 2, none⟩ = some (.int .u64 aM))
                  (first | with_reducible exact ⟨x0, x1, x2⟩ | with_reducible exact keep3o (Kept.refl (fun _ => False) _).drew not_false hrn ⟨x0, x1, x2⟩ | with_reducible exact keep3o hK9.ofDrew (by unfold Own; omega) hrn ⟨x0, x1, x2⟩)
                  (first | (go_at_call 12; refine (load_any _ _ L cnt _ _ _ _ _ (by first | exact HG8.out.mem.drew | exact HG8.out.mem) (by omega) HCA.out).mono ?_; rintro e w9 ⟨rfl, hM9, hK9⟩))
                have HK9 := Lib.hid (hK9.ofDrew.mono (T := Three w.heap.size gl) (fun i h => by unfold Own at h; unfold Three; omega))
                have HM9 := Lib.hid hM9
                have HRW := Lib.hid (hK9.ofDrew.blk HG8.out.row (by unfold Own; omega))
                clear hM9 hK9 c0 c2 c3 c4 c5 c7 x0 x1 x2
                have HGE := Lib.hid (HG8.out.go (k' := k + 1) hgl1 HK9.out HM9.out HRW.out HG8.out.ll (by omega))
                go_wp2_with fail
                refine (accesses_any _ _ _ _ _ HGE.out.mem).mono ?_; rintro e w11 ⟨rfl, rfl⟩
                go_wp2
                go_roundw
                case rel => exact ⟨k + 1, cnt + 1, L, by omega, by go_num, by go_num, HGE.out⟩
                case measure => simp [intOf]; omega
              · skip
                have hcl := HG8.out.cl
                go_wp2_with fail
                refine (store_any _ _ L cnt _ _ _ _ _ HG8.out.mem (by omega)).mono ?_; rw [putAt_out L i _ (by have := HOUT.out; omega)]; rintro e w9 ⟨rfl, hM9, hK9⟩
                have HMW := Lib.hid hM9
                have HK9 := Lib.hid (hK9.mono (T := Three w.heap.size gl) (fun i h => by unfold Own at h; unfold Three; omega))
                have HRW := Lib.hid (hK9.blk HG8.out.row (by unfold Own; omega))
                have HBC := Lib.hid (hK9.blk HB8.out (by unfold Own; omega))
                have x0 := (keep3o hK9 (by unfold Own; omega) hrn ⟨x0, x1, x2⟩).1
                clear hM9 hK9 c0 c2 c3 c4 c5 c7 x1 x2
                have HGE := Lib.hid (HG8.out.go (k' := k + 1) hgl1 HK9.out HMW.out HRW.out HG8.out.ll (by have := HG8.out.cl; omega))
                go_wp2_with fail
                refine (accesses_any _ _ _ _ _ HGE.out.mem).mono ?_; rintro e w11 ⟨rfl, rfl⟩
                go_wp2
                go_roundw
                case rel => exact ⟨k + 1, (cnt + 1), L, by omega, by go_num, by go_num, HGE.out⟩
                case measure => simp [intOf]; omega
              · skip
                have hcl := HG8.out.cl
                cases fit
                · skip
                  go_wp2_with fail
                  refine (swap_of _ _ L L cnt _ old _ _ _ false _ HG8.out.mem (by omega) (swaps_out L i old HIN.out) rfl).mono ?_; rintro e w9 ⟨rfl, hM9, hK9⟩
                  have HMW := Lib.hid hM9
                  have HK9 := Lib.hid (hK9.mono (T := Three w.heap.size gl) (fun i h => by unfold Own at h; unfold Three; omega))
                  have HRW := Lib.hid (hK9.blk HG8.out.row (by unfold Own; omega))
                  have HBC := Lib.hid (hK9.blk HB8.out (by unfold Own; omega))
                  have x0 := (keep3o hK9 (by unfold Own; omega) hrn ⟨x0, x1, x2⟩).1
                  clear hM9 hK9 c0 c2 c3 c4 c5 c7 x1 x2
                  have HGE := Lib.hid (HG8.out.go (k' := k + 1) hgl1 HK9.out HMW.out HRW.out HG8.out.ll (by have := HG8.out.cl; omega))
                  go_wp2_with fail
                  refine (accesses_any _ _ _ _ _ HGE.out.mem).mono ?_; rintro e w11 ⟨rfl, rfl⟩
                  go_wp2
                  go_roundw
                  case rel => exact ⟨k + 1, (cnt + 1), L, by omega, by go_num, by go_num, HGE.out⟩
                  case measure => simp [intOf]; omega
                · skip
                  go_wp2_with fail
                  refine (swap_of _ _ L L cnt _ aN _ _ _ false _ HG8.out.mem (by omega) (swaps_out L i aN HIN.out) rfl).mono ?_; rintro e w9 ⟨rfl, hM9, hK9⟩
                  have HMW := Lib.hid hM9
                  have HK9 := Lib.hid (hK9.mono (T := Three w.heap.size gl) (fun i h => by unfold Own at h; unfold Three; omega))
                  have HRW := Lib.hid (hK9.blk HG8.out.row (by unfold Own; omega))
                  have HBC := Lib.hid (hK9.blk HB8.out (by unfold Own; omega))
                  have x0 := (keep3o hK9 (by unfold Own; omega) hrn ⟨x0, x1, x2⟩).1
                  clear hM9 hK9 c0 c2 c3 c4 c5 c7 x1 x2
                  have HGE := Lib.hid (HG8.out.go (k' := k + 1) hgl1 HK9.out HMW.out HRW.out HG8.out.ll (by have := HG8.out.cl; omega))
                  go_wp2_with fail
                  refine (accesses_any _ _ _ _ _ HGE.out.mem).mono ?_; rintro e w11 ⟨rfl, rfl⟩
                  go_wp2
                  go_roundw
                  case rel => exact ⟨k + 1, (cnt + 1), L, by omega, by go_num, by go_num, HGE.out⟩
                  case measure => simp [intOf]; omega
              · skip
                go_wp2_with fail
                go_region_held3 (fun w' => w'.cell? ⟨rn, 0, none⟩ = some (.int .u64 aN) ∧ w'.cell? ⟨rn, 1, none⟩ = some (.string aK) ∧ w'.cell? ⟨rn, 2, none⟩ = some (.int .u64 aM))
                  (first | with_reducible exact ⟨x0, x1, x2⟩ | with_reducible exact keep3o (Kept.refl (fun _ => False) _).drew not_false hrn ⟨x0, x1, x2⟩ | with_reducible exact keep3o hK9.ofDrew not_false hrn ⟨x0, x1, x2⟩)
                  (first | (go_at_call 13; refine (peek_any _ _ L cnt _ _ _ _ _ (by first | exact HG8.out.mem.drew | exact HG8.out.mem) HCA.out).mono ?_; rintro e w9 ⟨rfl, hK9⟩))
                have HK9 := Lib.hid hK9.ofDrew
                clear hK9 c0 c2 c3 c4 c5 c7 x0 x1 x2
                have HGE := Lib.hid ((HG8.out.same HK9.out).next)
                go_wp2_with fail
                refine (accesses_any _ _ _ _ _ HGE.out.mem).mono ?_; rintro e w11 ⟨rfl, rfl⟩
                go_wp2
                go_roundw
                case rel => exact ⟨k + 1, cnt, L, by omega, by go_num, rfl, HGE.out⟩
                case measure => simp [intOf]; omega
              · skip
                have hcl := HG8.out.cl
                go_wp2_with fail
                refine (poke_any _ _ L cnt _ _ _ _ _ HG8.out.mem).mono ?_; rw [putAt_out L i _ (by have := HOUT.out; omega)]; rintro e w9 ⟨rfl, hM9, hK9⟩
                have HMW := Lib.hid hM9
                have HK9 := Lib.hid (hK9.mono (T := Three w.heap.size gl) (fun i h => by unfold Own at h; unfold Three; omega))
                have HRW := Lib.hid (hK9.blk HG8.out.row (by unfold Own; omega))
                have HBC := Lib.hid (hK9.blk HB8.out (by unfold Own; omega))
                have x0 := (keep3o hK9 (by unfold Own; omega) hrn ⟨x0, x1, x2⟩).1
                clear hM9 hK9 c0 c2 c3 c4 c5 c7 x1 x2
                have HGE := Lib.hid (HG8.out.go (k' := k + 1) hgl1 HK9.out HMW.out HRW.out HG8.out.ll (by have := HG8.out.cl; omega))
                go_wp2_with fail
                refine (accesses_any _ _ _ _ _ HGE.out.mem).mono ?_; rintro e w11 ⟨rfl, rfl⟩
                go_wp2
                go_roundw
                case rel => exact ⟨k + 1, cnt, L, by omega, by go_num, rfl, HGE.out⟩
                case measure => simp [intOf]; omega
            · have HIN := Lib.hid hb
              clear hb
              obtain ⟨j, hj, hjn⟩ : ∃ j : Nat, i = j ∧ j < L.length := by
                have := HIN.out
                unfold isIn at this
                simp at this
                exact ⟨i.toNat, by omega, by omega⟩
              subst hj
              obtain ⟨aN, aK, aM, hlj⟩ : ∃ aN aK aM, L[j]? = some (aN, aK, aM) := ⟨_, _, _, List.getElem?_eq_getElem hjn⟩
              have HLJ := Lib.hid hlj
              have HCA : Hid (cellAt L j = (aN, aK, aM)) := Lib.hid (by rw [cellAt_in L j hjn]; exact (List.getElem?_eq_some_iff.1 hlj).2)
              obtain ⟨f1, f2, f3⟩ := flat3_at L j _ hlj
              have d1 := HG.out.row.cell f1
              have d2 := HG.out.row.cell f2
              have d3 := HG.out.row.cell f3
              have hjn' : j < n := by have := HG.out.ll; omega
              have hgll : gl < wc.heap.size := HG.out.row.lt
              clear hlj f1 f2 f3
              go_wp2_with fail

              have hN8 := Blk.new wc [.int .u64 aN, .string aK, .int .u64 aM] 32
              have hB8 := hrc.alloc (.cells #[.int .u64 aN, .string aK, .int .u64 aM] 32)
              have hG8 := HG.out.same ((Kept.refl (fun _ => False) wc).alloc (.cells #[.int .u64 aN, .string aK, .int .u64 aM] 32))
              have hrn := hN8.lt
              have hrn2 : gl < wc.heap.size := HG.out.row.lt
              clear c0 c1 c2 c3 c4 c5 c6 c7 d1 d2 d3
              generalize wc.alloc (.cells #[.int .u64 aN, .string aK, .int .u64 aM] 32) = w8 at *
              generalize wc.heap.size = rn at *
              have HG8 := Lib.hid hG8
              have HB8 := Lib.hid hB8
              have x0 := hN8.cell (i := 0) rfl
              have x1 := hN8.cell (i := 1) rfl
              have x2 := hN8.cell (i := 2) rfl

              have c0 := hB8.cell (i := 0) rfl
              have c2 := hB8.cell (i := 2) rfl
              have c3 := hB8.cell (i := 3) rfl
              have c4 := hB8.cell (i := 4) rfl
              have c5 := hB8.cell (i := 5) rfl
              have c7 := hB8.cell (i := 7) rfl
              clear hG8 hB8 hN8 hrc HG
              rcases (by omega : kd = 0 ∨ kd = 1 ∨ kd = 2 ∨ kd = 3 ∨ kd = 4) with rfl | rfl | rfl | rfl | rfl
              all_goals (refine (mod_of _ _ _ _ (by omega) (by omega) HKD.out).mono ?_; rintro e w5 ⟨rfl, rfl⟩)
              · skip
                have hcl := HG8.out.cl
                go_wp2_with fail
                go_region_held3 (fun w' => w'.cell? ⟨rn, 0, none⟩ = some (.int .u64 aN) ∧ w'.cell? ⟨rn, 1, none⟩ = some (.string aK) ∧ w'.cell? ⟨rn, 2, none⟩ = some (.int .u64 aM))
                  (first | with_reducible exact ⟨x0, x1, x2⟩ | with_reducible exact keep3o (Kept.refl (fun _ => False) _).drew not_false hrn ⟨x0, x1, x2⟩ | with_reducible exact keep3o hK9.ofDrew (by unfold Own; omega) hrn ⟨x0, x1, x2⟩)
                  (first | (go_at_call 12; refine (load_any _ _ L cnt _ _ _ _ _ (by first | exact HG8.out.mem.drew | exact HG8.out.mem) (by omega) HCA.out).mono ?_; rintro e w9 ⟨rfl, hM9, hK9⟩))
                have HK9 := Lib.hid (hK9.ofDrew.mono (T := Three w.heap.size gl) (fun i h => by unfold Own at h; unfold Three; omega))
                have HM9 := Lib.hid hM9
                have HRW := Lib.hid (hK9.ofDrew.blk HG8.out.row (by unfold Own; omega))
                clear hM9 hK9 c0 c2 c3 c4 c5 c7 x0 x1 x2
                have HGE := Lib.hid (HG8.out.go (k' := k + 1) hgl1 HK9.out HM9.out HRW.out HG8.out.ll (by omega))
                go_wp2_with fail
                refine (accesses_any _ _ _ _ _ HGE.out.mem).mono ?_; rintro e w11 ⟨rfl, rfl⟩
                go_wp2
                go_roundw
                case rel => exact ⟨k + 1, cnt + 1, L, by omega, by go_num, by go_num, HGE.out⟩
                case measure => simp [intOf]; omega
              · skip
                have hcl := HG8.out.cl
                go_wp2_with fail
                refine (store_any _ _ L cnt _ _ _ _ _ HG8.out.mem (by omega)).mono ?_; rw [putAt_in]; rintro e w9 ⟨rfl, hM9, hK9⟩
                have HMW := Lib.hid hM9
                have HK9 := Lib.hid (hK9.mono (T := Three w.heap.size gl) (fun i h => by unfold Own at h; unfold Three; omega))
                have HRW := Lib.hid (hK9.blk HG8.out.row (by unfold Own; omega))
                have HBC := Lib.hid (hK9.blk HB8.out (by unfold Own; omega))
                have x0 := (keep3o hK9 (by unfold Own; omega) hrn ⟨x0, x1, x2⟩).1
                clear hM9 hK9 c0 c2 c3 c4 c5 c7 x1 x2
                obtain ⟨f1, f2, f3⟩ := flat3_at L j _ HLJ.out
                have hrw := HRW.out
                have d1 := hrw.cell f1
                have d2 := hrw.cell f2
                have d3 := hrw.cell f3
                have z1 := hrw.frozen (j * 3)
                have z2 := hrw.frozen (j * 3 + 1)
                have z3 := hrw.frozen (j * 3 + 2)
                have hbc := HBC.out
                have q3 := hbc.cell (i := 3) rfl
                have q4 := hbc.cell (i := 4) rfl
                have q5 := hbc.cell (i := 5) rfl
                clear f1 f2 f3 hrw hbc
                go_wp2_with fail
                have hrow10 : Blk (((w9.setCell ⟨gl, j * 3, none⟩ (.int .u64 cN)).setCell ⟨gl, j * 3 + 1, none⟩ (.string cK)).setCell ⟨gl, j * 3 + 2, none⟩ (.int .u64 cM)) gl 32 (flat3 (L.set j (cN, cK, cM))) := by rw [flat3_set]; exact ((HRW.out.set _ _).set _ _).set _ _
                have hmem10 : Mem (((w9.setCell ⟨gl, j * 3, none⟩ (.int .u64 cN)).setCell ⟨gl, j * 3 + 1, none⟩ (.string cK)).setCell ⟨gl, j * 3 + 2, none⟩ (.int .u64 cM)) (w.heap.size + 1) w.heap.size (L.set j (cN, cK, cM)) (cnt + 1) := ((HMW.out.far hgl1 _ _).far hgl1 _ _).far hgl1 _ _
                have hkp10 : Kept (Three w.heap.size gl) w8 (((w9.setCell ⟨gl, j * 3, none⟩ (.int .u64 cN)).setCell ⟨gl, j * 3 + 1, none⟩ (.string cK)).setCell ⟨gl, j * 3 + 2, none⟩ (.int .u64 cM)) := (((HK9.out).setCell (fun _ => .inr (.inr rfl)) _).setCell (fun _ => .inr (.inr rfl)) _).setCell (fun _ => .inr (.inr rfl)) _
                have HGE := Lib.hid (HG8.out.go (k' := k + 1) hgl1 hkp10 hmem10 hrow10 (by rw [List.length_set]; exact HG8.out.ll) (by have := HG8.out.cl; omega))
                go_wp2_with fail
                refine (accesses_any _ _ _ _ _ HGE.out.mem).mono ?_; rintro e w11 ⟨rfl, rfl⟩
                go_wp2
                go_roundw
                case rel => exact ⟨k + 1, (cnt + 1), L.set j (cN, cK, cM), by omega, by go_num, by go_num, HGE.out⟩
                case measure => simp [intOf]; omega
              · skip
                have hcl := HG8.out.cl
                cases fit
                · cases hxo : (aN == old)
                  · have hxo2 : (old == aN) = false := by rw [beq_eq_false_iff_ne] at hxo ⊢; exact fun h => hxo h.symm
                    go_wp2_with fail
                    refine (swap_of _ _ L L cnt _ old _ _ _ false _ HG8.out.mem (by omega) (by rw [swaps_in L j aN old aM aK HLJ.out]; exact hxo) rfl).mono ?_; rintro e w9 ⟨rfl, hM9, hK9⟩
                    have HMW := Lib.hid hM9
                    have HK9 := Lib.hid (hK9.mono (T := Three w.heap.size gl) (fun i h => by unfold Own at h; unfold Three; omega))
                    have HRW := Lib.hid (hK9.blk HG8.out.row (by unfold Own; omega))
                    have HBC := Lib.hid (hK9.blk HB8.out (by unfold Own; omega))
                    have x0 := (keep3o hK9 (by unfold Own; omega) hrn ⟨x0, x1, x2⟩).1
                    clear hM9 hK9 c0 c2 c3 c4 c5 c7 x1 x2
                    have HGE := Lib.hid (HG8.out.go (k' := k + 1) hgl1 HK9.out HMW.out HRW.out HG8.out.ll (by have := HG8.out.cl; omega))
                    go_wp2_with fail
                    refine (accesses_any _ _ _ _ _ HGE.out.mem).mono ?_; rintro e w11 ⟨rfl, rfl⟩
                    go_wp2
                    go_roundw
                    case rel => exact ⟨k + 1, (cnt + 1), L, by omega, by go_num, by go_num, HGE.out⟩
                    case measure => simp [intOf]; omega
                  · have hxo2 : (old == aN) = true := by rw [beq_iff_eq] at hxo ⊢; exact hxo.symm
                    go_wp2_with fail
                    refine (swap_of _ _ L (L.set j (cN, cK, cM)) cnt _ old _ _ _ true _ HG8.out.mem (by omega) (by rw [swaps_in L j aN old aM aK HLJ.out]; exact hxo) (by rw [if_pos rfl]; exact putAt_in _ _ _)).mono ?_; rintro e w9 ⟨rfl, hM9, hK9⟩
                    have HMW := Lib.hid hM9
                    have HK9 := Lib.hid (hK9.mono (T := Three w.heap.size gl) (fun i h => by unfold Own at h; unfold Three; omega))
                    have HRW := Lib.hid (hK9.blk HG8.out.row (by unfold Own; omega))
                    have HBC := Lib.hid (hK9.blk HB8.out (by unfold Own; omega))
                    have x0 := (keep3o hK9 (by unfold Own; omega) hrn ⟨x0, x1, x2⟩).1
                    clear hM9 hK9 c0 c2 c3 c4 c5 c7 x1 x2
                    obtain ⟨f1, f2, f3⟩ := flat3_at L j _ HLJ.out
                    have hrw := HRW.out
                    have d1 := hrw.cell f1
                    have d2 := hrw.cell f2
                    have d3 := hrw.cell f3
                    have z1 := hrw.frozen (j * 3)
                    have z2 := hrw.frozen (j * 3 + 1)
                    have z3 := hrw.frozen (j * 3 + 2)
                    have hbc := HBC.out
                    have q3 := hbc.cell (i := 3) rfl
                    have q4 := hbc.cell (i := 4) rfl
                    have q5 := hbc.cell (i := 5) rfl
                    clear f1 f2 f3 hrw hbc
                    go_wp2_with fail
                    have hrow10 : Blk (((w9.setCell ⟨gl, j * 3, none⟩ (.int .u64 cN)).setCell ⟨gl, j * 3 + 1, none⟩ (.string cK)).setCell ⟨gl, j * 3 + 2, none⟩ (.int .u64 cM)) gl 32 (flat3 (L.set j (cN, cK, cM))) := by rw [flat3_set]; exact ((HRW.out.set _ _).set _ _).set _ _
                    have hmem10 : Mem (((w9.setCell ⟨gl, j * 3, none⟩ (.int .u64 cN)).setCell ⟨gl, j * 3 + 1, none⟩ (.string cK)).setCell ⟨gl, j * 3 + 2, none⟩ (.int .u64 cM)) (w.heap.size + 1) w.heap.size (L.set j (cN, cK, cM)) (cnt + 1) := ((HMW.out.far hgl1 _ _).far hgl1 _ _).far hgl1 _ _
                    have hkp10 : Kept (Three w.heap.size gl) w8 (((w9.setCell ⟨gl, j * 3, none⟩ (.int .u64 cN)).setCell ⟨gl, j * 3 + 1, none⟩ (.string cK)).setCell ⟨gl, j * 3 + 2, none⟩ (.int .u64 cM)) := (((HK9.out).setCell (fun _ => .inr (.inr rfl)) _).setCell (fun _ => .inr (.inr rfl)) _).setCell (fun _ => .inr (.inr rfl)) _
                    have HGE := Lib.hid (HG8.out.go (k' := k + 1) hgl1 hkp10 hmem10 hrow10 (by rw [List.length_set]; exact HG8.out.ll) (by have := HG8.out.cl; omega))
                    go_wp2_with fail
                    refine (accesses_any _ _ _ _ _ HGE.out.mem).mono ?_; rintro e w11 ⟨rfl, rfl⟩
                    go_wp2
                    go_roundw
                    case rel => exact ⟨k + 1, (cnt + 1), L.set j (cN, cK, cM), by omega, by go_num, by go_num, HGE.out⟩
                    case measure => simp [intOf]; omega
                · skip
                  go_wp2_with fail
                  refine (swap_of _ _ L (L.set j (cN, cK, cM)) cnt _ aN _ _ _ true _ HG8.out.mem (by omega) (by rw [swaps_in L j aN aN aM aK HLJ.out]; simp) (by rw [if_pos rfl]; exact putAt_in _ _ _)).mono ?_; rintro e w9 ⟨rfl, hM9, hK9⟩
                  have HMW := Lib.hid hM9
                  have HK9 := Lib.hid (hK9.mono (T := Three w.heap.size gl) (fun i h => by unfold Own at h; unfold Three; omega))
                  have HRW := Lib.hid (hK9.blk HG8.out.row (by unfold Own; omega))
                  have HBC := Lib.hid (hK9.blk HB8.out (by unfold Own; omega))
                  have x0 := (keep3o hK9 (by unfold Own; omega) hrn ⟨x0, x1, x2⟩).1
                  clear hM9 hK9 c0 c2 c3 c4 c5 c7 x1 x2
                  obtain ⟨f1, f2, f3⟩ := flat3_at L j _ HLJ.out
                  have hrw := HRW.out
                  have d1 := hrw.cell f1
                  have d2 := hrw.cell f2
                  have d3 := hrw.cell f3
                  have z1 := hrw.frozen (j * 3)
                  have z2 := hrw.frozen (j * 3 + 1)
                  have z3 := hrw.frozen (j * 3 + 2)
                  have hbc := HBC.out
                  have q3 := hbc.cell (i := 3) rfl
                  have q4 := hbc.cell (i := 4) rfl
                  have q5 := hbc.cell (i := 5) rfl
                  clear f1 f2 f3 hrw hbc
                  go_wp2_with fail
                  have hrow10 : Blk (((w9.setCell ⟨gl, j * 3, none⟩ (.int .u64 cN)).setCell ⟨gl, j * 3 + 1, none⟩ (.string cK)).setCell ⟨gl, j * 3 + 2, none⟩ (.int .u64 cM)) gl 32 (flat3 (L.set j (cN, cK, cM))) := by rw [flat3_set]; exact ((HRW.out.set _ _).set _ _).set _ _
                  have hmem10 : Mem (((w9.setCell ⟨gl, j * 3, none⟩ (.int .u64 cN)).setCell ⟨gl, j * 3 + 1, none⟩ (.string cK)).setCell ⟨gl, j * 3 + 2, none⟩ (.int .u64 cM)) (w.heap.size + 1) w.heap.size (L.set j (cN, cK, cM)) (cnt + 1) := ((HMW.out.far hgl1 _ _).far hgl1 _ _).far hgl1 _ _
                  have hkp10 : Kept (Three w.heap.size gl) w8 (((w9.setCell ⟨gl, j * 3, none⟩ (.int .u64 cN)).setCell ⟨gl, j * 3 + 1, none⟩ (.string cK)).setCell ⟨gl, j * 3 + 2, none⟩ (.int .u64 cM)) := (((HK9.out).setCell (fun _ => .inr (.inr rfl)) _).setCell (fun _ => .inr (.inr rfl)) _).setCell (fun _ => .inr (.inr rfl)) _
                  have HGE := Lib.hid (HG8.out.go (k' := k + 1) hgl1 hkp10 hmem10 hrow10 (by rw [List.length_set]; exact HG8.out.ll) (by have := HG8.out.cl; omega))
                  go_wp2_with fail
                  refine (accesses_any _ _ _ _ _ HGE.out.mem).mono ?_; rintro e w11 ⟨rfl, rfl⟩
                  go_wp2
                  go_roundw
                  case rel => exact ⟨k + 1, (cnt + 1), L.set j (cN, cK, cM), by omega, by go_num, by go_num, HGE.out⟩
                  case measure => simp [intOf]; omega
              · skip
                go_wp2_with fail
                go_region_held3 (fun w' => w'.cell? ⟨rn, 0, none⟩ = some (.int .u64 aN) ∧ w'.cell? ⟨rn, 1, none⟩ = some (.string aK) ∧ w'.cell? ⟨rn, 2, none⟩ = some (.int .u64 aM))
                  (first | with_reducible exact ⟨x0, x1, x2⟩ | with_reducible exact keep3o (Kept.refl (fun _ => False) _).drew not_false hrn ⟨x0, x1, x2⟩ | with_reducible exact keep3o hK9.ofDrew not_false hrn ⟨x0, x1, x2⟩)
                  (first | (go_at_call 13; refine (peek_any _ _ L cnt _ _ _ _ _ (by first | exact HG8.out.mem.drew | exact HG8.out.mem) HCA.out).mono ?_; rintro e w9 ⟨rfl, hK9⟩))
                have HK9 := Lib.hid hK9.ofDrew
                clear hK9 c0 c2 c3 c4 c5 c7 x0 x1 x2
                have HGE := Lib.hid ((HG8.out.same HK9.out).next)
                go_wp2_with fail
                refine (accesses_any _ _ _ _ _ HGE.out.mem).mono ?_; rintro e w11 ⟨rfl, rfl⟩
                go_wp2
                go_roundw
                case rel => exact ⟨k + 1, cnt, L, by omega, by go_num, rfl, HGE.out⟩
                case measure => simp [intOf]; omega
              · skip
                have hcl := HG8.out.cl
                go_wp2_with fail
                refine (poke_any _ _ L cnt _ _ _ _ _ HG8.out.mem).mono ?_; rw [putAt_in]; rintro e w9 ⟨rfl, hM9, hK9⟩
                have HMW := Lib.hid hM9
                have HK9 := Lib.hid (hK9.mono (T := Three w.heap.size gl) (fun i h => by unfold Own at h; unfold Three; omega))
                have HRW := Lib.hid (hK9.blk HG8.out.row (by unfold Own; omega))
                have HBC := Lib.hid (hK9.blk HB8.out (by unfold Own; omega))
                have x0 := (keep3o hK9 (by unfold Own; omega) hrn ⟨x0, x1, x2⟩).1
                clear hM9 hK9 c0 c2 c3 c4 c5 c7 x1 x2
                obtain ⟨f1, f2, f3⟩ := flat3_at L j _ HLJ.out
                have hrw := HRW.out
                have d1 := hrw.cell f1
                have d2 := hrw.cell f2
                have d3 := hrw.cell f3
                have z1 := hrw.frozen (j * 3)
                have z2 := hrw.frozen (j * 3 + 1)
                have z3 := hrw.frozen (j * 3 + 2)
                have hbc := HBC.out
                have q3 := hbc.cell (i := 3) rfl
                have q4 := hbc.cell (i := 4) rfl
                have q5 := hbc.cell (i := 5) rfl
                clear f1 f2 f3 hrw hbc
                go_wp2_with fail
                have hrow10 : Blk (((w9.setCell ⟨gl, j * 3, none⟩ (.int .u64 cN)).setCell ⟨gl, j * 3 + 1, none⟩ (.string cK)).setCell ⟨gl, j * 3 + 2, none⟩ (.int .u64 cM)) gl 32 (flat3 (L.set j (cN, cK, cM))) := by rw [flat3_set]; exact ((HRW.out.set _ _).set _ _).set _ _
                have hmem10 : Mem (((w9.setCell ⟨gl, j * 3, none⟩ (.int .u64 cN)).setCell ⟨gl, j * 3 + 1, none⟩ (.string cK)).setCell ⟨gl, j * 3 + 2, none⟩ (.int .u64 cM)) (w.heap.size + 1) w.heap.size (L.set j (cN, cK, cM)) cnt := ((HMW.out.far hgl1 _ _).far hgl1 _ _).far hgl1 _ _
                have hkp10 : Kept (Three w.heap.size gl) w8 (((w9.setCell ⟨gl, j * 3, none⟩ (.int .u64 cN)).setCell ⟨gl, j * 3 + 1, none⟩ (.string cK)).setCell ⟨gl, j * 3 + 2, none⟩ (.int .u64 cM)) := (((HK9.out).setCell (fun _ => .inr (.inr rfl)) _).setCell (fun _ => .inr (.inr rfl)) _).setCell (fun _ => .inr (.inr rfl)) _
                have HGE := Lib.hid (HG8.out.go (k' := k + 1) hgl1 hkp10 hmem10 hrow10 (by rw [List.length_set]; exact HG8.out.ll) (by have := HG8.out.cl; omega))
                go_wp2_with fail
                refine (accesses_any _ _ _ _ _ HGE.out.mem).mono ?_; rintro e w11 ⟨rfl, rfl⟩
                go_wp2
                go_roundw
                case rel => exact ⟨k + 1, cnt, L.set j (cN, cK, cM), by omega, by go_num, rfl, HGE.out⟩
                case measure => simp [intOf]; omega

    · obtain rfl : k = ls.length := by omega
      have hG := HG.out
      rename World => W2
      go_wp2_with fail
      refine (kitCells_of _ _ L _ n _ HG.out.mem HG.out.ll (by omega)).mono ?_; rintro e w5 ⟨rfl, hB5, hK5⟩
      have HG5 := Lib.hid (HG.out.same hK5)
      have HB5 := Lib.hid hB5
      clear hG hB5 hK5
      go_wp2_with fail
      refine (same_of _ _ _ _ _ L _ (fun i u hu => HB5.out.cell hu) (fun i u hu => HG5.out.row.cell hu) HG5.out.ll (by omega)).mono ?_; rintro e w6 ⟨rfl, q6, rfl⟩
      have HG6 := Lib.hid (HG5.out.same ((Kept.refl (fun _ => False) w5).drewN q6))
      clear HG5 HB5 HG
      rcases HG6.out.old with ⟨rfl, rfl, rfl⟩ | ⟨bo, go, gv, cap, Lo, co, rfl, rfl, rfl, hM, hl, _, _, _, _, hv⟩
      · have HBL := Lib.hid (HG6.out.kept.below (Nat.le_refl _) (fun _ h => h.elim))
        clear HG6
        go_wp2
        go_ret
        exact ⟨rfl, HBL.out⟩
      · have HM := Lib.hid hM
        have HV := Lib.hid hv
        have HL := Lib.hid hl
        have HKK := Lib.hid HG6.out.kept
        clear hM hv hl HG6
        go_wp2_with fail
        refine (kitCells_of _ _ Lo _ n _ HM.out HL.out (by omega)).mono ?_; rintro e w7 ⟨rfl, hB7, hK7⟩
        have HB7 := Lib.hid hB7
        have HM7 := Lib.hid (HM.out.kept hK7 id id)
        have HV7 : Hid (∀ j u, (flat3 Lo)[j]? = some u → w7.cell? ⟨gv, j, none⟩ = some u) := Lib.hid fun j u hu => (hK7.cell (p := ⟨gv, j, none⟩) (by assumption) id).trans (HV.out j u hu)
        have HK7 := Lib.hid (HKK.out.trans hK7 (fun _ _ h => h))
        clear hB7 hK7 HM HV HKK
        go_wp2_with fail
        refine (same_of _ _ _ _ _ Lo _ (fun i u hu => HB7.out.cell hu) HV7.out HL.out (by omega)).mono ?_; rintro e w8 ⟨rfl, q8, rfl⟩
        go_wp2_with fail
        refine (accesses_any _ _ Lo _ _ (HM7.out.drewN q8)).mono ?_; rintro e w9 ⟨rfl, rfl⟩
        go_wp2
        go_ret
        exact ⟨rfl, (HK7.out.drewN q8).below (Nat.le_refl _) (fun _ h => h.elim)⟩


theorem lawAgrees_all (w : World) (cells : Int) (A : Option Addr) (c : Nat) (ls : List Cal) (hm : ls.length ≤ maxLen)
    (hA : 0 < ls.length → ∃ g off, A = some ⟨g, off, none⟩ ∧ g < w.heap.size ∧ ∀ (i : Nat) (c : Cal), ls[i]? = some c →
        w.cell? ⟨g, off + i * 8, none⟩ = some (.int .i64 c.kind) ∧ w.cell? ⟨g, off + i * 8 + 1, none⟩ = some (.int .i64 c.pos) ∧ w.cell? ⟨g, off + i * 8 + 2, none⟩ = some (.int .u64 c.old) ∧
        w.cell? ⟨g, off + i * 8 + 3, none⟩ = some (.int .u64 c.cel.1) ∧ w.cell? ⟨g, off + i * 8 + 4, none⟩ = some (.string c.cel.2.1) ∧ w.cell? ⟨g, off + i * 8 + 5, none⟩ = some (.int .u64 c.cel.2.2) ∧
        w.cell? ⟨g, off + i * 8 + 6, none⟩ = some (.bool c.raw) ∧ w.cell? ⟨g, off + i * 8 + 7, none⟩ = some (.bool c.fit)) (copyAt : Int) :
    Calls Try.prog 4 #[.int .i64 cells, .slice A ls.length c, .int .i64 copyAt] w fun e w' => e = .returned (.bool true) ∧ Below w.heap.size w w' := by
  by_cases h : ls.length ≤ 100
  · exact lawAgrees w cells copyAt A c ls h hA
  · exact lawAgrees_long cells copyAt A ls.length c w (by omega) hm

end Go.Proofs.Ytedplnngednecaa
