/-
  Opens, Releases and a Watermark of package registry side by side: what lies where, who may write it, and why no open snapshot is below the watermark. Condition: words below 2^64; fewer than 2^63 accesses so far.
-/
import Derived.Test.YtcmcgjdbopnbbaaRegJv
namespace Go.Proofs.Ytcmcgjdbopnbbaa
open Go.RowKit Go.Deep
set_option linter.unusedVariables false

/-- The plain state: thread t has nothing (0), an Open that has made so many steps less one (1 to 3), an open snapshot (4); x are the cells, v what was loaded, V is Published; a Watermark that has begun has loaded c cells, and L is its least. -/
structure Pl (n : Nat) (ph v x : Nat → Nat) (V : Nat) (ld : Bool) (c L : Nat) : Prop where
  xs : ∀ t, t < n → x (t * 2) = if ph t ≤ 1 then 0 else if ph t ≤ 3 then 1 else v t + 1
  xb : ∀ k, x k ≤ V + 1
  vb : ∀ t, t < n → 3 ≤ ph t → v t ≤ V
  le : ld = true → L ≤ V
  ok : ld = true → ∀ t, t < n → 3 ≤ ph t → t * 2 < c → L ≤ v t
section
variable {n V c L i : Nat} {ph v x : Nat → Nat} {ld : Bool}
theorem Pl.pub (h : Pl n ph v x V ld c L) : Pl n ph v x (V + 1) ld c L :=
  ⟨h.xs, fun k => by have := h.xb k; omega, fun t ht h3 => by have := h.vb t ht h3; omega, fun e => by have := h.le e; omega, h.ok⟩
theorem Pl.anew (h : Pl n ph v x V ld c L) : Pl n ph v x V false 0 0 := ⟨h.xs, h.xb, h.vb, (fun e => by cases e), (fun e => by cases e)⟩
theorem Pl.w0 (h : Pl n ph v x V false c L) : Pl n ph v x V true 0 V := ⟨h.xs, h.xb, h.vb, fun _ => Nat.le_refl _, fun _ t ht h3 hc => by omega⟩
theorem Pl.w1 (h : Pl n ph v x V true c L) : Pl n ph v x V true (c + 1) (low L (x c)) := by
  refine ⟨h.xs, h.xb, h.vb, fun _ => Nat.le_trans (low_le _ _) (h.le rfl), fun _ t ht h3 hc => ?_⟩
  by_cases e : t * 2 = c
  · subst e
    have hx := h.xs t ht
    rw [if_neg (by omega)] at hx
    have hl : low L (x (t * 2)) ≤ x (t * 2) - 1 := by
      have : x (t * 2) ≠ 0 := by rw [hx]; split <;> omega
      unfold low; rw [if_neg this]; omega
    have : x (t * 2) - 1 ≤ v t := by rw [hx]; split <;> omega
    omega
  · have := h.ok rfl t ht h3 (by omega); have := low_le L (x c); omega
theorem Pl.put (h : Pl n ph v x V ld c L) (hi : ph i = 0) : Pl n (upd ph i 1) v x V ld c L := by
  have hd : ∀ t, 3 ≤ upd ph i 1 t → 3 ≤ ph t := fun t h3 => by
    by_cases e : t = i
    · subst e; rw [upd_at] at h3; omega
    · rwa [upd_ne _ _ e] at h3
  refine ⟨fun t ht => ?_, h.xb, fun t ht h3 => h.vb t ht (hd t h3), h.le, fun e t ht h3 hc => h.ok e t ht (hd t h3) hc⟩
  by_cases e : t = i
  · subst e; rw [upd_at, h.xs t ht, hi]; rfl
  · rw [upd_ne _ _ e]; exact h.xs t ht
theorem Pl.step (h : Pl n ph v x V ld c L) (hi : i < n) {p : Nat} (hp : ph i = p + 1) (hp2 : p ≤ 2) : Pl n (upd ph i (p + 2)) (upd v i (opV p (v i) V)) (opX p (v i) x (i * 2)) V ld c L := by
  have hX : ∀ t, t ≠ i → opX p (v i) x (i * 2) (t * 2) = x (t * 2) := fun t e => by
    unfold opX; split
    · exact upd_ne _ _ (by omega)
    · split
      · rfl
      · exact upd_ne _ _ (by omega)
  have hvi : p = 2 → v i ≤ V := fun e => h.vb i hi (by omega)
  refine ⟨fun t ht => ?_, fun k => ?_, fun t ht h3 => ?_, h.le, fun e t ht h3 hc => ?_⟩
  · by_cases e : t = i
    · subst e
      rw [upd_at, upd_at]
      have hx := h.xs t ht
      rw [hp] at hx
      rcases (by omega : p = 0 ∨ p = 1 ∨ p = 2) with rfl | rfl | rfl
      · show upd x (t * 2) 1 (t * 2) = _; rw [upd_at]; rfl
      · show x (t * 2) = _; rw [hx]; rfl
      · show upd x (t * 2) (v t + 1) (t * 2) = _; rw [upd_at]; rfl
    · rw [upd_ne _ _ e, upd_ne _ _ e, hX t e]; exact h.xs t ht
  · have := h.xb k
    unfold opX; split
    · unfold upd; split <;> omega
    · split
      · exact this
      · have := hvi (by omega); unfold upd; split <;> omega
  · by_cases e : t = i
    · subst e
      rw [upd_at] at h3 ⊢
      rcases (by omega : p = 1 ∨ p = 2) with rfl | rfl
      · exact Nat.le_refl _
      · exact hvi rfl
    · rw [upd_ne _ _ e] at h3 ⊢; exact h.vb t ht h3
  · by_cases e2 : t = i
    · subst e2
      rw [upd_at] at h3 ⊢
      rcases (by omega : p = 1 ∨ p = 2) with rfl | rfl
      · exact h.le e
      · exact h.ok e t ht (by omega) hc
    · rw [upd_ne _ _ e2] at h3 ⊢; exact h.ok e t ht h3 hc
theorem Pl.rel (h : Pl n ph v x V ld c L) : Pl n (upd ph i 0) v (upd x (i * 2) 0) V ld c L := by
  have hd : ∀ t, 3 ≤ upd ph i 0 t → 3 ≤ ph t := fun t h3 => by
    by_cases e : t = i
    · subst e; rw [upd_at] at h3; omega
    · rwa [upd_ne _ _ e] at h3
  refine ⟨fun t ht => ?_, fun k => by have := h.xb k; unfold upd; split <;> omega, fun t ht h3 => h.vb t ht (hd t h3), h.le, fun e t ht h3 hc => h.ok e t ht (hd t h3) hc⟩
  by_cases e : t = i
  · subst e; rw [upd_at, upd_at]; rfl
  · rw [upd_ne _ _ e, upd_ne _ _ (by omega)]; exact h.xs t ht
end

/-- A row of n cells. -/
def rowF (f : Nat → Value) (n : Nat) : List Value := (List.range n).map f
theorem rowF_at (f : Nat → Value) {n k : Nat} (h : k < n) : (rowF f n)[k]? = some (f k) := by simp [rowF, h]
theorem rowF_set (f f' : Nat → Value) (n k : Nat) (h : ∀ i, i < n → i ≠ k → f' i = f i) : (rowF f n).set k (f' k) = rowF f' n := by
  apply List.ext_getElem?
  intro i
  by_cases hi : i < n
  · rw [rowF_at _ hi]
    by_cases e : k = i
    · subst e; rw [List.getElem?_set_self (by simp [rowF, hi])]
    · rw [List.getElem?_set_ne e, rowF_at _ hi, h i hi (fun h => e h.symm)]
  · rw [List.getElem?_eq_none (by simp [rowF]; omega), List.getElem?_eq_none (by simp [rowF]; omega)]
/-- What the statement's row of Opens holds for thread i. -/
def opv (ph oo : Nat → Nat) (i : Nat) : Value := if ph i = 0 then .pointer none else .pointer (some ⟨oo i, 0, none⟩)

structure PW (w wr : World) (b g s ho hb n wo wq wg c : Nat) (lay : List Value) (oo qq ph v : Nat → Nat) (hd : Nat → Bool) (x : Nat → Nat) (V : Nat) (ld : Bool) (cw L : Nat) (col : Nat → Nat) : Prop where
  mem : ∃ l, Mem wr b g l c ∧ Sn l (n * 2) V x
  lay : Blk wr s 29 lay
  orow : Blk wr ho 37 (rowF (opv ph oo) n)
  hrow : Blk wr hb 4 (rowF (fun i => .bool (hd i)) n)
  mach : ∀ i, i < n → ph i ≠ 0 → OpAt wr (oo i) (qq i) (ph i - 1) ((8 + i * 2 : Nat) : Int) (v i) ∧ col (oo i) = 10 + i ∧ col (qq i) = 10 + i
  wm : Wm wr wo wq wg ld (n * 2) cw L
  cols : col b = 1 ∧ col g = 1 ∧ col s = 0 ∧ col ho = 2 ∧ col hb = 3 ∧ col wo = 4 ∧ col wq = 4 ∧ col wg = 0
  old : ∀ i, i < w.heap.size → col i = 0
  kept : Kept (fun _ => False) w wr
section
variable {w wr w2 : World} {b g s ho hb n wo wq wg c V V' cw L c' : Nat} {lay : List Value} {oo qq ph v x x' : Nat → Nat} {hd : Nat → Bool} {ld : Bool} {col : Nat → Nat}
theorem PW.ltb (h : PW w wr b g s ho hb n wo wq wg c lay oo qq ph v hd x V ld cw L col) : b < wr.heap.size ∧ g < wr.heap.size ∧ s < wr.heap.size ∧ ho < wr.heap.size ∧ hb < wr.heap.size ∧ wo < wr.heap.size ∧ wq < wr.heap.size ∧ wg < wr.heap.size ∧ w.heap.size ≤ wr.heap.size := by
  obtain ⟨l, hM, hs⟩ := h.mem
  obtain ⟨h1, h2, h3⟩ := h.wm.lto
  exact ⟨hM.obj.lt, hM.row.lt, h.lay.lt, h.orow.lt, h.hrow.lt, h1, h2, h3, h.kept.size⟩
/-- Behind a call that writes the memory only (colour 1) and may have given Published and the cells new values. -/
theorem PW.memo {K : Nat → Prop} (h : PW w wr b g s ho hb n wo wq wg c lay oo qq ph v hd x V ld cw L col) (hK : Kept K wr w2) (hc : ∀ i, K i → i < wr.heap.size → col i = 1) (hm : ∃ l, Mem w2 b g l c' ∧ Sn l (n * 2) V' x') : PW w w2 b g s ho hb n wo wq wg c' lay oo qq ph v hd x' V' ld cw L col := by
  obtain ⟨l1, l2, l3, l4, l5, l6, l7, l8, l9⟩ := h.ltb
  obtain ⟨c1, c2, c3, c4, c5, c6, c7, c8⟩ := h.cols
  have hn : ∀ i, i < wr.heap.size → col i ≠ 1 → ¬ K i := fun i hi h1 hk => h1 (hc i hk hi)
  refine ⟨hm, hK.blk h.lay (hn s l3 (by omega)), hK.blk h.orow (hn ho l4 (by omega)), hK.blk h.hrow (hn hb l5 (by omega)), fun i hi hp => ?_, h.wm.kept hK (hn wo l6 (by omega)) (hn wq l7 (by omega)) (hn wg l8 (by omega)), h.cols, h.old, h.kept.trans hK (fun i hi hk => ?_)⟩
  · obtain ⟨hO, e1, e2⟩ := h.mach i hi hp
    exact ⟨hO.kept hK (hn _ hO.obj.lt (by omega)) (hn _ hO.now.lt (by omega)), e1, e2⟩
  · have := h.old i hi; exact hn i (by omega) (by omega) hk
theorem PW.same0 (h : PW w wr b g s ho hb n wo wq wg c lay oo qq ph v hd x V ld cw L col) (hK : Kept (fun _ => False) wr w2) : PW w w2 b g s ho hb n wo wq wg c lay oo qq ph v hd x V ld cw L col := by
  obtain ⟨l, hM, hs⟩ := h.mem
  exact h.memo hK (fun _ h _ => h.elim) ⟨l, hM.kept hK id id, hs⟩
theorem pw_poke (h : PW w wr b g s ho hb n wo wq wg c lay oo qq ph v hd x V ld cw L col) (X : Int) (Y : Nat) (hX : X = (Y : Int)) :
    Calls Try.prog 15 #[.pointer (some ⟨b, 0, none⟩), .int .i64 2, .agg #[.int .u64 X, .string ⟨#[]⟩, .int .u64 0]] wr fun e w' => e = .returned (.tuple #[]) ∧ PW w w' b g s ho hb n wo wq wg c lay oo qq ph v hd x Y ld cw L col := by
  subst hX
  obtain ⟨l, hM, hs⟩ := h.mem
  have hc := h.cols
  refine (poke_any b g l c 2 (Y : Int) 0 ⟨#[]⟩ wr hM).mono ?_
  rintro e w' ⟨he, hM', hK⟩
  exact ⟨he, h.memo hK (fun i hi _ => by unfold Own at hi; rcases hi with rfl | rfl; exact hc.1; exact hc.2.1) ⟨_, hM', hs.pub2 Y⟩⟩
/-- A new Watermark in the place of the one before. -/
theorem PW.anew (h : PW w wr b g s ho hb n wo wq wg c lay oo qq ph v hd x V ld cw L col) (hK : Kept (fun _ => False) wr w2) {o q r : Nat} (hW : Wm w2 o q r false (n * 2) 0 0) (h1 : wr.heap.size ≤ o) (h2 : wr.heap.size ≤ q) (h3 : wr.heap.size ≤ r) :
    PW w w2 b g s ho hb n o q r c lay oo qq ph v hd x V false 0 0 (fun k => if k < wr.heap.size then col k else if k = r then 0 else 4) := by
  have hs := h.same0 hK
  obtain ⟨l1, l2, l3, l4, l5, l6, l7, l8, l9⟩ := h.ltb
  obtain ⟨c1, c2, c3, c4, c5, c6, c7, c8⟩ := h.cols
  have hor := hW.og
  have hqr := hW.qg
  refine ⟨hs.mem, hs.lay, hs.orow, hs.hrow, fun i hi hp => ?_, hW, ⟨by rw [if_pos l1]; exact c1, by rw [if_pos l2]; exact c2, by rw [if_pos l3]; exact c3, by rw [if_pos l4]; exact c4, by rw [if_pos l5]; exact c5, by rw [if_neg (by omega), if_neg hor], by rw [if_neg (by omega), if_neg hqr], by rw [if_neg (by omega), if_pos rfl]⟩, fun i hi => by rw [if_pos (by omega)]; exact h.old i hi, hs.kept⟩
  obtain ⟨hO, e1, e2⟩ := h.mach i hi hp
  exact ⟨(hs.mach i hi hp).1, by rw [if_pos hO.obj.lt]; exact e1, by rw [if_pos hO.now.lt]; exact e2⟩
/-- Behind a step of the Watermark. -/
theorem PW.wat {ld' : Bool} {cw' L' : Nat} {l : List Cel} (h : PW w wr b g s ho hb n wo wq wg c lay oo qq ph v hd x V ld cw L col) (hK : Kept (Ownw wo wq b g) wr w2) (hM : Mem w2 b g l c') (hs : Sn l (n * 2) V x) (hW : Wm w2 wo wq wg ld' (n * 2) cw' L') : PW w w2 b g s ho hb n wo wq wg c' lay oo qq ph v hd x V ld' cw' L' col := by
  obtain ⟨l1, l2, l3, l4, l5, l6, l7, l8, l9⟩ := h.ltb
  obtain ⟨c1, c2, c3, c4, c5, c6, c7, c8⟩ := h.cols
  have hn : ∀ i, col i ≠ 1 → col i ≠ 4 → ¬ Ownw wo wq b g i := fun i h1 h4 hk => by
    rcases hk with rfl | rfl | rfl | rfl
    · exact h4 c6
    · exact h4 c7
    · exact h1 c1
    · exact h1 c2
  refine ⟨⟨l, hM, hs⟩, hK.blk h.lay (hn s (by omega) (by omega)), hK.blk h.orow (hn ho (by omega) (by omega)), hK.blk h.hrow (hn hb (by omega) (by omega)), fun i hi hp => ?_, hW, h.cols, h.old, h.kept.trans hK (fun i hi hk => ?_)⟩
  · obtain ⟨hO, e1, e2⟩ := h.mach i hi hp
    exact ⟨hO.kept hK (hn _ (by omega) (by omega)) (hn _ (by omega) (by omega)), e1, e2⟩
  · have := h.old i hi; exact hn i (by omega) (by omega) hk
theorem PW.wsep (h : PW w wr b g s ho hb n wo wq wg c lay oo qq ph v hd x V ld cw L col) : ∀ i, i = b ∨ i = g → wo ≠ i ∧ wq ≠ i ∧ wg ≠ i := fun i hi => by
  obtain ⟨c1, c2, c3, c4, c5, c6, c7, c8⟩ := h.cols
  have : col i = 1 := by rcases hi with rfl | rfl; exact c1; exact c2
  refine ⟨?_, ?_, ?_⟩ <;> (intro e; subst e; omega)
theorem pw_w0 (h : PW w wr b g s ho hb n wo wq wg c lay oo qq ph v hd x V false 0 L col) (hn : 0 < n) (hc : c < 9223372036854775808) :
    Calls Try.prog 28 #[.pointer (some ⟨wo, 0, none⟩), .pointer (some ⟨b, 0, none⟩)] wr fun e w' => e = .returned (.bool false) ∧ PW w w' b g s ho hb n wo wq wg (c + 1) lay oo qq ph v hd x V true 0 V col := by
  obtain ⟨l, hM, hs⟩ := h.mem
  refine (wm_first h.wm hM (by omega) h.wsep hc hs.pub).mono ?_
  rintro e w' ⟨he, hM', hW, hK⟩
  exact ⟨he, h.wat hK hM' hs hW⟩
theorem pw_w1 {r : Bool} (h : PW w wr b g s ho hb n wo wq wg c lay oo qq ph v hd x V true cw L col) (hcw : cw < n * 2) (hx : ∀ k, x k < 18446744073709551616) (hc : c < 9223372036854775808) (hr : decide (cw + 1 = n * 2) = r) :
    Calls Try.prog 28 #[.pointer (some ⟨wo, 0, none⟩), .pointer (some ⟨b, 0, none⟩)] wr fun e w' => e = .returned (.bool r) ∧ PW w w' b g s ho hb n wo wq wg (c + 1) lay oo qq ph v hd x V true (cw + 1) (low L (x cw)) col := by
  obtain ⟨l, hM, hs⟩ := h.mem
  refine (wm_next h.wm hM hcw h.wsep hc (hs.sn cw hcw) (hx cw) rfl hr).mono ?_
  rintro e w' ⟨he, hM', hW, hK⟩
  exact ⟨he, h.wat hK hM' hs hW⟩
/-- A new Open is put into the row. -/
theorem PW.put (h : PW w wr b g s ho hb n wo wq wg c lay oo qq ph v hd x V ld cw L col) {i : Nat} (hi : i < n) (hK : Kept (fun _ => False) wr w2) {o q : Nat} (hO : OpAt w2 o q 0 ((8 + i * 2 : Nat) : Int) 0) (h1 : wr.heap.size ≤ o) (h2 : wr.heap.size ≤ q) :
    PW w (w2.setCell ⟨ho, i, none⟩ (.pointer (some ⟨o, 0, none⟩))) b g s ho hb n wo wq wg c lay (upd oo i o) (upd qq i q) (upd ph i 1) v hd x V ld cw L (fun k => if k < wr.heap.size then col k else 10 + i) := by
  have hs := h.same0 hK
  obtain ⟨l1, l2, l3, l4, l5, l6, l7, l8, l9⟩ := h.ltb
  obtain ⟨c1, c2, c3, c4, c5, c6, c7, c8⟩ := h.cols
  have hne : ∀ k, col k ≠ 2 → k ≠ ho := fun k h2 e => by subst e; omega
  have hKs := (Kept.refl (fun k => k = ho) w2).setCell (a := ⟨ho, i, none⟩) (fun _ => rfl) (.pointer (some ⟨o, 0, none⟩))
  obtain ⟨l, hM, hsn⟩ := hs.mem
  refine ⟨⟨l, hM.setFar (hne b (by omega)).symm (hne g (by omega)).symm _ _, hsn⟩, hKs.blk hs.lay (hne s (by omega)), ?_, hKs.blk hs.hrow (hne hb (by omega)), fun j hj hp => ?_, hs.wm.kept hKs (hne wo (by omega)) (hne wq (by omega)) (hne wg (by omega)),
    ⟨by rw [if_pos l1]; exact c1, by rw [if_pos l2]; exact c2, by rw [if_pos l3]; exact c3, by rw [if_pos l4]; exact c4, by rw [if_pos l5]; exact c5, by rw [if_pos l6]; exact c6, by rw [if_pos l7]; exact c7, by rw [if_pos l8]; exact c8⟩, fun k hk => by rw [if_pos (by omega)]; exact h.old k hk, hs.kept.setCell (a := ⟨ho, i, none⟩) (fun hh => ?_) _⟩
  · have hr := hs.orow.set i (.pointer (some ⟨o, 0, none⟩))
    have e := rowF_set (opv ph oo) (opv (upd ph i 1) (upd oo i o)) n i (fun j _ hj => by unfold opv; rw [upd_ne _ _ hj, upd_ne _ _ hj])
    have e2 : opv (upd ph i 1) (upd oo i o) i = .pointer (some ⟨o, 0, none⟩) := by unfold opv; rw [upd_at, upd_at, if_neg (by omega)]
    rw [e2] at e
    rw [← e]; exact hr
  · by_cases e : j = i
    · subst e
      rw [upd_at, upd_at, upd_at]
      refine ⟨(hO.zero (by omega) (v j)).kept hKs ?_ ?_, by rw [if_neg (by omega)], by rw [if_neg (by omega)]⟩ <;> omega
    · rw [upd_ne _ _ e] at hp ⊢
      rw [upd_ne _ _ e, upd_ne _ _ e]
      obtain ⟨hO2, e1, e2⟩ := h.mach j hj hp
      refine ⟨(hs.mach j hj hp).1.kept hKs (hne _ (by omega)) (hne _ (by omega)), by rw [if_pos hO2.obj.lt]; exact e1, by rw [if_pos hO2.now.lt]; exact e2⟩
  · have := h.old ho hh; omega
/-- A step of thread i's Open. -/
theorem pw_ostep (h : PW w wr b g s ho hb n wo wq wg c lay oo qq ph v hd x V ld cw L col) {i p : Nat} {r : Bool} (hi : i < n) (hp : ph i = p + 1) (hp2 : p ≤ 2) (hv : v i + 1 < 18446744073709551616) (hc : c < 9223372036854775808) (hr : decide (p = 2) = r) :
    Calls Try.prog 17 #[.pointer (some ⟨oo i, 0, none⟩), .pointer (some ⟨b, 0, none⟩)] wr fun e w' => e = .returned (.bool r) ∧ PW w w' b g s ho hb n wo wq wg (c + 1) lay oo qq (upd ph i (p + 2)) (upd v i (opV p (v i) V)) hd (opX p (v i) x (i * 2)) V ld cw L col := by
  obtain ⟨l, hM, hs⟩ := h.mem
  obtain ⟨l1, l2, l3, l4, l5, l6, l7, l8, l9⟩ := h.ltb
  obtain ⟨c1, c2, c3, c4, c5, c6, c7, c8⟩ := h.cols
  obtain ⟨hO, e1, e2⟩ := h.mach i hi (by omega)
  rw [hp, Nat.add_sub_cancel] at hO
  have hsep : ∀ k, k = b ∨ k = g → oo i ≠ k ∧ qq i ≠ k := fun k hk => by
    have : col k = 1 := by rcases hk with rfl | rfl; exact c1; exact c2
    exact ⟨fun e => by rw [e] at e1; omega, fun e => by rw [e] at e2; omega⟩
  refine (op_step hO hM hs (k := i * 2) (by omega) hp2 hv hsep hc hr rfl rfl).mono ?_
  rintro e w' ⟨he, hm, hO', hK⟩
  have hn : ∀ k, col k ≠ 1 → col k ≠ 10 + i → ¬ Ownw (oo i) (qq i) b g k := fun k h1 h4 hk => by
    rcases hk with rfl | rfl | rfl | rfl
    · exact h4 e1
    · exact h4 e2
    · exact h1 c1
    · exact h1 c2
  refine ⟨he, hm, hK.blk h.lay (hn s (by omega) (by omega)), ?_, hK.blk h.hrow (hn hb (by omega) (by omega)), fun j hj hpj => ?_, h.wm.kept hK (hn wo (by omega) (by omega)) (hn wq (by omega) (by omega)) (hn wg (by omega) (by omega)), h.cols, h.old, h.kept.trans hK (fun k hk hkk => ?_)⟩
  · have hr := hK.blk h.orow (hn ho (by omega) (by omega))
    have : rowF (opv (upd ph i (p + 2)) oo) n = rowF (opv ph oo) n := by
      unfold rowF; refine List.map_congr_left fun j hj => ?_
      by_cases e : j = i
      · subst e; unfold opv; rw [upd_at, if_neg (by omega), if_neg (by omega)]
      · unfold opv; rw [upd_ne _ _ e]
    rw [this]; exact hr
  · by_cases e : j = i
    · subst e
      rw [upd_at, upd_at]
      exact ⟨hO', e1, e2⟩
    · rw [upd_ne _ _ e] at hpj ⊢
      rw [upd_ne _ _ e]
      obtain ⟨hO2, f1, f2⟩ := h.mach j hj hpj
      exact ⟨hO2.kept hK (hn _ (by omega) (by omega)) (hn _ (by omega) (by omega)), f1, f2⟩
  · have := h.old k hk; exact hn k (by omega) (by omega) hkk
theorem pw_rstep (h : PW w wr b g s ho hb n wo wq wg c lay oo qq ph v hd x V ld cw L col) {i o : Nat} (hi : i < n) (hK0 : Kept (fun _ => False) wr w2) (ho2 : Blk w2 o 80 (relv ((8 + i * 2 : Nat) : Int) false)) (hlt : wr.heap.size ≤ o) (hc : c < 9223372036854775808) :
    Calls Try.prog 24 #[.pointer (some ⟨o, 0, none⟩), .pointer (some ⟨b, 0, none⟩)] w2 fun e w' => e = .returned (.bool true) ∧ PW w w' b g s ho hb n wo wq wg (c + 1) lay oo qq ph v hd (upd x (i * 2) 0) V ld cw L col := by
  have hs0 := h.same0 hK0
  obtain ⟨l, hM, hs⟩ := hs0.mem
  obtain ⟨l1, l2, l3, l4, l5, l6, l7, l8, l9⟩ := h.ltb
  have hcc := h.cols
  refine (rel_step ho2 hM hs (k := i * 2) (by omega) (fun k hk => by omega) hc).mono ?_
  rintro e w' ⟨he, hm, hK⟩
  have hKK : Kept (fun k => k = o ∨ k = b ∨ k = g) wr w' := (hK0.mono (T := Own3 o b g) (fun _ h => h.elim)).trans hK (fun _ _ h => h)
  exact ⟨he, h.memo hKK (fun k hk hkl => by rcases hk with rfl | rfl | rfl; omega; exact hcc.1; exact hcc.2.1) hm⟩
theorem PW.nil (h : PW w wr b g s ho hb n wo wq wg c lay oo qq ph v hd x V ld cw L col) {i : Nat} (hi : i < n) :
    PW w (wr.setCell ⟨ho, i, none⟩ (.pointer none)) b g s ho hb n wo wq wg c lay oo qq (upd ph i 0) v hd x V ld cw L col := by
  obtain ⟨l1, l2, l3, l4, l5, l6, l7, l8, l9⟩ := h.ltb
  obtain ⟨c1, c2, c3, c4, c5, c6, c7, c8⟩ := h.cols
  have hne : ∀ k, col k ≠ 2 → k ≠ ho := fun k h2 e => by subst e; omega
  have hKs := (Kept.refl (fun k => k = ho) wr).setCell (a := ⟨ho, i, none⟩) (fun _ => rfl) (.pointer none)
  obtain ⟨l, hM, hsn⟩ := h.mem
  refine ⟨⟨l, hM.setFar (hne b (by omega)).symm (hne g (by omega)).symm _ _, hsn⟩, hKs.blk h.lay (hne s (by omega)), ?_, hKs.blk h.hrow (hne hb (by omega)), fun j hj hp => ?_, h.wm.kept hKs (hne wo (by omega)) (hne wq (by omega)) (hne wg (by omega)), h.cols, h.old, h.kept.setCell (a := ⟨ho, i, none⟩) (fun hh => ?_) _⟩
  · have hr := h.orow.set i (.pointer none)
    have e := rowF_set (opv ph oo) (opv (upd ph i 0) oo) n i (fun j _ hj => by unfold opv; rw [upd_ne _ _ hj])
    have e2 : opv (upd ph i 0) oo i = .pointer none := by unfold opv; rw [upd_at, if_pos rfl]
    rw [e2] at e
    rw [← e]; exact hr
  · by_cases e : j = i
    · subst e; rw [upd_at] at hp; exact absurd rfl hp
    · rw [upd_ne _ _ e] at hp ⊢
      obtain ⟨hO2, e1, e2⟩ := h.mach j hj hp
      exact ⟨hO2.kept hKs (hne _ (by omega)) (hne _ (by omega)), e1, e2⟩
  · have := h.old ho hh; omega
theorem PW.hset (h : PW w wr b g s ho hb n wo wq wg c lay oo qq ph v hd x V ld cw L col) {i : Nat} (hi : i < n) (u : Bool) :
    PW w (wr.setCell ⟨hb, i, none⟩ (.bool u)) b g s ho hb n wo wq wg c lay oo qq ph v (fun j => if j = i then u else hd j) x V ld cw L col := by
  obtain ⟨l1, l2, l3, l4, l5, l6, l7, l8, l9⟩ := h.ltb
  obtain ⟨c1, c2, c3, c4, c5, c6, c7, c8⟩ := h.cols
  have hne : ∀ k, col k ≠ 3 → k ≠ hb := fun k h2 e => by subst e; omega
  have hKs := (Kept.refl (fun k => k = hb) wr).setCell (a := ⟨hb, i, none⟩) (fun _ => rfl) (.bool u)
  obtain ⟨l, hM, hsn⟩ := h.mem
  refine ⟨⟨l, hM.setFar (hne b (by omega)).symm (hne g (by omega)).symm _ _, hsn⟩, hKs.blk h.lay (hne s (by omega)), hKs.blk h.orow (hne ho (by omega)), ?_, fun j hj hp => ?_, h.wm.kept hKs (hne wo (by omega)) (hne wq (by omega)) (hne wg (by omega)), h.cols, h.old, h.kept.setCell (a := ⟨hb, i, none⟩) (fun hh => ?_) _⟩
  · have hr := h.hrow.set i (.bool u)
    have e := rowF_set (fun j => .bool (hd j)) (fun j => .bool (if j = i then u else hd j)) n i (fun j _ hj => by simp [hj])
    simp only [if_true] at e
    rw [← e]; exact hr
  · obtain ⟨hO2, e1, e2⟩ := h.mach j hj hp
    exact ⟨hO2.kept hKs (hne _ (by omega)) (hne _ (by omega)), e1, e2⟩
  · have := h.old hb hh; omega
end

end Go.Proofs.Ytcmcgjdbopnbbaa
