/-
  The statements' own example 'awake' answers yes. Condition: none.
-/
import Derived.Test.YtegbdpelnmaijaaPagAwake
namespace Go.Proofs.Ytegbdpelnmaijaa
open Go.RowKit Go.Deep Plain
set_option linter.unusedVariables false

theorem below_two (w : World) (o1 o2 : Obj) : Below w.heap.size w ((w.alloc o1).alloc o2) := ((Below.refl _ _).alloc (Nat.le_refl _) _).alloc (by rw [nblk_alloc]; omega) _
theorem two_size (w : World) (o1 o2 : Obj) : w.heap.size ≤ ((w.alloc o1).alloc o2).heap.size := by rw [nblk_alloc, nblk_alloc]; omega
def exS : List Sl := [(⟨#[97]⟩, 1), (⟨#[99, 97, 114, 112]⟩, 2), (⟨#[99, 97, 114, 116]⟩, 3), (⟨#[100]⟩, 4)]
theorem lt_lit (x : Sl) (k : ByteArray) (h : ltB x.1.data.toList k.data.toList = true) : lt x k = true := by unfold lt; rw [Lib.toList_data, Lib.toList_data]; exact h
theorem exS_asc : AscI exS := ascI_of (by
  exact ⟨lt_lit _ _ rfl, lt_lit _ _ rfl, lt_lit _ _ rfl, trivial⟩)
theorem exS_ref : RefI exS := fun i x hx => by
  have hm := List.mem_of_getElem? hx
  unfold exS at hm
  simp only [List.mem_cons, List.not_mem_nil, or_false] at hm
  rcases hm with rfl | rfl | rfl | rfl <;> decide
theorem sep_cart : sepB ⟨#[99, 97, 114, 112]⟩ ⟨#[99, 97, 114, 116]⟩ = ⟨#[99, 97, 114, 116]⟩ := by
  apply toList_inj; rw [sepB_toList, Lib.toList_data, Lib.toList_data]; rfl
theorem exS_good : true = true ↔ Good 0 4 exS ⟨#[]⟩ true 0 4 :=
  ⟨fun _ => ⟨⟨by omega, by omega, .inl rfl⟩, exS_asc, exS_ref, fun _ => ⟨rfl, rfl⟩, fun h => (by cases h)⟩, fun _ => rfl⟩
theorem ex_rs (w : World) : Rs (w.alloc (.cells #[.string ⟨#[97]⟩, .int .u64 1, .string ⟨#[99, 97, 114, 112]⟩, .int .u64 2, .string ⟨#[99, 97, 114, 116]⟩, .int .u64 3, .string ⟨#[100]⟩, .int .u64 4] 32)) (some ⟨w.heap.size, 0, none⟩) 4 exS :=
  ⟨Nat.le_refl _, by unfold maxLen; omega, fun h => (by cases h), fun _ => ⟨_, _, rfl, by simp, fun j u hu => by
    rw [Nat.zero_add]
    exact (Blk.new w [.string ⟨#[97]⟩, .int .u64 1, .string ⟨#[99, 97, 114, 112]⟩, .int .u64 2, .string ⟨#[99, 97, 114, 116]⟩, .int .u64 3, .string ⟨#[100]⟩, .int .u64 4] 32).cell hu⟩⟩

set_option maxHeartbeats 2000000 in
theorem awake_any (w : World) :
    Calls Try.prog 9 #[] w fun e w' => e = .returned (.bool true) ∧ Below w.heap.size w w' := by
  have k1 : (⟨#[99, 97, 114, 112]⟩ : ByteArray).size ≤ maxLen := by unfold maxLen; decide
  have k2 : (⟨#[99, 97, 114, 116]⟩ : ByteArray).size ≤ maxLen := by unfold maxLen; decide
  have hR := ex_rs w
  have hb := Blk.new (w.alloc (.cells #[.string ⟨#[97]⟩, .int .u64 1, .string ⟨#[99, 97, 114, 112]⟩, .int .u64 2, .string ⟨#[99, 97, 114, 116]⟩, .int .u64 3, .string ⟨#[100]⟩, .int .u64 4] 32)) [.int .i64 0, .slice (some ⟨w.heap.size, 0, none⟩) 4 4, .string ⟨#[]⟩, .bool true, .int .u64 0] 25
  have hz := nblk_alloc w (.cells #[.string ⟨#[97]⟩, .int .u64 1, .string ⟨#[99, 97, 114, 112]⟩, .int .u64 2, .string ⟨#[99, 97, 114, 116]⟩, .int .u64 3, .string ⟨#[100]⟩, .int .u64 4] 32)
  have hB0 : Below w.heap.size w ((w.alloc (.cells #[.string ⟨#[97]⟩, .int .u64 1, .string ⟨#[99, 97, 114, 112]⟩, .int .u64 2, .string ⟨#[99, 97, 114, 116]⟩, .int .u64 3, .string ⟨#[100]⟩, .int .u64 4] 32)).alloc (.cells #[.int .i64 0, .slice (some ⟨w.heap.size, 0, none⟩) 4 4, .string ⟨#[]⟩, .bool true, .int .u64 0] 25)) :=
    ((Below.refl _ _).alloc (Nat.le_refl _) _).alloc (by rw [hz]; omega) _
  go_enter Try.func9, Try.ntmps9
  go_wp2_with fail
  refine (split_four _ 4 ⟨#[]⟩ true 0 exS 7 _ rfl (hR.below ((Below.refl _ _).alloc (Nat.le_refl _) _) (Nat.le_refl _)) _ _ rfl rfl k1 k2 _ sep_cart).mono ?_; rintro e w1 ⟨A1, c1, A2, c2, rfl, hB1⟩
  have hz2 := nblk_alloc (w.alloc (.cells #[.string ⟨#[97]⟩, .int .u64 1, .string ⟨#[99, 97, 114, 112]⟩, .int .u64 2, .string ⟨#[99, 97, 114, 116]⟩, .int .u64 3, .string ⟨#[100]⟩, .int .u64 4] 32)) (.cells #[.int .i64 0, .slice (some ⟨w.heap.size, 0, none⟩) 4 4, .string ⟨#[]⟩, .bool true, .int .u64 0] 25)
  rw [hz] at hz2 hb
  have hs1 := hB1.size
  rw [hz2] at hB1 hs1
  have hb1 := hb.below hB1 (by omega)
  have hB2 := hB0.trans (hB1.mono (by omega))
  have hR1 := hR.below (((Below.refl _ _).alloc (Nat.le_refl _) (.cells #[.int .i64 0, .slice (some ⟨w.heap.size, 0, none⟩) 4 4, .string ⟨#[]⟩, .bool true, .int .u64 0] 25)).trans (hB1.mono (by omega))) (Nat.le_refl _)
  have x0 := hb1.cell (i := 0) rfl
  have x1 := hb1.cell (i := 1) rfl
  have x2 := hb1.cell (i := 2) rfl
  have x3 := hb1.cell (i := 3) rfl
  have x4 := hb1.cell (i := 4) rfl
  have hlt : w.heap.size + 1 < w1.heap.size := by omega
  have hlt2 : w.heap.size < w1.heap.size := by omega
  have HR := Lib.hid hR1
  have HB := Lib.hid hB2
  clear hR hb hz hB0 hz2 hB1 hb1 hB2 hR1 hs1
  go_wp2_with fail
  refine (check_any 0 _ 4 ⟨#[]⟩ true 0 exS 4 _ 4 rfl (by omega) (HR.out.below (below_two _ _ _) (Nat.le_refl _)) true exS_good).mono ?_; rintro e w2 ⟨rfl, hB3⟩
  have HB3 := Lib.hid ((HB.out.trans ((below_two _ _ _).mono (by omega))).trans (hB3.mono (Nat.le_trans (by omega) (two_size _ _ _))))
  clear hB3
  go_wp2
  go_ret
  exact ⟨by simp, HB3.out⟩
end Go.Proofs.Ytegbdpelnmaijaa
