/-
  The cells of the nodes in the kit's small configurations, and what lies in them at the start. Condition: a fanout of 4 to 6.
-/
import Derived.Test.YtboieccjikcdiaaDesMake
namespace Go.Proofs.Ytboieccjikcdiaa
open Go.RowKit Go.Deep Plain
set_option linter.unusedVariables false

/-- The address of a node's latch, and of its other cells, in the kit's small configurations. -/
def nla (F nid : Nat) : Int := nodeAt 100 (F : Int) 10 (nid : Int) 0
def nad (F nid : Nat) : Nat → Int := adr 100 (F : Int) 10 (nid : Int)
theorem limF {F : Nat} (h4 : 4 ≤ F) (h6 : F ≤ 6) : Lim 1 2 100 100 200 (F : Int) := by constructor <;> omega
theorem nla_eq {F nid : Nat} (h1 : 1 ≤ nid) (h2 : nid ≤ 100) : nla F nid = 10 + (((nid : Int) - 1) * (F : Int) + ((nid : Int) - 1) * 4) := by
  unfold nla nodeAt; rw [if_pos (by omega)]; omega
theorem nad_eq {F nid : Nat} (h1 : 1 ≤ nid) (h2 : nid ≤ 100) {r : Nat} (hr : r < F + 3) : nad F nid r = nla F nid + 1 + (r : Int) := by
  rw [nla_eq h1 h2]
  unfold nad adr
  have hn : ∀ p : Int, nodeAt 100 (F : Int) 10 (nid : Int) p = 10 + (((nid : Int) - 1) * (F : Int) + ((nid : Int) - 1) * 4) + p := fun p => by unfold nodeAt; rw [if_pos (by omega)]
  rcases (by omega : r = 0 ∨ r = 1 ∨ r = 2 ∨ 3 ≤ r) with rfl | rfl | rfl | h
  · rw [if_pos rfl, hn]; omega
  · rw [if_neg (by omega), if_pos rfl, hn]; omega
  · rw [if_neg (by omega), if_neg (by omega), if_pos rfl, hn]; omega
  · rw [if_neg (by omega), if_neg (by omega), if_neg (by omega)]
    unfold slotAt
    rw [if_pos (by omega), hn]; omega
theorem node_bd {F nid : Nat} (h6 : F ≤ 6) (h1 : 1 ≤ nid) (h2 : nid ≤ 100) : 0 ≤ ((nid : Int) - 1) * (F : Int) ∧ ((nid : Int) - 1) * (F : Int) ≤ 99 * (F : Int) :=
  ⟨Int.mul_nonneg (by omega) (by omega), Int.mul_le_mul_of_nonneg_right (by omega) (by omega)⟩

/-- What lies in the cells at the start. -/
structure Start (F : Nat) (l : List Cel) : Prop where
  lo : 10 + 100 * (F : Int) + 400 ≤ (l.length : Int)
  hi : l.length ≤ 1048576
  nats : Nats l
  zero : ∀ i : Int, i ≠ 0 → i ≠ 4 → i ≠ nad F 1 1 → cellAt l i = cel0
  high : cellAt l (nad F 1 1) = (0, ⟨#[]⟩, 1)
theorem ads_of {F nid n : Nat} (h4 : 4 ≤ F) (h6 : F ≤ 6) (h1 : 1 ≤ nid) (h2 : nid ≤ 100) (hn : 10 + 100 * (F : Int) + 400 ≤ (n : Int)) : Ads F (nla F nid) (nad F nid) n := by
  have hb := node_bd h6 h1 h2
  have hl := nla_eq (F := F) h1 h2
  refine ⟨by omega, fun r hr => ?_, fun r hr => ?_, fun r t hr ht e => ?_⟩
  · rw [nad_eq h1 h2 hr]; omega
  · rw [nad_eq h1 h2 hr]; omega
  · rw [nad_eq h1 h2 hr, nad_eq h1 h2 ht] at e; omega
theorem start_of {F : Nat} (h4 : 4 ≤ F) (h6 : F ≤ 6) : Start F (startCells 1 2 100 100 200 (F : Int)) := by
  have hlen := startCells_length 1 2 100 100 200 (F : Int) (limF h4 h6)
  have hall : allCells 1 2 100 100 200 (F : Int) = 10 + (100 * (F : Int) + 400) + 100 + 600 := by
    unfold allCells firstRecord firstChain firstNode; omega
  have he : nodeAt 100 (F : Int) (firstNode 1 2) 1 2 = nad F 1 1 := rfl
  have hlo : (0 : Int) ≤ nad F 1 1 ∧ nad F 1 1 = 12 := by rw [nad_eq (by omega) (by omega) (by omega), nla_eq (by omega) (by omega)]; omega
  have hr : ((List.replicate (allCells 1 2 100 100 200 (F : Int)).toNat cel0).length : Int) = allCells 1 2 100 100 200 (F : Int) := by rw [List.length_replicate]; omega
  have hc : ∀ i : Int, cellAt (startCells 1 2 100 100 200 (F : Int)) i = if nad F 1 1 = i then (0, ⟨#[]⟩, 1) else if i = 4 then (1, ⟨#[]⟩, 0) else if i = 0 then (1, ⟨#[]⟩, 0) else cel0 := fun i => by
    unfold startCells
    rw [he, cellAt_putAt, cellAt_putAt, cellAt_putAt, putAt_length, putAt_length]
    by_cases h1 : nad F 1 1 = i
    · rw [if_pos ⟨h1, hlo.1, by omega⟩, if_pos h1]
    · rw [if_neg (fun h => h1 h.1), if_neg h1]
      by_cases h2 : i = 4
      · rw [if_pos ⟨h2.symm, by omega, by omega⟩, if_pos h2]
      · rw [if_neg (fun h => h2 h.1.symm), if_neg h2]
        by_cases h3 : i = 0
        · rw [if_pos ⟨h3.symm, by omega, by omega⟩, if_pos h3]
        · rw [if_neg (fun h => h3 h.1.symm), if_neg h3]
          exact cellAt_zero _ _
  refine ⟨by omega, by omega, fun i => ?_, fun i h0 h4' h1 => ?_, ?_⟩
  · rw [hc]
    split
    · exact ⟨0, 1, _, rfl, by omega, by omega⟩
    · split
      · exact ⟨1, 0, _, rfl, by omega, by omega⟩
      · split
        · exact ⟨1, 0, _, rfl, by omega, by omega⟩
        · exact nat0
  · rw [hc, if_neg (fun e => h1 e.symm), if_neg h4', if_neg h0]
  · rw [hc, if_pos rfl]
/-- At the start node 1 is an empty leaf, and its latch is zero. -/
theorem Start.one {F : Nat} {l : List Cel} (h4 : 4 ≤ F) (h6 : F ≤ 6) (h : Start F l) : Holds (nad F 1) l pg0 ∧ cellAt l (nla F 1) = cel0 := by
  have hl := nla_eq (F := F) (nid := 1) (by omega) (by omega)
  have hr : ∀ r : Nat, r < 3 → nad F 1 r = 11 + (r : Int) := fun r hr => by rw [nad_eq (by omega) (by omega) (by omega), hl]; omega
  refine ⟨fun r hlt => ?_, h.zero _ (by omega) (by omega) (by rw [hr 1 (by omega)]; omega)⟩
  have hlt' : r < 3 := hlt
  rcases (by omega : r = 0 ∨ r = 1 ∨ r = 2) with rfl | rfl | rfl
  · rw [h.zero _ (by rw [hr 0 (by omega)]; omega) (by rw [hr 0 (by omega)]; omega) (by rw [hr 0 (by omega), hr 1 (by omega)]; omega)]; rfl
  · rw [h.high]; rfl
  · rw [h.zero _ (by rw [hr 2 (by omega)]; omega) (by rw [hr 2 (by omega)]; omega) (by rw [hr 2 (by omega), hr 1 (by omega)]; omega)]; rfl
theorem Start.ads {F nid : Nat} {l : List Cel} (h : Start F l) (h4 : 4 ≤ F) (h6 : F ≤ 6) (h1 : 1 ≤ nid) (h2 : nid ≤ 100) : Ads F (nla F nid) (nad F nid) l.length := ads_of h4 h6 h1 h2 h.lo

/-- What the kit's Memory answers for its own small configurations. -/
def KitOk (F : Nat) (w : World) (e : Ending) (w' : World) : Prop :=
  ∃ (b g : Nat) (l : List Cel) (fb fd : Int), e = .returned (.tuple #[.agg #[.int .i64 1, .int .i64 2, .int .i64 100, .int .i64 100, .int .i64 200, .int .i64 (F : Int), .int .u64 1000, .int .i64 10, .int .i64 fb, .int .i64 fd], .pointer (some ⟨b, 0, none⟩)]) ∧
    Mem w' b g l 0 ∧ Start F l ∧ Reach3 10 fb fd ∧ w.heap.size ≤ b ∧ w.heap.size ≤ g ∧ Kept (fun _ => False) w w'
theorem kitMem (F : Nat) (h4 : 4 ≤ F) (h6 : F ≤ 6) (w : World) :
    Calls Try.prog 28 #[.agg #[.int .i64 1, .int .i64 2, .int .i64 100, .int .i64 100, .int .i64 200, .int .i64 (F : Int), .int .u64 1000]] w (KitOk F w) := by
  refine (kitMemory_yes 1 2 100 100 200 (F : Int) 1000 (limF h4 h6) (by omega) (by omega) w).mono ?_
  rintro e w' ⟨b, g, he, hM, hb, hg, hK⟩
  exact ⟨b, g, _, firstChain 1 2 100 (F : Int), firstRecord 1 2 100 100 (F : Int), he, hM, start_of h4 h6, (limF h4 h6).reach, hb, hg, hK⟩
set_option maxHeartbeats 1000000 in
theorem kitConfig_any (T f : Int) (F : Nat) (hf : 4 + f % 3 = (F : Int)) (w : World) :
    Calls Try.prog 27 #[.int .i64 T, .int .i64 f] w fun e w' => e = .returned (.agg #[.int .i64 T, .int .i64 2, .int .i64 100, .int .i64 100, .int .i64 200, .int .i64 (F : Int), .int .u64 1000]) ∧ Kept (fun _ => False) w w' := by
  obtain ⟨m, hm⟩ : ∃ m : Nat, f % 3 = (m : Int) := ⟨(f % 3).toNat, by omega⟩
  have hF : 4 + (m : Int) = (F : Int) := by omega
  have HM := Lib.hid hm
  have hm3 : m < 3 := by omega
  clear hf hm
  go_enter Try.func27, Try.ntmps27
  go_wp2_with fail
  refine (mod_of f 3 m _ (by omega) (by omega) HM.out).mono ?_; rintro e w2 ⟨rfl, rfl⟩
  go_wp2
  refine bodyPost_ret (v := .agg #[.int .i64 T, .int .i64 2, .int .i64 100, .int .i64 100, .int .i64 200, .int .i64 (F : Int), .int .u64 1000]) ?_ rfl ⟨rfl, ?_⟩
  · have hE := Blk.new w [.int .i64 T, .int .i64 2, .int .i64 100, .int .i64 100, .int .i64 200, .int .i64 (F : Int), .int .u64 1000] 25
    have q0 := hE.cell (i := 0) rfl
    have q1 := hE.cell (i := 1) rfl
    have q2 := hE.cell (i := 2) rfl
    have q3 := hE.cell (i := 3) rfl
    have q4 := hE.cell (i := 4) rfl
    have q5 := hE.cell (i := 5) rfl
    have q6 := hE.cell (i := 6) rfl
    clear hE
    simp [results, Try.results27, go_sem, q0, q1, q2, q3, q4, q5, q6]
  · exact (Kept.refl _ _).alloc _
end Go.Proofs.Ytboieccjikcdiaa
