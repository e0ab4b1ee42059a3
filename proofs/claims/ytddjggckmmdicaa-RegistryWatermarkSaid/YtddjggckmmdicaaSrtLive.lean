/-
  Live with its sort: whatever the words (fewer than 50), the answer is their ascending order. Condition: as live_any.
-/
import Derived.Test.YtddjggckmmdicaaRegLive
import Derived.Test.YtddjggckmmdicaaSrtAll
namespace Go.Proofs.Ytddjggckmmdicaa
open Go.RowKit Go.Deep

theorem live_srt (T S : Nat) (N C R F K a b d : Int) (hl : Lim (T : Int) (S : Int) N C R F) (p g : Nat) (l : List Cel) (k : Nat) (x : Nat → Nat) (n : Nat) (hn : T * S = n) (hx : Snaps l n x) (m : Nat) (hm : (raw x n).length = m) (h50 : m < 50) (w : World) (h : Mem w p g l k) :
    Calls Try.prog 16 #[.agg #[.int .i64 (T : Int), .int .i64 (S : Int), .int .i64 N, .int .i64 C, .int .i64 R, .int .i64 F, .int .u64 K, .int .i64 a, .int .i64 b, .int .i64 d], .pointer (some ⟨p, 0, none⟩)] w fun e w' => ∃ A c, e = .returned (.slice A m c) ∧ Rw w' A c ((raw x n).mergeSort (fun x y => decide (x ≤ y))) ∧ Below w.heap.size w w' :=
  live_any T S N C R F K a b d hl p g l k x n hn hx m hm _ w h fun A c w1 hR hz hA =>
    sort_any A c _ w1 m w.heap.size hm h50 hR hz (fun g off e => ⟨(hA g off e).1, fun j _ => (hA g off e).2 j⟩)
end Go.Proofs.Ytddjggckmmdicaa
