import Derived.Test.YtciidjhadijhdaaLA
import Derived.Test.YtciidjhadijhdaaLB
import Derived.Test.YtciidjhadijhdaaLC
namespace Go.Proofs.Ytciidjhadijhdaa.D
open Go.RowKit
open Go.Proofs.Ytciidjhadijhdaa.H (B64)
set_option linter.unusedVariables false

theorem new_law (a x : Option Addr) (n0 cap m mc : Nat) (f u : Nat → Nat) (v z : Int) (w : World) (hl : Ws w a n0 cap f) (hu : Ws w x m mc u) (hm : (m + 2) * 16 ≤ 140737488355328) (hold : 0 < m → ∀ y, x = some y → y.block < w.heap.size) :
    Calls Try.prog 3 #[.slice a n0 cap, .int .i64 v, .int .i64 z, .slice x m mc] w fun e w' => e = .returned (.bool true) ∧ Below w.heap.size w w' := by
  obtain ⟨q, -, -, -, hs⟩ := drawR_spec (P := hasW u m) (c := cutF f (wid v)) (n := min n0 500) (k := 9) (t := att z (min n0 500)) (at_in z (min n0 500) (by omega)).1
  rcases hs with ⟨h, _⟩ | ⟨h, _⟩ | ⟨h, _⟩
  · exact new_A a x n0 cap m mc f u v z w hl hu hm hold h
  · exact new_B a x n0 cap m mc f u v z w hl hu hm hold h
  · exact new_C a x n0 cap m mc f u v z w hl hu hm hold h
end Go.Proofs.Ytciidjhadijhdaa.D
