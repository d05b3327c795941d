import Derived.Test.YticgammbjcdobaaA5
import Derived.Test.YticgammbjcdobaaHA
namespace Go.Proofs.Yticgammbjcdobaa
open Go.RowKit
set_option linter.unusedVariables false
set_option linter.unusedSimpArgs false
theorem p16 (v : Nat) (hv : v < 65536) (w : World) : Calls Try.prog 72 #[.slice none 0 0, .int .u16 (v : Int)] w fun e w' => ∃ a c, e = .returned (.slice a 2 c) ∧ Own w' w.heap.size a 2 c (leL v 2) ∧ Below w.heap.size w w' := by
  refine (put16 none 0 0 [] v w hv (row_nil w) (by omega)).mono ?_
  rintro e w' ⟨a, c, rfl, h, hb⟩
  exact ⟨a, c, rfl, h, hb⟩
end Go.Proofs.Yticgammbjcdobaa
