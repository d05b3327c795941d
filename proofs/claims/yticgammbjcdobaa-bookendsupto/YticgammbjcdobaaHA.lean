import Derived.Test.YticgammbjcdobaaA2
import Derived.Test.YticgammbjcdobaaCB
import Derived.Test.YticgammbjcdobaaRows
import Derived.Laws.BitsAllLaws
import Derived.WalkKit
import Derived.WalkSpells
import Derived.WalkLawsBesides
import Derived.Deep.RegionHeld3
import Derived.Deep.QuietTactic
import Derived.BigQuiet
namespace Go.Proofs.Yticgammbjcdobaa.W
end Go.Proofs.Yticgammbjcdobaa.W
namespace Go.Proofs.Yticgammbjcdobaa.W
open Go.RowKit
theorem below_call {w W w1 : World} (h : Below w.heap.size w W) (hb : Below W.heap.size W w1) : Below w.heap.size w w1 := h.trans (hb.mono h.size)
end Go.Proofs.Yticgammbjcdobaa.W
namespace Go.Proofs.Yticgammbjcdobaa.W
open Go.RowKit
end Go.Proofs.Yticgammbjcdobaa.W
namespace Go.Proofs.Yticgammbjcdobaa.W
open Go.RowKit
end Go.Proofs.Yticgammbjcdobaa.W
namespace Go.Proofs.Yticgammbjcdobaa.W
open Go.RowKit
theorem u8s_get (l : List Nat) (i : Nat) : (u8s l).toArray[i]? = l[i]?.map fun (n : Nat) => Value.int .u8 (n : Int) := by simp [u8s]
end Go.Proofs.Yticgammbjcdobaa.W
