import Derived.Test.YticgammbjcdobaaA2
namespace Go.Proofs.Yticgammbjcdobaa
def wi (n a b : Int) : Bool := decide (a ≤ n) && decide (n ≤ b)
theorem wi_iff {n a b : Int} : wi n a b = true ↔ a ≤ n ∧ n ≤ b := by simp [wi]
end Go.Proofs.Yticgammbjcdobaa
namespace Go.Proofs.Yticgammbjcdobaa
end Go.Proofs.Yticgammbjcdobaa
