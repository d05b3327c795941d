import Derived.Test.YticgammbjcdobaaQM
import Derived.Test.YticgammbjcdobaaQO
namespace Go.Proofs.Yticgammbjcdobaa
open Go.RowKit
set_option linter.unusedVariables false
set_option linter.unusedSimpArgs false
/-- What a revoke may do to what a book says. -/
structure Less (B' B : Bv) : Prop where
  n : B'.n = B.n
  told : B'.told = B.told
  lists : B'.lists = B.lists
  known : B'.known = B.known
  laid : ∀ o i ls, B'.laid o i = some ls → B.laid o i = some ls
  ct : B'.ct = B.ct
/-- What is asked of a revoke. -/
def Rvk : Prop := ∀ (m : Bm) (B : Bv) (c : Cp) (w : World), Bk w m B → c.far → B.ct ≤ 100000000 →
    Calls Try.prog 21 #[.pointer (some ⟨m.g, 0, none⟩), capV c] w fun e w' => e = .returned (.tuple #[]) ∧ ∃ m' B', Bk w' m' B' ∧ Tr w w' m m' ∧ Less B' B
end Go.Proofs.Yticgammbjcdobaa
