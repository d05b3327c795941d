import Derived.Test.YtciidjhadijhdaaVA
namespace Go.Proofs.Ytciidjhadijhdaa
open Go.RowKit Go.Shelf H
set_option linter.unusedVariables false
attribute [local go_sem] Oper.semAt_some

def stp (X : List Tk) (l : Fo) (s : List Int × List Tok) (x : Int) : List Int × List Tok :=
  (s.1.set x.toNat (s.2.length : Int), s.2 ++ [((tk X x).1, rg X x, if par l x = -1 then -1 else (s.1[(par l x).toNat]?).getD 0)])
def ofF (X : List Tk) (l : Fo) (mo : Nat) (A : List Int) : List Int × List Tok := A.foldl (stp X l) (List.replicate mo 0, [])
theorem ofF_snoc (X : List Tk) (l : Fo) (mo : Nat) (A : List Int) (a : Int) : ofF X l mo (A ++ [a]) = stp X l (ofF X l mo A) a := by unfold ofF; rw [List.foldl_append]; rfl
theorem ofF_len1 (X : List Tk) (l : Fo) (mo : Nat) : ∀ A, (ofF X l mo A).1.length = mo :=
  snoc_ind (P := fun A => (ofF X l mo A).1.length = mo) (by simp [ofF]) (fun A a ih => by rw [ofF_snoc]; simp [stp, ih])
theorem ofF_len2 (X : List Tk) (l : Fo) (mo : Nat) : ∀ A, (ofF X l mo A).2.length = A.length :=
  snoc_ind (P := fun A => (ofF X l mo A).2.length = A.length) (by simp [ofF]) (fun A a ih => by rw [ofF_snoc]; simp [stp, ih])
end Go.Proofs.Ytciidjhadijhdaa
