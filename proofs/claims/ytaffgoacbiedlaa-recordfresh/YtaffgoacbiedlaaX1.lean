import Derived.Test.YtaffgoacbiedlaaS4
import Derived.Test.YtaffgoacbiedlaaT5
namespace Go.Proofs.Ytaffgoacbiedlaa
open Go.RowKit
set_option linter.unusedVariables false
set_option linter.unusedSimpArgs false

set_option maxRecDepth 100000 in
theorem into_any (n top : Int) (w : World) (h : 0 < top) (h2 : top ≤ 4611686018427387904) : Calls Try.prog 9 #[.int .i64 n, .int .i64 top] w fun e w' => e = .returned (.int .i64 (n % top)) ∧ w' = w := by
  have hz : (top == 0) = false := by simp; omega
  have hz2 : ¬ top = 0 := by omega
  have hm := Int.emod_nonneg n hz2
  have hm2 := Int.emod_lt_of_pos n h
  have ht : n.tmod top = n % top ∨ n.tmod top = n % top - top ∧ n.tmod top < 0 := by
    by_cases hn : 0 ≤ n
    · left; exact Int.tmod_eq_emod_of_nonneg hn
    · have := @Int.tmod_eq_emod n top
      by_cases hd : top ∣ n
      · left
        rw [this, if_pos (.inr hd)]; simp
      · right
        rw [if_neg (by rintro (h | h); exact hn h; exact hd h)] at this
        have e : (top.natAbs : Int) = top := Int.natAbs_of_nonneg (by omega)
        rw [e] at this
        exact ⟨this, by omega⟩
  generalize hq : n.tmod top = q at ht
  generalize n % top = m at *
  have ew : IntKind.i64.wrap q = q := by rw [IntKind.wrap_i64]; omega
  rcases ht with rfl | ⟨rfl, hlt⟩
  · have hd : decide (q < 0) = false := by simp; omega
    go_enter Try.func9, Try.ntmps9
    go_wp2
    go_ret
    exact ⟨rfl, rfl⟩
  · have hd : decide (m - top < 0) = true := by simp; omega
    have ea : IntKind.i64.wrap (m - top + top) = m := by rw [IntKind.wrap_i64]; omega
    go_enter Try.func9, Try.ntmps9
    go_wp2
    go_ret
    exact ⟨rfl, rfl⟩
end Go.Proofs.Ytaffgoacbiedlaa
