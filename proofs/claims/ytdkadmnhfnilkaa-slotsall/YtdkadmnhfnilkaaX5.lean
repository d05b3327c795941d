import Derived.Test.YtdkadmnhfnilkaaX2
import Derived.Test.YtdkadmnhfnilkaaX3
import Derived.Test.YtdkadmnhfnilkaaX4
namespace Go.Proofs.Ytdkadmnhfnilkaa
open Go.RowKit
set_option linter.unusedVariables false

theorem both_step {w : World} {g gb kn mo N r : Nat} {a : Option Addr} {cap : Nat} {E : List (Cp × Int)} (h : Pr w g gb kn mo N r a cap E) (s : Sp) (h1 : s.c.2.1 < B64) (h2 : s.c.2.2 < B64) :
    Calls Try.prog 25 #[.agg #[.pointer (some ⟨g, 0, none⟩), .pointer (some ⟨r, 0, none⟩)], .agg #[.bool s.sec, .int .i64 s.kd, .int .i64 s.c.1, .int .u64 (s.c.2.1 : Int), .int .u64 (s.c.2.2 : Int), .int .i64 s.v]] w (Stepped w g gb kn mo N r a) := by
  obtain ⟨sec, kd, ⟨o, hi, lo⟩, v⟩ := s
  simp only at h1 h2 ⊢
  by_cases k0 : kd = 0
  · subst k0
    rcases there_or E (o, hi, lo) with ⟨u, hu⟩ | hno
    · exact step_put_there h sec o hi lo v h1 h2 (key_mem hu)
    · have hm := h.t.most
      by_cases hf : E.length = mo
      · exact step_put_full h sec o hi lo v h1 h2 hno hf
      · exact step_put_ok h sec o hi lo v h1 h2 hno (by omega)
  by_cases k1 : kd = 1
  · subst k1
    rcases there_or E (o, hi, lo) with ⟨u, hu⟩ | hno
    · exact step_get_ok h sec o hi lo v h1 h2 u hu
    · exact step_get_none h sec o hi lo v h1 h2 hno
  by_cases k2 : kd = 2
  · subst k2
    rcases there_or E (o, hi, lo) with ⟨u, hu⟩ | hno
    · exact step_drop_ok h sec o hi lo v h1 h2 u hu
    · exact step_drop_none h sec o hi lo v h1 h2 hno
  by_cases k3 : kd = 3
  · subst k3
    exact step_caps h sec o hi lo v h1 h2
  · exact step_other h sec kd o hi lo v h1 h2 k0 k1 k2 k3
end Go.Proofs.Ytdkadmnhfnilkaa
