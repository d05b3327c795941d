import Derived.Test.YtaffgoacbiedlaaYA
import Derived.Test.YtaffgoacbiedlaaYB
import Derived.Test.YtaffgoacbiedlaaYC
import Derived.Test.YtaffgoacbiedlaaYD
import Derived.Test.YtaffgoacbiedlaaYE
import Derived.Test.YtaffgoacbiedlaaYF
import Derived.Test.YtaffgoacbiedlaaYG
namespace Go.Proofs.Ytaffgoacbiedlaa
open Go.RowKit
set_option linter.unusedVariables false
set_option linter.unusedSimpArgs false

theorem zltf : (0 : Nat) < 18446744073709551616 := by omega
theorem formed_any (L : List Value) (c : Cl) (w : World) (h : Cc w L c) :
    Calls Try.prog 14 #[.agg L.toArray] w fun e w' => ∃ L', e = .returned (.agg L'.toArray) ∧ Cc w' L' (foR c) ∧ Below w.heap.size w w' := by
  obtain ⟨⟨da, dn, dc⟩, ⟨ga, gn, gc⟩, rfl, hD, hG, h1, h2⟩ := h.ex
  obtain ⟨op, by_, size, obj, hi, lo, given, rights, off, n, D, index, G⟩ := c
  simp only at hD hG h1 h2
  have hl := hD.len
  have hcap := hD.cap_
  have q1 := Int.emod_nonneg op (by decide : (10 : Int) ≠ 0)
  have q2 := Int.emod_lt_of_pos op (by decide : (0 : Int) < 10)
  have hx : IntKind.i64.wrap (1 + op % 10) = 1 + op % 10 := by rw [IntKind.wrap_i64]; omega
  have s1 := Int.emod_nonneg size (by decide : (4294967296 : Int) ≠ 0)
  have s2 := Int.emod_lt_of_pos size (by decide : (0 : Int) < 4294967296)
  have o1 := Int.emod_nonneg off (by decide : (4294967296 : Int) ≠ 0)
  have o2 := Int.emod_lt_of_pos off (by decide : (0 : Int) < 4294967296)
  have n1 := Int.emod_nonneg n (by decide : (4294967296 : Int) ≠ 0)
  have n2 := Int.emod_lt_of_pos n (by decide : (0 : Int) < 4294967296)
  have r1 := Int.emod_nonneg rights (by decide : (256 : Int) ≠ 0)
  have r2 := Int.emod_lt_of_pos rights (by decide : (0 : Int) < 256)
  have i1 := Int.emod_nonneg index (by decide : (65536 : Int) ≠ 0)
  have i2 := Int.emod_lt_of_pos index (by decide : (0 : Int) < 65536)
  obtain ⟨m, hm⟩ : ∃ m : Nat, m = min dn 1025 := ⟨_, rfl⟩
  have hmn : (if (1025 : Int) < (dn : Int) then (1025 : Int) else (dn : Int)) = (m : Int) := by split <;> omega
  have hmd : m ≤ dn := by omega
  have htk : D.take 1025 = D.take m := by
    by_cases hh : dn ≤ 1025
    · rw [List.take_of_length_le (by omega), List.take_of_length_le (by omega)]
    · congr 1; omega
  by_cases c1 : 1 + op % 10 = 1
  · refine (fo1 op by_ size obj hi lo given rights off n da dn dc index ga gn gc w _ _ _ m _ rfl (by rw [hx, c1]) rfl rfl hmn hcap hmd rfl s1 s2).mono ?_
    rintro e w' ⟨rfl, hb⟩
    have e : foR ⟨op, by_, size, obj, hi, lo, given, rights, off, n, D, index, G⟩ = ⟨1, by_ % 65536, size % 4294967296 - 2147483648, 0, 0, 0, false, 0, 0, 0, [], 0, []⟩ := by unfold foR; simp only; rw [if_pos c1]
    rw [e]
    exact ⟨cC ⟨1, by_ % 65536, size % 4294967296 - 2147483648, 0, 0, 0, false, 0, 0, 0, [], 0, []⟩ Sl.nil Sl.nil, rfl, ⟨Sl.nil, Sl.nil, rfl, row_nil _, RI.nil _, zltf, zltf⟩, hb⟩
  have e247 : ∀ o : Int, 1 + op % 10 = o → (o = 2 ∨ o = 4 ∨ o = 7) → foR ⟨op, by_, size, obj, hi, lo, given, rights, off, n, D, index, G⟩ = ⟨o, by_ % 65536, 0, obj % 4611686018427387904, hi, lo, false, 0, 0, 0, [], 0, []⟩ := fun o ho h => by
    unfold foR; simp only; rw [if_neg c1, ho, if_pos h]
  by_cases c2 : 1 + op % 10 = 2
  · refine (fo2 op by_ size obj hi lo given rights off n da dn dc index ga gn gc w _ _ _ m rfl (by rw [hx, c2]) rfl rfl hmn hcap hmd).mono ?_
    rintro e w' ⟨rfl, hb⟩
    rw [e247 2 c2 (by omega)]
    exact ⟨cC ⟨2, by_ % 65536, 0, obj % 4611686018427387904, hi, lo, false, 0, 0, 0, [], 0, []⟩ Sl.nil Sl.nil, rfl, ⟨Sl.nil, Sl.nil, rfl, row_nil _, RI.nil _, h1, h2⟩, hb⟩
  by_cases c4 : 1 + op % 10 = 4
  · refine (fo4 op by_ size obj hi lo given rights off n da dn dc index ga gn gc w _ _ _ m rfl (by rw [hx, c4]) rfl rfl hmn hcap hmd).mono ?_
    rintro e w' ⟨rfl, hb⟩
    rw [e247 4 c4 (by omega)]
    exact ⟨cC ⟨4, by_ % 65536, 0, obj % 4611686018427387904, hi, lo, false, 0, 0, 0, [], 0, []⟩ Sl.nil Sl.nil, rfl, ⟨Sl.nil, Sl.nil, rfl, row_nil _, RI.nil _, h1, h2⟩, hb⟩
  by_cases c7 : 1 + op % 10 = 7
  · refine (fo7 op by_ size obj hi lo given rights off n da dn dc index ga gn gc w _ _ _ m rfl (by rw [hx, c7]) rfl rfl hmn hcap hmd).mono ?_
    rintro e w' ⟨rfl, hb⟩
    rw [e247 7 c7 (by omega)]
    exact ⟨cC ⟨7, by_ % 65536, 0, obj % 4611686018427387904, hi, lo, false, 0, 0, 0, [], 0, []⟩ Sl.nil Sl.nil, rfl, ⟨Sl.nil, Sl.nil, rfl, row_nil _, RI.nil _, h1, h2⟩, hb⟩
  have c247 : ¬ (1 + op % 10 = 2 ∨ 1 + op % 10 = 4 ∨ 1 + op % 10 = 7) := by omega
  by_cases c3 : 1 + op % 10 = 3
  · refine (fo3 op by_ size obj hi lo given rights off n da dn dc index ga gn gc w _ _ _ m _ rfl (by rw [hx, c3]) rfl rfl hmn hcap hmd rfl r1 r2).mono ?_
    rintro e w' ⟨rfl, hb⟩
    have e : foR ⟨op, by_, size, obj, hi, lo, given, rights, off, n, D, index, G⟩ = ⟨3, by_ % 65536, 0, obj % 4611686018427387904, hi, lo, false, rights % 256, 0, 0, [], 0, []⟩ := by unfold foR; simp only; rw [if_neg c1, if_neg c247, if_pos c3]
    rw [e]
    exact ⟨cC ⟨3, by_ % 65536, 0, obj % 4611686018427387904, hi, lo, false, rights % 256, 0, 0, [], 0, []⟩ Sl.nil Sl.nil, rfl, ⟨Sl.nil, Sl.nil, rfl, row_nil _, RI.nil _, h1, h2⟩, hb⟩
  by_cases c5 : 1 + op % 10 = 5
  · have e : foR ⟨op, by_, size, obj, hi, lo, given, rights, off, n, D, index, G⟩ = ⟨5, by_ % 65536, 0, obj % 4611686018427387904, if given then hi else 0, if given then lo else 0, given, 0, off % 4294967296 - 2147483648, n % 4294967296 - 2147483648, [], 0, []⟩ := by unfold foR; simp only; rw [if_neg c1, if_neg c247, if_neg c3, if_pos c5]
    rw [e]
    cases given with
    | true =>
      refine (fo5t op by_ size obj hi lo rights off n da dn dc index ga gn gc w _ _ _ m _ _ rfl (by rw [hx, c5]) rfl rfl hmn hcap hmd rfl o1 o2 rfl n1 n2).mono ?_
      rintro e w' ⟨rfl, hb⟩
      exact ⟨cC ⟨5, by_ % 65536, 0, obj % 4611686018427387904, hi, lo, true, 0, off % 4294967296 - 2147483648, n % 4294967296 - 2147483648, [], 0, []⟩ Sl.nil Sl.nil, rfl, ⟨Sl.nil, Sl.nil, rfl, row_nil _, RI.nil _, h1, h2⟩, hb⟩
    | false =>
      refine (fo5f op by_ size obj hi lo rights off n da dn dc index ga gn gc w _ _ _ m _ _ rfl (by rw [hx, c5]) rfl rfl hmn hcap hmd rfl o1 o2 rfl n1 n2).mono ?_
      rintro e w' ⟨rfl, hb⟩
      exact ⟨cC ⟨5, by_ % 65536, 0, obj % 4611686018427387904, 0, 0, false, 0, off % 4294967296 - 2147483648, n % 4294967296 - 2147483648, [], 0, []⟩ Sl.nil Sl.nil, rfl, ⟨Sl.nil, Sl.nil, rfl, row_nil _, RI.nil _, zltf, zltf⟩, hb⟩
  by_cases c6 : 1 + op % 10 = 6
  · have e : foR ⟨op, by_, size, obj, hi, lo, given, rights, off, n, D, index, G⟩ = ⟨6, by_ % 65536, 0, obj % 4611686018427387904, if given then hi else 0, if given then lo else 0, given, 0, off % 4294967296 - 2147483648, 0, D.take m, 0, []⟩ := by unfold foR; simp only; rw [if_neg c1, if_neg c247, if_neg c3, if_neg c5, if_pos c6, htk]
    rw [e]
    have hrow := hD.take m hmd (hD.none_len m hmd)
    cases given with
    | true =>
      refine (fo6t op by_ size obj hi lo rights off n da dn dc index ga gn gc w _ _ _ m _ rfl (by rw [hx, c6]) rfl rfl hmn hcap hmd rfl o1 o2).mono ?_
      rintro e w' ⟨rfl, hb⟩
      exact ⟨cC ⟨6, by_ % 65536, 0, obj % 4611686018427387904, hi, lo, true, 0, off % 4294967296 - 2147483648, 0, D.take m, 0, []⟩ ⟨da, m, dc⟩ Sl.nil, rfl, ⟨⟨da, m, dc⟩, Sl.nil, rfl, hrow.later hb, RI.nil _, h1, h2⟩, hb⟩
    | false =>
      refine (fo6f op by_ size obj hi lo rights off n da dn dc index ga gn gc w _ _ _ m _ rfl (by rw [hx, c6]) rfl rfl hmn hcap hmd rfl o1 o2).mono ?_
      rintro e w' ⟨rfl, hb⟩
      exact ⟨cC ⟨6, by_ % 65536, 0, obj % 4611686018427387904, 0, 0, false, 0, off % 4294967296 - 2147483648, 0, D.take m, 0, []⟩ ⟨da, m, dc⟩ Sl.nil, rfl, ⟨⟨da, m, dc⟩, Sl.nil, rfl, hrow.later hb, RI.nil _, zltf, zltf⟩, hb⟩
  by_cases c8 : 1 + op % 10 = 8
  · refine (fo8 op by_ size obj hi lo given rights off n da dn dc index ga gn gc w _ _ _ m _ rfl (by rw [hx, c8]) rfl rfl hmn hcap hmd rfl i1 i2).mono ?_
    rintro e w' ⟨rfl, hb⟩
    have e : foR ⟨op, by_, size, obj, hi, lo, given, rights, off, n, D, index, G⟩ = ⟨8, by_ % 65536, 0, 0, 0, 0, false, 0, 0, 0, [], index % 65536, []⟩ := by unfold foR; simp only; rw [if_neg c1, if_neg c247, if_neg c3, if_neg c5, if_neg c6, if_pos c8]
    rw [e]
    exact ⟨cC ⟨8, by_ % 65536, 0, 0, 0, 0, false, 0, 0, 0, [], index % 65536, []⟩ Sl.nil Sl.nil, rfl, ⟨Sl.nil, Sl.nil, rfl, row_nil _, RI.nil _, zltf, zltf⟩, hb⟩
  by_cases c9 : 1 + op % 10 = 9
  · refine (fo9 op by_ size obj hi lo given rights off n da dn dc index ga gn gc w _ _ _ m G rfl (by rw [hx, c9]) rfl rfl hmn hcap hmd hG).mono ?_
    rintro e w' ⟨x, k, c, rfl, hO, hb⟩
    have e : foR ⟨op, by_, size, obj, hi, lo, given, rights, off, n, D, index, G⟩ = ⟨9, by_ % 65536, 0, 0, 0, 0, false, 0, 0, 0, [], 0, (G.take 255).map (· % 65536)⟩ := by unfold foR; simp only; rw [if_neg c1, if_neg c247, if_neg c3, if_neg c5, if_neg c6, if_neg c8, if_pos c9]
    rw [e]
    exact ⟨cC ⟨9, by_ % 65536, 0, 0, 0, 0, false, 0, 0, 0, [], 0, (G.take 255).map (· % 65536)⟩ Sl.nil ⟨x, k, c⟩, rfl, ⟨Sl.nil, ⟨x, k, c⟩, rfl, row_nil _, hO.read, zltf, zltf⟩, hb⟩
  have c10 : 1 + op % 10 = 10 := by omega
  refine (fo10 op by_ size obj hi lo given rights off n da dn dc index ga gn gc w _ _ _ m rfl (by rw [hx, c10]) rfl rfl hmn hcap hmd).mono ?_
  rintro e w' ⟨rfl, hb⟩
  have e : foR ⟨op, by_, size, obj, hi, lo, given, rights, off, n, D, index, G⟩ = clz 10 (by_ % 65536) := by unfold foR; simp only; rw [if_neg c1, if_neg c247, if_neg c3, if_neg c5, if_neg c6, if_neg c8, if_neg c9]
  rw [e]
  exact ⟨cC (clz 10 (by_ % 65536)) Sl.nil Sl.nil, rfl, ⟨Sl.nil, Sl.nil, rfl, row_nil _, RI.nil _, zltf, zltf⟩, hb⟩
end Go.Proofs.Ytaffgoacbiedlaa
