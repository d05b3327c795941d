import Derived.Test.YtaffgoacbiedlaaPA
namespace Go.Proofs.Ytaffgoacbiedlaa
set_option linter.unusedVariables false
set_option linter.unusedSimpArgs false

/-- The law's call with a form, out of any call. -/
def foR (c : Cl) : Cl :=
  let o := 1 + c.op % 10
  let b := c.by_ % 65536
  let v := c.obj % 4611686018427387904
  if o = 1 then ⟨1, b, c.size % 4294967296 - 2147483648, 0, 0, 0, false, 0, 0, 0, [], 0, []⟩
  else if o = 2 ∨ o = 4 ∨ o = 7 then ⟨o, b, 0, v, c.hi, c.lo, false, 0, 0, 0, [], 0, []⟩
  else if o = 3 then ⟨3, b, 0, v, c.hi, c.lo, false, c.rights % 256, 0, 0, [], 0, []⟩
  else if o = 5 then ⟨5, b, 0, v, if c.given then c.hi else 0, if c.given then c.lo else 0, c.given, 0, c.off % 4294967296 - 2147483648, c.n % 4294967296 - 2147483648, [], 0, []⟩
  else if o = 6 then ⟨6, b, 0, v, if c.given then c.hi else 0, if c.given then c.lo else 0, c.given, 0, c.off % 4294967296 - 2147483648, 0, c.data.take 1025, 0, []⟩
  else if o = 8 then ⟨8, b, 0, 0, 0, 0, false, 0, 0, 0, [], c.index % 65536, []⟩
  else if o = 9 then ⟨9, b, 0, 0, 0, 0, false, 0, 0, 0, [], 0, (c.gifts.take 255).map (· % 65536)⟩
  else clz 10 b
theorem fm_foR (c : Cl) : fm (foR c) = true := by
  have q1 := Int.emod_nonneg c.op (by decide : (10 : Int) ≠ 0)
  have q2 := Int.emod_lt_of_pos c.op (by decide : (0 : Int) < 10)
  have b1 := Int.emod_nonneg c.by_ (by decide : (65536 : Int) ≠ 0)
  have b2 := Int.emod_lt_of_pos c.by_ (by decide : (0 : Int) < 65536)
  have v1 := Int.emod_nonneg c.obj (by decide : (4611686018427387904 : Int) ≠ 0)
  have v2 := Int.emod_lt_of_pos c.obj (by decide : (0 : Int) < 4611686018427387904)
  have s1 := Int.emod_nonneg c.size (by decide : (4294967296 : Int) ≠ 0)
  have s2 := Int.emod_lt_of_pos c.size (by decide : (0 : Int) < 4294967296)
  have o1 := Int.emod_nonneg c.off (by decide : (4294967296 : Int) ≠ 0)
  have o2 := Int.emod_lt_of_pos c.off (by decide : (0 : Int) < 4294967296)
  have n1 := Int.emod_nonneg c.n (by decide : (4294967296 : Int) ≠ 0)
  have n2 := Int.emod_lt_of_pos c.n (by decide : (0 : Int) < 4294967296)
  have r1 := Int.emod_nonneg c.rights (by decide : (256 : Int) ≠ 0)
  have r2 := Int.emod_lt_of_pos c.rights (by decide : (0 : Int) < 256)
  have i1 := Int.emod_nonneg c.index (by decide : (65536 : Int) ≠ 0)
  have i2 := Int.emod_lt_of_pos c.index (by decide : (0 : Int) < 65536)
  have gm : ((c.gifts.take 255).map (· % 65536)).all (fun g => wi g 0 65535) = true := by
    rw [List.all_eq_true]
    intro x hx
    obtain ⟨y, _, rfl⟩ := List.mem_map.1 hx
    have := Int.emod_nonneg y (by decide : (65536 : Int) ≠ 0)
    have := Int.emod_lt_of_pos y (by decide : (0 : Int) < 65536)
    exact wi_iff.2 ⟨by omega, by omega⟩
  unfold foR
  simp only
  split
  · simp [fm, wi, inB, sgB, gfB, wmB, unu, partsL, wo, mv, clz, blB]; omega
  split
  · rename_i h _
    rcases (by omega : 1 + c.op % 10 = 2 ∨ 1 + c.op % 10 = 4 ∨ 1 + c.op % 10 = 7) with e | e | e <;> rw [e] <;> (simp [fm, wi, inB, sgB, gfB, wmB, unu, partsL, wo, mv, clz, blB]; omega)
  split
  · simp [fm, wi, inB, sgB, gfB, wmB, unu, partsL, wo, mv, clz, blB]; omega
  split
  · cases c.given <;> (simp [fm, wi, inB, sgB, gfB, wmB, unu, partsL, wo, mv, clz, blB]; omega)
  split
  · cases c.given <;> (simp [fm, wi, inB, sgB, gfB, wmB, unu, partsL, wo, mv, clz, blB]; omega)
  split
  · simp [fm, wi, inB, sgB, gfB, wmB, unu, partsL, wo, mv, clz, blB]; omega
  split
  · simp only [fm, inB, gfB, gm, Bool.and_true]
    have hmin : min 255 c.gifts.length ≤ 255 := Nat.min_le_left _ _
    simp [wi, sgB, wmB, unu, partsL, wo, mv, clz, blB, hmin]
    first | done | exact ⟨by omega, by omega⟩ | omega
  · show fm ⟨10, c.by_ % 65536, 0, 0, 0, 0, false, 0, 0, 0, [], 0, []⟩ = true
    have hb : wi (c.by_ % 65536) 0 65535 = true := wi_iff.2 ⟨by omega, by omega⟩
    simp [fm, inB, hb, gfB, wmB, unu, partsL, wo, mv, clz, blB, sgB]
    decide
/-- How long a call's bytes are. -/
def lenC (c : Cl) : Nat :=
  if c.op = 1 then 7 else if c.op = 2 ∨ c.op = 4 ∨ c.op = 7 then 27 else if c.op = 3 then 28 else if c.op = 5 then 36 else if c.op = 6 then 32 + c.data.length else if c.op = 8 then 5 else if c.op = 9 then 4 + 2 * c.gifts.length else 3
theorem ly_len (c : Cl) : (ly c).length = lenC c := by
  unfold ly lenC
  simp only [List.length_append, leL_length]
  unfold partsL
  repeat' split
  all_goals simp [layA, layP, leL_length, g2_length]
  all_goals omega
theorem ly_head (c : Cl) : ∃ T, ly c = leL c.op.toNat 1 ++ T := ⟨_, by unfold ly; rw [List.append_assoc]⟩
end Go.Proofs.Ytaffgoacbiedlaa
