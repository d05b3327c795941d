import Derived.Test.YtaffgoacbiedlaaLV
import Derived.Test.YtaffgoacbiedlaaDE
import Derived.Test.YtaffgoacbiedlaaDF
import Derived.Test.YtaffgoacbiedlaaPU
namespace Go.Proofs.Ytaffgoacbiedlaa
open Go.RowKit
set_option linter.unusedVariables false
set_option linter.unusedSimpArgs false

theorem foR_word (c : Cl) (h1 : c.hi < 18446744073709551616) (h2 : c.lo < 18446744073709551616) : (foR c).hi < 18446744073709551616 ∧ (foR c).lo < 18446744073709551616 := by
  unfold foR
  cases c.given <;> (simp only []; repeat' split) <;> simp_all [clz]
theorem back_law (L : List Value) (c : Cl) (cut : Int) (more : Nat) (w : World) (h : Cc w L c) (hm : more < 256) :
    Calls Try.prog 4 #[.agg L.toArray, .int .i64 cut, .int .u8 (more : Int)] w fun e w' => e = .returned (.bool true) ∧ Below w.heap.size w w' := by
  have hf := fm_foR c
  obtain ⟨d, g, _, his⟩ := h.ex
  have hw := foR_word c his.hi his.lo
  obtain ⟨b0, b1, b2, T, hly, hb0, hb12, l0, l1, l2⟩ := ly_parts hf
  obtain ⟨bL, hbL⟩ : ∃ bL, T.length + 3 = bL := ⟨_, rfl⟩
  have hlen : (ly (foR c)).length = bL := by rw [hly]; simp; omega
  have hle : bL ≤ 100000 := by rw [← hlen, ly_len]; exact lenC_le hf
  have q1 := Int.emod_nonneg cut (show (bL : Int) ≠ 0 by omega)
  have q2 := Int.emod_lt_of_pos cut (show (0 : Int) < (bL : Int) by omega)
  obtain ⟨k, hk⟩ : ∃ k : Nat, cut % (bL : Int) = (k : Int) := ⟨_, (Int.toNat_of_nonneg q1).symm⟩
  have hkl : k < bL := by omega
  by_cases h6 : (foR c).op = 6
  · rcases Nat.lt_or_ge k 32 with hx | hx <;> rcases Nat.lt_or_ge 1024 (foR c).data.length with hy | hy
    · exact back_C00 L c cut more w h (foR c) rfl (foR c).by_ h6 rfl b0 b1 b2 bL T hly (by rw [hb0, h6]) hb12 ⟨l0, l1, l2⟩ hbL hle hw k hk hkl h6 hm hx hy
    · exact back_C01 L c cut more w h (foR c) rfl (foR c).by_ h6 rfl b0 b1 b2 bL T hly (by rw [hb0, h6]) hb12 ⟨l0, l1, l2⟩ hbL hle hw k hk hkl h6 hm hx hy
    · exact back_C10 L c cut more w h (foR c) rfl (foR c).by_ h6 rfl b0 b1 b2 bL T hly (by rw [hb0, h6]) hb12 ⟨l0, l1, l2⟩ hbL hle hw k hk hkl h6 hm hx hy
    · exact back_C11 L c cut more w h (foR c) rfl (foR c).by_ h6 rfl b0 b1 b2 bL T hly (by rw [hb0, h6]) hb12 ⟨l0, l1, l2⟩ hbL hle hw k hk hkl h6 hm hx hy
  · by_cases h8 : (foR c).op = 8
    · exact back_B L c cut more w h (foR c) rfl (foR c).by_ h8 rfl b0 b1 b2 bL T hly (by rw [hb0, h8]) hb12 ⟨l0, l1, l2⟩ hbL hle hw k hk hkl h8 hm
    · exact back_A L c cut more w h (foR c) rfl (foR c).op (foR c).by_ rfl rfl b0 b1 b2 bL T hly hb0 hb12 ⟨l0, l1, l2⟩ hbL hle hw k hk hkl h6 h8 hm
end Go.Proofs.Ytaffgoacbiedlaa
namespace Go.Proofs.Ytaffgoacbiedlaa
open Go.ChangeShapes Go.WideShapes Go.ChangeAt Go.RowKit Go.Joins

set_option maxRecDepth 100000 in
theorem back_lifted (os : _root_.Go.Os) (started : os.Started) (H : Type) (enc : TypeId × Value → H) :
    ReturnsInHanded {} Try.checked os 4 .any (Rows.recordBackSpec.pre6 enc Try.prog Try.f4 Rows.recordBackRow.domain false) (Rows.recordBackSpec.post enc Try.prog Try.f4 false true false false) := by
  refine returnsInHanded_of_change_sized (C := Try.checked) ownK started (by kernel_rfl) Try.func4
    (ChangeSpec.witness6 (enc := enc) (C := Try.checked) false ⟨#[], #[.agg #[.int .i64 0, .int .i64 0, .int .i64 0, .int .i64 0, .int .u64 0, .int .u64 0, .bool false, .int .i64 0, .int .i64 0, .int .i64 0, .slice none 0 0, .int .i64 0, .slice none 0 0], .int .i64 0, .int .u8 0], []⟩ 8 (by kernel_rfl) (by kernel_rfl) (by kernel_rfl) (by kernel_rfl)) ?_
  intro W base args ds gs before hval0 hW hcnd hsz0 _
  have hsz : (DataW.weightsEach Try.prog (Try.f4.params.toList ++ Rows.recordBackSpec.plain.varTypes Try.prog) (ds ++ gs)).all (· ≤ reachBytes) = true := hsz0
  clear hsz0
  have hval : ∀ (j : Nat) t v, Try.f4.params[j]? = some t → args[j]? = some v → Value.okWide Try.prog W .any base t v := hval0
  have hW' := hW
  obtain ⟨p, q, hA0, hV, rfl, hfz, hnd⟩ := hW
  have hA : DataW.TrodAll enc Try.prog W 0 (fun _ => true) true Try.f4.params.toList args.toList ds p := hA0
  rw [Try.params4] at hA hval hsz
  obtain ⟨v0, vs0, d0, ds0, p0, q0, hargs, rfl, rfl, h0, r0⟩ := trodAll_cons hA
  obtain ⟨v1, vs1, d1, ds1, p1, q1, rfl, rfl, rfl, h1, r1⟩ := trodAll_cons r0
  obtain ⟨v2, vs2, d2, ds2, p2, q2, rfl, rfl, rfl, h2, r2⟩ := trodAll_cons r1
  obtain ⟨rfl, rfl, rfl⟩ := trodAll_nil r2
  obtain rfl : args = #[v0, v1, v2] := by cases args; simp_all
  obtain ⟨rfl, rfl⟩ := trodVars_none hV
  have k0 := h0
  have lt0 : ∀ x ∈ p0, x.block < W.heap.size := by obtain ⟨m, hm⟩ := k0; exact DataW.trod_lt m _ _ _ hm
  obtain ⟨L, c, dd, gd, z0, z1, z2, z3, z4, z5, z6, z7, z9, rfl, hC, rfl, hrd, hrg⟩ := open_call (hval 0 41 v0 rfl rfl) h0
  obtain ⟨cut, rfl, rfl, rfl, w1⟩ := open_int Try.underlying3 (hval 1 3 v1 rfl rfl) h1
  obtain ⟨mz, rfl, rfl, rfl, w2⟩ := open_int Try.underlying5 (hval 2 5 v2 rfl rfl) h2
  have hc := bounds_u8 w2
  obtain ⟨more, rfl⟩ : ∃ n : Nat, mz = (n : Int) := ⟨mz.toNat, by omega⟩
  have hm : more < 256 := by omega
  clear hA0 hval0 hsz
  refine (back_law L c cut more W hC hm).mono fun e W' ⟨he, bel⟩ => ?_
  subst he
  exact ⟨_, rfl, _, _, _, [], _, [], hW', trodAll_mk1 (shut_bool Try.underlying4 _), (trodAll_cons_mk (Below.trod laidOut (by kernel_rfl) (of_decide_eq_true (by kernel_rfl)) k0 bel lt0) (trodAll_cons_mk (shut_int Try.underlying3 w1) (trodAll_cons_mk (shut_int Try.underlying5 w2) trodAll_mk0))), rfl, bel.frame _, fun h => by cases h⟩

theorem recordBack_holds : Rows.RecordBackSaid :=
  OpenClaim.holds_of_wide 4 Try.f4 rfl rfl rfl rfl rfl rfl rfl ⟨rfl, rfl, rfl, rfl, rfl⟩ rfl rfl rfl rfl rfl (by kernel_rfl) Try.func4 (by kernel_rfl)
    (of_decide_eq_true (by kernel_rfl)) (by unfold Func.isWrapper; first | (rw [if_pos (by decide +kernel)]; kernel_rfl) | (rw [if_neg (by decide +kernel)]; exact ⟨rfl, rfl⟩))
    (fun os started H enc _ => back_lifted os started H enc)
#print axioms recordBack_holds
end Go.Proofs.Ytaffgoacbiedlaa
