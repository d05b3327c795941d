import Derived.Test.YtdkadmnhfnilkaaJ0
import Derived.Test.YtdkadmnhfnilkaaJ1
import Derived.Test.YtdkadmnhfnilkaaJ2
import Derived.Test.YtdkadmnhfnilkaaJ3
import Derived.Test.YtdkadmnhfnilkaaPV
namespace Go.Proofs.Ytdkadmnhfnilkaa
open Go.ChangeShapes Go.WideShapes Go.ChangeAt Go.RowKit Go.Joins

theorem ok_or (x y : Int) : (∃ m k : Nat, x = (m : Int) ∧ y = (k : Int) ∧ 1 ≤ m ∧ m ≤ 256 ∧ k ≤ 64) ∨ (x < 1 ∨ 256 < x ∨ y < 0 ∨ 64 < y) := by
  by_cases h : x < 1 ∨ 256 < x ∨ y < 0 ∨ 64 < y
  · exact .inr h
  · exact .inl ⟨x.toNat, y.toNat, by omega, by omega, by omega, by omega, by omega⟩
theorem all_law (x0 x1 x2 x3 : Int) (a : Option Addr) (n cap : Nat) (f : Nat → Sp) (w : World) (hsc : Ss w a n f) (hn : n ≤ 9223372036854775807) :
    Calls Try.prog 6 #[.agg #[.int .i64 x0, .int .i64 x1, .int .i64 x2, .int .i64 x3], .slice a n cap] w fun e w' => e = .returned (.bool true) ∧ Below w.heap.size w w' := by
  rcases ok_or x0 x1 with ⟨m, k, rfl, rfl, h1, h2, h3⟩ | hb1
  · rcases ok_or x2 x3 with ⟨p, q, rfl, rfl, h4, h5, h6⟩ | hb2
    · exact all_J3 m k h1 h2 h3 p q h4 h5 h6 a n cap f w hsc hn
    · exact all_J2 m k h1 h2 h3 x2 x3 hb2 a n cap f w hsc hn
  · rcases ok_or x2 x3 with ⟨p, q, rfl, rfl, h4, h5, h6⟩ | hb2
    · exact all_J1 x0 x1 hb1 p q h4 h5 h6 a n cap f w hsc hn
    · exact all_J0 x0 x1 hb1 x2 x3 hb2 a n cap f w hsc hn
theorem cells58 : Try.prog.cellsOf 58 = 4 := by kernel_rfl
set_option maxRecDepth 100000 in
theorem all_lifted (os : Os) (started : os.Started) (H : Type) (enc : TypeId × Value → H) :
    ReturnsInHanded {} Try.checked os 6 .any (Rows.slotsAllSpec.pre6 enc Try.prog Try.f6 Rows.slotsAllRow.domain false) (Rows.slotsAllSpec.post enc Try.prog Try.f6 false true false false) := by
  refine returnsInHanded_of_change (C := Try.checked) own started (by kernel_rfl) Try.func6
    (ChangeSpec.witness6 (enc := enc) (C := Try.checked) false ⟨#[], #[.agg #[.int .i64 0, .int .i64 0, .int .i64 0, .int .i64 0], .slice none 0 0], []⟩ 8 (by kernel_rfl) (by kernel_rfl) (by kernel_rfl) (by kernel_rfl)) ?_
  intro W base args ds gs before hval0 hW hcnd _
  have hval : ∀ (j : Nat) t v, Try.f6.params[j]? = some t → args[j]? = some v → Value.okWide Try.prog W .any base t v := hval0
  have hW' := hW
  obtain ⟨p, q, hA0, hV, rfl, hfz, hnd⟩ := hW
  have hA : DataW.TrodAll enc Try.prog W 0 (fun _ => true) true Try.f6.params.toList args.toList ds p := hA0
  rw [Try.params6] at hA hval
  obtain ⟨v0, vs0, d0, ds0, p0, q0, hargs, rfl, rfl, h0, r0⟩ := trodAll_cons hA
  obtain ⟨v1, vs1, d1, ds1, p1, q1, rfl, rfl, rfl, h1, r1⟩ := trodAll_cons r0
  obtain ⟨rfl, rfl, rfl⟩ := trodAll_nil r1
  obtain rfl : args = #[v0, v1] := by cases args; simp_all
  obtain ⟨rfl, rfl⟩ := trodVars_none hV
  have k0 := h0
  have lt0 : ∀ x ∈ p0, x.block < W.heap.size := by obtain ⟨m, hm⟩ := k0; exact DataW.trod_lt m _ _ _ hm
  have k1 := h1
  have lt1 : ∀ x ∈ p1, x.block < W.heap.size := by obtain ⟨m, hm⟩ := k1; exact DataW.trod_lt m _ _ _ hm
  obtain ⟨c0, c1, c2, c3, y0, y1, y2, y3, m0, rfl, rfl, rfl, hy0, hy1, hy2, hy3⟩ := open_agg4 Try.underlying58 (by kernel_rfl) cells58 (hval 0 58 v0 rfl rfl) h0
  obtain ⟨x0, e0, _, wx0⟩ := DataW.trod_int Try.underlying3 hy0
  obtain ⟨x1, e1, _, wx1⟩ := DataW.trod_int Try.underlying3 hy1
  obtain ⟨x2, e2, _, wx2⟩ := DataW.trod_int Try.underlying3 hy2
  obtain ⟨x3, e3, _, wx3⟩ := DataW.trod_int Try.underlying3 hy3
  simp at e0 e1 e2 e3
  subst e0 e1 e2 e3
  obtain ⟨x, k, cap, f, rfl, hS, hk⟩ := open_steps (hval 1 22 v1 rfl rfl) h1
  clear hA0 hval0
  refine (all_law x0 x1 x2 x3 x k cap f W hS hk).mono fun e W' ⟨he, bel⟩ => ?_
  subst he
  exact ⟨_, rfl, _, _, _, [], _, [], hW', trodAll_mk1 (shut_bool Try.underlying4 _), (trodAll_cons_mk (Below.trod laidOut (by kernel_rfl) (of_decide_eq_true (by kernel_rfl)) k0 bel lt0) (trodAll_cons_mk (Below.trod laidOut (by kernel_rfl) (of_decide_eq_true (by kernel_rfl)) k1 bel lt1) trodAll_mk0)), rfl, bel.frame _, fun h => by cases h⟩

theorem slotsAll_holds : Rows.SlotsAllSaid :=
  OpenClaim.holds_of_wide 6 Try.f6 rfl rfl rfl rfl rfl rfl rfl ⟨rfl, rfl, rfl, rfl, rfl⟩ rfl rfl rfl rfl rfl (by kernel_rfl) Try.func6 (by kernel_rfl)
    (of_decide_eq_true (by kernel_rfl)) (by unfold Func.isWrapper; first | (rw [if_pos (by decide +kernel)]; kernel_rfl) | (rw [if_neg (by decide +kernel)]; exact ⟨rfl, rfl⟩))
    (fun os started H enc _ => all_lifted os started H enc)
#print axioms slotsAll_holds
end Go.Proofs.Ytdkadmnhfnilkaa
