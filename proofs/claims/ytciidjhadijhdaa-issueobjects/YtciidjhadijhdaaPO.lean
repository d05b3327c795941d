import Derived.Test.YtciidjhadijhdaaLO
import Derived.Test.YtciidjhadijhdaaPV
namespace Go.Proofs.Ytciidjhadijhdaa.D
open Go.ChangeShapes Go.WideShapes Go.ChangeAt Go.RowKit Go.Joins

set_option maxRecDepth 100000 in
theorem issueObjects_lifted (os : _root_.Go.Os) (started : os.Started) (H : Type) (enc : TypeId × Value → H) :
    ReturnsInHanded {} Try.checked os 5 .any (Rows.issueObjectsSpec.pre6 enc Try.prog Try.f5 Rows.issueObjectsRow.domain false) (Rows.issueObjectsSpec.post enc Try.prog Try.f5 false true false false) := by
  refine returnsInHanded_of_change_sized (C := Try.checked) ownK started (by kernel_rfl) Try.func5
    (ChangeSpec.witness6 (enc := enc) (C := Try.checked) false ⟨#[], #[.slice none 0 0, .int .i64 0, .slice none 0 0, .slice none 0 0], []⟩ 8 (by kernel_rfl) (by kernel_rfl) (by kernel_rfl) (by kernel_rfl)) ?_
  intro W base args ds gs before hval0 hW hcnd hsz0 _
  have hsz : (DataW.weightsEach Try.prog (Try.f5.params.toList ++ Rows.issueObjectsSpec.plain.varTypes Try.prog) (ds ++ gs)).all (· ≤ reachBytes) = true := hsz0
  clear hsz0
  have hval : ∀ (j : Nat) t v, Try.f5.params[j]? = some t → args[j]? = some v → Value.okWide Try.prog W .any base t v := hval0
  have hW' := hW
  obtain ⟨p, q, hA0, hV, rfl, hfz, hnd⟩ := hW
  have hA : DataW.TrodAll enc Try.prog W 0 (fun _ => true) true Try.f5.params.toList args.toList ds p := hA0
  rw [Try.params5] at hA hval hsz
  obtain ⟨v0, vs0, d0, ds0, p0, q0, hargs, rfl, rfl, h0, r0⟩ := trodAll_cons hA
  obtain ⟨v1, vs1, d1, ds1, p1, q1, rfl, rfl, rfl, h1, r1⟩ := trodAll_cons r0
  obtain ⟨v2, vs2, d2, ds2, p2, q2, rfl, rfl, rfl, h2, r2⟩ := trodAll_cons r1
  obtain ⟨v3, vs3, d3, ds3, p3, q3, rfl, rfl, rfl, h3, r3⟩ := trodAll_cons r2
  obtain ⟨rfl, rfl, rfl⟩ := trodAll_nil r3
  obtain rfl : args = #[v0, v1, v2, v3] := by cases args; simp_all
  obtain ⟨rfl, rfl⟩ := trodVars_none hV
  have k0 := h0
  have lt0 : ∀ x ∈ p0, x.block < W.heap.size := by obtain ⟨m, hm⟩ := k0; exact DataW.trod_lt m _ _ _ hm
  have k2 := h2
  have lt2 : ∀ x ∈ p2, x.block < W.heap.size := by obtain ⟨m, hm⟩ := k2; exact DataW.trod_lt m _ _ _ hm
  have k3 := h3
  have lt3 : ∀ x ∈ p3, x.block < W.heap.size := by obtain ⟨m, hm⟩ := k3; exact DataW.trod_lt m _ _ _ hm
  have hw : ∀ (j : Nat) (t : TypeId) (d : DataW H), ([22, 3, 48, 49] : List TypeId)[j]? = some t → ([d0, d1, d2, d3] : List (DataW H))[j]? = some d → ∀ q ∈ d.weights Try.prog t, q ≤ reachBytes := fun j t d ht hd q hq => by
    have := List.all_eq_true.1 hsz _ (DataW.weights_mem_each (ts := [22, 3, 48, 49]) (ds := [d0, d1, d2, d3]) ht hd q hq)
    simpa using this
  obtain ⟨a, n, ca, f, rfl, hR, hr0⟩ := open_words (hval 0 22 v0 rfl rfl) h0
  obtain ⟨v, rfl, rfl, rfl, wv1⟩ := open_int Try.underlying3 (hval 1 3 v1 rfl rfl) h1
  obtain ⟨x, k, kc, F, rfl, hP, hr2⟩ := open_puts (hval 2 48 v2 rfl rfl) h2
  obtain ⟨y, m, mc, O, rfl, hO, hm⟩ := open_objs (hval 3 49 v3 rfl rfl) h3
  have s2 := hr2.weight Try.underlying48 (hw 2 48 _ rfl rfl)
  rw [bytes59] at s2
  simp only [reachBytes] at s2
  clear hA0 hval0
  refine (objects_law a x y n ca k kc m mc f F O v W hR (by omega) hm hP hO).mono fun e W' ⟨he, bel⟩ => ?_
  subst he
  exact ⟨_, rfl, _, _, _, [], _, [], hW', trodAll_mk1 (shut_bool Try.underlying4 _), (trodAll_cons_mk (Below.trod laidOut (by kernel_rfl) (of_decide_eq_true (by kernel_rfl)) k0 bel lt0) (trodAll_cons_mk (shut_int Try.underlying3 wv1) (trodAll_cons_mk (Below.trod laidOut (by kernel_rfl) (of_decide_eq_true (by kernel_rfl)) k2 bel lt2) (trodAll_cons_mk (Below.trod laidOut (by kernel_rfl) (of_decide_eq_true (by kernel_rfl)) k3 bel lt3) trodAll_mk0)))), rfl, bel.frame _, fun h => by cases h⟩

theorem issueObjects_holds : Rows.IssueObjectsSaid :=
  OpenClaim.holds_of_wide 5 Try.f5 rfl rfl rfl rfl rfl rfl rfl ⟨rfl, rfl, rfl, rfl, rfl⟩ rfl rfl rfl rfl rfl (by kernel_rfl) Try.func5 (by kernel_rfl)
    (of_decide_eq_true (by kernel_rfl)) (by unfold Func.isWrapper; first | (rw [if_pos (by decide +kernel)]; kernel_rfl) | (rw [if_neg (by decide +kernel)]; exact ⟨rfl, rfl⟩))
    (fun os started H enc _ => issueObjects_lifted os started H enc)
end Go.Proofs.Ytciidjhadijhdaa.D
namespace Go.Proofs.Ytciidjhadijhdaa
theorem issueObjects_holds : Rows.IssueObjectsSaid := D.issueObjects_holds
#print axioms issueObjects_holds
end Go.Proofs.Ytciidjhadijhdaa
