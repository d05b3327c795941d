import Derived.Test.YtlelglfdamakaaaL3
import Derived.Test.YtlelglfdamakaaaPU
namespace Go.Proofs.Ytlelglfdamakaaa
open Go.ChangeShapes Go.WideShapes Go.ChangeAt Go.RowKit Go.Joins

theorem bytes32 : Try.prog.bytesOf 32 = 24 := by kernel_rfl
theorem Reads.weight {H : Type} {d : DataW H} {len : Nat} (h : Reads d len) {t e : TypeId} (ht : Try.prog.underlying t = some (.slice e)) (hw : ∀ n ∈ d.weights Try.prog t, n ≤ reachBytes) : len * Try.prog.bytesOf e ≤ reachBytes := by
  rcases h with ⟨_, rfl⟩ | ⟨xs, ys, rfl, rfl⟩
  · simp
  · have := hw ((xs.length + ys.length) * Try.prog.bytesOf e) (by simp [DataW.weights, ht])
    exact Nat.le_trans (Nat.mul_le_mul_right _ (by omega)) this
theorem mem_all {H : Type} {e : TypeId} {d : DataW H} : ∀ {l : List (DataW H)}, d ∈ l → ∀ n ∈ d.weights Try.prog e, n ∈ DataW.weightsAll Try.prog e l
  | x :: r, h, n, hn => by
    simp only [DataW.weightsAll, List.mem_append]
    rcases List.mem_cons.1 h with rfl | h
    · exact .inl hn
    · exact .inr (mem_all h n hn)
theorem room40 {k : Nat} (h : k * 24 ≤ reachBytes) : (k + 40) * 24 ≤ 140737488355328 := by
  have e : (k + 40) * 24 = k * 24 + 960 := Nat.add_mul k 40 24
  rw [e]
  exact Nat.le_trans (Nat.add_le_add_right h 960) (by decide)
set_option maxRecDepth 100000 in
theorem scripts_lifted (os : _root_.Go.Os) (started : os.Started) (H : Type) (enc : TypeId × Value → H) :
    ReturnsInHanded {} Try.checked os 5 .any (Rows.validateScriptsSpec.pre6 enc Try.prog Try.f5 Rows.validateScriptsRow.domain false) (Rows.validateScriptsSpec.post enc Try.prog Try.f5 false true false false) := by
  refine returnsInHanded_of_change_sized (C := Try.checked) own started (by kernel_rfl) Try.func5
    (ChangeSpec.witness6 (enc := enc) (C := Try.checked) false ⟨#[], #[.int .i64 0, .agg #[.int .i64 0, .int .i64 0, .int .i64 0], .slice none 0 0], []⟩ 8 (by kernel_rfl) (by kernel_rfl) (by kernel_rfl) (by kernel_rfl)) ?_
  intro W base args ds gs before hval0 hW hcnd hsz0 _
  have hsz : (DataW.weightsEach Try.prog (Try.f5.params.toList ++ Rows.validateScriptsSpec.plain.varTypes Try.prog) (ds ++ gs)).all (· ≤ reachBytes) = true := hsz0
  clear hsz0
  have hval : ∀ (j : Nat) t v, Try.f5.params[j]? = some t → args[j]? = some v → Value.okWide Try.prog W .any base t v := hval0
  have hW' := hW
  obtain ⟨p, q, hA0, hV, rfl, hfz, hnd⟩ := hW
  have hA : DataW.TrodAll enc Try.prog W 0 (fun _ => true) true Try.f5.params.toList args.toList ds p := hA0
  rw [Try.params5] at hA hval hsz
  obtain ⟨v0, vs0, d0, ds0, p0, q0, hargs, rfl, rfl, h0, r0⟩ := trodAll_cons hA
  obtain ⟨v1, vs1, d1, ds1, p1, q1, rfl, rfl, rfl, h1, r1⟩ := trodAll_cons r0
  obtain ⟨v2, vs2, d2, ds2, p2, q2, rfl, rfl, rfl, h2, r2⟩ := trodAll_cons r1
  obtain ⟨rfl, rfl, rfl⟩ := trodAll_nil r2
  obtain rfl : args = #[v0, v1, v2] := by cases args; simp_all
  obtain ⟨rfl, rfl⟩ := trodVars_none hV
  have k1 := h1
  have lt1 : ∀ x ∈ p1, x.block < W.heap.size := by obtain ⟨m, hm⟩ := k1; exact DataW.trod_lt m _ _ _ hm
  have k2 := h2
  have lt2 : ∀ x ∈ p2, x.block < W.heap.size := by obtain ⟨m, hm⟩ := k2; exact DataW.trod_lt m _ _ _ hm
  have hw : ∀ q ∈ d2.weights Try.prog 52, q ≤ reachBytes := fun q hq => by
    have := List.all_eq_true.1 hsz _ (DataW.weights_mem_each (j := 2) (t := 52) (d := d2) rfl rfl q hq)
    simpa using this
  obtain ⟨x0, rfl, rfl, rfl, w0⟩ := open_int Try.underlying3 (hval 0 3 v0 rfl rfl) h0
  obtain ⟨a0, a1, a2, y0, y1, y2, m1, rfl, rfl, rfl, hy0, hy1, hy2⟩ := open_agg3 Try.underlying23 (by kernel_rfl) cells23 (hval 1 23 v1 rfl rfl) h1
  obtain ⟨x1, e0, _, wx0⟩ := DataW.trod_int Try.underlying3 hy0
  obtain ⟨x2, e1, _, wx1⟩ := DataW.trod_int Try.underlying3 hy1
  obtain ⟨x3, e2, _, wx2⟩ := DataW.trod_int Try.underlying3 hy2
  simp at e0 e1 e2
  subst e0 e1 e2
  obtain ⟨x, k, cap, f, rfl, hS, hk, hrd⟩ := open_ops (hval 2 52 v2 rfl rfl) h2
  have hS2 : Sz7 k f := fun i hi => by
    obtain ⟨xs, ys, rfl, hlen, hz⟩ := hrd (by omega)
    have hix : i < xs.length := by omega
    obtain ⟨_, _, _, _, _, hc0, c0, c1, c2, c3, c4, hd, hr⟩ := hz i _ hi (List.getElem?_eq_getElem hix)
    have hw2 : ∀ q ∈ (xs[i]).weights Try.prog 54, q ≤ reachBytes := fun q hq => hw q (by
      simp only [DataW.weights, Try.underlying52, List.mem_cons, List.mem_append]
      exact .inr (.inl (mem_all (List.getElem_mem hix) q hq)))
    rw [hd] at hw2
    have hw3 : ∀ q ∈ c4.weights Try.prog 46, q ≤ reachBytes := fun q hq => hw2 q (by
      simp only [DataW.weights, Try.underlying54]
      exact DataW.weights_mem_each (ts := [3, 32, 3, 3, 46]) (ds := [c0, c1, c2, c3, c4]) (j := 4) (t := 46) (d := c4) rfl rfl q hq)
    have := hr.weight Try.underlying46 hw3
    rw [bytes32] at this
    exact ⟨hc0, room40 this⟩
  clear hA0 hval0 hsz hrd hw
  refine (scripts_law x0 x1 x2 x3 W hS hS2 hk).mono fun e W' ⟨he, bel⟩ => ?_
  subst he
  exact ⟨_, rfl, _, _, _, [], _, [], hW', trodAll_mk1 (shut_bool Try.underlying4 _), (trodAll_cons_mk (shut_int Try.underlying3 w0) (trodAll_cons_mk (Below.trod laidOut (by kernel_rfl) (of_decide_eq_true (by kernel_rfl)) k1 bel lt1) (trodAll_cons_mk (Below.trod laidOut (by kernel_rfl) (of_decide_eq_true (by kernel_rfl)) k2 bel lt2) trodAll_mk0))), rfl, bel.frame _, fun h => by cases h⟩

theorem validateScripts_holds : Rows.ValidateScriptsSaid :=
  OpenClaim.holds_of_wide 5 Try.f5 rfl rfl rfl rfl rfl rfl rfl ⟨rfl, rfl, rfl, rfl, rfl⟩ rfl rfl rfl rfl rfl (by kernel_rfl) Try.func5 (by kernel_rfl)
    (of_decide_eq_true (by kernel_rfl)) (by unfold Func.isWrapper; first | (rw [if_pos (by decide +kernel)]; kernel_rfl) | (rw [if_neg (by decide +kernel)]; exact ⟨rfl, rfl⟩))
    (fun os started H enc _ => scripts_lifted os started H enc)
#print axioms validateScripts_holds
end Go.Proofs.Ytlelglfdamakaaa
