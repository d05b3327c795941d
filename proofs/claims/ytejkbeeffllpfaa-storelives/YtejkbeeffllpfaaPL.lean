import Derived.Test.YtejkbeeffllpfaaLO
import Derived.Test.YtejkbeeffllpfaaPA
namespace Go.Proofs.Ytejkbeeffllpfaa
open Go.ChangeShapes Go.WideShapes Go.ChangeAt Go.RowKit Go.Joins

theorem cells32 : Try.prog.cellsOf 32 = 4 := by kernel_rfl
theorem cells4 : Try.prog.cellsOf 4 = 1 := by kernel_rfl
theorem bytes32 : Try.prog.bytesOf 32 = 48 := by kernel_rfl
theorem trod_four {H : Type} {enc : TypeId × Value → H} {W : World} {t : TypeId} {f0 f1 f2 f3 : Field} {fuel : Nat} {cs : List Value} {x : DataW H × List MemPlace} (ht : Try.prog.underlying t = some (.struct #[f0, f1, f2, f3])) (h : DataW.trod enc Try.prog W 0 (fun _ => true) true fuel t cs = some x) :
    ∃ (y0 y1 y2 y3 : DataW H × List MemPlace) (n : Nat), x.1 = .agg [y0.1, y1.1, y2.1, y3.1] ∧
      DataW.trod enc Try.prog W 0 (fun _ => true) true n f0.type ((cs.drop f0.offset).take (Try.prog.cellsOf f0.type)) = some y0 ∧ DataW.trod enc Try.prog W 0 (fun _ => true) true n f1.type ((cs.drop f1.offset).take (Try.prog.cellsOf f1.type)) = some y1 ∧
      DataW.trod enc Try.prog W 0 (fun _ => true) true n f2.type ((cs.drop f2.offset).take (Try.prog.cellsOf f2.type)) = some y2 ∧ DataW.trod enc Try.prog W 0 (fun _ => true) true n f3.type ((cs.drop f3.offset).take (Try.prog.cellsOf f3.type)) = some y3 := by
  obtain ⟨xs, n, _, rfl, hl, hlen, hf⟩ := DataW.trod_struct ht h
  match xs, hlen with
  | [y0, y1, y2, y3], _ => exact ⟨y0, y1, y2, y3, n, by simp, by simpa using hf 0 f0 rfl, by simpa using hf 1 f1 rfl, by simpa using hf 2 f2 rfl, by simpa using hf 3 f3 rfl⟩
set_option maxRecDepth 100000 in
/-- One life, from its four cells. -/
theorem life_cells {H : Type} {enc : TypeId × Value → H} {W : World} {n : Nat} {x : Addr} {y : DataW H × List MemPlace}
    (h : (W.cells? 0 x 4).bind (DataW.trod enc Try.prog W 0 (fun _ => true) true n 32) = some y) (hw : ∀ q ∈ y.1.weights Try.prog 32, q ≤ reachBytes) :
    ∃ o : Lif, (∀ c u, (lifCells o).toList[c]? = some u → W.cell? (x.add c) = some u) ∧ LifIn W o := by
  rw [Option.bind_eq_some_iff] at h
  obtain ⟨cs, hcs, hy⟩ := h
  obtain ⟨_, hlen, hcell⟩ := World.cells?_some hcs
  obtain ⟨y0, y1, y2, y3, m, hyy, h0, h1, h2, h3⟩ := trod_four Try.underlying32 hy
  match cs, hlen with
  | [c0, c1, c2, c3], _ =>
    simp [cells3, cells30, cells4] at h0 h1 h2 h3
    obtain ⟨sz, e0, _, w0⟩ := DataW.trod_int Try.underlying3 h0
    obtain ⟨of, e1, _, w1⟩ := DataW.trod_int Try.underlying3 h1
    obtain ⟨da, md, cd, D, e2, hR2, hD2, hr2⟩ := open_row30 h2
    obtain ⟨gone, e3, _⟩ := DataW.trod_bool Try.underlying4 h3
    simp at e0 e1 e2 e3
    subst e0 e1 e2 e3
    have b0 := bounds_i64 w0
    have b1 := bounds_i64 w1
    have hwe : ∀ (j : Nat) (t : TypeId) (d : DataW H), ([3, 3, 30, 4] : List TypeId)[j]? = some t → ([y0.1, y1.1, y2.1, y3.1] : List (DataW H))[j]? = some d → ∀ q ∈ d.weights Try.prog t, q ≤ reachBytes := fun j t d ht hd q hq => hw q (by
      rw [hyy]
      simp only [DataW.weights, Try.underlying32]
      exact DataW.weights_mem_each (ts := [3, 3, 30, 4]) ht hd q hq)
    have s2 := hr2.weight Try.underlying30 (hwe 2 30 y2.1 rfl rfl)
    rw [bytes5] at s2
    simp only [reachBytes] at s2
    refine ⟨⟨sz, of, da, md, cd, D, gone⟩, fun c u hu => ?_, ⟨hR2, hD2, by simp only; omega, by simp only; omega, by simp only; omega⟩⟩
    have hc : c < 4 := (List.getElem?_eq_some_iff.1 hu).1
    rw [hcell c hc, ← hu]
    rfl
set_option maxRecDepth 100000 in
theorem open_lives {H : Type} {enc : TypeId × Value → H} {W : World} {r : Reach} {base : Nat} {v : Value} {d : DataW H} {p : List MemPlace} (hv : Value.okWide Try.prog W r base 22 v) (h : DataW.Trod enc Try.prog W 0 (fun _ => true) true 22 v d p) (hw : ∀ q ∈ d.weights Try.prog 22, q ≤ reachBytes) :
    ∃ x k cap f, v = .slice x k cap ∧ Lfs W x k cap f ∧ k ≤ 4611686018427387000 := by
  obtain ⟨a, len, cap, rfl⟩ := okWide_slice Try.underlying22 hv
  obtain ⟨fuel, hf⟩ := h
  have dummy : Lif := ⟨0, 0, none, 0, 0, [], false⟩
  rcases DataW.trod_slice Try.underlying22 hf with ⟨hcs, hx⟩ | ⟨x, l, c, elems, rest, n, _, hcs, hx, _, hl, hm, hlen, hel, _, _⟩
  · simp [Value.cells] at hcs
    obtain ⟨rfl, rfl, rfl⟩ := hcs
    exact ⟨none, 0, 0, fun _ => dummy, rfl, ⟨Nat.le_refl _, fun h => by omega, fun i h => by omega⟩, by omega⟩
  · simp [Value.cells] at hcs
    obtain ⟨rfl, rfl, rfl⟩ := hcs
    simp only [Prod.mk.injEq] at hx
    obtain ⟨hd, _⟩ := hx
    subst hd
    have hbk := hw ((elems.map (·.1)).length * 48 + rest.length * 48) (by
      simp only [DataW.weights, Try.underlying22, List.mem_cons, bytes32]
      left
      simp
      omega)
    simp only [reachBytes, List.length_map] at hbk
    have each : ∀ i, ∃ o : Lif, i < len → (∀ c u, (lifCells o).toList[c]? = some u → W.cell? ((x.add (i * 4)).add c) = some u) ∧ LifIn W o := by
      intro i
      by_cases hi : i < len
      · have he := hel i hi
        rw [cells32, List.getElem?_eq_getElem (by omega)] at he
        obtain ⟨o, h1, h2⟩ := life_cells he (fun q hq => hw q (by
          simp only [DataW.weights, Try.underlying22, List.mem_cons, List.mem_append]
          exact .inr (.inl (mem_all (List.mem_map.2 ⟨_, List.getElem_mem _, rfl⟩) q hq))))
        exact ⟨o, fun _ => ⟨h1, h2⟩⟩
      · exact ⟨dummy, fun h => absurd h hi⟩
    obtain ⟨f, hf⟩ := Classical.axiomOfChoice each
    refine ⟨some x, len, cap, f, rfl, ⟨hl, fun hk => ?_, fun i hi => (hf i hi).2⟩, by omega⟩
    obtain ⟨b, o, spot⟩ := x
    have h0 := (hf 0 hk).1 0 _ rfl
    have hs : spot = none := by simpa [Addr.add] using World.cell?_spot h0
    subst hs
    refine ⟨b, o, rfl, fun i hi j u hu => ?_⟩
    have := (hf i hi).1 j u hu
    rw [addr_add, addr_add] at this
    exact this

set_option maxRecDepth 100000 in
theorem lives_lifted (os : Os) (started : os.Started) (H : Type) (enc : TypeId × Value → H) :
    ReturnsInHanded {} Try.checked os 3 .any (Rows.storeLivesSpec.pre6 enc Try.prog Try.f3 Rows.storeLivesRow.domain false) (Rows.storeLivesSpec.post enc Try.prog Try.f3 false true false false) := by
  refine returnsInHanded_of_change_sized (C := Try.checked) ownK started (by kernel_rfl) Try.func3
    (ChangeSpec.witness6 (enc := enc) (C := Try.checked) false ⟨#[], #[.slice none 0 0], []⟩ 8 (by kernel_rfl) (by kernel_rfl) (by kernel_rfl) (by kernel_rfl)) ?_
  intro W base args ds gs before hval0 hW hcnd hsz0 _
  have hsz : (DataW.weightsEach Try.prog (Try.f3.params.toList ++ Rows.storeLivesSpec.plain.varTypes Try.prog) (ds ++ gs)).all (· ≤ reachBytes) = true := hsz0
  clear hsz0
  have hval : ∀ (j : Nat) t v, Try.f3.params[j]? = some t → args[j]? = some v → Value.okWide Try.prog W .any base t v := hval0
  have hW' := hW
  obtain ⟨p, q, hA0, hV, rfl, hfz, hnd⟩ := hW
  have hA : DataW.TrodAll enc Try.prog W 0 (fun _ => true) true Try.f3.params.toList args.toList ds p := hA0
  rw [Try.params3] at hA hval hsz
  obtain ⟨v0, vs0, d0, ds0, p0, q0, hargs, rfl, rfl, h0, r0⟩ := trodAll_cons hA
  obtain ⟨rfl, rfl, rfl⟩ := trodAll_nil r0
  obtain rfl : args = #[v0] := by cases args; simp_all
  obtain ⟨rfl, rfl⟩ := trodVars_none hV
  have k0 := h0
  have lt0 : ∀ x ∈ p0, x.block < W.heap.size := by obtain ⟨m, hm⟩ := k0; exact DataW.trod_lt m _ _ _ hm
  have hw : ∀ q ∈ d0.weights Try.prog 22, q ≤ reachBytes := fun q hq => by
    have := List.all_eq_true.1 hsz _ (DataW.weights_mem_each (j := 0) (t := 22) (d := d0) rfl rfl q hq)
    simpa using this
  obtain ⟨x, k, cap, f, rfl, hS, hk⟩ := open_lives (hval 0 22 v0 rfl rfl) h0 hw
  clear hA0 hval0
  refine (lives_walk x k cap f W hS hk).mono fun e W' ⟨he, bel⟩ => ?_
  subst he
  exact ⟨_, rfl, _, _, _, [], _, [], hW', trodAll_mk1 (shut_bool Try.underlying4 _), (trodAll_cons_mk (Below.trod laidOut (by kernel_rfl) (of_decide_eq_true (by kernel_rfl)) k0 bel lt0) trodAll_mk0), rfl, bel.frame _, fun h => by cases h⟩

theorem storeLives_holds : Rows.StoreLivesSaid :=
  OpenClaim.holds_of_wide 3 Try.f3 rfl rfl rfl rfl rfl rfl rfl ⟨rfl, rfl, rfl, rfl, rfl⟩ rfl rfl rfl rfl rfl (by kernel_rfl) Try.func3 (by kernel_rfl)
    (of_decide_eq_true (by kernel_rfl)) (by unfold Func.isWrapper; first | (rw [if_pos (by decide +kernel)]; kernel_rfl) | (rw [if_neg (by decide +kernel)]; exact ⟨rfl, rfl⟩))
    (fun os started H enc _ => lives_lifted os started H enc)
#print axioms storeLives_holds
end Go.Proofs.Ytejkbeeffllpfaa
