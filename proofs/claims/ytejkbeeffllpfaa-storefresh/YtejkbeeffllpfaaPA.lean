import Derived.Test.YtejkbeeffllpfaaLA
import Derived.Test.YtejkbeeffllpfaaPU
namespace Go.Proofs.Ytejkbeeffllpfaa
open Go.ChangeShapes Go.WideShapes Go.ChangeAt Go.RowKit Go.Joins

/-- A slice's reading: so many values. -/
def Reads {H : Type} (d : DataW H) (len : Nat) : Prop := (d = .nil ∧ len = 0) ∨ ∃ xs ys, d = .slice xs ys ∧ xs.length = len
set_option maxRecDepth 100000 in
theorem open_row30 {H : Type} {enc : TypeId × Value → H} {W : World} {fuel : Nat} {cs : List Value} {x : DataW H × List MemPlace} (hf : DataW.trod enc Try.prog W 0 (fun _ => true) true fuel 30 cs = some x) :
    ∃ a len cap D, cs = [.slice a len cap] ∧ Row W a len cap (u8s D) ∧ (∀ q ∈ D, q < 256) ∧ Reads x.1 len := by
  rcases open_ints Try.underlying30 Try.underlying5 (by kernel_rfl) hf with ⟨hcs, hx⟩ | ⟨y, len, cap, zs, hcs, _, hl, hm, hz, hx, hcell, hwz⟩
  · subst hx
    exact ⟨none, 0, 0, [], hcs, row_nil _, fun q hq => by simp at hq, .inl ⟨rfl, rfl⟩⟩
  · simp only [if_true] at hz
    subst hx
    refine ⟨some y, len, cap, (zs.take len).map Int.toNat, hcs, ⟨by rw [u8s_length, List.length_map, List.length_take]; omega, hl, fun h => (by cases h), fun z hy j u hu => ?_, u8s_one _⟩, fun q hq => ?_, .inr ⟨_, _, rfl, by simp [lits]; omega⟩⟩
    · cases hy
      have hj : j < len := by
        have := (List.getElem?_eq_some_iff.1 hu).1
        rw [u8s_length, List.length_map, List.length_take] at this
        omega
      rw [u8s_get _ j (by rw [List.length_map, List.length_take]; omega)] at hu
      cases hu
      have hb := bounds_u8 (hwz zs[j] (List.getElem_mem _))
      rw [hcell j (by omega), List.getElem_map, List.getElem_take, List.getD_eq_getElem?_getD, List.getElem?_eq_getElem (by omega)]
      simp only [Option.getD_some]
      rw [Int.toNat_of_nonneg hb.1]
    · simp only [List.mem_map] at hq
      obtain ⟨z, hz2, rfl⟩ := hq
      have hb := bounds_u8 (hwz z (List.mem_of_mem_take hz2))
      omega
theorem bytes3 : Try.prog.bytesOf 3 = 8 := by kernel_rfl
theorem bytes5 : Try.prog.bytesOf 5 = 1 := by kernel_rfl
theorem Reads.weight {H : Type} {d : DataW H} {len : Nat} (h : Reads d len) {t e : TypeId} (ht : Try.prog.underlying t = some (.slice e)) (hw : ∀ n ∈ d.weights Try.prog t, n ≤ reachBytes) : len * Try.prog.bytesOf e ≤ reachBytes := by
  rcases h with ⟨_, rfl⟩ | ⟨xs, ys, rfl, rfl⟩
  · simp
  · have := hw ((xs.length + ys.length) * Try.prog.bytesOf e) (by simp [DataW.weights, ht])
    exact Nat.le_trans (Nat.mul_le_mul_right _ (by omega)) this
theorem mem_all {H : Type} {e : TypeId} {d : DataW H} : ∀ {l : List (DataW H)}, d ∈ l → ∀ n ∈ d.weights Try.prog e, n ∈ DataW.weightsAll Try.prog e l
  | x :: r, h, n, hn => by
    simp only [DataW.weightsAll, List.mem_append]
    rcases List.mem_cons.1 h with rfl | h
    · exact .inl hn
    · exact .inr (mem_all h n hn)
  | [], h, _, _ => by cases h
theorem cells3 : Try.prog.cellsOf 3 = 1 := by kernel_rfl
theorem cells30 : Try.prog.cellsOf 30 = 1 := by kernel_rfl
theorem cells51 : Try.prog.cellsOf 51 = 6 := by kernel_rfl
theorem trod_six {H : Type} {enc : TypeId × Value → H} {W : World} {t : TypeId} {f0 f1 f2 f3 f4 f5 : Field} {fuel : Nat} {cs : List Value} {x : DataW H × List MemPlace} (ht : Try.prog.underlying t = some (.struct #[f0, f1, f2, f3, f4, f5])) (h : DataW.trod enc Try.prog W 0 (fun _ => true) true fuel t cs = some x) :
    ∃ (y0 y1 y2 y3 y4 y5 : DataW H × List MemPlace) (n : Nat), x.1 = .agg [y0.1, y1.1, y2.1, y3.1, y4.1, y5.1] ∧
      DataW.trod enc Try.prog W 0 (fun _ => true) true n f0.type ((cs.drop f0.offset).take (Try.prog.cellsOf f0.type)) = some y0 ∧ DataW.trod enc Try.prog W 0 (fun _ => true) true n f1.type ((cs.drop f1.offset).take (Try.prog.cellsOf f1.type)) = some y1 ∧
      DataW.trod enc Try.prog W 0 (fun _ => true) true n f2.type ((cs.drop f2.offset).take (Try.prog.cellsOf f2.type)) = some y2 ∧ DataW.trod enc Try.prog W 0 (fun _ => true) true n f3.type ((cs.drop f3.offset).take (Try.prog.cellsOf f3.type)) = some y3 ∧
      DataW.trod enc Try.prog W 0 (fun _ => true) true n f4.type ((cs.drop f4.offset).take (Try.prog.cellsOf f4.type)) = some y4 ∧ DataW.trod enc Try.prog W 0 (fun _ => true) true n f5.type ((cs.drop f5.offset).take (Try.prog.cellsOf f5.type)) = some y5 := by
  obtain ⟨xs, n, _, rfl, hl, hlen, hf⟩ := DataW.trod_struct ht h
  match xs, hlen with
  | [y0, y1, y2, y3, y4, y5], _ => exact ⟨y0, y1, y2, y3, y4, y5, n, by simp, by simpa using hf 0 f0 rfl, by simpa using hf 1 f1 rfl, by simpa using hf 2 f2 rfl, by simpa using hf 3 f3 rfl, by simpa using hf 4 f4 rfl, by simpa using hf 5 f5 rfl⟩
set_option maxRecDepth 100000 in
/-- One call of the script, from its six cells. -/
theorem op_cells {H : Type} {enc : TypeId × Value → H} {W : World} {n : Nat} {x : Addr} {y : DataW H × List MemPlace}
    (h : (W.cells? 0 x 6).bind (DataW.trod enc Try.prog W 0 (fun _ => true) true n 51) = some y) (hw : ∀ q ∈ y.1.weights Try.prog 51, q ≤ reachBytes) :
    ∃ o : Opx, (∀ c u, (opxCells o).toList[c]? = some u → W.cell? (x.add c) = some u) ∧ OpxIn W o := by
  rw [Option.bind_eq_some_iff] at h
  obtain ⟨cs, hcs, hy⟩ := h
  obtain ⟨_, hlen, hcell⟩ := World.cells?_some hcs
  obtain ⟨y0, y1, y2, y3, y4, y5, m, hyy, h0, h1, h2, h3, h4, h5⟩ := trod_six Try.underlying51 hy
  match cs, hlen with
  | [c0, c1, c2, c3, c4, c5], _ =>
    simp [cells3, cells30] at h0 h1 h2 h3 h4 h5
    obtain ⟨kd, e0, _, w0⟩ := DataW.trod_int Try.underlying3 h0
    obtain ⟨pg, e1, _, w1⟩ := DataW.trod_int Try.underlying3 h1
    obtain ⟨id, e2, _, w2⟩ := DataW.trod_int Try.underlying3 h2
    obtain ⟨of, e3, _, w3⟩ := DataW.trod_int Try.underlying3 h3
    obtain ⟨nn, e4, _, w4⟩ := DataW.trod_int Try.underlying3 h4
    obtain ⟨da, md, cd, D, e5, hR5, hD5, hr5⟩ := open_row30 h5
    simp at e0 e1 e2 e3 e4 e5
    subst e0 e1 e2 e3 e4 e5
    have b2 := bounds_i64 w2
    have b3 := bounds_i64 w3
    have b4 := bounds_i64 w4
    have hwe : ∀ (j : Nat) (t : TypeId) (d : DataW H), ([3, 3, 3, 3, 3, 30] : List TypeId)[j]? = some t → ([y0.1, y1.1, y2.1, y3.1, y4.1, y5.1] : List (DataW H))[j]? = some d → ∀ q ∈ d.weights Try.prog t, q ≤ reachBytes := fun j t d ht hd q hq => hw q (by
      rw [hyy]
      simp only [DataW.weights, Try.underlying51]
      exact DataW.weights_mem_each (ts := [3, 3, 3, 3, 3, 30]) ht hd q hq)
    have s5 := hr5.weight Try.underlying30 (hwe 5 30 y5.1 rfl rfl)
    rw [bytes5] at s5
    simp only [reachBytes] at s5
    refine ⟨⟨kd, pg, id, of, nn, da, md, cd, D⟩, fun c u hu => ?_, ⟨hR5, hD5, by simp only; omega, ⟨by simp only; omega, by simp only; omega⟩, ⟨by simp only; omega, by simp only; omega⟩, ⟨by simp only; omega, by simp only; omega⟩⟩⟩
    have hc : c < 6 := (List.getElem?_eq_some_iff.1 hu).1
    rw [hcell c hc, ← hu]
    rfl
set_option maxRecDepth 100000 in
theorem open_script {H : Type} {enc : TypeId × Value → H} {W : World} {r : Reach} {base : Nat} {v : Value} {d : DataW H} {p : List MemPlace} (hv : Value.okWide Try.prog W r base 43 v) (h : DataW.Trod enc Try.prog W 0 (fun _ => true) true 43 v d p) (hw : ∀ q ∈ d.weights Try.prog 43, q ≤ reachBytes) :
    ∃ x k cap f, v = .slice x k cap ∧ Scr W x k cap f ∧ k ≤ 9223372036854775807 := by
  obtain ⟨a, len, cap, rfl⟩ := okWide_slice Try.underlying43 hv
  obtain ⟨fuel, hf⟩ := h
  have dummy : Opx := ⟨0, 0, 0, 0, 0, none, 0, 0, []⟩
  rcases DataW.trod_slice Try.underlying43 hf with ⟨hcs, hx⟩ | ⟨x, l, c, elems, rest, n, _, hcs, hx, _, hl, hm, hlen, hel, _, _⟩
  · simp [Value.cells] at hcs
    obtain ⟨rfl, rfl, rfl⟩ := hcs
    exact ⟨none, 0, 0, fun _ => dummy, rfl, ⟨Nat.le_refl _, fun h => by omega, fun i h => by omega⟩, by omega⟩
  · simp [Value.cells] at hcs
    obtain ⟨rfl, rfl, rfl⟩ := hcs
    simp only [Prod.mk.injEq] at hx
    obtain ⟨hd, _⟩ := hx
    subst hd
    have each : ∀ i, ∃ o : Opx, i < len → (∀ c u, (opxCells o).toList[c]? = some u → W.cell? ((x.add (i * 6)).add c) = some u) ∧ OpxIn W o := by
      intro i
      by_cases hi : i < len
      · have he := hel i hi
        rw [cells51, List.getElem?_eq_getElem (by omega)] at he
        obtain ⟨o, h1, h2⟩ := op_cells he (fun q hq => hw q (by
          simp only [DataW.weights, Try.underlying43, List.mem_cons, List.mem_append]
          exact .inr (.inl (mem_all (List.mem_map.2 ⟨_, List.getElem_mem _, rfl⟩) q hq))))
        exact ⟨o, fun _ => ⟨h1, h2⟩⟩
      · exact ⟨dummy, fun h => absurd h hi⟩
    obtain ⟨f, hf⟩ := Classical.axiomOfChoice each
    refine ⟨some x, len, cap, f, rfl, ⟨hl, fun hk => ?_, fun i hi => (hf i hi).2⟩, by unfold maxLen at hm; omega⟩
    obtain ⟨b, o, spot⟩ := x
    have h0 := (hf 0 hk).1 0 _ rfl
    have hs : spot = none := by simpa [Addr.add] using World.cell?_spot h0
    subst hs
    refine ⟨b, o, rfl, fun i hi j u hu => ?_⟩
    have := (hf i hi).1 j u hu
    rw [addr_add, addr_add] at this
    exact this

set_option maxRecDepth 100000 in
theorem all_lifted (os : Os) (started : os.Started) (H : Type) (enc : TypeId × Value → H) :
    ReturnsInHanded {} Try.checked os 5 .any (Rows.storeAllSpec.pre6 enc Try.prog Try.f5 Rows.storeAllRow.domain false) (Rows.storeAllSpec.post enc Try.prog Try.f5 false true false false) := by
  refine returnsInHanded_of_change_sized (C := Try.checked) ownK started (by kernel_rfl) Try.func5
    (ChangeSpec.witness6 (enc := enc) (C := Try.checked) false ⟨#[], #[.int .i64 0, .int .i64 0, .slice none 0 0], []⟩ 8 (by kernel_rfl) (by kernel_rfl) (by kernel_rfl) (by kernel_rfl)) ?_
  intro W base args ds gs before hval0 hW hcnd hsz0 _
  have hsz : (DataW.weightsEach Try.prog (Try.f5.params.toList ++ Rows.storeAllSpec.plain.varTypes Try.prog) (ds ++ gs)).all (· ≤ reachBytes) = true := hsz0
  clear hsz0
  have hval : ∀ (j : Nat) t v, Try.f5.params[j]? = some t → args[j]? = some v → Value.okWide Try.prog W .any base t v := hval0
  have hW' := hW
  obtain ⟨p, q, hA0, hV, rfl, hfz, hnd⟩ := hW
  have hA : DataW.TrodAll enc Try.prog W 0 (fun _ => true) true Try.f5.params.toList args.toList ds p := hA0
  rw [Try.params5] at hA hval hsz
  obtain ⟨v0, vs0, d0, ds0, p0, q0, hargs, rfl, rfl, h0, r0⟩ := trodAll_cons hA
  obtain ⟨v1, vs1, d1, ds1, p1, q1, rfl, rfl, rfl, h1, r1⟩ := trodAll_cons r0
  obtain ⟨v2, vs2, d2, ds2, p2, q2, rfl, rfl, rfl, h2, r2⟩ := trodAll_cons r1
  obtain ⟨rfl, rfl, rfl⟩ := trodAll_nil r2
  obtain rfl : args = #[v0, v1, v2] := by cases args; simp_all
  obtain ⟨rfl, rfl⟩ := trodVars_none hV
  have k2 := h2
  have lt2 : ∀ x ∈ p2, x.block < W.heap.size := by obtain ⟨m, hm⟩ := k2; exact DataW.trod_lt m _ _ _ hm
  obtain ⟨a, rfl, rfl, rfl, wa⟩ := open_int Try.underlying3 (hval 0 3 v0 rfl rfl) h0
  obtain ⟨b, rfl, rfl, rfl, wb⟩ := open_int Try.underlying3 (hval 1 3 v1 rfl rfl) h1
  have hw : ∀ q ∈ d2.weights Try.prog 43, q ≤ reachBytes := fun q hq => by
    have := List.all_eq_true.1 hsz _ (DataW.weights_mem_each (j := 2) (t := 43) (d := d2) rfl rfl q hq)
    simpa using this
  obtain ⟨x, k, cap, f, rfl, hS, hk⟩ := open_script (hval 2 43 v2 rfl rfl) h2 hw
  clear hA0 hval0
  refine (all_walk a b x k cap f W hS hk).mono fun e W' ⟨he, bel⟩ => ?_
  subst he
  exact ⟨_, rfl, _, _, _, [], _, [], hW', trodAll_mk1 (shut_bool Try.underlying4 _), (trodAll_cons_mk (shut_int Try.underlying3 wa) (trodAll_cons_mk (shut_int Try.underlying3 wb) (trodAll_cons_mk (Below.trod laidOut (by kernel_rfl) (of_decide_eq_true (by kernel_rfl)) k2 bel lt2) trodAll_mk0))), rfl, bel.frame _, fun h => by cases h⟩

theorem storeAll_holds : Rows.StoreAllSaid :=
  OpenClaim.holds_of_wide 5 Try.f5 rfl rfl rfl rfl rfl rfl rfl ⟨rfl, rfl, rfl, rfl, rfl⟩ rfl rfl rfl rfl rfl (by kernel_rfl) Try.func5 (by kernel_rfl)
    (of_decide_eq_true (by kernel_rfl)) (by unfold Func.isWrapper; first | (rw [if_pos (by decide +kernel)]; kernel_rfl) | (rw [if_neg (by decide +kernel)]; exact ⟨rfl, rfl⟩))
    (fun os started H enc _ => all_lifted os started H enc)
#print axioms storeAll_holds
end Go.Proofs.Ytejkbeeffllpfaa
