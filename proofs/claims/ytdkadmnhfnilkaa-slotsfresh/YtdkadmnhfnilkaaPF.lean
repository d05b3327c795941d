import Derived.Test.YtdkadmnhfnilkaaF3
import Derived.Test.YtdkadmnhfnilkaaPV
namespace Go.Proofs.Ytdkadmnhfnilkaa
open Go.ChangeShapes Go.WideShapes Go.ChangeAt Go.RowKit Go.Joins

set_option maxRecDepth 100000 in
/-- Capabilities that came in. -/
theorem open_caps {H : Type} {enc : TypeId × Value → H} {W : World} {r : Reach} {base : Nat} {v : Value} {d : DataW H} {p : List MemPlace} (hv : Value.okWide Try.prog W r base 43 v) (h : DataW.Trod enc Try.prog W 0 (fun _ => true) true 43 v d p) :
    ∃ x k cap Kl, v = .slice x k cap ∧ Rd W x k Kl ∧ (∀ (i : Nat) (c : Cp), Kl[i]? = some c → c.2.1 < B64 ∧ c.2.2 < B64) ∧ k ≤ 9223372036854775807 := by
  obtain ⟨a, len, cap, rfl⟩ := okWide_slice Try.underlying43 hv
  obtain ⟨fuel, hf⟩ := h
  rcases DataW.trod_slice Try.underlying43 hf with ⟨hcs, hx⟩ | ⟨x, l, c, elems, rest, n, _, hcs, hx, _, hl, hm, hlen, hel, _, _⟩
  · simp [Value.cells] at hcs
    obtain ⟨rfl, rfl, rfl⟩ := hcs
    exact ⟨none, 0, 0, [], rfl, ⟨rfl, fun h => by omega⟩, fun i c h => by simp at h, by omega⟩
  · simp [Value.cells] at hcs
    obtain ⟨rfl, rfl, rfl⟩ := hcs
    have each : ∀ i, ∃ s : Cp, i < len → (W.cell? ((x.add (i * 3)).add 0) = some (.int .i64 s.1) ∧ W.cell? ((x.add (i * 3)).add 1) = some (.int .u64 (s.2.1 : Int)) ∧ W.cell? ((x.add (i * 3)).add 2) = some (.int .u64 (s.2.2 : Int))) ∧ s.2.1 < B64 ∧ s.2.2 < B64 := by
      intro i
      by_cases hi : i < len
      · have he := hel i hi
        rw [cells34, List.getElem?_eq_getElem (by omega), Option.bind_eq_some_iff] at he
        obtain ⟨cs, hcs, hy⟩ := he
        obtain ⟨_, hlen, hcell⟩ := World.cells?_some hcs
        match cs, hlen with
        | [c0, c1, c2], _ =>
          obtain ⟨o, hi, lo, rfl, rfl, rfl, b1, b2⟩ := cap_cells hy
          exact ⟨(o, hi, lo), fun _ => ⟨⟨by rw [hcell 0 (by omega)]; rfl, by rw [hcell 1 (by omega)]; rfl, by rw [hcell 2 (by omega)]; rfl⟩, b1, b2⟩⟩
      · exact ⟨(0, 0, 0), fun h => absurd h hi⟩
    obtain ⟨f, hf⟩ := Classical.axiomOfChoice each
    have hget : ∀ (i : Nat) (c : Cp), ((List.range len).map f)[i]? = some c → i < len ∧ c = f i := by
      intro i c h
      have hi : i < len := by have := (List.getElem?_eq_some_iff.1 h).1; simpa using this
      refine ⟨hi, ?_⟩
      simp [List.getElem?_map, List.getElem?_range hi] at h
      exact h.symm
    refine ⟨some x, len, cap, (List.range len).map f, rfl, ⟨by simp, fun hk => ?_⟩, fun i c h => ?_, by unfold maxLen at hm; omega⟩
    · obtain ⟨b, o, spot⟩ := x
      have h0 := (hf 0 hk).1.1
      have hs : spot = none := by simpa [Addr.add] using World.cell?_spot h0
      subst hs
      refine ⟨b, o, rfl, fun i c h => ?_⟩
      obtain ⟨hi, rfl⟩ := hget i c h
      obtain ⟨k0, k1, k2⟩ := (hf i hi).1
      rw [addr_add, addr_add] at k0 k1 k2
      exact ⟨k0, k1, k2⟩
    · obtain ⟨hi, rfl⟩ := hget i c h
      exact (hf i hi).2

set_option maxRecDepth 100000 in
theorem fresh_lifted (os : Os) (started : os.Started) (H : Type) (enc : TypeId × Value → H) :
    ReturnsInHanded {} Try.checked os 4 .any (Rows.slotsFreshSpec.pre6 enc Try.prog Try.f4 Rows.slotsFreshRow.domain false) (Rows.slotsFreshSpec.post enc Try.prog Try.f4 false true false false) := by
  refine returnsInHanded_of_change (C := Try.checked) own started (by kernel_rfl) Try.func4
    (ChangeSpec.witness6 (enc := enc) (C := Try.checked) false ⟨#[], #[.slice none 0 0, .int .i64 0], []⟩ 8 (by kernel_rfl) (by kernel_rfl) (by kernel_rfl) (by kernel_rfl)) ?_
  intro W base args ds gs before hval0 hW hcnd _
  have hval : ∀ (j : Nat) t v, Try.f4.params[j]? = some t → args[j]? = some v → Value.okWide Try.prog W .any base t v := hval0
  have hW' := hW
  obtain ⟨p, q, hA0, hV, rfl, hfz, hnd⟩ := hW
  have hA : DataW.TrodAll enc Try.prog W 0 (fun _ => true) true Try.f4.params.toList args.toList ds p := hA0
  rw [Try.params4] at hA hval
  obtain ⟨v0, vs0, d0, ds0, p0, q0, hargs, rfl, rfl, h0, r0⟩ := trodAll_cons hA
  obtain ⟨v1, vs1, d1, ds1, p1, q1, rfl, rfl, rfl, h1, r1⟩ := trodAll_cons r0
  obtain ⟨rfl, rfl, rfl⟩ := trodAll_nil r1
  obtain rfl : args = #[v0, v1] := by cases args; simp_all
  obtain ⟨rfl, rfl⟩ := trodVars_none hV
  have k0 := h0
  have lt0 : ∀ x ∈ p0, x.block < W.heap.size := by obtain ⟨m, hm⟩ := k0; exact DataW.trod_lt m _ _ _ hm
  obtain ⟨x, k, cap, Kl, rfl, hR, hKl, hk⟩ := open_caps (hval 0 43 v0 rfl rfl) h0
  obtain ⟨x1, rfl, rfl, rfl, w1⟩ := open_int Try.underlying3 (hval 1 3 v1 rfl rfl) h1
  clear hA0 hval0
  refine (fresh_law x k cap Kl x1 W hR hKl hk).mono fun e W' ⟨he, bel⟩ => ?_
  subst he
  exact ⟨_, rfl, _, _, _, [], _, [], hW', trodAll_mk1 (shut_bool Try.underlying4 _), (trodAll_cons_mk (Below.trod laidOut (by kernel_rfl) (of_decide_eq_true (by kernel_rfl)) k0 bel lt0) (trodAll_cons_mk (shut_int Try.underlying3 w1) trodAll_mk0)), rfl, bel.frame _, fun h => by cases h⟩

theorem slotsFresh_holds : Rows.SlotsFreshSaid :=
  OpenClaim.holds_of_wide 4 Try.f4 rfl rfl rfl rfl rfl rfl rfl ⟨rfl, rfl, rfl, rfl, rfl⟩ rfl rfl rfl rfl rfl (by kernel_rfl) Try.func4 (by kernel_rfl)
    (of_decide_eq_true (by kernel_rfl)) (by unfold Func.isWrapper; first | (rw [if_pos (by decide +kernel)]; kernel_rfl) | (rw [if_neg (by decide +kernel)]; exact ⟨rfl, rfl⟩))
    (fun os started H enc _ => fresh_lifted os started H enc)
#print axioms slotsFresh_holds
end Go.Proofs.Ytdkadmnhfnilkaa
