import Derived.Test.YthlojdclncikiaaB4
import Derived.WalkKit
import Derived.ProofKit
import Derived.OpenShut
import Derived.ChangeOld
import Derived.Below
import Derived.Lib.SmallJoins
import Derived.SizedLaws
namespace Go.Proofs.Ythlojdclncikiaa
open Go.ChangeShapes Go.WideShapes Go.ChangeAt Go.RowKit Go.Joins

theorem own : ownKnob Try.prog.godebug = none := by kernel_rfl
theorem bytes34 : Try.prog.bytesOf 34 = 24 := by kernel_rfl
theorem laidOut : laidOutB Try.prog = true := by kernel_rfl
theorem cells3 : Try.prog.cellsOf 3 = 1 := by kernel_rfl
theorem cells30 : Try.prog.cellsOf 30 = 1 := by kernel_rfl
theorem cells32 : Try.prog.cellsOf 32 = 2 := by kernel_rfl
theorem cells34 : Try.prog.cellsOf 34 = 3 := by kernel_rfl
/-- How many a list that came in reads as. -/
def Reads {H : Type} (d : DataW H) (n : Nat) : Prop := (d = .nil ∧ n = 0) ∨ ∃ xs ys, d = .slice xs ys ∧ xs.length = n
theorem half_wf {a : Int} (wa : (Lit.int .u64 a).wf = true) : ∃ N : Nat, a = (N : Int) ∧ N < B64 := by
  have ha := bounds_u64 wa
  exact ⟨a.toNat, by omega, by unfold B64; omega⟩
theorem trod_two {H : Type} {enc : TypeId × Value → H} {W : World} {t : TypeId} {f0 f1 : Field} {fuel : Nat} {cs : List Value} {x : DataW H × List MemPlace} (ht : Try.prog.underlying t = some (.struct #[f0, f1])) (h : DataW.trod enc Try.prog W 0 (fun _ => true) true fuel t cs = some x) :
    ∃ (y0 y1 : DataW H × List MemPlace) (n : Nat), DataW.trod enc Try.prog W 0 (fun _ => true) true n f0.type ((cs.drop f0.offset).take (Try.prog.cellsOf f0.type)) = some y0 ∧ DataW.trod enc Try.prog W 0 (fun _ => true) true n f1.type ((cs.drop f1.offset).take (Try.prog.cellsOf f1.type)) = some y1 := by
  obtain ⟨xs, n, _, rfl, hl, hlen, hf⟩ := DataW.trod_struct ht h
  match xs, hlen with
  | [y0, y1], _ => exact ⟨y0, y1, n, by simpa using hf 0 f0 rfl, by simpa using hf 1 f1 rfl⟩
set_option maxRecDepth 100000 in
/-- A capability, from its three cells. -/
theorem cap_cells {H : Type} {enc : TypeId × Value → H} {W : World} {n : Nat} {c0 c1 c2 : Value} {y : DataW H × List MemPlace}
    (h : DataW.trod enc Try.prog W 0 (fun _ => true) true n 34 [c0, c1, c2] = some y) :
    ∃ (o : Int) (hi lo : Nat), c0 = .int .i64 o ∧ c1 = .int .u64 (hi : Int) ∧ c2 = .int .u64 (lo : Int) ∧ hi < B64 ∧ lo < B64 := by
  obtain ⟨y0, y1, m, h0, h1⟩ := trod_two Try.underlying34 h
  simp [cells3, cells32] at h0 h1
  obtain ⟨z0, z1, m2, g0, g1⟩ := trod_two Try.underlying32 h1
  simp [cells30] at g0 g1
  obtain ⟨o, e0, _, w0⟩ := DataW.trod_int Try.underlying3 h0
  obtain ⟨a, e1, _, w1⟩ := DataW.trod_int Try.underlying30 g0
  obtain ⟨b, e2, _, w2⟩ := DataW.trod_int Try.underlying30 g1
  simp at e0 e1 e2
  subst e0 e1 e2
  obtain ⟨A, rfl, hA⟩ := half_wf w1
  obtain ⟨B, rfl, hB⟩ := half_wf w2
  exact ⟨o, A, B, rfl, rfl, rfl, hA, hB⟩
/-- A list of whole numbers that came in. -/
theorem open_nums {H : Type} {enc : TypeId × Value → H} {W : World} {r : Reach} {base : Nat} {v : Value} {d : DataW H} {p : List MemPlace} (hv : Value.okWide Try.prog W r base 39 v) (h : DataW.Trod enc Try.prog W 0 (fun _ => true) true 39 v d p) :
    ∃ x m cap l, v = .slice x m cap ∧ m ≤ 9223372036854775807 ∧ Row W x m cap (ints l) := by
  obtain ⟨a, len, cap, rfl⟩ := okWide_slice Try.underlying39 hv
  obtain ⟨fuel, hf⟩ := h
  rcases open_ints Try.underlying39 Try.underlying3 (by kernel_rfl) hf with ⟨hcs, hx⟩ | ⟨x, l, c, zs, hcs, _, hl, hm, hz, hx, hcell, hwz⟩
  · simp [Value.cells] at hcs
    obtain ⟨rfl, rfl, rfl⟩ := hcs
    exact ⟨none, 0, 0, [], rfl, by omega, row_nil _⟩
  · simp [Value.cells] at hcs
    obtain ⟨rfl, rfl, rfl⟩ := hcs
    simp only [if_true] at hz
    refine ⟨some x, len, cap, zs.take len, rfl, by unfold maxLen at hm; omega, ⟨by rw [ints_length, List.length_take]; omega, hl, fun h => (by cases h), fun y hy j u hu => ?_, ints_one _⟩⟩
    cases hy
    have hj : j < len := by
      have := (List.getElem?_eq_some_iff.1 hu).1
      rw [ints_length, List.length_take] at this
      omega
    rw [ints_get _ j (by rw [List.length_take]; omega)] at hu
    cases hu
    rw [hcell j (by omega), List.getElem_take, List.getD_eq_getElem?_getD, List.getElem?_eq_getElem (by omega)]
    rfl
set_option maxRecDepth 100000 in
/-- Capabilities that came in. -/
theorem open_caps {H : Type} {enc : TypeId × Value → H} {W : World} {r : Reach} {base : Nat} {v : Value} {d : DataW H} {p : List MemPlace} (hv : Value.okWide Try.prog W r base 22 v) (h : DataW.Trod enc Try.prog W 0 (fun _ => true) true 22 v d p) :
    ∃ x k cap Kl, v = .slice x k cap ∧ Rd W x k Kl ∧ k ≤ 9223372036854775807 ∧ (∀ c ∈ Kl, okC c) ∧ Reads d k := by
  obtain ⟨a, len, cap, rfl⟩ := okWide_slice Try.underlying22 hv
  obtain ⟨fuel, hf⟩ := h
  rcases DataW.trod_slice Try.underlying22 hf with ⟨hcs, hx⟩ | ⟨x, l, c, elems, rest, n, _, hcs, hx, _, hl, hm, hlen, hel, _, _⟩
  · simp [Value.cells] at hcs
    obtain ⟨rfl, rfl, rfl⟩ := hcs
    simp only [Prod.mk.injEq] at hx
    exact ⟨none, 0, 0, [], rfl, ⟨rfl, fun h => by omega⟩, by omega, fun _ h => (by cases h), .inl ⟨hx.1, rfl⟩⟩
  · simp [Value.cells] at hcs
    obtain ⟨rfl, rfl, rfl⟩ := hcs
    simp only [Prod.mk.injEq] at hx
    have each : ∀ i, ∃ s : Cp, i < len → okC s ∧ (W.cell? ((x.add (i * 3)).add 0) = some (.int .i64 s.1) ∧ W.cell? ((x.add (i * 3)).add 1) = some (.int .u64 (s.2.1 : Int)) ∧ W.cell? ((x.add (i * 3)).add 2) = some (.int .u64 (s.2.2 : Int))) := by
      intro i
      by_cases hi : i < len
      · have he := hel i hi
        rw [cells34, List.getElem?_eq_getElem (by omega), Option.bind_eq_some_iff] at he
        obtain ⟨cs, hcs, hy⟩ := he
        obtain ⟨_, hlen, hcell⟩ := World.cells?_some hcs
        match cs, hlen with
        | [c0, c1, c2], _ =>
          obtain ⟨o, hi, lo, rfl, rfl, rfl, b1, b2⟩ := cap_cells hy
          exact ⟨(o, hi, lo), fun _ => ⟨⟨b1, b2⟩, by rw [hcell 0 (by omega)]; rfl, by rw [hcell 1 (by omega)]; rfl, by rw [hcell 2 (by omega)]; rfl⟩⟩
      · exact ⟨(0, 0, 0), fun h => absurd h hi⟩
    obtain ⟨f, hf⟩ := Classical.axiomOfChoice each
    have hget : ∀ (i : Nat) (c : Cp), ((List.range len).map f)[i]? = some c → i < len ∧ c = f i := by
      intro i c h
      have hi : i < len := by have := (List.getElem?_eq_some_iff.1 h).1; simpa using this
      refine ⟨hi, ?_⟩
      simp [List.getElem?_map, List.getElem?_range hi] at h
      exact h.symm
    refine ⟨some x, len, cap, (List.range len).map f, rfl, ⟨by simp, fun hk => ?_⟩, by unfold maxLen at hm; omega, fun c hc => ?_, .inr ⟨_, _, hx.1, by simp [hlen]⟩⟩
    · obtain ⟨b, o, spot⟩ := x
      have h0 := (hf 0 hk).2.1
      have hs : spot = none := by simpa [Addr.add] using World.cell?_spot h0
      subst hs
      refine ⟨b, o, rfl, fun i c h => ?_⟩
      obtain ⟨hi, rfl⟩ := hget i c h
      obtain ⟨_, k0, k1, k2⟩ := hf i hi
      rw [addr_add, addr_add] at k0 k1 k2
      exact ⟨k0, k1, k2⟩
    · obtain ⟨i, hi⟩ := List.mem_iff_getElem?.1 hc
      obtain ⟨hi2, rfl⟩ := hget i c hi
      exact (hf i hi2).1
end Go.Proofs.Ythlojdclncikiaa
