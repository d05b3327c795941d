import Derived.Test.YtfeilkhlapnpoaaS1
import Derived.WalkKit
import Derived.ProofKit
import Derived.OpenShut
import Derived.ChangeOld
import Derived.Below
import Derived.Lib.SmallJoins
namespace Go.Proofs.Ytfeilkhlapnpoaa
open Go.ChangeShapes Go.WideShapes Go.ChangeAt Go.RowKit Go.Joins

theorem own : ownKnob Try.prog.godebug = none := by kernel_rfl
theorem laidOut : laidOutB Try.prog = true := by kernel_rfl
theorem cells3 : Try.prog.cellsOf 3 = 1 := by kernel_rfl
theorem cells29 : Try.prog.cellsOf 29 = 4 := by kernel_rfl
theorem trod_four {H : Type} {enc : TypeId × Value → H} {W : World} {t : TypeId} {f0 f1 f2 f3 : Field} {fuel : Nat} {cs : List Value} {x : DataW H × List MemPlace} (ht : Try.prog.underlying t = some (.struct #[f0, f1, f2, f3])) (h : DataW.trod enc Try.prog W 0 (fun _ => true) true fuel t cs = some x) :
    ∃ (y0 y1 y2 y3 : DataW H × List MemPlace) (n : Nat), DataW.trod enc Try.prog W 0 (fun _ => true) true n f0.type ((cs.drop f0.offset).take (Try.prog.cellsOf f0.type)) = some y0 ∧ DataW.trod enc Try.prog W 0 (fun _ => true) true n f1.type ((cs.drop f1.offset).take (Try.prog.cellsOf f1.type)) = some y1 ∧
      DataW.trod enc Try.prog W 0 (fun _ => true) true n f2.type ((cs.drop f2.offset).take (Try.prog.cellsOf f2.type)) = some y2 ∧ DataW.trod enc Try.prog W 0 (fun _ => true) true n f3.type ((cs.drop f3.offset).take (Try.prog.cellsOf f3.type)) = some y3 := by
  obtain ⟨xs, n, _, rfl, hl, hlen, hf⟩ := DataW.trod_struct ht h
  match xs, hlen with
  | [y0, y1, y2, y3], _ => exact ⟨y0, y1, y2, y3, n, by simpa using hf 0 f0 rfl, by simpa using hf 1 f1 rfl, by simpa using hf 2 f2 rfl, by simpa using hf 3 f3 rfl⟩
set_option maxRecDepth 100000 in
/-- A call, from its four cells. -/
theorem step_cells {H : Type} {enc : TypeId × Value → H} {W : World} {n : Nat} {x : Addr} {y : DataW H × List MemPlace}
    (h : (W.cells? 0 x 4).bind (DataW.trod enc Try.prog W 0 (fun _ => true) true n 29) = some y) :
    ∃ s : Sp, (W.cell? (x.add 0) = some (.int .i64 s.kd) ∧ W.cell? (x.add 1) = some (.int .i64 s.wh) ∧ W.cell? (x.add 2) = some (.int .i64 s.x) ∧ W.cell? (x.add 3) = some (.int .i64 s.n)) ∧ (Lit.int .i64 s.x).wf = true := by
  rw [Option.bind_eq_some_iff] at h
  obtain ⟨cs, hcs, hy⟩ := h
  obtain ⟨_, hlen, hcell⟩ := World.cells?_some hcs
  obtain ⟨y0, y1, y2, y3, m, h0, h1, h2, h3⟩ := trod_four Try.underlying29 hy
  match cs, hlen with
  | [c0, c1, c2, c3], _ =>
    simp [cells3] at h0 h1 h2 h3
    obtain ⟨kd, e0, _, w0⟩ := DataW.trod_int Try.underlying3 h0
    obtain ⟨wh, e1, _, w1⟩ := DataW.trod_int Try.underlying3 h1
    obtain ⟨xx, e2, _, w2⟩ := DataW.trod_int Try.underlying3 h2
    obtain ⟨nn, e3, _, w3⟩ := DataW.trod_int Try.underlying3 h3
    simp at e0 e1 e2 e3
    subst e0 e1 e2 e3
    exact ⟨⟨kd, wh, xx, nn⟩, ⟨by rw [hcell 0 (by omega)]; rfl, by rw [hcell 1 (by omega)]; rfl, by rw [hcell 2 (by omega)]; rfl, by rw [hcell 3 (by omega)]; rfl⟩, w2⟩
set_option maxRecDepth 100000 in
/-- A script that came in. -/
theorem open_steps {H : Type} {enc : TypeId × Value → H} {W : World} {r : Reach} {base : Nat} {v : Value} {d : DataW H} {p : List MemPlace} (hv : Value.okWide Try.prog W r base 22 v) (h : DataW.Trod enc Try.prog W 0 (fun _ => true) true 22 v d p) :
    ∃ x k cap f, v = .slice x k cap ∧ Ss W x k f ∧ k ≤ 9223372036854775807 := by
  obtain ⟨a, len, cap, rfl⟩ := okWide_slice Try.underlying22 hv
  obtain ⟨fuel, hf⟩ := h
  have dummy : Sp := ⟨0, 0, 0, 0⟩
  rcases DataW.trod_slice Try.underlying22 hf with ⟨hcs, hx⟩ | ⟨x, l, c, elems, rest, n, _, hcs, hx, _, hl, hm, hlen, hel, _, _⟩
  · simp [Value.cells] at hcs
    obtain ⟨rfl, rfl, rfl⟩ := hcs
    exact ⟨none, 0, 0, fun _ => dummy, rfl, ⟨fun h => by omega, fun i h => by omega⟩, by omega⟩
  · simp [Value.cells] at hcs
    obtain ⟨rfl, rfl, rfl⟩ := hcs
    have each : ∀ i, ∃ s : Sp, i < len → (W.cell? ((x.add (i * 4)).add 0) = some (.int .i64 s.kd) ∧ W.cell? ((x.add (i * 4)).add 1) = some (.int .i64 s.wh) ∧ W.cell? ((x.add (i * 4)).add 2) = some (.int .i64 s.x) ∧ W.cell? ((x.add (i * 4)).add 3) = some (.int .i64 s.n)) ∧ (Lit.int .i64 s.x).wf = true := by
      intro i
      by_cases hi : i < len
      · have he := hel i hi
        rw [cells29, List.getElem?_eq_getElem (by omega)] at he
        obtain ⟨s, h1⟩ := step_cells he
        exact ⟨s, fun _ => h1⟩
      · exact ⟨dummy, fun h => absurd h hi⟩
    obtain ⟨f, hf⟩ := Classical.axiomOfChoice each
    refine ⟨some x, len, cap, f, rfl, ⟨fun hk => ?_, fun i hi => (hf i hi).2⟩, by unfold maxLen at hm; omega⟩
    obtain ⟨b, o, spot⟩ := x
    have h0 := (hf 0 hk).1.1
    have hs : spot = none := by simpa [Addr.add] using World.cell?_spot h0
    subst hs
    refine ⟨b, o, rfl, fun i hi => ?_⟩
    obtain ⟨k0, k1, k2, k3⟩ := (hf i hi).1
    rw [addr_add, addr_add] at k0 k1 k2 k3
    exact ⟨k0, k1, k2, k3⟩
end Go.Proofs.Ytfeilkhlapnpoaa
