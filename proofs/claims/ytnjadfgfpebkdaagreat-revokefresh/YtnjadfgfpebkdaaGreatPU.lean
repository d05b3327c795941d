import Derived.Test.YtnjadfgfpebkdaaGreatFB
import Derived.WalkKit
import Derived.ProofKit
import Derived.OpenShut
import Derived.ChangeOld
import Derived.Below
import Derived.SizedLaws
import Derived.JoinedCond
import Derived.Lib.SmallJoins
import Derived.Deep.Strs
namespace Go.Proofs.YtnjadfgfpebkdaaGreat.D
open Go.ChangeShapes Go.WideShapes Go.ChangeAt Go.RowKit Go.Joins
open Go.Proofs.YtnjadfgfpebkdaaGreat.H (B64 Cp)

theorem own : ownKnob Tryz.prog.godebug = none := by kernel_rfl
theorem laidOut : laidOutB Tryz.prog = true := by kernel_rfl
theorem cells3 : Tryz.prog.cellsOf 3 = 1 := by kernel_rfl
theorem cells23 : Tryz.prog.cellsOf 23 = 1 := by kernel_rfl
theorem cells25 : Tryz.prog.cellsOf 25 = 2 := by kernel_rfl
theorem cells27 : Tryz.prog.cellsOf 27 = 3 := by kernel_rfl
theorem cells29 : Tryz.prog.cellsOf 29 = 10 := by kernel_rfl
theorem trod_two {H : Type} {enc : TypeId × Value → H} {W : World} {t : TypeId} {f0 f1 : Field} {fuel : Nat} {cs : List Value} {x : DataW H × List MemPlace} (ht : Tryz.prog.underlying t = some (.struct #[f0, f1])) (h : DataW.trod enc Tryz.prog W 0 (fun _ => true) true fuel t cs = some x) :
    ∃ (y0 y1 : DataW H × List MemPlace) (n : Nat), DataW.trod enc Tryz.prog W 0 (fun _ => true) true n f0.type ((cs.drop f0.offset).take (Tryz.prog.cellsOf f0.type)) = some y0 ∧ DataW.trod enc Tryz.prog W 0 (fun _ => true) true n f1.type ((cs.drop f1.offset).take (Tryz.prog.cellsOf f1.type)) = some y1 := by
  obtain ⟨xs, n, _, rfl, hl, hlen, hf⟩ := DataW.trod_struct ht h
  match xs, hlen with
  | [y0, y1], _ => exact ⟨y0, y1, n, by simpa using hf 0 f0 rfl, by simpa using hf 1 f1 rfl⟩
theorem trod_seven {H : Type} {enc : TypeId × Value → H} {W : World} {t : TypeId} {f0 f1 f2 f3 f4 f5 f6 : Field} {fuel : Nat} {cs : List Value} {x : DataW H × List MemPlace} (ht : Tryz.prog.underlying t = some (.struct #[f0, f1, f2, f3, f4, f5, f6])) (h : DataW.trod enc Tryz.prog W 0 (fun _ => true) true fuel t cs = some x) :
    ∃ (y0 y1 y2 y3 y4 y5 y6 : DataW H × List MemPlace) (n : Nat), DataW.trod enc Tryz.prog W 0 (fun _ => true) true n f0.type ((cs.drop f0.offset).take (Tryz.prog.cellsOf f0.type)) = some y0 ∧ DataW.trod enc Tryz.prog W 0 (fun _ => true) true n f1.type ((cs.drop f1.offset).take (Tryz.prog.cellsOf f1.type)) = some y1 ∧
      DataW.trod enc Tryz.prog W 0 (fun _ => true) true n f2.type ((cs.drop f2.offset).take (Tryz.prog.cellsOf f2.type)) = some y2 ∧ DataW.trod enc Tryz.prog W 0 (fun _ => true) true n f3.type ((cs.drop f3.offset).take (Tryz.prog.cellsOf f3.type)) = some y3 ∧ DataW.trod enc Tryz.prog W 0 (fun _ => true) true n f4.type ((cs.drop f4.offset).take (Tryz.prog.cellsOf f4.type)) = some y4 ∧
      DataW.trod enc Tryz.prog W 0 (fun _ => true) true n f5.type ((cs.drop f5.offset).take (Tryz.prog.cellsOf f5.type)) = some y5 ∧ DataW.trod enc Tryz.prog W 0 (fun _ => true) true n f6.type ((cs.drop f6.offset).take (Tryz.prog.cellsOf f6.type)) = some y6 := by
  obtain ⟨xs, n, _, rfl, hl, hlen, hf⟩ := DataW.trod_struct ht h
  match xs, hlen with
  | [y0, y1, y2, y3, y4, y5, y6], _ => exact ⟨y0, y1, y2, y3, y4, y5, y6, n, by simpa using hf 0 f0 rfl, by simpa using hf 1 f1 rfl, by simpa using hf 2 f2 rfl, by simpa using hf 3 f3 rfl, by simpa using hf 4 f4 rfl, by simpa using hf 5 f5 rfl, by simpa using hf 6 f6 rfl⟩
theorem half_wf {a : Int} (wa : (Lit.int .u64 a).wf = true) : ∃ N : Nat, N < B64 ∧ a = (N : Int) := by
  have b := bounds_u64 wa
  exact ⟨a.toNat, by unfold Go.Proofs.YtnjadfgfpebkdaaGreat.H.B64; omega, by omega⟩
theorem i64_of {x : Int} (h : (Lit.int .i64 x).wf = true) : S.i64ok x := by
  simp only [Lit.wf, Bool.and_eq_true, decide_eq_true_eq] at h
  have e1 : IntKind.i64.min = -9223372036854775808 := by decide
  have e2 : IntKind.i64.max = 9223372036854775807 := by decide
  rw [e1, e2] at h
  unfold S.i64ok
  omega
theorem word_cells {H : Type} {enc : TypeId × Value → H} {W : World} {n : Nat} {c1 c2 : Value} {y : DataW H × List MemPlace}
    (h : DataW.trod enc Tryz.prog W 0 (fun _ => true) true n 25 [c1, c2] = some y) :
    ∃ (hi lo : Nat), c1 = .int .u64 (hi : Int) ∧ c2 = .int .u64 (lo : Int) ∧ hi < B64 ∧ lo < B64 := by
  obtain ⟨z0, z1, m2, g0, g1⟩ := trod_two Tryz.underlying25 h
  simp [cells23] at g0 g1
  obtain ⟨a, e1, _, w1⟩ := DataW.trod_int Tryz.underlying23 g0
  obtain ⟨b, e2, _, w2⟩ := DataW.trod_int Tryz.underlying23 g1
  simp at e1 e2
  subst e1 e2
  obtain ⟨A, nA, rfl⟩ := half_wf w1
  obtain ⟨B, nB, rfl⟩ := half_wf w2
  exact ⟨A, B, rfl, rfl, nA, nB⟩
theorem cap_cells {H : Type} {enc : TypeId × Value → H} {W : World} {n : Nat} {c0 c1 c2 : Value} {y : DataW H × List MemPlace}
    (h : DataW.trod enc Tryz.prog W 0 (fun _ => true) true n 27 [c0, c1, c2] = some y) :
    ∃ (o : Int) (hi lo : Nat), c0 = .int .i64 o ∧ c1 = .int .u64 (hi : Int) ∧ c2 = .int .u64 (lo : Int) ∧ (Lit.int .i64 o).wf = true ∧ hi < B64 ∧ lo < B64 := by
  obtain ⟨y0, y1, m, h0, h1⟩ := trod_two Tryz.underlying27 h
  simp [cells3, cells25] at h0 h1
  obtain ⟨o, e0, _, w0⟩ := DataW.trod_int Tryz.underlying3 h0
  simp at e0
  subst e0
  obtain ⟨A, B, rfl, rfl, nA, nB⟩ := word_cells h1
  exact ⟨o, A, B, rfl, rfl, rfl, w0, nA, nB⟩
set_option maxRecDepth 100000 in
/-- A call, from its ten cells. -/
theorem op_list {H : Type} {enc : TypeId × Value → H} {W : World} {n : Nat} {cs : List Value} (hlen : cs.length = 10) {y : DataW H × List MemPlace}
    (h : DataW.trod enc Tryz.prog W 0 (fun _ => true) true n 29 cs = some y) : ∃ s : Opr, cs = (opC s).toList ∧ s.Ok := by
  obtain ⟨y0, y1, y2, y3, y4, y5, y6, m, h0, h1, h2, h3, h4, h5, h6⟩ := trod_seven Tryz.underlying29 h
  match cs, hlen with
  | [c0, c1, c2, c3, c4, c5, c6, c7, c8, c9], _ =>
    simp [cells3, cells25, cells27] at h0 h1 h2 h3 h4 h5 h6
    obtain ⟨kd, e0, _, w0⟩ := DataW.trod_int Tryz.underlying3 h0
    obtain ⟨ob, e1, _, w1⟩ := DataW.trod_int Tryz.underlying3 h1
    obtain ⟨at_, e2, _, w2⟩ := DataW.trod_int Tryz.underlying3 h2
    obtain ⟨rt, e3, _, w3⟩ := DataW.trod_int Tryz.underlying3 h3
    obtain ⟨sz, e4, _, w4⟩ := DataW.trod_int Tryz.underlying3 h4
    obtain ⟨wh, wl, rfl, rfl, n1, n2⟩ := word_cells h5
    obtain ⟨o, hi, lo, rfl, rfl, rfl, wo, b1, b2⟩ := cap_cells h6
    simp at e0 e1 e2 e3 e4
    subst e0 e1 e2 e3 e4
    exact ⟨⟨kd, ob, at_, rt, sz, wh, wl, (o, hi, lo)⟩, rfl, ⟨i64_of w1, i64_of w4, n1, n2, i64_of wo, ⟨b1, b2⟩⟩⟩
set_option maxRecDepth 100000 in
theorem open_op {H : Type} {enc : TypeId × Value → H} {W : World} {r : Reach} {base : Nat} {v : Value} {d : DataW H} {p : List MemPlace} (hv : Value.okWide Tryz.prog W r base 29 v) (h : DataW.Trod enc Tryz.prog W 0 (fun _ => true) true 29 v d p) : ∃ s : Opr, v = opV s ∧ s.Ok := by
  obtain ⟨cs, rfl, hs⟩ := okWide_struct Tryz.underlying29 hv
  rw [cells29] at hs
  obtain ⟨fuel, hf⟩ := h
  obtain ⟨l⟩ := cs
  have hf' : DataW.trod enc Tryz.prog W 0 (fun _ => true) true fuel 29 l = some (d, p) := by simpa [Value.cells] using hf
  obtain ⟨s, e, ok⟩ := op_list (by simpa using hs) hf'
  refine ⟨s, ?_, ok⟩
  unfold opV
  rw [e]
set_option maxRecDepth 100000 in
/-- A script that came in. -/
theorem open_ops {H : Type} {enc : TypeId × Value → H} {W : World} {r : Reach} {base : Nat} {v : Value} {d : DataW H} {p : List MemPlace} (hv : Value.okWide Tryz.prog W r base 22 v) (h : DataW.Trod enc Tryz.prog W 0 (fun _ => true) true 22 v d p) :
    ∃ x k cap f, v = .slice x k cap ∧ Ss W x k f ∧ k ≤ 9223372036854775807 := by
  obtain ⟨a, len, cap, rfl⟩ := okWide_slice Tryz.underlying22 hv
  obtain ⟨fuel, hf⟩ := h
  have dummy : Opr := ⟨0, 0, 0, 0, 0, 0, 0, (0, 0, 0)⟩
  rcases DataW.trod_slice Tryz.underlying22 hf with ⟨hcs, hx⟩ | ⟨x, l, c, elems, rest, n, _, hcs, hx, _, hl, hm, hlen, hel, _, _⟩
  · simp [Value.cells] at hcs
    obtain ⟨rfl, rfl, rfl⟩ := hcs
    exact ⟨none, 0, 0, fun _ => dummy, rfl, ⟨fun h => by omega, fun i hi => by omega⟩, by omega⟩
  · simp [Value.cells] at hcs
    obtain ⟨rfl, rfl, rfl⟩ := hcs
    have each : ∀ i, ∃ s : Opr, i < len → (∀ c, c < 10 → W.cell? ((x.add (i * 10)).add c) = (opC s)[c]?) ∧ s.Ok := by
      intro i
      by_cases hi : i < len
      · have he := hel i hi
        rw [cells29, List.getElem?_eq_getElem (by omega), Option.bind_eq_some_iff] at he
        obtain ⟨cs, hcs, hy⟩ := he
        obtain ⟨_, hlen, hcell⟩ := World.cells?_some hcs
        obtain ⟨s, e, ok⟩ := op_list hlen hy
        refine ⟨s, fun _ => ⟨fun c hc => ?_, ok⟩⟩
        rw [hcell c hc, e]
        simp
      · exact ⟨dummy, fun h => absurd h hi⟩
    obtain ⟨f, hf⟩ := Classical.axiomOfChoice each
    refine ⟨some x, len, cap, f, rfl, ⟨fun hk => ?_, fun i hi => (hf i hi).2⟩, by unfold maxLen at hm; omega⟩
    obtain ⟨b, o, spot⟩ := x
    have h0 := (hf 0 hk).1 0 (by omega)
    have hs : spot = none := by
      have h1 : (opC (f 0))[0]? = some (.int .i64 (f 0).kd) := rfl
      rw [h1] at h0
      simpa [Addr.add] using World.cell?_spot h0
    subst hs
    refine ⟨b, o, rfl, fun i hi => ?_⟩
    have hc := (hf i hi).1
    simp only [addr_add] at hc
    exact ⟨hc 0 (by omega), hc 1 (by omega), hc 2 (by omega), hc 3 (by omega), hc 4 (by omega), hc 5 (by omega), hc 6 (by omega), hc 7 (by omega), hc 8 (by omega), hc 9 (by omega)⟩
end Go.Proofs.YtnjadfgfpebkdaaGreat.D
