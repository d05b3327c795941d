import Derived.Test.YtgihdchgdejkhaaGreatDoorS1
import Derived.Test.YtgihdchgdejkhaaGreatDoorTie
import Derived.Test.YtgihdchgdejkhaaGreatDoorCards
import Derived.WalkKit
import Derived.ProofKit
import Derived.OpenShut
import Derived.ChangeOld
import Derived.Below
import Derived.SizedLaws
import Derived.JoinedCond
import Derived.Lib.SmallJoins
import Derived.Deep.Strs
import Derived.ChangeSame
import Derived.ChangeVars
import Derived.JoinedOf
import Derived.RowKitTokens
import Derived.LaidLaws
import Derived.LaidHandle
import Derived.Stop.Joined
import Derived.SevenTiedAt
namespace Go.Proofs.YtgihdchgdejkhaaGreatDoor.D
open Go.ChangeShapes Go.WideShapes Go.ChangeAt Go.RowKit Go.Joins
open Go.Proofs.YtgihdchgdejkhaaGreatDoor.H (B64 Cp)

theorem ownK : ownKnob Tryz.prog.godebug = none := by kernel_rfl
theorem laidOut : laidOutB Tryz.prog = true := by kernel_rfl
theorem cells30 : Tryz.prog.cellsOf 30 = 2 := by kernel_rfl
theorem cells28 : Tryz.prog.cellsOf 28 = 1 := by kernel_rfl
theorem cells22 : Tryz.prog.cellsOf 22 = 1 := by kernel_rfl
theorem cells3 : Tryz.prog.cellsOf 3 = 1 := by kernel_rfl
theorem cells36 : Tryz.prog.cellsOf 36 = 3 := by kernel_rfl
theorem cells51 : Tryz.prog.cellsOf 51 = 7 := by kernel_rfl
theorem cells24 : Tryz.prog.cellsOf 24 = 5 := by kernel_rfl
/-- A slice's reading: so many values. -/
def Reads {H : Type} (d : DataW H) (len : Nat) : Prop := (d = .nil ∧ len = 0) ∨ ∃ xs ys, d = .slice xs ys ∧ xs.length = len
theorem Reads.weight {H : Type} {d : DataW H} {len : Nat} (h : Reads d len) {t e : TypeId} (ht : Tryz.prog.underlying t = some (.slice e)) (hw : ∀ n ∈ d.weights Tryz.prog t, n ≤ reachBytes) : len * Tryz.prog.bytesOf e ≤ reachBytes := by
  rcases h with ⟨_, rfl⟩ | ⟨xs, ys, rfl, rfl⟩
  · simp
  · have := hw ((xs.length + ys.length) * Tryz.prog.bytesOf e) (by simp [DataW.weights, ht])
    exact Nat.le_trans (Nat.mul_le_mul_right _ (by omega)) this
theorem mem_all {H : Type} {e : TypeId} {d : DataW H} : ∀ {l : List (DataW H)}, d ∈ l → ∀ n ∈ d.weights Tryz.prog e, n ∈ DataW.weightsAll Tryz.prog e l
  | x :: r, h, n, hn => by
    simp only [DataW.weightsAll, List.mem_append]
    rcases List.mem_cons.1 h with rfl | h
    · exact .inl hn
    · exact .inr (mem_all h n hn)
  | [], h, _, _ => by cases h
theorem word_num {hi lo : Int} (h1 : 0 ≤ hi) (h2 : hi < 18446744073709551616) (h3 : 0 ≤ lo) (h4 : lo < 18446744073709551616) : ∃ N, N < B64 * B64 ∧ hiI N = hi ∧ loI N = lo := by
  have hB : B64 = 18446744073709551616 := rfl
  have l1 : hi.toNat < B64 := by omega
  have l2 : lo.toNat < B64 := by omega
  refine ⟨B64 * hi.toNat + lo.toNat, ?_, ?_, ?_⟩
  · have : B64 * hi.toNat ≤ B64 * (B64 - 1) := Nat.mul_le_mul_left _ (by omega)
    have e : B64 * (B64 - 1) + B64 = B64 * B64 := by decide
    omega
  · unfold hiI
    rw [Nat.mul_add_div (by decide), Nat.div_eq_of_lt l2]
    omega
  · unfold loI
    rw [Nat.mul_add_mod, Nat.mod_eq_of_lt l2]
    omega
set_option maxRecDepth 100000 in
/-- One word, from its two cells. -/
theorem word_cells {H : Type} {enc : TypeId × Value → H} {W : World} {base : Nat} {spare : Nat → Bool} {held : Bool} {n : Nat} {x : Addr} {y : DataW H × List MemPlace}
    (h : (W.cells? base x 2).bind (DataW.trod enc Tryz.prog W base spare held n 30) = some y) :
    ∃ N, N < B64 * B64 ∧ ∀ c u, (wcs N)[c]? = some u → W.cell? (x.add c) = some u := by
  rw [Option.bind_eq_some_iff] at h
  obtain ⟨cs, hcs, hy⟩ := h
  obtain ⟨_, hlen, hcell⟩ := World.cells?_some hcs
  obtain ⟨y0, y1, m, _, _, h0, h1⟩ := trod_struct2 Tryz.underlying30 hy
  match cs, hlen with
  | [c0, c1], _ =>
    simp [cells28] at h0 h1
    obtain ⟨k0, e0, _, w0⟩ := DataW.trod_int Tryz.underlying28 h0
    obtain ⟨k1, e1, _, w1⟩ := DataW.trod_int Tryz.underlying28 h1
    simp at e0 e1
    subst e0 e1
    have b0 := bounds_u64 w0
    have b1 := bounds_u64 w1
    obtain ⟨N, hN, e2, e3⟩ := word_num (hi := k0) (lo := k1) (by omega) (by omega) (by omega) (by omega)
    refine ⟨N, hN, fun c u hu => ?_⟩
    have hc : c < 2 := (List.getElem?_eq_some_iff.1 hu).1
    rw [hcell c hc, ← hu]
    simp only [wcs, e2, e3]
set_option maxRecDepth 100000 in
/-- A list of words that came in. -/
theorem open_row22 {H : Type} {enc : TypeId × Value → H} {W : World} {fuel : Nat} {cs : List Value} {y : DataW H × List MemPlace} (hf : DataW.trod enc Tryz.prog W 0 (fun _ => true) true fuel 22 cs = some y) :
    ∃ a len cap f, cs = [.slice a len cap] ∧ Ws W a len cap f ∧ Reads y.1 len ∧ len ≤ 9223372036854775807 := by
  rcases DataW.trod_slice Tryz.underlying22 hf with ⟨hcs, hx⟩ | ⟨x, len, cap, elems, rest, n, _, hcs, hx, _, hl, hm, hlen, hel, _, _⟩
  · subst hx
    exact ⟨none, 0, 0, fun _ => 0, hcs, ⟨Nat.le_refl _, fun _ => ⟨rfl, rfl⟩, fun _ h => (by cases h), fun _ => by decide⟩, .inl ⟨rfl, rfl⟩, by omega⟩
  · subst hx
    have each : ∀ i, ∃ N : Nat, N < B64 * B64 ∧ (i < len → ∀ c u, (wcs N)[c]? = some u → W.cell? ((x.add (i * 2)).add c) = some u) := by
      intro i
      by_cases hi : i < len
      · have he := hel i hi
        rw [cells30, List.getElem?_eq_getElem (by omega)] at he
        obtain ⟨N, h1, h2⟩ := word_cells he
        exact ⟨N, h1, fun _ => h2⟩
      · exact ⟨0, by decide, fun h => absurd h hi⟩
    obtain ⟨f, hf⟩ := Classical.axiomOfChoice each
    refine ⟨some x, len, cap, f, hcs, ⟨hl, (fun h => by cases h), ?_, fun i => (hf i).1⟩, .inr ⟨_, _, rfl, by simp; omega⟩, by unfold maxLen at hm; omega⟩
    intro y hy j u hu
    cases hy
    have hj : j < len * 2 := by have := (List.getElem?_eq_some_iff.1 hu).1; rwa [wvs_length] at this
    have hq := wvs_get f len (j / 2) (j % 2) (by omega) (by omega)
    have hjj : j / 2 * 2 + j % 2 = j := by omega
    rw [hjj] at hq
    rw [hq] at hu
    have hc := (hf (j / 2)).2 (by omega) (j % 2) u hu
    rw [Deep.add_add, hjj] at hc
    exact hc
set_option maxRecDepth 100000 in
theorem open_words {H : Type} {enc : TypeId × Value → H} {W : World} {r : Reach} {base : Nat} {v : Value} {d : DataW H} {p : List MemPlace} (hv : Value.okWide Tryz.prog W r base 22 v) (h : DataW.Trod enc Tryz.prog W 0 (fun _ => true) true 22 v d p) :
    ∃ a len cap f, v = .slice a len cap ∧ Ws W a len cap f ∧ Reads d len := by
  obtain ⟨a, len, cap, rfl⟩ := okWide_slice Tryz.underlying22 hv
  obtain ⟨fuel, hf⟩ := h
  obtain ⟨a', len', cap', f, hcs, h1, h2, _⟩ := open_row22 hf
  simp [Value.cells] at hcs
  obtain ⟨rfl, rfl, rfl⟩ := hcs
  exact ⟨a, len, cap, f, rfl, h1, h2⟩
theorem Ws.old {w : World} {a : Option Addr} {n cap : Nat} {f : Nat → Nat} (h : Ws w a n cap f) (h0 : 0 < n) : ∀ y, a = some y → y.block < w.heap.size := by
  intro y hy
  obtain ⟨b, o, e, hw⟩ := h.plain h0
  rw [e] at hy
  cases hy
  exact World.block_lt_of_cell? _ _ (hw 0 h0).1
theorem trod_two {H : Type} {enc : TypeId × Value → H} {W : World} {t : TypeId} {f0 f1 : Field} {fuel : Nat} {cs : List Value} {x : DataW H × List MemPlace} (ht : Tryz.prog.underlying t = some (.struct #[f0, f1])) (h : DataW.trod enc Tryz.prog W 0 (fun _ => true) true fuel t cs = some x) :
    ∃ (y0 y1 : DataW H × List MemPlace) (n : Nat), DataW.trod enc Tryz.prog W 0 (fun _ => true) true n f0.type ((cs.drop f0.offset).take (Tryz.prog.cellsOf f0.type)) = some y0 ∧ DataW.trod enc Tryz.prog W 0 (fun _ => true) true n f1.type ((cs.drop f1.offset).take (Tryz.prog.cellsOf f1.type)) = some y1 := by
  obtain ⟨xs, n, _, rfl, hl, hlen, hf⟩ := DataW.trod_struct ht h
  match xs, hlen with
  | [y0, y1], _ => exact ⟨y0, y1, n, by simpa using hf 0 f0 rfl, by simpa using hf 1 f1 rfl⟩
theorem trod_five {H : Type} {enc : TypeId × Value → H} {W : World} {t : TypeId} {f0 f1 f2 f3 f4 : Field} {fuel : Nat} {cs : List Value} {x : DataW H × List MemPlace} (ht : Tryz.prog.underlying t = some (.struct #[f0, f1, f2, f3, f4])) (h : DataW.trod enc Tryz.prog W 0 (fun _ => true) true fuel t cs = some x) :
    ∃ (y0 y1 y2 y3 y4 : DataW H × List MemPlace) (n : Nat), DataW.trod enc Tryz.prog W 0 (fun _ => true) true n f0.type ((cs.drop f0.offset).take (Tryz.prog.cellsOf f0.type)) = some y0 ∧ DataW.trod enc Tryz.prog W 0 (fun _ => true) true n f1.type ((cs.drop f1.offset).take (Tryz.prog.cellsOf f1.type)) = some y1 ∧
      DataW.trod enc Tryz.prog W 0 (fun _ => true) true n f2.type ((cs.drop f2.offset).take (Tryz.prog.cellsOf f2.type)) = some y2 ∧ DataW.trod enc Tryz.prog W 0 (fun _ => true) true n f3.type ((cs.drop f3.offset).take (Tryz.prog.cellsOf f3.type)) = some y3 ∧ DataW.trod enc Tryz.prog W 0 (fun _ => true) true n f4.type ((cs.drop f4.offset).take (Tryz.prog.cellsOf f4.type)) = some y4 := by
  obtain ⟨xs, n, _, rfl, hl, hlen, hf⟩ := DataW.trod_struct ht h
  match xs, hlen with
  | [y0, y1, y2, y3, y4], _ => exact ⟨y0, y1, y2, y3, y4, n, by simpa using hf 0 f0 rfl, by simpa using hf 1 f1 rfl, by simpa using hf 2 f2 rfl, by simpa using hf 3 f3 rfl, by simpa using hf 4 f4 rfl⟩
theorem half_wf {a : Int} (wa : (Lit.int .u64 a).wf = true) : ∃ N : Nat, N < B64 ∧ a = (N : Int) := by
  have b := bounds_u64 wa
  exact ⟨a.toNat, by unfold Go.Proofs.YtgihdchgdejkhaaGreatDoor.H.B64; omega, by omega⟩
set_option maxRecDepth 100000 in
/-- A capability, from its three cells. -/
theorem cap_cells {H : Type} {enc : TypeId × Value → H} {W : World} {n : Nat} {c0 c1 c2 : Value} {y : DataW H × List MemPlace}
    (h : DataW.trod enc Tryz.prog W 0 (fun _ => true) true n 36 [c0, c1, c2] = some y) :
    ∃ (o : Int) (hi lo : Nat), c0 = .int .i64 o ∧ c1 = .int .u64 (hi : Int) ∧ c2 = .int .u64 (lo : Int) ∧ (Lit.int .i64 o).wf = true ∧ hi < B64 ∧ lo < B64 := by
  obtain ⟨y0, y1, m, h0, h1⟩ := trod_two Tryz.underlying36 h
  simp [cells3, cells30] at h0 h1
  obtain ⟨z0, z1, m2, g0, g1⟩ := trod_two Tryz.underlying30 h1
  simp [cells28] at g0 g1
  obtain ⟨o, e0, _, w0⟩ := DataW.trod_int Tryz.underlying3 h0
  obtain ⟨a, e1, _, w1⟩ := DataW.trod_int Tryz.underlying28 g0
  obtain ⟨b, e2, _, w2⟩ := DataW.trod_int Tryz.underlying28 g1
  simp at e0 e1 e2
  subst e0 e1 e2
  obtain ⟨A, nA, rfl⟩ := half_wf w1
  obtain ⟨B, nB, rfl⟩ := half_wf w2
  exact ⟨o, A, B, rfl, rfl, rfl, w0, nA, nB⟩
set_option maxRecDepth 100000 in
/-- A call, from its seven cells. -/
theorem op_cells {H : Type} {enc : TypeId × Value → H} {W : World} {n : Nat} {x : Addr} {y : DataW H × List MemPlace}
    (h : (W.cells? 0 x 7).bind (DataW.trod enc Tryz.prog W 0 (fun _ => true) true n 51) = some y) :
    ∃ s : Sp, (W.cell? (x.add 0) = some (.int .i64 s.kd) ∧ W.cell? (x.add 1) = some (.int .i64 s.ob) ∧ W.cell? (x.add 2) = some (.int .i64 s.at_) ∧ W.cell? (x.add 3) = some (.int .i64 s.r) ∧ W.cell? (x.add 4) = some (.int .i64 s.c.1) ∧ W.cell? (x.add 5) = some (.int .u64 (s.c.2.1 : Int)) ∧ W.cell? (x.add 6) = some (.int .u64 (s.c.2.2 : Int))) ∧ s.ok := by
  rw [Option.bind_eq_some_iff] at h
  obtain ⟨cs, hcs, hy⟩ := h
  obtain ⟨_, hlen, hcell⟩ := World.cells?_some hcs
  obtain ⟨y0, y1, y2, y3, y4, m, h0, h1, h2, h3, h4⟩ := trod_five Tryz.underlying51 hy
  match cs, hlen with
  | [c0, c1, c2, c3, c4, c5, c6], _ =>
    simp [cells3, cells36] at h0 h1 h2 h3 h4
    obtain ⟨kd, e0, _, w0⟩ := DataW.trod_int Tryz.underlying3 h0
    obtain ⟨ob, e1, _, w1⟩ := DataW.trod_int Tryz.underlying3 h1
    obtain ⟨at_, e2, _, w2⟩ := DataW.trod_int Tryz.underlying3 h2
    obtain ⟨r, e3, _, w3⟩ := DataW.trod_int Tryz.underlying3 h3
    obtain ⟨o, hi, lo, rfl, rfl, rfl, wo, b1, b2⟩ := cap_cells h4
    simp at e0 e1 e2 e3
    subst e0 e1 e2 e3
    exact ⟨⟨kd, ob, at_, r, (o, hi, lo)⟩, ⟨by rw [hcell 0 (by omega)]; rfl, by rw [hcell 1 (by omega)]; rfl, by rw [hcell 2 (by omega)]; rfl, by rw [hcell 3 (by omega)]; rfl, by rw [hcell 4 (by omega)]; rfl, by rw [hcell 5 (by omega)]; rfl, by rw [hcell 6 (by omega)]; rfl⟩, ⟨w1, wo⟩, b1, b2⟩
set_option maxRecDepth 100000 in
/-- A script that came in. -/
theorem open_ops {H : Type} {enc : TypeId × Value → H} {W : World} {r : Reach} {base : Nat} {v : Value} {d : DataW H} {p : List MemPlace} (hv : Value.okWide Tryz.prog W r base 49 v) (h : DataW.Trod enc Tryz.prog W 0 (fun _ => true) true 49 v d p) :
    ∃ x k cap f, v = .slice x k cap ∧ Ss W x k f ∧ k ≤ 9223372036854775807 := by
  obtain ⟨a, len, cap, rfl⟩ := okWide_slice Tryz.underlying49 hv
  obtain ⟨fuel, hf⟩ := h
  have dummy : Sp := ⟨0, 0, 0, 0, (0, 0, 0)⟩
  rcases DataW.trod_slice Tryz.underlying49 hf with ⟨hcs, hx⟩ | ⟨x, l, c, elems, rest, n, _, hcs, hx, _, hl, hm, hlen, hel, _, _⟩
  · simp [Value.cells] at hcs
    obtain ⟨rfl, rfl, rfl⟩ := hcs
    exact ⟨none, 0, 0, fun _ => dummy, rfl, ⟨fun h => by omega, fun i hi => by omega⟩, by omega⟩
  · simp [Value.cells] at hcs
    obtain ⟨rfl, rfl, rfl⟩ := hcs
    have each : ∀ i, ∃ s : Sp, i < len → (W.cell? ((x.add (i * 7)).add 0) = some (.int .i64 s.kd) ∧ W.cell? ((x.add (i * 7)).add 1) = some (.int .i64 s.ob) ∧ W.cell? ((x.add (i * 7)).add 2) = some (.int .i64 s.at_) ∧ W.cell? ((x.add (i * 7)).add 3) = some (.int .i64 s.r) ∧ W.cell? ((x.add (i * 7)).add 4) = some (.int .i64 s.c.1) ∧ W.cell? ((x.add (i * 7)).add 5) = some (.int .u64 (s.c.2.1 : Int)) ∧ W.cell? ((x.add (i * 7)).add 6) = some (.int .u64 (s.c.2.2 : Int))) ∧ s.ok := by
      intro i
      by_cases hi : i < len
      · have he := hel i hi
        rw [cells51, List.getElem?_eq_getElem (by omega)] at he
        obtain ⟨s, h1⟩ := op_cells he
        exact ⟨s, fun _ => h1⟩
      · exact ⟨dummy, fun h => absurd h hi⟩
    obtain ⟨f, hf⟩ := Classical.axiomOfChoice each
    refine ⟨some x, len, cap, f, rfl, ⟨fun hk => ?_, fun i hi => (hf i hi).2⟩, by unfold maxLen at hm; omega⟩
    obtain ⟨b, o, spot⟩ := x
    have h0 := (hf 0 hk).1.1
    have hs : spot = none := by simpa [Addr.add] using World.cell?_spot h0
    subst hs
    refine ⟨b, o, rfl, fun i hi => ?_⟩
    obtain ⟨⟨k0, k1, k2, k3, k4, k5, k6⟩, _⟩ := hf i hi
    rw [addr_add, addr_add] at k0 k1 k2 k3 k4 k5 k6
    exact ⟨k0, k1, k2, k3, k4, k5, k6⟩
set_option maxRecDepth 100000 in
/-- A world of the law that came in. -/
theorem open_world {H : Type} {enc : TypeId × Value → H} {W : World} {r : Reach} {base : Nat} {v : Value} {d : DataW H} {p : List MemPlace} (hv : Value.okWide Tryz.prog W r base 24 v) (h : DataW.Trod enc Tryz.prog W 0 (fun _ => true) true 24 v d p) :
    ∃ wd en ea kn a n cap f, v = woV wd en ea kn a n cap ∧ Ws W a n cap f ∧ n ≤ 9223372036854775807 := by
  obtain ⟨cs, rfl, hs⟩ := okWide_struct Tryz.underlying24 hv
  rw [cells24] at hs
  obtain ⟨fuel, hf⟩ := h
  obtain ⟨y0, y1, y2, y3, y4, m, h0, h1, h2, h3, h4⟩ := trod_five Tryz.underlying24 hf
  obtain ⟨l⟩ := cs
  match l, hs with
  | [c0, c1, c2, c3, c4], _ =>
    simp [Value.cells, cells3, cells22] at h0 h1 h2 h3 h4
    obtain ⟨wd, e0, _, w0⟩ := DataW.trod_int Tryz.underlying3 h0
    obtain ⟨en, e1, _, w1⟩ := DataW.trod_int Tryz.underlying3 h1
    obtain ⟨ea, e2, _, w2⟩ := DataW.trod_int Tryz.underlying3 h2
    obtain ⟨kn, e3, _, w3⟩ := DataW.trod_int Tryz.underlying3 h3
    obtain ⟨a, n, cap, f, e4, hW, _, hl⟩ := open_row22 h4
    simp at e0 e1 e2 e3 e4
    subst e0 e1 e2 e3 e4
    exact ⟨wd, en, ea, kn, a, n, cap, f, rfl, hW, hl⟩
/-! ### The variable that is laid -/
theorem et : Tryz.prog.globalNamed "errors.errorType" = some 0 := by kernel_rfl
theorem rt : (Tryz.prog.cutTypes.find? (·.1 == "internal/reflectlite.rtype")).map (·.2) = some 200 := by kernel_rfl
theorem oneRow : ((List.range 261).filter fun t => Tryz.prog.rowNamed t [101, 114, 114, 111, 114]) = [78] := by kernel_rfl
theorem sizeT : Tryz.prog.types.size = 261 := by kernel_rfl
def lay_ : List (String × DataW Unit) := [("errors.errorType", Rows.laid_errors_errorType)]
theorem handle_of_laid {W : World} (h : laidMetH Tryz.prog lay_ W) : Laid W := by
  have h' : laidMet Tryz.prog [] W ∧ handlesMet Tryz.prog lay_ W := h
  obtain ⟨name, u, ty, e1, e2, e3, e4, e5⟩ := h'.2 _ (List.mem_singleton.2 rfl)
  have en : name = [101, 114, 114, 111, 114] := (Option.some.inj e1).symm
  subst en
  obtain rfl := Option.some.inj (rt.symm.trans e2)
  have hm : ty ∈ (List.range 261).filter fun t => Tryz.prog.rowNamed t [101, 114, 114, 111, 114] := List.mem_filter.2 ⟨List.mem_range.2 (by rw [← sizeT]; exact e3), e4⟩
  rw [oneRow] at hm
  obtain rfl := List.mem_singleton.1 hm
  have hh : typeHandle Tryz.prog 78 = .pointer (some ⟨1, 78, none⟩) := by kernel_rfl
  rw [hh] at e5
  simpa [Laid] using World.var?_cell et e5 0
/-- A world that meets the condition: the settled one, the variable's cell laid. -/
noncomputable def laidWorld (os : Os) : World :=
  let w0 := World.holding Tryz.prog os ⟨#[], #[], []⟩
  { w0 with heap := w0.heap.modify 0 fun
      | .cells _ t frozen => .cells #[.iface 200 (.agg #[.pointer (some ⟨1, 78, none⟩)])] t frozen
      | o => o }
theorem laidWorld_met (os : Os) (args : Array Value) : laidMetH Tryz.prog lay_ ((laidWorld os).forCall (fun _ _ => 0) ⟨#[], args, []⟩).memory :=
  laidMetH_of_parts (laidMet_nil _ _) (by kernel_rfl)
end Go.Proofs.YtgihdchgdejkhaaGreatDoor.D
