import Derived.Test.YthfmmfphnimlnaaKS
import Derived.WalkKit
import Derived.ProofKit
import Derived.OpenShut
import Derived.ChangeOld
import Derived.Below
import Derived.SizedLaws
import Derived.Lib.SmallJoins
namespace Go.Proofs.Ythfmmfphnimlnaa
open Go.ChangeShapes Go.WideShapes Go.ChangeAt Go.RowKit Go.Joins
set_option linter.unusedVariables false
set_option linter.unusedSimpArgs false

theorem ownK : ownKnob Try.prog.godebug = none := by kernel_rfl
theorem cellsI : Try.prog.cellsOf 3 = 1 := by kernel_rfl
theorem cellsU : Try.prog.cellsOf 61 = 1 := by kernel_rfl
theorem cellsWd : Try.prog.cellsOf 63 = 2 := by kernel_rfl
theorem cellsCp : Try.prog.cellsOf 65 = 3 := by kernel_rfl
theorem cellsTk : Try.prog.cellsOf 67 = 5 := by kernel_rfl
theorem cellsOb : Try.prog.cellsOf 60 = 2 := by kernel_rfl
theorem cellsPc : Try.prog.cellsOf 51 = 2 := by kernel_rfl
theorem cellsBs : Try.prog.cellsOf 30 = 1 := by kernel_rfl
theorem cellsCs : Try.prog.cellsOf 49 = 1 := by kernel_rfl
theorem cellsOs : Try.prog.cellsOf 24 = 1 := by kernel_rfl
theorem cellsTs : Try.prog.cellsOf 25 = 1 := by kernel_rfl
theorem cellsPs : Try.prog.cellsOf 26 = 1 := by kernel_rfl
theorem cellsSt : Try.prog.cellsOf 28 = 6 := by kernel_rfl
theorem cellsCf : Try.prog.cellsOf 23 = 10 := by kernel_rfl
theorem bytesB : Try.prog.bytesOf 5 = 1 := by kernel_rfl
theorem bytesCp : Try.prog.bytesOf 65 = 24 := by kernel_rfl
theorem bytesTk : Try.prog.bytesOf 67 = 40 := by kernel_rfl
theorem bytesOb : Try.prog.bytesOf 60 = 32 := by kernel_rfl
theorem bytesPc : Try.prog.bytesOf 51 = 32 := by kernel_rfl
theorem reach_le : reachBytes ≤ 140737488355328 := by decide
/-- A slice's reading: so many values. -/
def Reads {H : Type} (d : DataW H) (len : Nat) : Prop := (d = .nil ∧ len = 0) ∨ ∃ xs ys, d = .slice xs ys ∧ xs.length = len
theorem Reads.weight {H : Type} {d : DataW H} {len : Nat} (h : Reads d len) {t e : TypeId} (ht : Try.prog.underlying t = some (.slice e)) (hw : ∀ n ∈ d.weights Try.prog t, n ≤ reachBytes) : len * Try.prog.bytesOf e ≤ reachBytes := by
  rcases h with ⟨_, rfl⟩ | ⟨xs, ys, rfl, rfl⟩
  · simp
  · have := hw ((xs.length + ys.length) * Try.prog.bytesOf e) (by simp [DataW.weights, ht])
    exact Nat.le_trans (Nat.mul_le_mul_right _ (by omega)) this
theorem mem_all {H : Type} {e : TypeId} {d : DataW H} : ∀ {l : List (DataW H)}, d ∈ l → ∀ n ∈ d.weights Try.prog e, n ∈ DataW.weightsAll Try.prog e l
  | x :: r, h, n, hn => by
    simp only [DataW.weightsAll, List.mem_append]
    rcases List.mem_cons.1 h with rfl | h
    · exact .inl hn
    · exact .inr (mem_all h n hn)
  | [], h, _, _ => by cases h
theorem row_of {W : World} {x : Addr} {len cap : Nat} {zs : List Int} (hl : len ≤ cap) (hz : zs.length = cap) (hcell : ∀ i, i < zs.length → W.cell? (x.add i) = some (.int .u8 (zs.getD i 0))) (hwz : ∀ n ∈ zs, (Lit.int .u8 n).wf = true) :
    Row W (some x) len cap ((zs.take len).map Int.toNat) := by
  have hb : ∀ n ∈ zs, 0 ≤ n ∧ n < 256 := fun n hn => by have := bounds_u8 (hwz _ hn); omega
  refine ⟨by simp; omega, hl, (fun h => by cases h), ?_, ?_⟩
  · intro y hy j u hu
    cases hy
    have hj : j < len := by
      have := (List.getElem?_eq_some_iff.1 hu).1
      simp [u8s] at this
      omega
    have hjz : j < zs.length := by omega
    rw [hcell j hjz, List.getD_eq_getElem?_getD, List.getElem?_eq_getElem hjz]
    simp only [u8s, List.getElem?_map, List.getElem?_take_of_lt hj, List.getElem?_eq_getElem hjz, Option.map_some, Option.some.injEq] at hu
    rw [← hu]
    have := hb _ (List.getElem_mem hjz)
    simp
    omega
  · intro n hn
    simp only [List.mem_map] at hn
    obtain ⟨m, hm, rfl⟩ := hn
    have := hb m (List.mem_of_mem_take hm)
    omega
set_option maxRecDepth 100000 in
theorem row_cells {H : Type} {enc : TypeId × Value → H} {W : World} {fuel : Nat} {v : Value} {x : DataW H × List MemPlace} (hf : DataW.trod enc Try.prog W 0 (fun _ => true) true fuel 30 [v] = some x) :
    ∃ (s : Sl) (L : List Nat), v = s.v ∧ Row W s.a s.n s.c L ∧ Reads x.1 s.n := by
  rcases open_ints Try.underlying30 Try.underlying5 (by kernel_rfl) hf with ⟨hcs, hx⟩ | ⟨x, l, c, zs, hcs, _, hl, hm, hz, hx, hcell, hwz⟩
  · simp at hcs
    subst hcs hx
    exact ⟨⟨none, 0, 0⟩, [], rfl, row_nil W, .inl ⟨rfl, rfl⟩⟩
  · simp at hcs
    subst hcs hx
    simp only [if_true] at hz
    exact ⟨⟨_, _, _⟩, _, rfl, row_of hl hz hcell hwz, .inr ⟨_, _, rfl, by simp [lits]; omega⟩⟩
set_option maxRecDepth 100000 in
theorem open_row {H : Type} {enc : TypeId × Value → H} {W : World} {r : Reach} {base : Nat} {v : Value} {d : DataW H} {p : List MemPlace} (hv : Value.okWide Try.prog W r base 30 v) (h : DataW.Trod enc Try.prog W 0 (fun _ => true) true 30 v d p) :
    ∃ a len cap L, v = .slice a len cap ∧ Row W a len cap L ∧ Reads d len := by
  obtain ⟨a, len, cap, rfl⟩ := okWide_slice Try.underlying30 hv
  obtain ⟨fuel, hf⟩ := h
  obtain ⟨s, L, e, h1, h2⟩ := row_cells (v := .slice a len cap) hf
  cases e
  exact ⟨_, _, _, L, rfl, h1, h2⟩
theorem addr_at (b o n : Nat) : (⟨b, o, none⟩ : Addr).add n = ⟨b, o + n, none⟩ := by
  unfold Addr.add
  split
  · subst_vars; rfl
  · rfl
/-- A list of rows of k cells that came in, each of them opened. -/
theorem lk_cells {H X : Type} {enc : TypeId × Value → H} {W : World} {t e : TypeId} {k : Nat} {E : X → List Value} {P : X → Prop} (x0 : X) (ht : Try.prog.underlying t = some (.slice e)) (hk : Try.prog.cellsOf e = k) (hpos : 0 < k) (hE : ∀ q, (E q).length = k)
    (hone : ∀ (n : Nat) (x : Addr) (y : DataW H × List MemPlace), (W.cells? 0 x k).bind (DataW.trod enc Try.prog W 0 (fun _ => true) true n e) = some y → (∀ q ∈ y.1.weights Try.prog e, q ≤ reachBytes) → ∃ q : X, P q ∧ ∀ j v, (E q)[j]? = some v → W.cell? (x.add j) = some v)
    {fuel : Nat} {v : Value} {y : DataW H × List MemPlace} (hf : DataW.trod enc Try.prog W 0 (fun _ => true) true fuel t [v] = some y) (hw : ∀ q ∈ y.1.weights Try.prog t, q ≤ reachBytes) :
    ∃ (s : Sl) (L : List X), v = s.v ∧ Lk W k s (L.map E) ∧ (∀ q ∈ L, P q) ∧ s.n * Try.prog.bytesOf e ≤ reachBytes := by
  rcases DataW.trod_slice ht hf with ⟨hcs, hx⟩ | ⟨x, len, cap, elems, rest, n, _, hcs, hx, _, hl, hm, hlen, hel, _, _⟩
  · simp at hcs
    subst hcs
    exact ⟨⟨none, 0, 0⟩, [], rfl, Lk.empty _ _, fun q h => by simp at h, by simp⟩
  · simp at hcs
    subst hcs
    have hd : y.1 = .slice (elems.map (·.1)) (rest.map (·.1)) := by rw [hx]
    have hwe : ∀ i (h : i < len), ∀ q ∈ (elems[i]'(by omega)).1.weights Try.prog e, q ≤ reachBytes := fun i h q hq => hw q (by
      rw [hd]
      simp only [DataW.weights, ht, List.mem_cons, List.mem_append]
      have hm := mem_all (e := e) (d := (elems[i]'(by omega)).1) (l := elems.map (·.1)) (List.mem_map.2 ⟨_, List.getElem_mem _, rfl⟩) q hq
      simp [hm])
    have each : ∀ i, ∃ q : X, i < len → P q ∧ ∀ j v, (E q)[j]? = some v → W.cell? ((x.add (i * k)).add j) = some v := by
      intro i
      by_cases hi : i < len
      · have he := hel i hi
        rw [hk, List.getElem?_eq_getElem (by omega)] at he
        obtain ⟨q, h1⟩ := hone _ _ _ he (hwe i hi)
        exact ⟨q, fun _ => h1⟩
      · exact ⟨x0, fun h => absurd h hi⟩
    obtain ⟨f, hf⟩ := Classical.axiomOfChoice each
    have hn := Reads.weight (d := y.1) (len := len) (.inr ⟨_, _, hd, by simp; omega⟩) ht hw
    refine ⟨⟨some x, len, cap⟩, (List.range len).map f, rfl, ⟨by simp, hl, (fun h => by cases h), ?_⟩, ?_, hn⟩
    · intro i c hc
      have hi : i < len := by have := (List.getElem?_eq_some_iff.1 hc).1; simpa using this
      rw [List.getElem?_map, List.getElem?_map, List.getElem?_range hi] at hc
      simp at hc
      subst hc
      obtain ⟨b, o, spot⟩ := x
      have h1 := (hf 0 (by omega)).2 0 _ (List.getElem?_eq_getElem (by rw [hE]; exact hpos))
      have hs : spot = none := by simpa [Addr.add] using World.cell?_spot h1
      subst hs
      refine ⟨b, o, rfl, fun j v hv => ?_⟩
      have := (hf i hi).2 j v hv
      rw [addr_at, addr_at] at this
      exact this
    · intro q hq
      simp at hq
      obtain ⟨i, hi, rfl⟩ := hq
      exact (hf i hi).1
set_option maxRecDepth 100000 in
theorem cap_cells {H : Type} {enc : TypeId × Value → H} {W : World} {n : Nat} {c0 c1 c2 : Value} {y : DataW H × List MemPlace}
    (h : DataW.trod enc Try.prog W 0 (fun _ => true) true n 65 [c0, c1, c2] = some y) :
    ∃ c : Cp, c.ok ∧ c0 = .int .i64 c.o ∧ c1 = .int .u64 (c.h : Int) ∧ c2 = .int .u64 (c.l : Int) := by
  obtain ⟨y0, y1, m, hx, _, h0, h1⟩ := trod_struct2 Try.underlying65 h
  simp [cellsI, cellsWd] at h0 h1
  obtain ⟨z0, z1, m2, hy, _, g0, g1⟩ := trod_struct2 Try.underlying63 h1
  simp [cellsU] at g0 g1
  obtain ⟨o, e0, _, w0⟩ := DataW.trod_int Try.underlying3 h0
  obtain ⟨a, e1, _, w1⟩ := DataW.trod_int Try.underlying61 g0
  obtain ⟨b, e2, _, w2⟩ := DataW.trod_int Try.underlying61 g1
  simp at e0 e1 e2
  subst e0 e1 e2
  have b1 := bounds_u64 w1
  have b2 := bounds_u64 w2
  refine ⟨⟨o, a.toNat, b.toNat⟩, ⟨?_, ?_⟩, rfl, ?_, ?_⟩
  · show a.toNat < 18446744073709551616
    omega
  · show b.toNat < 18446744073709551616
    omega
  · show Value.int .u64 a = .int .u64 (a.toNat : Int)
    rw [Int.toNat_of_nonneg (by omega)]
  · show Value.int .u64 b = .int .u64 (b.toNat : Int)
    rw [Int.toNat_of_nonneg (by omega)]
theorem get_of {L : List Value} {W : World} {x : Addr} {k : Nat} (hlen : L.length = k) (hcell : ∀ j, j < k → W.cell? (x.add j) = L[j]?) : ∀ j v, L[j]? = some v → W.cell? (x.add j) = some v := fun j v hv => by
  have := (List.getElem?_eq_some_iff.1 hv).1
  rw [hcell j (by omega)]; exact hv
set_option maxRecDepth 100000 in
theorem one_cap {H : Type} {enc : TypeId × Value → H} {W : World} (n : Nat) (x : Addr) (y : DataW H × List MemPlace) (h : (W.cells? 0 x 3).bind (DataW.trod enc Try.prog W 0 (fun _ => true) true n 65) = some y) (_ : ∀ q ∈ y.1.weights Try.prog 65, q ≤ reachBytes) :
    ∃ q : Cp, q.ok ∧ ∀ j v, (encC q)[j]? = some v → W.cell? (x.add j) = some v := by
  rw [Option.bind_eq_some_iff] at h
  obtain ⟨l, hcs, hy⟩ := h
  obtain ⟨_, hlen, hcell⟩ := World.cells?_some hcs
  match l, hlen with
  | [c0, c1, c2], hlen =>
    obtain ⟨c, hok, rfl, rfl, rfl⟩ := cap_cells hy
    exact ⟨c, hok, get_of hlen hcell⟩
set_option maxRecDepth 100000 in
theorem caps_cells {H : Type} {enc : TypeId × Value → H} {W : World} {fuel : Nat} {v : Value} {y : DataW H × List MemPlace} (hf : DataW.trod enc Try.prog W 0 (fun _ => true) true fuel 49 [v] = some y) (hw : ∀ q ∈ y.1.weights Try.prog 49, q ≤ reachBytes) :
    ∃ (s : Sl) (L : List Cp), v = s.v ∧ Lk W 3 s (L.map encC) ∧ (∀ q ∈ L, q.ok) ∧ s.n ≤ 140737488355328 := by
  obtain ⟨s, L, h1, h2, h3, h4⟩ := lk_cells (X := Cp) (P := Cp.ok) (E := encC) (k := 3) ⟨0, 0, 0⟩ Try.underlying49 cellsCp (by omega) (fun q => rfl) one_cap hf hw
  rw [bytesCp] at h4
  exact ⟨s, L, h1, h2, h3, by have := reach_le; omega⟩
set_option maxRecDepth 100000 in
theorem one_tok {H : Type} {enc : TypeId × Value → H} {W : World} (n : Nat) (x : Addr) (y : DataW H × List MemPlace) (h : (W.cells? 0 x 5).bind (DataW.trod enc Try.prog W 0 (fun _ => true) true n 67) = some y) (_ : ∀ q ∈ y.1.weights Try.prog 67, q ≤ reachBytes) :
    ∃ q : Tk, q.c.ok ∧ ∀ j v, (encT q)[j]? = some v → W.cell? (x.add j) = some v := by
  rw [Option.bind_eq_some_iff] at h
  obtain ⟨l, hcs, hy⟩ := h
  obtain ⟨_, hlen, hcell⟩ := World.cells?_some hcs
  obtain ⟨xs, m, _, hx, hl, hlx, hfs⟩ := DataW.trod_struct Try.underlying67 hy
  match l, hlen with
  | [c0, c1, c2, c3, c4], hlen =>
    match xs, hlx with
    | [y0, y1, y2], _ =>
      have f0 := hfs 0 _ rfl
      have f1 := hfs 1 _ rfl
      have f2 := hfs 2 _ rfl
      simp [Value.cells, cellsI, cellsCp] at f0 f1 f2
      obtain ⟨c, hok, rfl, rfl, rfl⟩ := cap_cells f0
      obtain ⟨o1, e1, _, w1⟩ := DataW.trod_int Try.underlying3 f1
      obtain ⟨o2, e2, _, w2⟩ := DataW.trod_int Try.underlying3 f2
      simp at e1 e2
      subst e1 e2
      exact ⟨⟨c, o1, o2⟩, hok, get_of (L := encT ⟨c, o1, o2⟩) hlen hcell⟩
set_option maxRecDepth 100000 in
theorem one_obj {H : Type} {enc : TypeId × Value → H} {W : World} (n : Nat) (x : Addr) (y : DataW H × List MemPlace) (h : (W.cells? 0 x 2).bind (DataW.trod enc Try.prog W 0 (fun _ => true) true n 60) = some y) (hw : ∀ q ∈ y.1.weights Try.prog 60, q ≤ reachBytes) :
    ∃ q : Ob × Sl, (Row W q.2.a q.2.n q.2.c q.1.b ∧ q.2.n ≤ 140737488355328) ∧ ∀ j v, (encO q)[j]? = some v → W.cell? (x.add j) = some v := by
  rw [Option.bind_eq_some_iff] at h
  obtain ⟨l, hcs, hy⟩ := h
  obtain ⟨_, hlen, hcell⟩ := World.cells?_some hcs
  obtain ⟨xs, m, _, hx, hl, hlx, hfs⟩ := DataW.trod_struct Try.underlying60 hy
  match l, hlen with
  | [c0, c1], hlen =>
    match xs, hlx with
    | [y0, y1], _ =>
      have f0 := hfs 0 _ rfl
      have f1 := hfs 1 _ rfl
      simp [Value.cells, cellsI, cellsBs] at f0 f1
      obtain ⟨o1, e1, _, w1⟩ := DataW.trod_int Try.underlying3 f0
      obtain ⟨s, L, rfl, hR, hRd⟩ := row_cells f1
      simp at e1
      subst e1
      have hw1 : ∀ q ∈ y1.1.weights Try.prog 30, q ≤ reachBytes := fun q hq => hw q (by
        rw [hx]
        simp only [DataW.weights, Try.underlying60]
        exact DataW.weights_mem_each (ts := [3, 30]) (ds := [y0.1, y1.1]) (j := 1) (t := 30) (d := y1.1) rfl rfl q hq)
      have h1 := hRd.weight Try.underlying30 hw1
      rw [bytesB] at h1
      exact ⟨(⟨o1, L⟩, s), ⟨hR, by have := reach_le; show s.n ≤ _; omega⟩, get_of (L := encO (⟨o1, L⟩, s)) hlen hcell⟩
set_option maxRecDepth 100000 in
theorem one_pro {H : Type} {enc : TypeId × Value → H} {W : World} (n : Nat) (x : Addr) (y : DataW H × List MemPlace) (h : (W.cells? 0 x 2).bind (DataW.trod enc Try.prog W 0 (fun _ => true) true n 51) = some y) (hw : ∀ q ∈ y.1.weights Try.prog 51, q ≤ reachBytes) :
    ∃ q : Pc × Sl, (Lk W 3 q.2 (q.1.l.map encC) ∧ (∀ x ∈ q.1.l, x.ok) ∧ q.2.n ≤ 140737488355328) ∧ ∀ j v, (encP q)[j]? = some v → W.cell? (x.add j) = some v := by
  rw [Option.bind_eq_some_iff] at h
  obtain ⟨l, hcs, hy⟩ := h
  obtain ⟨_, hlen, hcell⟩ := World.cells?_some hcs
  obtain ⟨xs, m, _, hx, hl, hlx, hfs⟩ := DataW.trod_struct Try.underlying51 hy
  match l, hlen with
  | [c0, c1], hlen =>
    match xs, hlx with
    | [y0, y1], _ =>
      have f0 := hfs 0 _ rfl
      have f1 := hfs 1 _ rfl
      simp [Value.cells, cellsI, cellsCs] at f0 f1
      obtain ⟨o1, e1, _, w1⟩ := DataW.trod_int Try.underlying3 f0
      have hw1 : ∀ q ∈ y1.1.weights Try.prog 49, q ≤ reachBytes := fun q hq => hw q (by
        rw [hx]
        simp only [DataW.weights, Try.underlying51]
        exact DataW.weights_mem_each (ts := [3, 49]) (ds := [y0.1, y1.1]) (j := 1) (t := 49) (d := y1.1) rfl rfl q hq)
      obtain ⟨s, L, rfl, h1, h2, h3⟩ := caps_cells f1 hw1
      simp at e1
      subst e1
      exact ⟨(⟨o1, L⟩, s), ⟨h1, h2, h3⟩, get_of (L := encP (⟨o1, L⟩, s)) hlen hcell⟩
set_option maxRecDepth 100000 in
set_option maxHeartbeats 1000000 in
theorem open_state {H : Type} {enc : TypeId × Value → H} {W : World} {r : Reach} {b : Nat} {v : Value} {d : DataW H} {p : List MemPlace} (hv : Value.okWide Try.prog W r b 28 v) (h : DataW.Trod enc Try.prog W 0 (fun _ => true) true 28 v d p)
    (hw : ∀ q ∈ d.weights Try.prog 28, q ≤ reachBytes) : ∃ (s : St) (a b d : Sl) (Q : List (Ob × Sl)) (R : List (Pc × Sl)), v = stV a b d s.nx s.px s.ta ∧ Sm W s a b d Q R := by
  obtain ⟨cs, rfl, hsz⟩ := okWide_struct Try.underlying28 hv
  rw [cellsSt] at hsz
  obtain ⟨l⟩ := cs
  obtain ⟨fuel, hf⟩ := h
  obtain ⟨xs, n, _, hx, hl, hlen, hfs⟩ := DataW.trod_struct Try.underlying28 hf
  match l, hsz with
  | [c0, c1, c2, c3, c4, c5], _ =>
    match xs, hlen with
    | [y0, y1, y2, y3, y4, y5], _ =>
      have f0 := hfs 0 _ rfl
      have f1 := hfs 1 _ rfl
      have f2 := hfs 2 _ rfl
      have f3 := hfs 3 _ rfl
      have f4 := hfs 4 _ rfl
      have f5 := hfs 5 _ rfl
      simp [Value.cells, cellsI, cellsOs, cellsTs, cellsPs] at f0 f1 f2 f3 f4 f5
      obtain ⟨o3, e3, _, w3⟩ := DataW.trod_int Try.underlying3 f3
      obtain ⟨o4, e4, _, w4⟩ := DataW.trod_int Try.underlying3 f4
      obtain ⟨o5, e5, _, w5⟩ := DataW.trod_int Try.underlying3 f5
      simp at e3 e4 e5
      subst e3 e4 e5
      have hd : d = .agg [y0.1, y1.1, y2.1, y3.1, y4.1, y5.1] := by simp only [Prod.mk.injEq] at hx; exact hx.1
      have hwj : ∀ (j : Nat) (t : TypeId) (q : DataW H × List MemPlace), [24, 25, 26, 3, 3, 3][j]? = some t → [y0.1, y1.1, y2.1, y3.1, y4.1, y5.1][j]? = some q.1 → ∀ z ∈ q.1.weights Try.prog t, z ≤ reachBytes := fun j t q h1 h2 z hz => hw z (by
        rw [hd]
        simp only [DataW.weights, Try.underlying28]
        exact DataW.weights_mem_each (ts := [24, 25, 26, 3, 3, 3]) (ds := [y0.1, y1.1, y2.1, y3.1, y4.1, y5.1]) (j := j) (t := t) (d := q.1) h1 h2 z hz)
      obtain ⟨a, Q, rfl, a1, a2, a3⟩ := lk_cells (X := Ob × Sl) (P := fun q => Row W q.2.a q.2.n q.2.c q.1.b ∧ q.2.n ≤ 140737488355328) (E := encO) (k := 2) (⟨0, []⟩, ⟨none, 0, 0⟩) Try.underlying24 cellsOb (by omega) (fun q => rfl) one_obj f0 (hwj 0 _ y0 rfl rfl)
      obtain ⟨b, T, rfl, b1, b2, b3⟩ := lk_cells (X := Tk) (P := fun q => q.c.ok) (E := encT) (k := 5) ⟨⟨0, 0, 0⟩, 0, 0⟩ Try.underlying25 cellsTk (by omega) (fun q => rfl) one_tok f1 (hwj 1 _ y1 rfl rfl)
      obtain ⟨c, R, rfl, d1, d2, d3⟩ := lk_cells (X := Pc × Sl) (P := fun q => Lk W 3 q.2 (q.1.l.map encC) ∧ (∀ x ∈ q.1.l, x.ok) ∧ q.2.n ≤ 140737488355328) (E := encP) (k := 2) (⟨0, []⟩, ⟨none, 0, 0⟩) Try.underlying26 cellsPc (by omega) (fun q => rfl) one_pro f2 (hwj 2 _ y2 rfl rfl)
      rw [bytesOb] at a3
      rw [bytesTk] at b3
      rw [bytesPc] at d3
      have hr := reach_le
      exact ⟨⟨Q.map Prod.fst, T, R.map Prod.fst, o3, o4, o5⟩, a, b, c, Q, R, rfl, ⟨rfl, a1, fun q hq => (a2 q hq).1, b1, rfl, d1, fun q hq => (d2 q hq).1, b2, fun q hq => (d2 q hq).2.1, by omega, by omega, by omega, fun q hq => (a2 q hq).2, fun q hq => (d2 q hq).2.2⟩⟩
set_option maxRecDepth 100000 in
set_option maxHeartbeats 1000000 in
theorem open_config {H : Type} {enc : TypeId × Value → H} {W : World} {r : Reach} {b : Nat} {v : Value} {d : DataW H} {p : List MemPlace} (hv : Value.okWide Try.prog W r b 23 v) (h : DataW.Trod enc Try.prog W 0 (fun _ => true) true 23 v d p) :
    ∃ c : Cf, v = c.v := by
  obtain ⟨cs, rfl, hsz⟩ := okWide_struct Try.underlying23 hv
  rw [cellsCf] at hsz
  obtain ⟨l⟩ := cs
  obtain ⟨fuel, hf⟩ := h
  obtain ⟨xs, n, _, hx, hl, hlen, hfs⟩ := DataW.trod_struct Try.underlying23 hf
  match l, hsz with
  | [c0, c1, c2, c3, c4, c5, c6, c7, c8, c9], _ =>
    match xs, hlen with
    | [y0, y1, y2, y3, y4, y5, y6, y7, y8, y9], _ =>
      have f0 := hfs 0 _ rfl
      have f1 := hfs 1 _ rfl
      have f2 := hfs 2 _ rfl
      have f3 := hfs 3 _ rfl
      have f4 := hfs 4 _ rfl
      have f5 := hfs 5 _ rfl
      have f6 := hfs 6 _ rfl
      have f7 := hfs 7 _ rfl
      have f8 := hfs 8 _ rfl
      have f9 := hfs 9 _ rfl
      simp [Value.cells, cellsI] at f0 f1 f2 f3 f4 f5 f6 f7 f8 f9
      obtain ⟨o0, e0, _, w0⟩ := DataW.trod_int Try.underlying3 f0
      obtain ⟨o1, e1, _, w1⟩ := DataW.trod_int Try.underlying3 f1
      obtain ⟨o2, e2, _, w2⟩ := DataW.trod_int Try.underlying3 f2
      obtain ⟨o3, e3, _, w3⟩ := DataW.trod_int Try.underlying3 f3
      obtain ⟨o4, e4, _, w4⟩ := DataW.trod_int Try.underlying3 f4
      obtain ⟨o5, e5, _, w5⟩ := DataW.trod_int Try.underlying3 f5
      obtain ⟨o6, e6, _, w6⟩ := DataW.trod_int Try.underlying3 f6
      obtain ⟨o7, e7, _, w7⟩ := DataW.trod_int Try.underlying3 f7
      obtain ⟨o8, e8, _, w8⟩ := DataW.trod_int Try.underlying3 f8
      obtain ⟨o9, e9, _, w9⟩ := DataW.trod_int Try.underlying3 f9
      simp at e0 e1 e2 e3 e4 e5 e6 e7 e8 e9
      subst e0 e1 e2 e3 e4 e5 e6 e7 e8 e9
      exact ⟨⟨o0, o1, o2, o3, o4, o5, o6, o7, o8, o9⟩, rfl⟩
end Go.Proofs.Ythfmmfphnimlnaa
