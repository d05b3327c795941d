import Derived.Test.YtaffgoacbiedlaaS1
import Derived.WalkKit
import Derived.ProofKit
import Derived.OpenShut
import Derived.ChangeOld
import Derived.Below
import Derived.SizedLaws
import Derived.Lib.SmallJoins
namespace Go.Proofs.Ytaffgoacbiedlaa
open Go.ChangeShapes Go.WideShapes Go.ChangeAt Go.RowKit Go.Joins

theorem ownK : ownKnob Try.prog.godebug = none := by kernel_rfl
theorem laidOut : laidOutB Try.prog = true := by kernel_rfl
theorem cells3 : Try.prog.cellsOf 3 = 1 := by kernel_rfl
theorem cells4 : Try.prog.cellsOf 4 = 1 := by kernel_rfl
theorem cells23 : Try.prog.cellsOf 23 = 1 := by kernel_rfl
theorem cells25 : Try.prog.cellsOf 25 = 2 := by kernel_rfl
theorem cells27 : Try.prog.cellsOf 27 = 3 := by kernel_rfl
theorem cells28 : Try.prog.cellsOf 28 = 1 := by kernel_rfl
theorem cells39 : Try.prog.cellsOf 39 = 1 := by kernel_rfl
theorem cells30 : Try.prog.cellsOf 30 = 6 := by kernel_rfl
theorem cells41 : Try.prog.cellsOf 41 = 13 := by kernel_rfl
theorem cells22 : Try.prog.cellsOf 22 = 1 := by kernel_rfl
theorem bytes3 : Try.prog.bytesOf 3 = 8 := by kernel_rfl
theorem bytes5 : Try.prog.bytesOf 5 = 1 := by kernel_rfl

/-- How many a list that came in reads as. -/
def Reads {H : Type} (d : DataW H) (n : Nat) : Prop := (d = .nil ∧ n = 0) ∨ ∃ xs ys, d = .slice xs ys ∧ xs.length = n
theorem Reads.weight {H : Type} {d : DataW H} {len : Nat} (h : Reads d len) {t e : TypeId} (ht : Try.prog.underlying t = some (.slice e)) (hw : ∀ n ∈ d.weights Try.prog t, n ≤ reachBytes) : len * Try.prog.bytesOf e ≤ reachBytes := by
  rcases h with ⟨_, rfl⟩ | ⟨xs, ys, rfl, rfl⟩
  · simp
  · have := hw ((xs.length + ys.length) * Try.prog.bytesOf e) (by simp [DataW.weights, ht])
    exact Nat.le_trans (Nat.mul_le_mul_right _ (by omega)) this
theorem gifts_room {k : Nat} (h : k * 8 ≤ reachBytes) : k ≤ 17592186044416 := by
  have e : reachBytes ≤ 140737488355328 := by decide
  omega

theorem row_of {W : World} {x : Addr} {len cap : Nat} {zs : List Int} (hl : len ≤ cap) (hz : zs.length = cap) (hcell : ∀ i, i < zs.length → W.cell? (x.add i) = some (.int .u8 (zs.getD i 0))) (hwz : ∀ n ∈ zs, (Lit.int .u8 n).wf = true) :
    Row W (some x) len cap ((zs.take len).map Int.toNat) := by
  have hb : ∀ n ∈ zs, 0 ≤ n ∧ n < 256 := fun n hn => by have := bounds_u8 (hwz _ hn); omega
  refine ⟨by simp; omega, hl, (fun h => by cases h), ?_, ?_⟩
  · intro y hy j u hu
    cases hy
    have hj : j < len := by
      have := (List.getElem?_eq_some_iff.1 hu).1
      simp [u8s] at this
      omega
    have hjz : j < zs.length := by omega
    rw [hcell j hjz, List.getD_eq_getElem?_getD, List.getElem?_eq_getElem hjz]
    simp only [u8s, List.getElem?_map, List.getElem?_take_of_lt hj, List.getElem?_eq_getElem hjz, Option.map_some, Option.some.injEq] at hu
    rw [← hu]
    have := hb _ (List.getElem_mem hjz)
    simp
    omega
  · intro n hn
    simp only [List.mem_map] at hn
    obtain ⟨m, hm, rfl⟩ := hn
    have := hb m (List.mem_of_mem_take hm)
    omega
theorem ri_of {W : World} {x : Addr} {len cap : Nat} {zs : List Int} (hl : len ≤ cap) (hz : zs.length = cap) (hcell : ∀ i, i < zs.length → W.cell? (x.add i) = some (.int .i64 (zs.getD i 0))) :
    RI W (some x) len cap (zs.take len) := by
  refine ⟨by simp; omega, hl, (fun h => by cases h), ?_⟩
  intro y hy j u hu
  cases hy
  have hj : j < len := by
    have := (List.getElem?_eq_some_iff.1 hu).1
    simp [i64s] at this
    omega
  have hjz : j < zs.length := by omega
  rw [hcell j hjz, List.getD_eq_getElem?_getD, List.getElem?_eq_getElem hjz]
  simp only [i64s, List.getElem?_map, List.getElem?_take_of_lt hj, List.getElem?_eq_getElem hjz, Option.map_some, Option.some.injEq] at hu
  rw [← hu]
  simp
set_option maxRecDepth 100000 in
theorem row_cells {H : Type} {enc : TypeId × Value → H} {W : World} {fuel : Nat} {v : Value} {x : DataW H × List MemPlace} (hf : DataW.trod enc Try.prog W 0 (fun _ => true) true fuel 28 [v] = some x) :
    ∃ (s : Sl) (L : List Nat), v = s.v ∧ Row W s.a s.n s.c L ∧ Reads x.1 s.n := by
  rcases open_ints Try.underlying28 Try.underlying5 (by kernel_rfl) hf with ⟨hcs, hx⟩ | ⟨x, l, c, zs, hcs, _, hl, hm, hz, hx, hcell, hwz⟩
  · simp at hcs
    subst hcs hx
    exact ⟨⟨none, 0, 0⟩, [], rfl, row_nil W, .inl ⟨rfl, rfl⟩⟩
  · simp at hcs
    subst hcs hx
    simp only [if_true] at hz
    exact ⟨⟨_, _, _⟩, _, rfl, row_of hl hz hcell hwz, .inr ⟨_, _, rfl, by simp [lits]; omega⟩⟩
set_option maxRecDepth 100000 in
theorem ints_cells {H : Type} {enc : TypeId × Value → H} {W : World} {fuel : Nat} {v : Value} {x : DataW H × List MemPlace} (hf : DataW.trod enc Try.prog W 0 (fun _ => true) true fuel 39 [v] = some x) :
    ∃ (s : Sl) (L : List Int), v = s.v ∧ RI W s.a s.n s.c L ∧ Reads x.1 s.n := by
  rcases open_ints Try.underlying39 Try.underlying3 (by kernel_rfl) hf with ⟨hcs, hx⟩ | ⟨x, l, c, zs, hcs, _, hl, hm, hz, hx, hcell, hwz⟩
  · simp at hcs
    subst hcs hx
    exact ⟨⟨none, 0, 0⟩, [], rfl, RI.nil W, .inl ⟨rfl, rfl⟩⟩
  · simp at hcs
    subst hcs hx
    simp only [if_true] at hz
    exact ⟨⟨_, _, _⟩, _, rfl, ri_of hl hz hcell, .inr ⟨_, _, rfl, by simp [lits]; omega⟩⟩
set_option maxRecDepth 100000 in
theorem open_row {H : Type} {enc : TypeId × Value → H} {W : World} {r : Reach} {base : Nat} {v : Value} {d : DataW H} {p : List MemPlace} (hv : Value.okWide Try.prog W r base 28 v) (h : DataW.Trod enc Try.prog W 0 (fun _ => true) true 28 v d p) :
    ∃ a len cap L, v = .slice a len cap ∧ Row W a len cap L ∧ Reads d len := by
  obtain ⟨a, len, cap, rfl⟩ := okWide_slice Try.underlying28 hv
  obtain ⟨fuel, hf⟩ := h
  obtain ⟨s, L, e, h1, h2⟩ := row_cells (v := .slice a len cap) hf
  cases e
  exact ⟨_, _, _, L, rfl, h1, h2⟩

set_option maxRecDepth 100000 in
theorem cap_cells {H : Type} {enc : TypeId × Value → H} {W : World} {n : Nat} {c0 c1 c2 : Value} {y : DataW H × List MemPlace}
    (h : DataW.trod enc Try.prog W 0 (fun _ => true) true n 27 [c0, c1, c2] = some y) :
    ∃ (o : Int) (hi lo : Nat), c0 = .int .i64 o ∧ c1 = .int .u64 (hi : Int) ∧ c2 = .int .u64 (lo : Int) ∧ hi < 18446744073709551616 ∧ lo < 18446744073709551616 := by
  obtain ⟨y0, y1, m, hx, _, h0, h1⟩ := trod_struct2 Try.underlying27 h
  simp [cells3, cells25] at h0 h1
  obtain ⟨z0, z1, m2, hy, _, g0, g1⟩ := trod_struct2 Try.underlying25 h1
  simp [cells23] at g0 g1
  obtain ⟨o, e0, _, w0⟩ := DataW.trod_int Try.underlying3 h0
  obtain ⟨a, e1, _, w1⟩ := DataW.trod_int Try.underlying23 g0
  obtain ⟨b, e2, _, w2⟩ := DataW.trod_int Try.underlying23 g1
  simp at e0 e1 e2
  subst e0 e1 e2
  have b1 := bounds_u64 w1
  have b2 := bounds_u64 w2
  exact ⟨o, a.toNat, b.toNat, rfl, by rw [Int.toNat_of_nonneg (by omega)], by rw [Int.toNat_of_nonneg (by omega)], by omega, by omega⟩
set_option maxRecDepth 100000 in
set_option maxHeartbeats 1000000 in
theorem open_call {H : Type} {enc : TypeId × Value → H} {W : World} {r : Reach} {b : Nat} {v : Value} {d : DataW H} {p : List MemPlace} (hv : Value.okWide Try.prog W r b 41 v) (h : DataW.Trod enc Try.prog W 0 (fun _ => true) true 41 v d p) :
    ∃ (L : List Value) (c : Cl) (dd gd : DataW H) (d0 d1 d2 d3 d4 d5 d6 d7 d9 : DataW H), v = .agg L.toArray ∧ Cc W L c ∧ d = .agg [d0, d1, d2, d3, d4, d5, d6, d7, dd, d9, gd] ∧ Reads dd c.data.length ∧ Reads gd c.gifts.length := by
  obtain ⟨cs, rfl, hsz⟩ := okWide_struct Try.underlying41 hv
  rw [cells41] at hsz
  obtain ⟨l⟩ := cs
  obtain ⟨fuel, hf⟩ := h
  obtain ⟨xs, n, _, hx, hl, hlen, hfs⟩ := DataW.trod_struct Try.underlying41 hf
  match l, hsz with
  | [c0, c1, c2, c3, c4, c5, c6, c7, c8, c9, c10, c11, c12], _ =>
    match xs, hlen with
    | [y0, y1, y2, y3, y4, y5, y6, y7, y8, y9, y10], _ =>
      have f0 := hfs 0 _ rfl
      have f1 := hfs 1 _ rfl
      have f2 := hfs 2 _ rfl
      have f3 := hfs 3 _ rfl
      have f4 := hfs 4 _ rfl
      have f5 := hfs 5 _ rfl
      have f6 := hfs 6 _ rfl
      have f7 := hfs 7 _ rfl
      have f8 := hfs 8 _ rfl
      have f9 := hfs 9 _ rfl
      have f10 := hfs 10 _ rfl
      simp [Value.cells, cells3, cells4, cells27, cells28, cells39] at f0 f1 f2 f3 f4 f5 f6 f7 f8 f9 f10
      obtain ⟨o0, e0, _, w0⟩ := DataW.trod_int Try.underlying3 f0
      obtain ⟨o1, e1, _, w1⟩ := DataW.trod_int Try.underlying3 f1
      obtain ⟨o2, e2, _, w2⟩ := DataW.trod_int Try.underlying3 f2
      obtain ⟨o, hi, lo, rfl, rfl, rfl, b1, b2⟩ := cap_cells f3
      obtain ⟨gv, e4, _⟩ := DataW.trod_bool Try.underlying4 f4
      obtain ⟨o5, e5, _, w5⟩ := DataW.trod_int Try.underlying3 f5
      obtain ⟨o6, e6, _, w6⟩ := DataW.trod_int Try.underlying3 f6
      obtain ⟨o7, e7, _, w7⟩ := DataW.trod_int Try.underlying3 f7
      obtain ⟨s, D, rfl, hR, hRd⟩ := row_cells f8
      obtain ⟨o9, e9, _, w9⟩ := DataW.trod_int Try.underlying3 f9
      obtain ⟨g, G, rfl, hG, hGd⟩ := ints_cells f10
      simp at e0 e1 e2 e4 e5 e6 e7 e9
      subst e0 e1 e2 e4 e5 e6 e7 e9
      simp only [Prod.mk.injEq] at hx
      refine ⟨_, ⟨o0, o1, o2, o, hi, lo, gv, o5, o6, o7, D, o9, G⟩, _, _, _, _, _, _, _, _, _, _, _, rfl, ⟨s, g, rfl, hR, hG, b1, b2⟩, hx.1, ?_, ?_⟩
      · rw [hR.len]; exact hRd
      · rw [hG.len]; exact hGd
set_option maxRecDepth 100000 in
set_option maxHeartbeats 1000000 in
theorem open_reply {H : Type} {enc : TypeId × Value → H} {W : World} {r : Reach} {b : Nat} {v : Value} {d : DataW H} {p : List MemPlace} (hv : Value.okWide Try.prog W r b 30 v) (h : DataW.Trod enc Try.prog W 0 (fun _ => true) true 30 v d p) :
    ∃ (L : List Value) (c : Rp) (dd : DataW H) (d0 d1 d3 : DataW H), v = .agg L.toArray ∧ Rr W L c ∧ d = .agg [d0, d1, dd, d3] ∧ Reads dd c.data.length := by
  obtain ⟨cs, rfl, hsz⟩ := okWide_struct Try.underlying30 hv
  rw [cells30] at hsz
  obtain ⟨l⟩ := cs
  obtain ⟨fuel, hf⟩ := h
  obtain ⟨xs, n, _, hx, hl, hlen, hfs⟩ := DataW.trod_struct Try.underlying30 hf
  match l, hsz with
  | [c0, c1, c2, c3, c4, c5], _ =>
    match xs, hlen with
    | [y0, y1, y2, y3], _ =>
      have f0 := hfs 0 _ rfl
      have f1 := hfs 1 _ rfl
      have f2 := hfs 2 _ rfl
      have f3 := hfs 3 _ rfl
      simp [Value.cells, cells3, cells22, cells27, cells28] at f0 f1 f2 f3
      obtain ⟨o, hi, lo, rfl, rfl, rfl, b1, b2⟩ := cap_cells f1
      obtain ⟨s, D, rfl, hR, hRd⟩ := row_cells f2
      obtain ⟨o3, e3, _, w3⟩ := DataW.trod_int Try.underlying3 f3
      have f0' := f0
      obtain ⟨o0, e0, _, w0⟩ := DataW.trod_int Try.underlying22 f0
      simp at e0 e3
      subst e0 e3
      simp only [Prod.mk.injEq] at hx
      refine ⟨_, ⟨o0, o, hi, lo, D, o3⟩, _, _, _, _, rfl, ⟨s, rfl, hR, b1, b2⟩, hx.1, ?_⟩
      rw [hR.len]; exact hRd
end Go.Proofs.Ytaffgoacbiedlaa
