import Derived.Test.YtciidjhadijhdaaPU
import Derived.Test.YtciidjhadijhdaaIE
namespace Go.Proofs.Ytciidjhadijhdaa.D
open Go.ChangeShapes Go.WideShapes Go.ChangeAt Go.RowKit Go.Joins
open Go.Proofs.Ytciidjhadijhdaa.H (B64)

theorem half_wf {a : Int} (wa : (Lit.int .u64 a).wf = true) : ∃ N : Nat, N < B64 ∧ a = (N : Int) := by
  have ha := bounds_u64 wa
  exact ⟨a.toNat, by unfold Go.Proofs.Ytciidjhadijhdaa.H.B64; omega, by omega⟩
theorem trod_three {H : Type} {enc : TypeId × Value → H} {W : World} {t : TypeId} {f0 f1 f2 : Field} {fuel : Nat} {cs : List Value} {x : DataW H × List MemPlace} (ht : Try.prog.underlying t = some (.struct #[f0, f1, f2])) (h : DataW.trod enc Try.prog W 0 (fun _ => true) true fuel t cs = some x) :
    ∃ (y0 y1 y2 : DataW H × List MemPlace) (n : Nat), DataW.trod enc Try.prog W 0 (fun _ => true) true n f0.type ((cs.drop f0.offset).take (Try.prog.cellsOf f0.type)) = some y0 ∧ DataW.trod enc Try.prog W 0 (fun _ => true) true n f1.type ((cs.drop f1.offset).take (Try.prog.cellsOf f1.type)) = some y1 ∧ DataW.trod enc Try.prog W 0 (fun _ => true) true n f2.type ((cs.drop f2.offset).take (Try.prog.cellsOf f2.type)) = some y2 := by
  obtain ⟨xs, n, _, rfl, hl, hlen, hf⟩ := DataW.trod_struct ht h
  match xs, hlen with
  | [y0, y1, y2], _ => exact ⟨y0, y1, y2, n, by simpa using hf 0 f0 rfl, by simpa using hf 1 f1 rfl, by simpa using hf 2 f2 rfl⟩
set_option maxRecDepth 100000 in
/-- A capability, from its three cells. -/
theorem cap_cells {H : Type} {enc : TypeId × Value → H} {W : World} {n : Nat} {c0 c1 c2 : Value} {y : DataW H × List MemPlace}
    (h : DataW.trod enc Try.prog W 0 (fun _ => true) true n 57 [c0, c1, c2] = some y) :
    ∃ (o : Int) (hi lo : Nat), c0 = .int .i64 o ∧ c1 = .int .u64 (hi : Int) ∧ c2 = .int .u64 (lo : Int) ∧ hi < B64 ∧ lo < B64 := by
  obtain ⟨y0, y1, m, h0, h1⟩ := trod_two Try.underlying57 h
  simp [cells3, cells31] at h0 h1
  obtain ⟨z0, z1, m2, g0, g1⟩ := trod_two Try.underlying31 h1
  simp [cells29] at g0 g1
  obtain ⟨o, e0, _, w0⟩ := DataW.trod_int Try.underlying3 h0
  obtain ⟨a, e1, _, w1⟩ := DataW.trod_int Try.underlying29 g0
  obtain ⟨b, e2, _, w2⟩ := DataW.trod_int Try.underlying29 g1
  simp at e0 e1 e2
  subst e0 e1 e2
  obtain ⟨A, nA, rfl⟩ := half_wf w1
  obtain ⟨B, nB, rfl⟩ := half_wf w2
  exact ⟨o, A, B, rfl, rfl, rfl, nA, nB⟩
set_option maxRecDepth 100000 in
/-- A put, from its five cells. -/
theorem put_cells {H : Type} {enc : TypeId × Value → H} {W : World} {n : Nat} {x : Addr} {y : DataW H × List MemPlace}
    (h : (W.cells? 0 x 5).bind (DataW.trod enc Try.prog W 0 (fun _ => true) true n 59) = some y) :
    ∃ s : Pt, (W.cell? (x.add 0) = some (.int .i64 s.par) ∧ W.cell? (x.add 1) = some (.int .i64 s.o) ∧ W.cell? (x.add 2) = some (.int .u64 (s.hi : Int)) ∧ W.cell? (x.add 3) = some (.int .u64 (s.lo : Int)) ∧ W.cell? (x.add 4) = some (.int .i64 s.r)) ∧ s.hi < B64 ∧ s.lo < B64 := by
  rw [Option.bind_eq_some_iff] at h
  obtain ⟨cs, hcs, hy⟩ := h
  obtain ⟨_, hlen, hcell⟩ := World.cells?_some hcs
  obtain ⟨y0, y1, y2, m, h0, h1, h2⟩ := trod_three Try.underlying59 hy
  match cs, hlen with
  | [c0, c1, c2, c3, c4], _ =>
    simp [cells3, cells57] at h0 h1 h2
    obtain ⟨p, e0, _, w0⟩ := DataW.trod_int Try.underlying3 h0
    obtain ⟨o, hi, lo, rfl, rfl, rfl, b1, b2⟩ := cap_cells h1
    obtain ⟨v, e2, _, w2⟩ := DataW.trod_int Try.underlying3 h2
    simp at e0 e2
    subst e0 e2
    exact ⟨⟨p, o, hi, lo, v⟩, ⟨by rw [hcell 0 (by omega)]; rfl, by rw [hcell 1 (by omega)]; rfl, by rw [hcell 2 (by omega)]; rfl, by rw [hcell 3 (by omega)]; rfl, by rw [hcell 4 (by omega)]; rfl⟩, b1, b2⟩
set_option maxRecDepth 100000 in
/-- The puts that came in. -/
theorem open_puts {H : Type} {enc : TypeId × Value → H} {W : World} {r : Reach} {base : Nat} {v : Value} {d : DataW H} {p : List MemPlace} (hv : Value.okWide Try.prog W r base 48 v) (h : DataW.Trod enc Try.prog W 0 (fun _ => true) true 48 v d p) :
    ∃ x k cap f, v = .slice x k cap ∧ Ps W x k f ∧ Reads d k := by
  obtain ⟨a, len, cap, rfl⟩ := okWide_slice Try.underlying48 hv
  obtain ⟨fuel, hf⟩ := h
  have dummy : Pt := ⟨0, 0, 0, 0, 0⟩
  rcases DataW.trod_slice Try.underlying48 hf with ⟨hcs, hx⟩ | ⟨x, l, c, elems, rest, n, _, hcs, hx, _, hl, hm, hlen, hel, _, _⟩
  · simp [Value.cells] at hcs
    obtain ⟨rfl, rfl, rfl⟩ := hcs
    simp only [Prod.mk.injEq] at hx
    exact ⟨none, 0, 0, fun _ => dummy, rfl, ⟨fun h => by omega, fun i h => by omega⟩, .inl ⟨hx.1, rfl⟩⟩
  · simp [Value.cells] at hcs
    obtain ⟨rfl, rfl, rfl⟩ := hcs
    simp only [Prod.mk.injEq] at hx
    have each : ∀ i, ∃ s : Pt, i < len → (W.cell? ((x.add (i * 5)).add 0) = some (.int .i64 s.par) ∧ W.cell? ((x.add (i * 5)).add 1) = some (.int .i64 s.o) ∧ W.cell? ((x.add (i * 5)).add 2) = some (.int .u64 (s.hi : Int)) ∧ W.cell? ((x.add (i * 5)).add 3) = some (.int .u64 (s.lo : Int)) ∧ W.cell? ((x.add (i * 5)).add 4) = some (.int .i64 s.r)) ∧ s.hi < B64 ∧ s.lo < B64 := by
      intro i
      by_cases hi : i < len
      · have he := hel i hi
        rw [cells59, List.getElem?_eq_getElem (by omega)] at he
        obtain ⟨s, h1⟩ := put_cells he
        exact ⟨s, fun _ => h1⟩
      · exact ⟨dummy, fun h => absurd h hi⟩
    obtain ⟨f, hf⟩ := Classical.axiomOfChoice each
    refine ⟨some x, len, cap, f, rfl, ⟨fun hk => ?_, fun i hi => (hf i hi).2⟩, .inr ⟨_, _, hx.1, by simp; omega⟩⟩
    obtain ⟨b, o, spot⟩ := x
    have h0 := (hf 0 hk).1.1
    have hs : spot = none := by simpa [Addr.add] using World.cell?_spot h0
    subst hs
    refine ⟨b, o, rfl, World.block_lt_of_cell? _ _ h0, fun i hi => ?_⟩
    obtain ⟨k0, k1, k2, k3, k4⟩ := (hf i hi).1
    rw [addr_add, addr_add] at k0 k1 k2 k3 k4
    exact ⟨k0, k1, k2, k3, k4⟩
set_option maxRecDepth 100000 in
/-- The objects that came in. -/
theorem open_objs {H : Type} {enc : TypeId × Value → H} {W : World} {r : Reach} {base : Nat} {v : Value} {d : DataW H} {p : List MemPlace} (hv : Value.okWide Try.prog W r base 49 v) (h : DataW.Trod enc Try.prog W 0 (fun _ => true) true 49 v d p) :
    ∃ x k cap f, v = .slice x k cap ∧ Os W x k f ∧ k ≤ 9223372036854775807 := by
  obtain ⟨a, len, cap, rfl⟩ := okWide_slice Try.underlying49 hv
  obtain ⟨fuel, hf⟩ := h
  rcases DataW.trod_slice Try.underlying49 hf with ⟨hcs, hx⟩ | ⟨x, l, c, elems, rest, n, _, hcs, hx, _, hl, hm, hlen, hel, _, _⟩
  · simp [Value.cells] at hcs
    obtain ⟨rfl, rfl, rfl⟩ := hcs
    exact ⟨none, 0, 0, fun _ => 0, rfl, ⟨fun h => by omega⟩, by omega⟩
  · simp [Value.cells] at hcs
    obtain ⟨rfl, rfl, rfl⟩ := hcs
    have each : ∀ i, ∃ s : Int, i < len → W.cell? ((x.add (i * 1)).add 0) = some (.int .i64 s) := by
      intro i
      by_cases hi : i < len
      · have he := hel i hi
        rw [cells3, List.getElem?_eq_getElem (by omega), Option.bind_eq_some_iff] at he
        obtain ⟨cs, hcs, hy⟩ := he
        obtain ⟨_, hlen, hcell⟩ := World.cells?_some hcs
        obtain ⟨q, e0, _, _⟩ := DataW.trod_int Try.underlying3 hy
        subst e0
        exact ⟨q, fun _ => by rw [hcell 0 (by omega)]; rfl⟩
      · exact ⟨0, fun h => absurd h hi⟩
    obtain ⟨f, hf⟩ := Classical.axiomOfChoice each
    refine ⟨some x, len, cap, f, rfl, ⟨fun hk => ?_⟩, by unfold maxLen at hm; omega⟩
    obtain ⟨b, o, spot⟩ := x
    have h0 := hf 0 hk
    have hs : spot = none := by simpa [Addr.add] using World.cell?_spot h0
    subst hs
    refine ⟨b, o, rfl, fun i hi => ?_⟩
    have k0 := hf i hi
    rw [addr_add, addr_add, Nat.mul_one, Nat.add_zero] at k0
    exact k0
end Go.Proofs.Ytciidjhadijhdaa.D
