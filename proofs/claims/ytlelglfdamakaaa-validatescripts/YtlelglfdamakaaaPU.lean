import Derived.Test.YtlelglfdamakaaaU1
import Derived.WalkKit
import Derived.ProofKit
import Derived.OpenShut
import Derived.ChangeOld
import Derived.Below
import Derived.Lib.SmallJoins
import Derived.SizedLaws
namespace Go.Proofs.Ytlelglfdamakaaa
open Go.ChangeShapes Go.WideShapes Go.ChangeAt Go.RowKit Go.Joins
open Go.Proofs.Ytlelglfdamakaaa.H (B64 Cp)

theorem own : ownKnob Try.prog.godebug = none := by kernel_rfl
theorem laidOut : laidOutB Try.prog = true := by kernel_rfl
theorem cells3 : Try.prog.cellsOf 3 = 1 := by kernel_rfl
theorem cells23 : Try.prog.cellsOf 23 = 3 := by kernel_rfl
theorem cells28 : Try.prog.cellsOf 28 = 1 := by kernel_rfl
theorem cells30 : Try.prog.cellsOf 30 = 2 := by kernel_rfl
theorem cells32 : Try.prog.cellsOf 32 = 3 := by kernel_rfl
theorem cells46 : Try.prog.cellsOf 46 = 1 := by kernel_rfl
theorem cells54 : Try.prog.cellsOf 54 = 7 := by kernel_rfl
theorem half_wf {a : Int} (wa : (Lit.int .u64 a).wf = true) : ∃ N : Nat, a = (N : Int) ∧ N < B64 := by
  have ha := bounds_u64 wa
  exact ⟨a.toNat, by omega, by unfold B64; omega⟩
theorem trod_two {H : Type} {enc : TypeId × Value → H} {W : World} {t : TypeId} {f0 f1 : Field} {fuel : Nat} {cs : List Value} {x : DataW H × List MemPlace} (ht : Try.prog.underlying t = some (.struct #[f0, f1])) (h : DataW.trod enc Try.prog W 0 (fun _ => true) true fuel t cs = some x) :
    ∃ (y0 y1 : DataW H × List MemPlace) (n : Nat), DataW.trod enc Try.prog W 0 (fun _ => true) true n f0.type ((cs.drop f0.offset).take (Try.prog.cellsOf f0.type)) = some y0 ∧ DataW.trod enc Try.prog W 0 (fun _ => true) true n f1.type ((cs.drop f1.offset).take (Try.prog.cellsOf f1.type)) = some y1 := by
  obtain ⟨xs, n, _, rfl, hl, hlen, hf⟩ := DataW.trod_struct ht h
  match xs, hlen with
  | [y0, y1], _ => exact ⟨y0, y1, n, by simpa using hf 0 f0 rfl, by simpa using hf 1 f1 rfl⟩
set_option maxRecDepth 100000 in
/-- A capability, from its three cells. -/
theorem cap_cells {H : Type} {enc : TypeId × Value → H} {W : World} {n : Nat} {c0 c1 c2 : Value} {y : DataW H × List MemPlace}
    (h : DataW.trod enc Try.prog W 0 (fun _ => true) true n 32 [c0, c1, c2] = some y) :
    ∃ (o : Int) (hi lo : Nat), c0 = .int .i64 o ∧ c1 = .int .u64 (hi : Int) ∧ c2 = .int .u64 (lo : Int) ∧ hi < B64 ∧ lo < B64 := by
  obtain ⟨y0, y1, m, h0, h1⟩ := trod_two Try.underlying32 h
  simp [cells3, cells30] at h0 h1
  obtain ⟨z0, z1, m2, g0, g1⟩ := trod_two Try.underlying30 h1
  simp [cells28] at g0 g1
  obtain ⟨o, e0, _, w0⟩ := DataW.trod_int Try.underlying3 h0
  obtain ⟨a, e1, _, w1⟩ := DataW.trod_int Try.underlying28 g0
  obtain ⟨b, e2, _, w2⟩ := DataW.trod_int Try.underlying28 g1
  simp at e0 e1 e2
  subst e0 e1 e2
  obtain ⟨A, rfl, hA⟩ := half_wf w1
  obtain ⟨B, rfl, hB⟩ := half_wf w2
  exact ⟨o, A, B, rfl, rfl, rfl, hA, hB⟩
/-- How many a list that came in reads as. -/
def Reads {H : Type} (d : DataW H) (n : Nat) : Prop := (d = .nil ∧ n = 0) ∨ ∃ xs ys, d = .slice xs ys ∧ xs.length = n
set_option maxRecDepth 100000 in
/-- Capabilities that came in, from the list's cell. -/
theorem caps_cells {H : Type} {enc : TypeId × Value → H} {W : World} {fuel : Nat} {cs : List Value} {y : DataW H × List MemPlace} (hf : DataW.trod enc Try.prog W 0 (fun _ => true) true fuel 46 cs = some y) :
    ∃ x k cap Kl, cs = [.slice x k cap] ∧ Rd W x k Kl ∧ k ≤ 9223372036854775807 ∧ (∀ c ∈ Kl, c.2.1 < B64 ∧ c.2.2 < B64) ∧ (0 < k → ∀ j, Blk x j → j < W.heap.size) ∧ Reads y.1 k ∧ (x = none → cap = 0) := by
  rcases DataW.trod_slice Try.underlying46 hf with ⟨hcs, hx⟩ | ⟨x, len, cap, elems, rest, n, _, hcs, hx, _, hl, hm, hlen, hel, _, _⟩
  · subst hx
    exact ⟨none, 0, 0, [], hcs, ⟨rfl, fun h => by omega⟩, by omega, fun _ h => (by cases h), fun h => by omega, .inl ⟨rfl, rfl⟩, fun _ => rfl⟩
  · have each : ∀ i, ∃ s : Cp, i < len → (s.2.1 < B64 ∧ s.2.2 < B64) ∧ (W.cell? ((x.add (i * 3)).add 0) = some (.int .i64 s.1) ∧ W.cell? ((x.add (i * 3)).add 1) = some (.int .u64 (s.2.1 : Int)) ∧ W.cell? ((x.add (i * 3)).add 2) = some (.int .u64 (s.2.2 : Int))) := by
      intro i
      by_cases hi : i < len
      · have he := hel i hi
        rw [cells32, List.getElem?_eq_getElem (by omega), Option.bind_eq_some_iff] at he
        obtain ⟨cs, hcs, hy⟩ := he
        obtain ⟨_, hlen, hcell⟩ := World.cells?_some hcs
        match cs, hlen with
        | [c0, c1, c2], _ =>
          obtain ⟨o, hi, lo, rfl, rfl, rfl, b1, b2⟩ := cap_cells hy
          exact ⟨(o, hi, lo), fun _ => ⟨⟨b1, b2⟩, by rw [hcell 0 (by omega)]; rfl, by rw [hcell 1 (by omega)]; rfl, by rw [hcell 2 (by omega)]; rfl⟩⟩
      · exact ⟨(0, 0, 0), fun h => absurd h hi⟩
    obtain ⟨f, hfe⟩ := Classical.axiomOfChoice each
    have hget : ∀ (i : Nat) (c : Cp), ((List.range len).map f)[i]? = some c → i < len ∧ c = f i := by
      intro i c h
      have hi : i < len := by have := (List.getElem?_eq_some_iff.1 h).1; simpa using this
      refine ⟨hi, ?_⟩
      simp [List.getElem?_map, List.getElem?_range hi] at h
      exact h.symm
    subst hx
    refine ⟨some x, len, cap, (List.range len).map f, hcs, ⟨by simp, fun hk => ?_⟩, by unfold maxLen at hm; omega, fun c hc => ?_, fun hk j hj => ?_, .inr ⟨_, _, rfl, by simp [hlen]⟩, fun h => by cases h⟩
    · obtain ⟨b, o, spot⟩ := x
      have h0 := (hfe 0 hk).2.1
      have hs : spot = none := by simpa [Addr.add] using World.cell?_spot h0
      subst hs
      refine ⟨b, o, rfl, fun i c h => ?_⟩
      obtain ⟨hi, rfl⟩ := hget i c h
      obtain ⟨_, k0, k1, k2⟩ := hfe i hi
      rw [addr_add, addr_add] at k0 k1 k2
      exact ⟨k0, k1, k2⟩
    · obtain ⟨i, hi⟩ := List.mem_iff_getElem?.1 hc
      obtain ⟨hi2, rfl⟩ := hget i c hi
      exact (hfe i hi2).1
    · obtain ⟨z, hz, rfl⟩ := hj
      cases hz
      have := World.block_lt_of_cell? _ _ (hfe 0 hk).2.1
      rwa [add_block, add_block] at this
theorem trod_five {H : Type} {enc : TypeId × Value → H} {W : World} {t : TypeId} {f0 f1 f2 f3 f4 : Field} {fuel : Nat} {cs : List Value} {x : DataW H × List MemPlace} (ht : Try.prog.underlying t = some (.struct #[f0, f1, f2, f3, f4])) (h : DataW.trod enc Try.prog W 0 (fun _ => true) true fuel t cs = some x) :
    ∃ (y0 y1 y2 y3 y4 : DataW H × List MemPlace) (n : Nat), x.1 = .agg [y0.1, y1.1, y2.1, y3.1, y4.1] ∧ DataW.trod enc Try.prog W 0 (fun _ => true) true n f0.type ((cs.drop f0.offset).take (Try.prog.cellsOf f0.type)) = some y0 ∧ DataW.trod enc Try.prog W 0 (fun _ => true) true n f1.type ((cs.drop f1.offset).take (Try.prog.cellsOf f1.type)) = some y1 ∧
      DataW.trod enc Try.prog W 0 (fun _ => true) true n f2.type ((cs.drop f2.offset).take (Try.prog.cellsOf f2.type)) = some y2 ∧ DataW.trod enc Try.prog W 0 (fun _ => true) true n f3.type ((cs.drop f3.offset).take (Try.prog.cellsOf f3.type)) = some y3 ∧ DataW.trod enc Try.prog W 0 (fun _ => true) true n f4.type ((cs.drop f4.offset).take (Try.prog.cellsOf f4.type)) = some y4 := by
  obtain ⟨xs, n, _, rfl, hl, hlen, hf⟩ := DataW.trod_struct ht h
  match xs, hlen with
  | [y0, y1, y2, y3, y4], _ => exact ⟨y0, y1, y2, y3, y4, n, rfl, by simpa using hf 0 f0 rfl, by simpa using hf 1 f1 rfl, by simpa using hf 2 f2 rfl, by simpa using hf 3 f3 rfl, by simpa using hf 4 f4 rfl⟩
/-- The cells of a call of a script. -/
def At7 (W : World) (x : Addr) (s : Sp) : Prop := W.cell? (x.add 0) = some (.int .i64 s.kd) ∧ W.cell? (x.add 1) = some (.int .i64 s.c.1) ∧ W.cell? (x.add 2) = some (.int .u64 (s.c.2.1 : Int)) ∧ W.cell? (x.add 3) = some (.int .u64 (s.c.2.2 : Int)) ∧ W.cell? (x.add 4) = some (.int .i64 s.p) ∧ W.cell? (x.add 5) = some (.int .i64 s.n) ∧ W.cell? (x.add 6) = some (.slice s.la s.ln s.lc)
def Ok7 {H : Type} (W : World) (d : DataW H) (s : Sp) : Prop := (s.c.2.1 < B64 ∧ s.c.2.2 < B64) ∧ Rd W s.la s.ln s.L ∧ (0 < s.ln → ∀ k, Blk s.la k → k < W.heap.size) ∧ (∀ c ∈ s.L, c.2.1 < B64 ∧ c.2.2 < B64) ∧ s.ln ≤ 9223372036854775807 ∧ (s.la = none → s.lc = 0) ∧ ∃ a b c e g, d = .agg [a, b, c, e, g] ∧ Reads g s.ln
set_option maxRecDepth 100000 in
/-- A call, from its seven cells. -/
theorem op_cells {H : Type} {enc : TypeId × Value → H} {W : World} {n : Nat} {x : Addr} {y : DataW H × List MemPlace}
    (h : (W.cells? 0 x 7).bind (DataW.trod enc Try.prog W 0 (fun _ => true) true n 54) = some y) : ∃ s : Sp, At7 W x s ∧ Ok7 W y.1 s := by
  rw [Option.bind_eq_some_iff] at h
  obtain ⟨cs, hcs, hy⟩ := h
  obtain ⟨_, hlen, hcell⟩ := World.cells?_some hcs
  obtain ⟨y0, y1, y2, y3, y4, m, hyy, h0, h1, h2, h3, h4⟩ := trod_five Try.underlying54 hy
  match cs, hlen with
  | [c0, c1, c2, c3, c4, c5, c6], _ =>
    simp [cells3, cells32, cells46] at h0 h1 h2 h3 h4
    obtain ⟨kd, e0, _, w0⟩ := DataW.trod_int Try.underlying3 h0
    obtain ⟨o, hi, lo, rfl, rfl, rfl, b1, b2⟩ := cap_cells h1
    obtain ⟨p, e2, _, w2⟩ := DataW.trod_int Try.underlying3 h2
    obtain ⟨v, e3, _, w3⟩ := DataW.trod_int Try.underlying3 h3
    obtain ⟨la, ln, lc, L, e4, hR, hs, hal, hbl, hrd, hc0⟩ := caps_cells h4
    simp at e0 e2 e3 e4
    subst e0 e2 e3 e4
    refine ⟨⟨kd, (o, hi, lo), p, v, la, ln, lc, L⟩, ⟨by rw [hcell 0 (by omega)]; rfl, by rw [hcell 1 (by omega)]; rfl, by rw [hcell 2 (by omega)]; rfl, by rw [hcell 3 (by omega)]; rfl, by rw [hcell 4 (by omega)]; rfl, by rw [hcell 5 (by omega)]; rfl, by rw [hcell 6 (by omega)]; rfl⟩, ⟨b1, b2⟩, hR, hbl, hal, hs, hc0, _, _, _, _, _, hyy, hrd⟩
set_option maxRecDepth 100000 in
/-- A script that came in. -/
theorem open_ops {H : Type} {enc : TypeId × Value → H} {W : World} {r : Reach} {base : Nat} {v : Value} {d : DataW H} {p : List MemPlace} (hv : Value.okWide Try.prog W r base 52 v) (h : DataW.Trod enc Try.prog W 0 (fun _ => true) true 52 v d p) :
    ∃ x k cap f, v = .slice x k cap ∧ Ss W x k f ∧ k ≤ 9223372036854775807 ∧ (0 < k → ∃ xs ys, d = .slice xs ys ∧ xs.length = k ∧ ∀ (i : Nat) z, i < k → xs[i]? = some z → Ok7 W z (f i)) := by
  obtain ⟨a, len, cap, rfl⟩ := okWide_slice Try.underlying52 hv
  obtain ⟨fuel, hf⟩ := h
  have dummy : Sp := ⟨0, (0, 0, 0), 0, 0, none, 0, 0, []⟩
  rcases DataW.trod_slice Try.underlying52 hf with ⟨hcs, hx⟩ | ⟨x, l, c, elems, rest, n, _, hcs, hx, _, hl, hm, hlen, hel, _, _⟩
  · simp [Value.cells] at hcs
    obtain ⟨rfl, rfl, rfl⟩ := hcs
    exact ⟨none, 0, 0, fun _ => dummy, rfl, fun h => by omega, by omega, fun h => by omega⟩
  · simp [Value.cells] at hcs
    obtain ⟨rfl, rfl, rfl⟩ := hcs
    simp only [Prod.mk.injEq] at hx
    obtain ⟨hd, _⟩ := hx
    have each : ∀ i, ∃ s : Sp, ∀ (hi : i < len), At7 W (x.add (i * 7)) s ∧ Ok7 W (elems[i]'(by omega)).1 s := by
      intro i
      by_cases hi : i < len
      · have he := hel i hi
        rw [cells54, List.getElem?_eq_getElem (by omega)] at he
        obtain ⟨s, h1, h2⟩ := op_cells he
        exact ⟨s, fun _ => ⟨h1, h2⟩⟩
      · exact ⟨dummy, fun h => absurd h hi⟩
    obtain ⟨f, hf⟩ := Classical.axiomOfChoice each
    refine ⟨some x, len, cap, f, rfl, fun hk => ?_, by unfold maxLen at hm; omega, fun hk => ⟨_, _, hd, by simp [hlen], fun i z hi hz => ?_⟩⟩
    · obtain ⟨b, o, spot⟩ := x
      have h0 := (hf 0 hk).1.1
      have hs : spot = none := by simpa [Addr.add] using World.cell?_spot h0
      subst hs
      refine ⟨b, o, rfl, fun i hi => ?_⟩
      obtain ⟨⟨k0, k1, k2, k3, k4, k5, k6⟩, a1, a2, a3, a4, a5, _⟩ := hf i hi
      rw [addr_add, addr_add] at k0 k1 k2 k3 k4 k5 k6
      exact ⟨k0, k1, k2, k3, k4, k5, k6, a1, a2, a3, a4, a5⟩
    · obtain ⟨_, h2⟩ := hf i hi
      rw [List.getElem?_map, List.getElem?_eq_getElem (by omega)] at hz
      cases hz
      exact h2
set_option maxRecDepth 100000 in
/-- Words that came in. -/
theorem open_words {H : Type} {enc : TypeId × Value → H} {W : World} {r : Reach} {base : Nat} {v : Value} {d : DataW H} {p : List MemPlace} (hv : Value.okWide Try.prog W r base 24 v) (h : DataW.Trod enc Try.prog W 0 (fun _ => true) true 24 v d p) :
    ∃ (x : Option Addr) (m cap : Nat) (L : List Nat), v = .slice x m cap ∧ m ≤ 9223372036854775807 ∧ Row W x m cap (L.map (fun (n : Nat) => Value.int .u64 (n : Int))) ∧ ∀ y ∈ L, y < B64 := by
  obtain ⟨a, len, cap, rfl⟩ := okWide_slice Try.underlying24 hv
  obtain ⟨fuel, hf⟩ := h
  rcases open_ints Try.underlying24 Try.underlying28 (by kernel_rfl) hf with ⟨hcs, hx⟩ | ⟨x, l, c, zs, hcs, _, hl, hm, hz, hx, hcell, hwz⟩
  · simp [Value.cells] at hcs
    obtain ⟨rfl, rfl, rfl⟩ := hcs
    exact ⟨none, 0, 0, [], rfl, by omega, row_nil _, fun _ h => (by cases h)⟩
  · simp [Value.cells] at hcs
    obtain ⟨rfl, rfl, rfl⟩ := hcs
    simp only [if_true] at hz
    have hb : ∀ z ∈ zs, ∃ N : Nat, z = (N : Int) ∧ N < B64 := fun z hz => half_wf (hwz z hz)
    have hlen2 : ((zs.take len).map Int.toNat).length = len := by rw [List.length_map, List.length_take]; omega
    refine ⟨some x, len, cap, (zs.take len).map Int.toNat, rfl, by unfold maxLen at hm; omega, ⟨by rw [List.length_map, hlen2], hl, fun h => (by cases h), fun y hy j u hu => ?_, fun u hu => ?_⟩, fun y hy => ?_⟩
    · cases hy
      have hj : j < len := by
        have := (List.getElem?_eq_some_iff.1 hu).1
        rw [List.length_map, hlen2] at this
        exact this
      have hjz : j < zs.length := by omega
      rw [List.getElem?_map, List.getElem?_map, List.getElem?_take, if_pos hj, List.getElem?_eq_getElem hjz] at hu
      simp only [Option.map_some, Option.some.injEq] at hu
      subst hu
      obtain ⟨N, hN, _⟩ := hb _ (List.getElem_mem hjz)
      rw [hcell j hjz, List.getD_eq_getElem?_getD, List.getElem?_eq_getElem hjz]
      simp only [Option.getD_some]
      rw [hN]
      simp
    · obtain ⟨y, _, rfl⟩ := List.mem_map.1 hu
      rfl
    · obtain ⟨z, hz2, rfl⟩ := List.mem_map.1 hy
      obtain ⟨N, hN, hlt⟩ := hb z (List.mem_of_mem_take hz2)
      rw [hN]
      simpa using hlt
end Go.Proofs.Ytlelglfdamakaaa
