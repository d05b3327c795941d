import Derived.Test.YtcagghfkomodlaaT7
import Derived.Test.YtcagghfkomodlaaPU
import Derived.SizedLaws
import Derived.JoinedCond
namespace Go.Proofs.Ytcagghfkomodlaa
open Go.ChangeShapes Go.WideShapes Go.ChangeAt Go.RowKit Go.Joins

theorem bulk_pos {H : Type} (d : DataW H) : 1 ≤ Rows.uptoBulk d := by
  cases d with
  | lit l => cases l <;> simp [Rows.uptoBulk]
  | _ => simp [Rows.uptoBulk]
theorem bulk_len {H : Type} (l : List (DataW H)) : l.length ≤ Rows.uptoBulkAll l := by
  induction l with
  | nil => simp [Rows.uptoBulkAll]
  | cons x r ih => have := bulk_pos x; simp only [Rows.uptoBulkAll, List.length_cons]; omega

/-- A slice's reading: so many values. -/
def Reads {H : Type} (d : DataW H) (len : Nat) : Prop := (d = .nil ∧ len = 0) ∨ ∃ xs ys, d = .slice xs ys ∧ xs.length = len
theorem Reads.bulk {H : Type} {d : DataW H} {len : Nat} (h : Reads d len) : len ≤ Rows.uptoBulk d := by
  rcases h with ⟨rfl, rfl⟩ | ⟨xs, ys, rfl, rfl⟩
  · omega
  · have := bulk_len xs
    simp only [Rows.uptoBulk]
    omega

theorem bulk_part {H : Type} {d : DataW H} {l : List (DataW H)} (h : d ∈ l) : Rows.uptoBulk d ≤ Rows.uptoBulkAll l := by
  induction l with
  | nil => cases h
  | cons x r ih =>
    simp only [Rows.uptoBulkAll]
    cases List.mem_cons.1 h with
    | inl e => subst e; omega
    | inr e => have := ih e; omega
theorem cells4 : Try.prog.cellsOf 4 = 1 := by kernel_rfl
theorem cells23 : Try.prog.cellsOf 23 = 1 := by kernel_rfl
theorem cells54 : Try.prog.cellsOf 54 = 7 := by kernel_rfl
theorem open_row3 {H : Type} {enc : TypeId × Value → H} {W : World} {fuel : Nat} {cs : List Value} {x : DataW H × List MemPlace} (hf : DataW.trod enc Try.prog W 0 (fun _ => true) true fuel 23 cs = some x) :
    ∃ a len cap l, cs = [.slice a len cap] ∧ Row W a len cap (ints l) ∧ Reads x.1 len := by
  rcases open_ints Try.underlying23 Try.underlying3 (by kernel_rfl) hf with ⟨hcs, hx⟩ | ⟨y, len, cap, zs, hcs, _, hl, hm, hz, hx, hcell, hwz⟩
  · subst hx
    exact ⟨none, 0, 0, [], hcs, row_nil W, .inl ⟨rfl, rfl⟩⟩
  · simp only [if_true] at hz
    subst hx
    refine ⟨some y, len, cap, zs.take len, hcs, ⟨by rw [ints_length, List.length_take]; omega, hl, fun h => (by cases h), fun z hy j u hu => ?_, ints_one _⟩, .inr ⟨_, _, rfl, by simp [lits]; omega⟩⟩
    cases hy
    have hj : j < len := by
      have := (List.getElem?_eq_some_iff.1 hu).1
      rw [ints_length, List.length_take] at this
      omega
    rw [ints_get _ j (by rw [List.length_take]; omega)] at hu
    cases hu
    rw [hcell j (by omega), List.getElem_take, List.getD_eq_getElem?_getD, List.getElem?_eq_getElem (by omega)]
    rfl
theorem trod_five {H : Type} {enc : TypeId × Value → H} {W : World} {t : TypeId} {f0 f1 f2 f3 f4 : Field} {fuel : Nat} {cs : List Value} {x : DataW H × List MemPlace} (ht : Try.prog.underlying t = some (.struct #[f0, f1, f2, f3, f4])) (h : DataW.trod enc Try.prog W 0 (fun _ => true) true fuel t cs = some x) :
    ∃ (y0 y1 y2 y3 y4 : DataW H × List MemPlace) (n : Nat), x.1 = .agg [y0.1, y1.1, y2.1, y3.1, y4.1] ∧ DataW.trod enc Try.prog W 0 (fun _ => true) true n f0.type ((cs.drop f0.offset).take (Try.prog.cellsOf f0.type)) = some y0 ∧ DataW.trod enc Try.prog W 0 (fun _ => true) true n f1.type ((cs.drop f1.offset).take (Try.prog.cellsOf f1.type)) = some y1 ∧
      DataW.trod enc Try.prog W 0 (fun _ => true) true n f2.type ((cs.drop f2.offset).take (Try.prog.cellsOf f2.type)) = some y2 ∧ DataW.trod enc Try.prog W 0 (fun _ => true) true n f3.type ((cs.drop f3.offset).take (Try.prog.cellsOf f3.type)) = some y3 ∧ DataW.trod enc Try.prog W 0 (fun _ => true) true n f4.type ((cs.drop f4.offset).take (Try.prog.cellsOf f4.type)) = some y4 := by
  obtain ⟨xs, n, _, rfl, hl, hlen, hf⟩ := DataW.trod_struct ht h
  match xs, hlen with
  | [y0, y1, y2, y3, y4], _ => exact ⟨y0, y1, y2, y3, y4, n, rfl, by simpa using hf 0 f0 rfl, by simpa using hf 1 f1 rfl, by simpa using hf 2 f2 rfl, by simpa using hf 3 f3 rfl, by simpa using hf 4 f4 rfl⟩
set_option maxRecDepth 100000 in
/-- A step, from its seven cells. -/
theorem step_cells {H : Type} {enc : TypeId × Value → H} {W : World} {n : Nat} {x : Addr} {y : DataW H × List MemPlace}
    (h : (W.cells? 0 x 7).bind (DataW.trod enc Try.prog W 0 (fun _ => true) true n 54) = some y) :
    ∃ s : Sp, (W.cell? (x.add 0) = some (.bool s.sec) ∧ W.cell? (x.add 1) = some (.int .i64 s.kd) ∧ W.cell? (x.add 2) = some (.int .i64 s.c.1) ∧ W.cell? (x.add 3) = some (.int .u64 (s.c.2.1 : Int)) ∧ W.cell? (x.add 4) = some (.int .u64 (s.c.2.2 : Int)) ∧ W.cell? (x.add 5) = some (.int .i64 s.n) ∧ W.cell? (x.add 6) = some (.slice s.la s.ln s.lc)) ∧ Row W s.la s.ln s.lc (ints s.P) ∧ s.ln ≤ Rows.uptoBulk y.1 := by
  rw [Option.bind_eq_some_iff] at h
  obtain ⟨cs, hcs, hy⟩ := h
  obtain ⟨_, hlen, hcell⟩ := World.cells?_some hcs
  obtain ⟨y0, y1, y2, y3, y4, m, hyy, h0, h1, h2, h3, h4⟩ := trod_five Try.underlying54 hy
  match cs, hlen with
  | [c0, c1, c2, c3, c4, c5, c6], _ =>
    simp [cells3, cells4, cells35, cells23] at h0 h1 h2 h3 h4
    obtain ⟨sec, e0, _⟩ := DataW.trod_bool Try.underlying4 h0
    obtain ⟨kd, e1, _, w1⟩ := DataW.trod_int Try.underlying3 h1
    obtain ⟨o, hi, lo, rfl, rfl, rfl⟩ := cap_cells h2
    obtain ⟨v, e3, _, w3⟩ := DataW.trod_int Try.underlying3 h3
    obtain ⟨a, len, cap, l, e4, hR, hrd⟩ := open_row3 h4
    simp at e0 e1 e3 e4
    subst e0 e1 e3 e4
    refine ⟨⟨sec, kd, (o, hi, lo), v, a, len, cap, l⟩, ⟨by rw [hcell 0 (by omega)]; rfl, by rw [hcell 1 (by omega)]; rfl, by rw [hcell 2 (by omega)]; rfl, by rw [hcell 3 (by omega)]; rfl, by rw [hcell 4 (by omega)]; rfl, by rw [hcell 5 (by omega)]; rfl, by rw [hcell 6 (by omega)]; rfl⟩, hR, ?_⟩
    have hb := hrd.bulk
    rw [hyy]
    simp only [Rows.uptoBulk, Rows.uptoBulkAll]
    omega
set_option maxRecDepth 100000 in
/-- A script that came in, of a small bulk. -/
theorem open_steps {H : Type} {enc : TypeId × Value → H} {W : World} {r : Reach} {base : Nat} {v : Value} {d : DataW H} {p : List MemPlace} (hv : Value.okWide Try.prog W r base 47 v) (h : DataW.Trod enc Try.prog W 0 (fun _ => true) true 47 v d p) (hb : Rows.uptoBulk d ≤ 1048576) :
    ∃ x k cap f, v = .slice x k cap ∧ Ss W x k f ∧ k ≤ 9223372036854775807 := by
  obtain ⟨a, len, cap, rfl⟩ := okWide_slice Try.underlying47 hv
  obtain ⟨fuel, hf⟩ := h
  have dummy : Sp := ⟨false, 0, (0, 0, 0), 0, none, 0, 0, []⟩
  rcases DataW.trod_slice Try.underlying47 hf with ⟨hcs, hx⟩ | ⟨x, l, c, elems, rest, n, _, hcs, hx, _, hl, hm, hlen, hel, _, _⟩
  · simp [Value.cells] at hcs
    obtain ⟨rfl, rfl, rfl⟩ := hcs
    exact ⟨none, 0, 0, fun _ => dummy, rfl, fun h => by omega, by omega⟩
  · simp [Value.cells] at hcs
    obtain ⟨rfl, rfl, rfl⟩ := hcs
    simp only [Prod.mk.injEq] at hx
    obtain ⟨hd, _⟩ := hx
    subst hd
    simp only [Rows.uptoBulk] at hb
    have each : ∀ i, ∃ s : Sp, i < len → (W.cell? ((x.add (i * 7)).add 0) = some (.bool s.sec) ∧ W.cell? ((x.add (i * 7)).add 1) = some (.int .i64 s.kd) ∧ W.cell? ((x.add (i * 7)).add 2) = some (.int .i64 s.c.1) ∧ W.cell? ((x.add (i * 7)).add 3) = some (.int .u64 (s.c.2.1 : Int)) ∧ W.cell? ((x.add (i * 7)).add 4) = some (.int .u64 (s.c.2.2 : Int)) ∧ W.cell? ((x.add (i * 7)).add 5) = some (.int .i64 s.n) ∧ W.cell? ((x.add (i * 7)).add 6) = some (.slice s.la s.ln s.lc)) ∧ Row W s.la s.ln s.lc (ints s.P) ∧ s.ln ≤ 1048576 := by
      intro i
      by_cases hi : i < len
      · have he := hel i hi
        rw [cells54, List.getElem?_eq_getElem (by omega)] at he
        obtain ⟨s, h1, h2, h3⟩ := step_cells he
        refine ⟨s, fun _ => ⟨h1, h2, ?_⟩⟩
        have hp : Rows.uptoBulk (elems[i]'(by omega)).1 ≤ Rows.uptoBulkAll (elems.map (·.1)) := bulk_part (List.mem_map.2 ⟨_, List.getElem_mem _, rfl⟩)
        omega
      · exact ⟨dummy, fun h => absurd h hi⟩
    obtain ⟨f, hf⟩ := Classical.axiomOfChoice each
    refine ⟨some x, len, cap, f, rfl, fun hk => ?_, by unfold maxLen at hm; omega⟩
    obtain ⟨b, o, spot⟩ := x
    have h0 := (hf 0 hk).1.1
    have hs : spot = none := by simpa [Addr.add] using World.cell?_spot h0
    subst hs
    refine ⟨b, o, rfl, fun i hi => ?_⟩
    obtain ⟨⟨k0, k1, k2, k3, k4, k5, k6⟩, hR, hsm⟩ := hf i hi
    rw [addr_add, addr_add] at k0 k1 k2 k3 k4 k5 k6
    exact ⟨k0, k1, k2, k3, k4, k5, k6, hR, hsm⟩
end Go.Proofs.Ytcagghfkomodlaa
