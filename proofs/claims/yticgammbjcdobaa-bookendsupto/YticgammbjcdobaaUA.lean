import Derived.Test.YticgammbjcdobaaQX
import Derived.Test.YticgammbjcdobaaRM
import Derived.WalkKit
import Derived.ProofKit
import Derived.OpenShut
import Derived.ChangeOld
import Derived.Below
import Derived.SizedLaws
import Derived.JoinedCond
import Derived.Lib.SmallJoins
namespace Go.Proofs.Yticgammbjcdobaa
open Go.ChangeShapes Go.WideShapes Go.ChangeAt Go.RowKit Go.Joins
set_option linter.unusedVariables false
set_option linter.unusedSimpArgs false
theorem ownKe : ownKnob Try.prog.godebug = none := by kernel_rfl
theorem cz3 : Try.prog.cellsOf 3 = 1 := by kernel_rfl
theorem cz4 : Try.prog.cellsOf 4 = 1 := by kernel_rfl
theorem cz27 : Try.prog.cellsOf 27 = 1 := by kernel_rfl
theorem cz29 : Try.prog.cellsOf 29 = 2 := by kernel_rfl
theorem cz31 : Try.prog.cellsOf 31 = 3 := by kernel_rfl
theorem cz33 : Try.prog.cellsOf 33 = 1 := by kernel_rfl
theorem cz34 : Try.prog.cellsOf 34 = 1 := by kernel_rfl
theorem cz36 : Try.prog.cellsOf 36 = 13 := by kernel_rfl
theorem cz37 : Try.prog.cellsOf 37 = 1 := by kernel_rfl
theorem cz39 : Try.prog.cellsOf 39 = 6 := by kernel_rfl
theorem bulk_pos {H : Type} (d : DataW H) : 1 ≤ Rows.uptoBulk d := by
  cases d with
  | lit l => cases l <;> simp [Rows.uptoBulk]
  | _ => simp [Rows.uptoBulk]
theorem bulk_len {H : Type} (l : List (DataW H)) : l.length ≤ Rows.uptoBulkAll l := by
  induction l with
  | nil => simp [Rows.uptoBulkAll]
  | cons x r ih => have := bulk_pos x; simp only [Rows.uptoBulkAll, List.length_cons]; omega
/-- How many a list that came in reads as. -/
def Reads {H : Type} (d : DataW H) (len : Nat) : Prop := (d = .nil ∧ len = 0) ∨ ∃ xs ys, d = .slice xs ys ∧ xs.length = len
theorem Reads.bulk {H : Type} {d : DataW H} {len : Nat} (h : Reads d len) : len ≤ Rows.uptoBulk d := by
  rcases h with ⟨rfl, rfl⟩ | ⟨xs, ys, rfl, rfl⟩
  · omega
  · have := bulk_len xs
    simp only [Rows.uptoBulk]
    omega
theorem sum_bulk {H α : Type} (f : α → Nat) : ∀ (X : List α) (E : List (DataW H)), X.length = E.length → (∀ (i : Nat) (z : α) (e : DataW H), X[i]? = some z → E[i]? = some e → f z ≤ Rows.uptoBulk e) → (X.map f).sum ≤ Rows.uptoBulkAll E
  | [], [], _, _ => by simp
  | [], _ :: _, h, _ => by simp at h
  | _ :: _, [], h, _ => by simp at h
  | x :: X, e :: E, h, hf => by
    have h0 := hf 0 x e rfl rfl
    have h1 := sum_bulk f X E (by simpa using h) (fun i z e hz he => hf (i + 1) z e (by simpa using hz) (by simpa using he))
    simp only [List.map_cons, List.sum_cons, Rows.uptoBulkAll]
    omega
theorem row_of {W : World} {x : Addr} {len cap : Nat} {zs : List Int} (hl : len ≤ cap) (hz : zs.length = cap) (hcell : ∀ i, i < zs.length → W.cell? (x.add i) = some (.int .u8 (zs.getD i 0))) (hwz : ∀ n ∈ zs, (Lit.int .u8 n).wf = true) :
    Row W (some x) len cap ((zs.take len).map Int.toNat) := by
  have hb : ∀ n ∈ zs, 0 ≤ n ∧ n < 256 := fun n hn => by have := bounds_u8 (hwz _ hn); omega
  refine ⟨by simp; omega, hl, (fun h => by cases h), ?_, ?_⟩
  · intro y hy j u hu
    cases hy
    have hj : j < len := by
      have := (List.getElem?_eq_some_iff.1 hu).1
      simp [u8s] at this
      omega
    have hjz : j < zs.length := by omega
    rw [hcell j hjz, List.getD_eq_getElem?_getD, List.getElem?_eq_getElem hjz]
    simp only [u8s, List.getElem?_map, List.getElem?_take_of_lt hj, List.getElem?_eq_getElem hjz, Option.map_some, Option.some.injEq] at hu
    rw [← hu]
    have := hb _ (List.getElem_mem hjz)
    simp
    omega
  · intro n hn
    simp only [List.mem_map] at hn
    obtain ⟨m, hm, rfl⟩ := hn
    have := hb m (List.mem_of_mem_take hm)
    omega
theorem ri_of {W : World} {x : Addr} {len cap : Nat} {zs : List Int} (hl : len ≤ cap) (hz : zs.length = cap) (hcell : ∀ i, i < zs.length → W.cell? (x.add i) = some (.int .i64 (zs.getD i 0))) :
    RI W (some x) len cap (zs.take len) := by
  refine ⟨by simp; omega, hl, (fun h => by cases h), ?_⟩
  intro y hy j u hu
  cases hy
  have hj : j < len := by
    have := (List.getElem?_eq_some_iff.1 hu).1
    simp [i64s] at this
    omega
  have hjz : j < zs.length := by omega
  rw [hcell j hjz, List.getD_eq_getElem?_getD, List.getElem?_eq_getElem hjz]
  simp only [i64s, List.getElem?_map, List.getElem?_take_of_lt hj, List.getElem?_eq_getElem hjz, Option.map_some, Option.some.injEq] at hu
  rw [← hu]
  simp
set_option maxRecDepth 100000 in
theorem row_cells {H : Type} {enc : TypeId × Value → H} {W : World} {fuel : Nat} {v : Value} {x : DataW H × List MemPlace} (hf : DataW.trod enc Try.prog W 0 (fun _ => true) true fuel 33 [v] = some x) :
    ∃ (s : Sl) (L : List Nat), v = .slice s.a s.n s.c ∧ Row W s.a s.n s.c L ∧ Reads x.1 s.n := by
  rcases open_ints Try.underlying33 Try.underlying5 (by kernel_rfl) hf with ⟨hcs, hx⟩ | ⟨x, l, c, zs, hcs, _, hl, hm, hz, hx, hcell, hwz⟩
  · simp at hcs
    subst hcs hx
    exact ⟨⟨none, 0, 0⟩, [], rfl, row_nil W, .inl ⟨rfl, rfl⟩⟩
  · simp at hcs
    subst hcs hx
    simp only [if_true] at hz
    exact ⟨⟨_, _, _⟩, _, rfl, row_of hl hz hcell hwz, .inr ⟨_, _, rfl, by simp [lits]; omega⟩⟩
set_option maxRecDepth 100000 in
theorem ints_cells {H : Type} {enc : TypeId × Value → H} {W : World} {fuel : Nat} {v : Value} {x : DataW H × List MemPlace} (hf : DataW.trod enc Try.prog W 0 (fun _ => true) true fuel 34 [v] = some x) :
    ∃ (s : Sl) (L : List Int), v = .slice s.a s.n s.c ∧ RI W s.a s.n s.c L ∧ Reads x.1 s.n := by
  rcases open_ints Try.underlying34 Try.underlying3 (by kernel_rfl) hf with ⟨hcs, hx⟩ | ⟨x, l, c, zs, hcs, _, hl, hm, hz, hx, hcell, hwz⟩
  · simp at hcs
    subst hcs hx
    exact ⟨⟨none, 0, 0⟩, [], rfl, RI.nil W, .inl ⟨rfl, rfl⟩⟩
  · simp at hcs
    subst hcs hx
    simp only [if_true] at hz
    exact ⟨⟨_, _, _⟩, _, rfl, ri_of hl hz hcell, .inr ⟨_, _, rfl, by simp [lits]; omega⟩⟩
theorem i64_of {x : Int} (h : (Lit.int .i64 x).wf = true) : I64 x := by
  have := bounds_i64 h
  constructor <;> omega
set_option maxRecDepth 100000 in
theorem cap_cells {H : Type} {enc : TypeId × Value → H} {W : World} {n : Nat} {c0 c1 c2 : Value} {y : DataW H × List MemPlace}
    (h : DataW.trod enc Try.prog W 0 (fun _ => true) true n 31 [c0, c1, c2] = some y) :
    ∃ c : Cp, c0 = .int .i64 c.o ∧ c1 = .int .u64 (c.h : Int) ∧ c2 = .int .u64 (c.l : Int) ∧ c.far := by
  obtain ⟨y0, y1, m, hx, _, h0, h1⟩ := trod_struct2 Try.underlying31 h
  simp [cz3, cz29] at h0 h1
  obtain ⟨z0, z1, m2, hy, _, g0, g1⟩ := trod_struct2 Try.underlying29 h1
  simp [cz27] at g0 g1
  obtain ⟨o, e0, _, w0⟩ := DataW.trod_int Try.underlying3 h0
  obtain ⟨a, e1, _, w1⟩ := DataW.trod_int Try.underlying27 g0
  obtain ⟨b, e2, _, w2⟩ := DataW.trod_int Try.underlying27 g1
  simp at e0 e1 e2
  subst e0 e1 e2
  have b1 := bounds_u64 w1
  have b2 := bounds_u64 w2
  exact ⟨⟨o, a.toNat, b.toNat⟩, rfl, by simp only; rw [Int.toNat_of_nonneg (by omega)], by simp only; rw [Int.toNat_of_nonneg (by omega)], i64_of w0, by show a.toNat < _; omega, by show b.toNat < _; omega⟩
open Go.ChangeShapes Go.WideShapes Go.ChangeAt Go.RowKit Go.Joins
set_option linter.unusedVariables false
set_option linter.unusedSimpArgs false
/-- A call that lies at an address. -/
structure OneC {H : Type} (W : World) (x : Addr) (e : DataW H) (z : Ci) : Prop where
  cells : ∀ j v, z.x.L[j]? = some v → W.cell? (x.add j) = some v
  ok : z.x.ok
  d : Row W z.x.d.a z.x.d.n z.x.d.c z.bs
  g : RI W z.x.gs.a z.x.gs.n z.x.gs.c z.gs
  bd : z.x.d.n ≤ Rows.uptoBulk e
  bg : z.x.gs.n ≤ Rows.uptoBulk e
structure OneR {H : Type} (W : World) (x : Addr) (e : DataW H) (z : Ri) : Prop where
  cells : ∀ j v, (rpL z.cd z.c z.d z.nu)[j]? = some v → W.cell? (x.add j) = some v
  c : z.c.far
  n : I64 z.nu
  d : Row W z.d.a z.d.n z.d.c z.rs
  bd : z.d.n ≤ Rows.uptoBulk e
set_option maxRecDepth 100000 in
set_option maxHeartbeats 2000000 in
theorem call_cells {H : Type} {enc : TypeId × Value → H} {W : World} (n : Nat) (x : Addr) (y : DataW H × List MemPlace)
    (h : (W.cells? 0 x 13).bind (DataW.trod enc Try.prog W 0 (fun _ => true) true n 36) = some y) : ∃ z, OneC W x y.1 z := by
  rw [Option.bind_eq_some_iff] at h
  obtain ⟨l, hcs, hy⟩ := h
  obtain ⟨_, hlen, hcell⟩ := World.cells?_some hcs
  obtain ⟨xs, m, _, hx, hl, hlx, hfs⟩ := DataW.trod_struct Try.underlying36 hy
  match l, hlen with
  | [c0, c1, c2, c3, c4, c5, c6, c7, c8, c9, c10, c11, c12], _ =>
    match xs, hlx with
    | [y0, y1, y2, y3, y4, y5, y6, y7, y8, y9, y10], _ =>
      have f0 := hfs 0 _ rfl
      have f1 := hfs 1 _ rfl
      have f2 := hfs 2 _ rfl
      have f3 := hfs 3 _ rfl
      have f4 := hfs 4 _ rfl
      have f5 := hfs 5 _ rfl
      have f6 := hfs 6 _ rfl
      have f7 := hfs 7 _ rfl
      have f8 := hfs 8 _ rfl
      have f9 := hfs 9 _ rfl
      have f10 := hfs 10 _ rfl
      simp [Value.cells, cz3, cz4, cz31, cz33, cz34] at f0 f1 f2 f3 f4 f5 f6 f7 f8 f9 f10
      obtain ⟨o0, e0, _, w0⟩ := DataW.trod_int Try.underlying3 f0
      obtain ⟨o1, e1, _, w1⟩ := DataW.trod_int Try.underlying3 f1
      obtain ⟨o2, e2, _, w2⟩ := DataW.trod_int Try.underlying3 f2
      obtain ⟨c, rfl, rfl, rfl, hc⟩ := cap_cells f3
      obtain ⟨gv, e4, _⟩ := DataW.trod_bool Try.underlying4 f4
      obtain ⟨o5, e5, _, w5⟩ := DataW.trod_int Try.underlying3 f5
      obtain ⟨o6, e6, _, w6⟩ := DataW.trod_int Try.underlying3 f6
      obtain ⟨o7, e7, _, w7⟩ := DataW.trod_int Try.underlying3 f7
      obtain ⟨s, D, rfl, hR, hRd⟩ := row_cells f8
      obtain ⟨o9, e9, _, w9⟩ := DataW.trod_int Try.underlying3 f9
      obtain ⟨g, G, rfl, hG, hGd⟩ := ints_cells f10
      simp at e0 e1 e2 e4 e5 e6 e7 e9
      subst e0 e1 e2 e4 e5 e6 e7 e9
      have hb1 := hRd.bulk
      have hb2 := hGd.bulk
      refine ⟨⟨⟨o0, o1, o2, c, gv, o5, o6, o7, s, o9, g⟩, D, G⟩, fun j v hv => ?_, ⟨i64_of w0, i64_of w1, hc, i64_of w5, i64_of w6, i64_of w9⟩, hR, hG, ?_, ?_⟩
      · have hj : j < 13 := (List.getElem?_eq_some_iff.1 hv).1
        rw [hcell j hj]
        exact hv
      · rw [hx]
        simp only [Rows.uptoBulk, Rows.uptoBulkAll, List.map_cons, List.map_nil]
        omega
      · rw [hx]
        simp only [Rows.uptoBulk, Rows.uptoBulkAll, List.map_cons, List.map_nil]
        omega
set_option maxRecDepth 100000 in
set_option maxHeartbeats 2000000 in
theorem reply_cells {H : Type} {enc : TypeId × Value → H} {W : World} (n : Nat) (x : Addr) (y : DataW H × List MemPlace)
    (h : (W.cells? 0 x 6).bind (DataW.trod enc Try.prog W 0 (fun _ => true) true n 39) = some y) : ∃ z, OneR W x y.1 z := by
  rw [Option.bind_eq_some_iff] at h
  obtain ⟨l, hcs, hy⟩ := h
  obtain ⟨_, hlen, hcell⟩ := World.cells?_some hcs
  obtain ⟨xs, m, _, hx, hl, hlx, hfs⟩ := DataW.trod_struct Try.underlying39 hy
  match l, hlen with
  | [c0, c1, c2, c3, c4, c5], _ =>
    match xs, hlx with
    | [y0, y1, y2, y3], _ =>
      have f0 := hfs 0 _ rfl
      have f1 := hfs 1 _ rfl
      have f2 := hfs 2 _ rfl
      have f3 := hfs 3 _ rfl
      simp [Value.cells, cz3, cz37, cz31, cz33] at f0 f1 f2 f3
      obtain ⟨c, rfl, rfl, rfl, hc⟩ := cap_cells f1
      obtain ⟨s, D, rfl, hR, hRd⟩ := row_cells f2
      obtain ⟨o3, e3, _, w3⟩ := DataW.trod_int Try.underlying3 f3
      obtain ⟨o0, e0, _, w0⟩ := DataW.trod_int Try.underlying37 f0
      simp at e0 e3
      subst e0 e3
      have hb1 := hRd.bulk
      refine ⟨⟨o0, c, s, o3, D⟩, fun j v hv => ?_, hc, i64_of w3, hR, ?_⟩
      · have hj : j < 6 := (List.getElem?_eq_some_iff.1 hv).1
        rw [hcell j hj]
        exact hv
      · rw [hx]
        simp only [Rows.uptoBulk, Rows.uptoBulkAll, List.map_cons, List.map_nil]
        omega
set_option maxRecDepth 100000 in
theorem open_rows {α H : Type} {enc : TypeId × Value → H} {W : World} {r : Reach} {base k : Nat} {t e : TypeId} (ht : Try.prog.underlying t = some (.slice e)) (hk : Try.prog.cellsOf e = k) (P : Addr → DataW H → α → Prop)
    (hP : ∀ n x (y : DataW H × List MemPlace), (W.cells? 0 x k).bind (DataW.trod enc Try.prog W 0 (fun _ => true) true n e) = some y → ∃ z, P x y.1 z)
    {v : Value} {d : DataW H} {p : List MemPlace} (hv : Value.okWide Try.prog W r base t v) (h : DataW.Trod enc Try.prog W 0 (fun _ => true) true t v d p) :
    ∃ a n cap, ∃ X : List α, v = .slice a n cap ∧ X.length = n ∧ n ≤ Rows.uptoBulk d ∧ (∀ (i : Nat) z, X[i]? = some z → ∃ x el, a = some x ∧ P (x.add (i * k)) el z ∧ Rows.uptoBulk el ≤ Rows.uptoBulk d) ∧ ∀ f : α → Nat, (∀ x el z, P x el z → f z ≤ Rows.uptoBulk el) → (X.map f).sum ≤ Rows.uptoBulk d := by
  obtain ⟨a, len, cap, rfl⟩ := okWide_slice ht hv
  obtain ⟨fuel, hf⟩ := h
  rcases DataW.trod_slice ht hf with ⟨hcs, hx⟩ | ⟨x, l, c, elems, rest, n, _, hcs, hx, _, hl, hm, hlen, hel, _, _⟩
  · simp [Value.cells] at hcs
    obtain ⟨rfl, rfl, rfl⟩ := hcs
    exact ⟨none, 0, 0, [], rfl, rfl, Nat.zero_le _, fun i z hz => by simp at hz, fun f _ => by simp⟩
  · simp [Value.cells] at hcs
    obtain ⟨rfl, rfl, rfl⟩ := hcs
    simp only [Prod.mk.injEq] at hx
    have hd : d = .slice (elems.map (·.1)) (rest.map (·.1)) := hx.1
    have each : ∀ i : Fin len, ∃ z, P (x.add (i.1 * k)) (elems[i.1]'(by omega)).1 z := by
      intro i
      have he := hel i.1 i.2
      rw [hk, List.getElem?_eq_getElem (by omega)] at he
      exact hP _ _ _ he
    obtain ⟨f, hf⟩ := Classical.axiomOfChoice each
    have hget : ∀ (i : Nat) z, (List.ofFn f)[i]? = some z → ∃ h : i < len, z = f ⟨i, h⟩ := by
      intro i z h
      have hi : i < len := by have := (List.getElem?_eq_some_iff.1 h).1; simpa using this
      refine ⟨hi, ?_⟩
      have h2 := (List.getElem?_eq_some_iff.1 h).2
      simp at h2
      exact h2.symm
    have hel2 : elems.length = len := by omega
    have hall : Rows.uptoBulkAll (elems.map (·.1)) ≤ Rows.uptoBulk d := by
      rw [hd]
      simp only [Rows.uptoBulk]
      omega
    have hpart : ∀ (i : Nat) (h : i < elems.length), Rows.uptoBulk elems[i].1 ≤ Rows.uptoBulkAll (elems.map (·.1)) := by
      have key : ∀ (l : List (DataW H)) (y : DataW H), y ∈ l → Rows.uptoBulk y ≤ Rows.uptoBulkAll l := by
        intro l
        induction l with
        | nil => intro y hy; cases hy
        | cons a r ih =>
          intro y hy
          simp only [Rows.uptoBulkAll]
          rcases List.mem_cons.1 hy with rfl | hy
          · omega
          · have := ih y hy; omega
      exact fun i h => key _ _ (List.mem_map.2 ⟨_, List.getElem_mem h, rfl⟩)
    refine ⟨some x, len, cap, List.ofFn f, rfl, by simp, ?_, fun i z hz => ?_, fun g hg => ?_⟩
    · have := bulk_len (elems.map (·.1))
      rw [List.length_map, hel2] at this
      omega
    · obtain ⟨hi, rfl⟩ := hget i z hz
      exact ⟨x, _, rfl, hf ⟨i, hi⟩, Nat.le_trans (hpart i (by omega)) hall⟩
    · refine Nat.le_trans (sum_bulk g _ _ (by simp [hel2]) (fun i z e hz he => ?_)) hall
      obtain ⟨hi, rfl⟩ := hget i z hz
      rw [List.getElem?_map, List.getElem?_eq_getElem (by omega)] at he
      simp only [Option.map_some, Option.some.injEq] at he
      rw [← he]
      exact hg _ _ _ (hf ⟨i, hi⟩)
end Go.Proofs.Yticgammbjcdobaa
