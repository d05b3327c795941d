import Derived.Test.YtciidjhadijhdaaI6
import Derived.WalkKit
import Derived.ProofKit
import Derived.OpenShut
import Derived.ChangeOld
import Derived.Below
import Derived.SizedLaws
import Derived.JoinedCond
import Derived.Lib.SmallJoins
import Derived.Deep.Strs
namespace Go.Proofs.Ytciidjhadijhdaa.D
open Go.ChangeShapes Go.WideShapes Go.ChangeAt Go.RowKit Go.Joins
open Go.Proofs.Ytciidjhadijhdaa.H (B64)

theorem ownK : ownKnob Try.prog.godebug = none := by kernel_rfl
theorem laidOut : laidOutB Try.prog = true := by kernel_rfl
theorem bytes31 : Try.prog.bytesOf 31 = 16 := by kernel_rfl
theorem bytes43 : Try.prog.bytesOf 43 = 32 := by kernel_rfl
theorem bytes59 : Try.prog.bytesOf 59 = 40 := by kernel_rfl
theorem bytes3 : Try.prog.bytesOf 3 = 8 := by kernel_rfl
theorem cells31 : Try.prog.cellsOf 31 = 2 := by kernel_rfl
theorem cells29 : Try.prog.cellsOf 29 = 1 := by kernel_rfl
theorem cells22 : Try.prog.cellsOf 22 = 1 := by kernel_rfl
theorem cells3 : Try.prog.cellsOf 3 = 1 := by kernel_rfl
theorem cells43 : Try.prog.cellsOf 43 = 2 := by kernel_rfl
theorem cells57 : Try.prog.cellsOf 57 = 3 := by kernel_rfl
theorem cells59 : Try.prog.cellsOf 59 = 5 := by kernel_rfl
/-- A slice's reading: so many values. -/
def Reads {H : Type} (d : DataW H) (len : Nat) : Prop := (d = .nil ∧ len = 0) ∨ ∃ xs ys, d = .slice xs ys ∧ xs.length = len
theorem Reads.weight {H : Type} {d : DataW H} {len : Nat} (h : Reads d len) {t e : TypeId} (ht : Try.prog.underlying t = some (.slice e)) (hw : ∀ n ∈ d.weights Try.prog t, n ≤ reachBytes) : len * Try.prog.bytesOf e ≤ reachBytes := by
  rcases h with ⟨_, rfl⟩ | ⟨xs, ys, rfl, rfl⟩
  · simp
  · have := hw ((xs.length + ys.length) * Try.prog.bytesOf e) (by simp [DataW.weights, ht])
    exact Nat.le_trans (Nat.mul_le_mul_right _ (by omega)) this
theorem mem_all {H : Type} {e : TypeId} {d : DataW H} : ∀ {l : List (DataW H)}, d ∈ l → ∀ n ∈ d.weights Try.prog e, n ∈ DataW.weightsAll Try.prog e l
  | x :: r, h, n, hn => by
    simp only [DataW.weightsAll, List.mem_append]
    rcases List.mem_cons.1 h with rfl | h
    · exact .inl hn
    · exact .inr (mem_all h n hn)
  | [], h, _, _ => by cases h
theorem word_num {hi lo : Int} (h1 : 0 ≤ hi) (h2 : hi < 18446744073709551616) (h3 : 0 ≤ lo) (h4 : lo < 18446744073709551616) : ∃ N, N < B64 * B64 ∧ hiI N = hi ∧ loI N = lo := by
  have hw : IsW hi.toNat lo.toNat (hi.toNat * B64 + lo.toNat) := IsW.mk' (by unfold Go.Proofs.Ytciidjhadijhdaa.H.B64; omega) (by unfold Go.Proofs.Ytciidjhadijhdaa.H.B64; omega)
  have hv := IsV.of hw
  refine ⟨_, hw.lt, ?_, ?_⟩
  · rw [← hv.hi, Int.toNat_of_nonneg h1]
  · rw [← hv.lo, Int.toNat_of_nonneg h3]
set_option maxRecDepth 100000 in
/-- One word, from its two cells. -/
theorem word_cells {H : Type} {enc : TypeId × Value → H} {W : World} {base : Nat} {spare : Nat → Bool} {held : Bool} {n : Nat} {x : Addr} {y : DataW H × List MemPlace}
    (h : (W.cells? base x 2).bind (DataW.trod enc Try.prog W base spare held n 31) = some y) :
    ∃ N, N < B64 * B64 ∧ ∀ c u, (wcs N)[c]? = some u → W.cell? (x.add c) = some u := by
  rw [Option.bind_eq_some_iff] at h
  obtain ⟨cs, hcs, hy⟩ := h
  obtain ⟨_, hlen, hcell⟩ := World.cells?_some hcs
  obtain ⟨y0, y1, m, _, _, h0, h1⟩ := trod_struct2 Try.underlying31 hy
  match cs, hlen with
  | [c0, c1], _ =>
    simp [cells29] at h0 h1
    obtain ⟨k0, e0, _, w0⟩ := DataW.trod_int Try.underlying29 h0
    obtain ⟨k1, e1, _, w1⟩ := DataW.trod_int Try.underlying29 h1
    simp at e0 e1
    subst e0 e1
    have b0 := bounds_u64 w0
    have b1 := bounds_u64 w1
    obtain ⟨N, hN, e2, e3⟩ := word_num (hi := k0) (lo := k1) (by omega) (by omega) (by omega) (by omega)
    refine ⟨N, hN, fun c u hu => ?_⟩
    have hc : c < 2 := (List.getElem?_eq_some_iff.1 hu).1
    rw [hcell c hc, ← hu]
    simp only [wcs, e2, e3]
set_option maxRecDepth 100000 in
/-- A list of words that came in. -/
theorem open_row22 {H : Type} {enc : TypeId × Value → H} {W : World} {fuel : Nat} {cs : List Value} {y : DataW H × List MemPlace} (hf : DataW.trod enc Try.prog W 0 (fun _ => true) true fuel 22 cs = some y) :
    ∃ a len cap f, cs = [.slice a len cap] ∧ Ws W a len cap f ∧ Reads y.1 len ∧ len ≤ 9223372036854775807 := by
  rcases DataW.trod_slice Try.underlying22 hf with ⟨hcs, hx⟩ | ⟨x, len, cap, elems, rest, n, _, hcs, hx, _, hl, hm, hlen, hel, _, _⟩
  · subst hx
    exact ⟨none, 0, 0, fun _ => 0, hcs, ⟨Nat.le_refl _, fun _ => ⟨rfl, rfl⟩, fun _ h => (by cases h), fun _ => by decide⟩, .inl ⟨rfl, rfl⟩, by omega⟩
  · subst hx
    have each : ∀ i, ∃ N : Nat, N < B64 * B64 ∧ (i < len → ∀ c u, (wcs N)[c]? = some u → W.cell? ((x.add (i * 2)).add c) = some u) := by
      intro i
      by_cases hi : i < len
      · have he := hel i hi
        rw [cells31, List.getElem?_eq_getElem (by omega)] at he
        obtain ⟨N, h1, h2⟩ := word_cells he
        exact ⟨N, h1, fun _ => h2⟩
      · exact ⟨0, by decide, fun h => absurd h hi⟩
    obtain ⟨f, hf⟩ := Classical.axiomOfChoice each
    refine ⟨some x, len, cap, f, hcs, ⟨hl, (fun h => by cases h), ?_, fun i => (hf i).1⟩, .inr ⟨_, _, rfl, by simp; omega⟩, by unfold maxLen at hm; omega⟩
    intro y hy j u hu
    cases hy
    have hj : j < len * 2 := by have := (List.getElem?_eq_some_iff.1 hu).1; rwa [wvs_length] at this
    have hq := wvs_get f len (j / 2) (j % 2) (by omega) (by omega)
    have hjj : j / 2 * 2 + j % 2 = j := by omega
    rw [hjj] at hq
    rw [hq] at hu
    have hc := (hf (j / 2)).2 (by omega) (j % 2) u hu
    rw [Deep.add_add, hjj] at hc
    exact hc
set_option maxRecDepth 100000 in
theorem open_words {H : Type} {enc : TypeId × Value → H} {W : World} {r : Reach} {base : Nat} {v : Value} {d : DataW H} {p : List MemPlace} (hv : Value.okWide Try.prog W r base 22 v) (h : DataW.Trod enc Try.prog W 0 (fun _ => true) true 22 v d p) :
    ∃ a len cap f, v = .slice a len cap ∧ Ws W a len cap f ∧ Reads d len := by
  obtain ⟨a, len, cap, rfl⟩ := okWide_slice Try.underlying22 hv
  obtain ⟨fuel, hf⟩ := h
  obtain ⟨a', len', cap', f, hcs, h1, h2, _⟩ := open_row22 hf
  simp [Value.cells] at hcs
  obtain ⟨rfl, rfl, rfl⟩ := hcs
  exact ⟨a, len, cap, f, rfl, h1, h2⟩
theorem Ws.old {w : World} {a : Option Addr} {n cap : Nat} {f : Nat → Nat} (h : Ws w a n cap f) (h0 : 0 < n) : ∀ y, a = some y → y.block < w.heap.size := by
  intro y hy
  obtain ⟨b, o, e, hw⟩ := h.plain h0
  rw [e] at hy
  cases hy
  exact World.block_lt_of_cell? _ _ (hw 0 h0).1
theorem trod_two {H : Type} {enc : TypeId × Value → H} {W : World} {t : TypeId} {f0 f1 : Field} {fuel : Nat} {cs : List Value} {x : DataW H × List MemPlace} (ht : Try.prog.underlying t = some (.struct #[f0, f1])) (h : DataW.trod enc Try.prog W 0 (fun _ => true) true fuel t cs = some x) :
    ∃ (y0 y1 : DataW H × List MemPlace) (n : Nat), DataW.trod enc Try.prog W 0 (fun _ => true) true n f0.type ((cs.drop f0.offset).take (Try.prog.cellsOf f0.type)) = some y0 ∧ DataW.trod enc Try.prog W 0 (fun _ => true) true n f1.type ((cs.drop f1.offset).take (Try.prog.cellsOf f1.type)) = some y1 := by
  obtain ⟨xs, n, _, rfl, hl, hlen, hf⟩ := DataW.trod_struct ht h
  match xs, hlen with
  | [y0, y1], _ => exact ⟨y0, y1, n, by simpa using hf 0 f0 rfl, by simpa using hf 1 f1 rfl⟩
set_option maxRecDepth 100000 in
/-- An ask, from its two cells. -/
theorem ask_cells {H : Type} {enc : TypeId × Value → H} {W : World} {n : Nat} {x : Addr} {y : DataW H × List MemPlace}
    (h : (W.cells? 0 x 2).bind (DataW.trod enc Try.prog W 0 (fun _ => true) true n 43) = some y) :
    ∃ s : Ak, (W.cell? (x.add 0) = some (.slice s.a s.m s.cap) ∧ W.cell? (x.add 1) = some (.int .i64 s.back)) ∧ Ws W s.a s.m s.cap s.u ∧ s.m ≤ 9223372036854775807 := by
  rw [Option.bind_eq_some_iff] at h
  obtain ⟨cs, hcs, hy⟩ := h
  obtain ⟨_, hlen, hcell⟩ := World.cells?_some hcs
  obtain ⟨y0, y1, m, h0, h1⟩ := trod_two Try.underlying43 hy
  match cs, hlen with
  | [c0, c1], _ =>
    simp [cells22, cells3] at h0 h1
    obtain ⟨a, len, cap, f, e0, hW, _, hl⟩ := open_row22 h0
    obtain ⟨b, e1, _, w1⟩ := DataW.trod_int Try.underlying3 h1
    simp at e0 e1
    subst e0 e1
    exact ⟨⟨a, len, cap, f, b⟩, ⟨by rw [hcell 0 (by omega)]; rfl, by rw [hcell 1 (by omega)]; rfl⟩, hW, hl⟩
set_option maxRecDepth 100000 in
/-- The asks that came in. -/
theorem open_asks {H : Type} {enc : TypeId × Value → H} {W : World} {r : Reach} {base : Nat} {v : Value} {d : DataW H} {p : List MemPlace} (hv : Value.okWide Try.prog W r base 38 v) (h : DataW.Trod enc Try.prog W 0 (fun _ => true) true 38 v d p) :
    ∃ x k cap f, v = .slice x k cap ∧ As W x k f ∧ k ≤ 9223372036854775807 := by
  obtain ⟨a, len, cap, rfl⟩ := okWide_slice Try.underlying38 hv
  obtain ⟨fuel, hf⟩ := h
  have dummy : Ak := ⟨none, 0, 0, fun _ => 0, 0⟩
  rcases DataW.trod_slice Try.underlying38 hf with ⟨hcs, hx⟩ | ⟨x, l, c, elems, rest, n, _, hcs, hx, _, hl, hm, hlen, hel, _, _⟩
  · simp [Value.cells] at hcs
    obtain ⟨rfl, rfl, rfl⟩ := hcs
    exact ⟨none, 0, 0, fun _ => dummy, rfl, ⟨fun h => by omega⟩, by omega⟩
  · simp [Value.cells] at hcs
    obtain ⟨rfl, rfl, rfl⟩ := hcs
    have each : ∀ i, ∃ s : Ak, i < len → (W.cell? ((x.add (i * 2)).add 0) = some (.slice s.a s.m s.cap) ∧ W.cell? ((x.add (i * 2)).add 1) = some (.int .i64 s.back)) ∧ Ws W s.a s.m s.cap s.u ∧ s.m ≤ 9223372036854775807 := by
      intro i
      by_cases hi : i < len
      · have he := hel i hi
        rw [cells43, List.getElem?_eq_getElem (by omega)] at he
        obtain ⟨s, h1⟩ := ask_cells he
        exact ⟨s, fun _ => h1⟩
      · exact ⟨dummy, fun h => absurd h hi⟩
    obtain ⟨f, hf⟩ := Classical.axiomOfChoice each
    refine ⟨some x, len, cap, f, rfl, ⟨fun hk => ?_⟩, by unfold maxLen at hm; omega⟩
    obtain ⟨b, o, spot⟩ := x
    have h0 := (hf 0 hk).1.1
    have hs : spot = none := by simpa [Addr.add] using World.cell?_spot h0
    subst hs
    refine ⟨b, o, rfl, fun i hi => ?_⟩
    obtain ⟨⟨k0, k1⟩, k2, k3⟩ := hf i hi
    rw [addr_add, addr_add] at k0 k1
    exact ⟨k0, k1, k2, k3, fun h0 => k2.old h0⟩
end Go.Proofs.Ytciidjhadijhdaa.D
