import Derived.Test.YtfibidfkhfkfpaaA1
import Derived.WalkKit
import Derived.ProofKit
import Derived.OpenShut
import Derived.ChangeOld
import Derived.Below
import Derived.SizedLaws
import Derived.JoinedCond
import Derived.Lib.SmallJoins
import Derived.Deep.Strs
namespace Go.Proofs.Ytfibidfkhfkfpaa
open Go.ChangeShapes Go.WideShapes Go.ChangeAt Go.RowKit Go.Joins

theorem ownK : ownKnob Try.prog.godebug = none := by kernel_rfl
theorem laidOut : laidOutB Try.prog = true := by kernel_rfl
theorem bytes25 : Try.prog.bytesOf 25 = 16 := by kernel_rfl
theorem cells25 : Try.prog.cellsOf 25 = 2 := by kernel_rfl
theorem cells23 : Try.prog.cellsOf 23 = 1 := by kernel_rfl

/-- A slice's reading: so many values. -/
def Reads {H : Type} (d : DataW H) (len : Nat) : Prop := (d = .nil ∧ len = 0) ∨ ∃ xs ys, d = .slice xs ys ∧ xs.length = len

theorem word_num {hi lo : Int} (h1 : 0 ≤ hi) (h2 : hi < 18446744073709551616) (h3 : 0 ≤ lo) (h4 : lo < 18446744073709551616) : ∃ N, N < B64 * B64 ∧ hiI N = hi ∧ loI N = lo := by
  have hw : IsW hi.toNat lo.toNat (hi.toNat * B64 + lo.toNat) := IsW.mk' (by unfold B64; omega) (by unfold B64; omega)
  have hv := IsV.of hw
  refine ⟨_, hw.lt, ?_, ?_⟩
  · rw [← hv.hi, Int.toNat_of_nonneg h1]
  · rw [← hv.lo, Int.toNat_of_nonneg h3]
/-- One word, from its two cells. -/
theorem word_cells {H : Type} {enc : TypeId × Value → H} {W : World} {base : Nat} {spare : Nat → Bool} {held : Bool} {n : Nat} {x : Addr} {y : DataW H × List MemPlace}
    (h : (W.cells? base x 2).bind (DataW.trod enc Try.prog W base spare held n 25) = some y) :
    ∃ N, N < B64 * B64 ∧ ∀ c u, (wcs N)[c]? = some u → W.cell? (x.add c) = some u := by
  rw [Option.bind_eq_some_iff] at h
  obtain ⟨cs, hcs, hy⟩ := h
  obtain ⟨_, hlen, hcell⟩ := World.cells?_some hcs
  obtain ⟨y0, y1, m, _, _, h0, h1⟩ := trod_struct2 Try.underlying25 hy
  match cs, hlen with
  | [c0, c1], _ =>
    simp [cells23] at h0 h1
    obtain ⟨k0, e0, _, w0⟩ := DataW.trod_int Try.underlying23 h0
    obtain ⟨k1, e1, _, w1⟩ := DataW.trod_int Try.underlying23 h1
    simp at e0 e1
    subst e0 e1
    have b0 := bounds_u64 w0
    have b1 := bounds_u64 w1
    obtain ⟨N, hN, e2, e3⟩ := word_num (hi := k0) (lo := k1) (by omega) (by omega) (by omega) (by omega)
    refine ⟨N, hN, fun c u hu => ?_⟩
    have hc : c < 2 := (List.getElem?_eq_some_iff.1 hu).1
    rw [hcell c hc, ← hu]
    simp only [wcs, e2, e3]
theorem open_words {H : Type} {enc : TypeId × Value → H} {W : World} {r : Reach} {base : Nat} {v : Value} {d : DataW H} {p : List MemPlace} (hv : Value.okWide Try.prog W r base 22 v) (h : DataW.Trod enc Try.prog W 0 (fun _ => true) true 22 v d p) :
    ∃ a len cap f, v = .slice a len cap ∧ Ws W a len cap f ∧ Reads d len := by
  obtain ⟨a, len, cap, rfl⟩ := okWide_slice Try.underlying22 hv
  obtain ⟨fuel, hf⟩ := h
  rcases DataW.trod_slice Try.underlying22 hf with ⟨hcs, hx⟩ | ⟨x, l, c, elems, rest, n, _, hcs, hx, _, hl, hm, hlen, hel, _, _⟩
  · simp [Value.cells] at hcs
    obtain ⟨rfl, rfl, rfl⟩ := hcs
    simp only [Prod.mk.injEq] at hx
    exact ⟨none, 0, 0, fun _ => 0, rfl, ⟨Nat.le_refl _, fun _ => ⟨rfl, rfl⟩, fun _ h => (by cases h), fun _ => by decide⟩, .inl ⟨hx.1, rfl⟩⟩
  · simp [Value.cells] at hcs
    obtain ⟨rfl, rfl, rfl⟩ := hcs
    simp only [Prod.mk.injEq] at hx
    have each : ∀ i, ∃ N : Nat, N < B64 * B64 ∧ (i < len → ∀ c u, (wcs N)[c]? = some u → W.cell? ((x.add (i * 2)).add c) = some u) := by
      intro i
      by_cases hi : i < len
      · have he := hel i hi
        rw [cells25, List.getElem?_eq_getElem (by omega)] at he
        obtain ⟨N, h1, h2⟩ := word_cells he
        exact ⟨N, h1, fun _ => h2⟩
      · exact ⟨0, by decide, fun h => absurd h hi⟩
    obtain ⟨f, hf⟩ := Classical.axiomOfChoice each
    refine ⟨some x, len, cap, f, rfl, ⟨hl, (fun h => by cases h), ?_, fun i => (hf i).1⟩, ?_⟩
    · intro y hy j u hu
      cases hy
      have hj : j < len * 2 := by have := (List.getElem?_eq_some_iff.1 hu).1; rwa [wvs_length] at this
      have hq := wvs_get f len (j / 2) (j % 2) (by omega) (by omega)
      have hjj : j / 2 * 2 + j % 2 = j := by omega
      rw [hjj] at hq
      rw [hq] at hu
      have hc := (hf (j / 2)).2 (by omega) (j % 2) u hu
      rw [Deep.add_add, hjj] at hc
      exact hc
    · exact .inr ⟨_, _, hx.1, by simp; omega⟩
end Go.Proofs.Ytfibidfkhfkfpaa
