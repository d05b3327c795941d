import Derived.Test.YtfeilkhlapnpoaaQ3
import Derived.Sort.EveryDepth
import Derived.Shelf.Sort.AssemblyIn
import Derived.Sort.OwnSortedInts
namespace Go.Proofs.Ytfeilkhlapnpoaa
open Go.Shelf Go.RowKit Go.Sort
set_option linter.unusedVariables false

/-- The numbers of slices.Sort's closure at this program. -/
def sortI_ren : Go.Shelf.Ren := ⟨fun | 189 => 22 | 125 => 24 | 257 => 23 | 128 => 34 | 129 => 35 | 294 => 25 | 295 => 26 | 296 => 27 | 297 => 28 | 298 => 29 | 299 => 30 | 216 => 31 | 300 => 32 | 301 => 33 | 328 => 36 | 329 => 37 | 330 => 38 | 331 => 39 | 332 => 40 | 215 => 41 | 343 => 42 | n => n, fun | 28 => 34 | 3 => 3 | 46 => 54 | 0 => 0 | 51 => 64 | 53 => 66 | 4 => 4 | 183 => 57 | 182 => 56 | 131 => 61 | 5 => 5 | 9 => 9 | 218 => 67 | 222 => 71 | 228 => 74 | 229 => 75 | n => n, fun | n => n⟩
theorem sortI : Go.Proofs.Lays.n189 Try.prog sortI_ren := {
  mixed := by kernel_rfl,
  f125 := Try.func24.trans (congrArg some (by kernel_rfl)),
  f128 := Try.func34.trans (congrArg some (by kernel_rfl)),
  f129 := Try.func35.trans (congrArg some (by kernel_rfl)),
  f189 := Try.func22.trans (congrArg some (by kernel_rfl)),
  f215 := Try.func41.trans (congrArg some (by kernel_rfl)),
  f216 := Try.func31.trans (congrArg some (by kernel_rfl)),
  f257 := Try.func23.trans (congrArg some (by kernel_rfl)),
  f294 := Try.func25.trans (congrArg some (by kernel_rfl)),
  f295 := Try.func26.trans (congrArg some (by kernel_rfl)),
  f296 := Try.func27.trans (congrArg some (by kernel_rfl)),
  f297 := Try.func28.trans (congrArg some (by kernel_rfl)),
  f298 := Try.func29.trans (congrArg some (by kernel_rfl)),
  f299 := Try.func30.trans (congrArg some (by kernel_rfl)),
  f300 := Try.func32.trans (congrArg some (by kernel_rfl)),
  f301 := Try.func33.trans (congrArg some (by kernel_rfl)),
  f328 := Try.func36.trans (congrArg some (by kernel_rfl)),
  f329 := Try.func37.trans (congrArg some (by kernel_rfl)),
  f330 := Try.func38.trans (congrArg some (by kernel_rfl)),
  f331 := Try.func39.trans (congrArg some (by kernel_rfl)),
  f332 := Try.func40.trans (congrArg some (by kernel_rfl)),
  f343 := Try.func42.trans (congrArg some (by kernel_rfl)),
  t0 := Try.underlying0,
  a0 := Try.isAgg0,
  z0 := Try.sizeOf0,
  v0 := Try.zeroValue0,
  t3 := Try.underlying3,
  a3 := Try.isAgg3,
  z3 := Try.sizeOf3,
  v3 := Try.zeroValue3,
  t4 := Try.underlying4,
  a4 := Try.isAgg4,
  z4 := Try.sizeOf4,
  v4 := Try.zeroValue4,
  t5 := Try.underlying5,
  a5 := Try.isAgg5,
  z5 := Try.sizeOf5,
  v5 := Try.zeroValue5,
  t9 := Try.underlying9,
  a9 := Try.isAgg9,
  z9 := Try.sizeOf9,
  v9 := Try.zeroValue9,
  t28 := Try.underlying34,
  a28 := Try.isAgg34,
  z28 := Try.sizeOf34,
  v28 := Try.zeroValue34,
  t46 := Try.underlying54,
  a46 := Try.isAgg54,
  z46 := Try.sizeOf54,
  v46 := Try.zeroValue54,
  t51 := Try.underlying64,
  a51 := Try.isAgg64,
  z51 := Try.sizeOf64,
  v51 := Try.zeroValue64,
  t53 := Try.underlying66,
  a53 := Try.isAgg66,
  z53 := Try.sizeOf66,
  v53 := Try.zeroValue66,
  t131 := Try.underlying61,
  a131 := Try.isAgg61,
  z131 := Try.sizeOf61,
  v131 := Try.zeroValue61,
  t182 := Try.underlying56,
  a182 := Try.isAgg56,
  z182 := Try.sizeOf56,
  v182 := Try.zeroValue56,
  t183 := Try.underlying57,
  a183 := Try.isAgg57,
  z183 := Try.sizeOf57,
  v183 := Try.zeroValue57,
  t218 := Try.underlying67,
  a218 := Try.isAgg67,
  z218 := Try.sizeOf67,
  v218 := Try.zeroValue67,
  t222 := Try.underlying71,
  a222 := Try.isAgg71,
  z222 := Try.sizeOf71,
  v222 := Try.zeroValue71,
  t228 := Try.underlying74,
  a228 := Try.isAgg74,
  z228 := Try.sizeOf74,
  v228 := Try.zeroValue74,
  t229 := Try.underlying75,
  a229 := Try.isAgg75,
  z229 := Try.sizeOf75,
  v229 := Try.zeroValue75 }
theorem sort_any (blk cap : Nat) (zs : List Int) (w : World) (hH : Holds (Value.int .i64) w blk 0 zs.toArray) (hb : blk < w.heap.size) (hl : zs.length < 4611686018427387904) :
    Calls Try.prog 22 #[.slice (some ⟨blk, 0, none⟩) zs.length cap] w fun e w' =>
      e = .returned (.tuple #[]) ∧ ∃ n os, w' = grow (putRow (Value.int .i64) (Sort.ahead w n) blk 0 (zs.mergeSort fun x y => decide (x ≤ y)).toArray) os :=
  calls_of_every_depth fun D => AnyS.slices_Sort_int_in sortI D blk 0 cap zs w hH hb hl
/-- A list of one's own, put in order. -/
theorem sort_own {w : World} {base g n cap : Nat} {zs : List Int} (h : Own w base 3 (some ⟨g, 0, none⟩) n cap (ints zs)) (hn : n < 4611686018427387904) :
    Calls Try.prog 22 #[.slice (some ⟨g, 0, none⟩) n cap] w fun e w' => e = .returned (.tuple #[]) ∧ Own w' base 3 (some ⟨g, 0, none⟩) n cap (ints (zs.mergeSort leI)) ∧ w.grownBy w' (some g) := by
  have hl := h.len
  rw [ints_length] at hl
  subst hl
  rcases h.row.2 with ⟨h1, _⟩ | ⟨g', c, cur, hv, hg, hh, h1, h2, h3, h4⟩
  · simp at h1
  · simp only [Value.slice.injEq, Option.some.injEq] at hv
    obtain ⟨hg1, _, rfl⟩ := hv
    obtain rfl : g = g' := by simpa using hg1
    refine (sort_any g cap zs w (holds_of_blockI hh (by simpa [ints] using h4)) (Array.getElem?_eq_some_iff.1 hh).1 hn).mono ?_
    rintro e w' ⟨rfl, k, os, rfl⟩
    exact ⟨rfl, ⟨ownsRow_sortedI (by simp) hg hh h1 h2 h3, ints_one _⟩, grownBy_sortedI _⟩
end Go.Proofs.Ytfeilkhlapnpoaa
