import Derived.Test.YthlojdclncikiaaB2
namespace Go.Proofs.Ythlojdclncikiaa
open Go.RowKit
set_option linter.unusedVariables false

/-- The cache in memory: sets, ways, knob, the places of each set, the epoch, hits and misses. -/
structure Ca (w : World) (g s n k : Nat) (R : Nat → List Pl) (e hi mi : Int) : Prop where
  c0 : w.cell? ⟨g, 0, none⟩ = some (.int .i64 (s : Int))
  c1 : w.cell? ⟨g, 1, none⟩ = some (.int .i64 (n : Int))
  c2 : w.cell? ⟨g, 2, none⟩ = some (.int .i64 (k : Int))
  at_ : ∀ r, r < 16 → w.rangeAt g (3 + r * 20) (plc (R r))
  th : w.there g 3 320
  len : ∀ r, (R r).length = 4
  ce : Lies w ⟨g, 323, none⟩ (.int .i64 e)
  ch : Lies w ⟨g, 324, none⟩ (.int .i64 hi)
  cm : Lies w ⟨g, 325, none⟩ (.int .i64 mi)
  ls : s ≤ 16
  n1 : 1 ≤ n
  n4 : n ≤ 4
  lk : k ≤ 64
variable {w w' : World} {g s n k : Nat} {R : Nat → List Pl} {e hi mi : Int}
theorem Ca.lt (h : Ca w g s n k R e hi mi) : g < w.heap.size := World.block_lt_of_cell? _ _ h.c0
theorem Ca.but {S : Nat → Prop} (h : Ca w g s n k R e hi mi) (hb : But S w w') (h1 : ¬ S g) : Ca w' g s n k R e hi mi :=
  ⟨cell_but hb h.c0 h1, cell_but hb h.c1 h1, cell_but hb h.c2 h1, fun r hr => range_but (h.at_ r hr) hb h1, there_but h.th hb h1, h.len, h.ce.but hb h1, h.ch.but hb h1, h.cm.but hb h1, h.ls, h.n1, h.n4, h.lk⟩
theorem Ca.later (h : Ca w g s n k R e hi mi) (hb : Below w.heap.size w w') : Ca w' g s n k R e hi mi := h.but (S := fun _ => False) (But.of hb) (fun h => h)
/-! ### New -/
def R0 : Nat → List Pl := fun _ => List.replicate 4 fr
theorem zinfo61 : (Try.prog.info? 61).map (fun i => (i.zero, i.size, i.bytes)) = some (some (.agg (ints [0, 0, 0] ++ (plc (List.replicate 64 fr) ++ ints [0, 0, 0])).toArray), 326, 2608) := by kernel_rfl
theorem free_row (r : Nat) (hr : r < 16) (j : Nat) (v : Value) (hv : (plc (List.replicate 4 fr))[j]? = some v) : (plc (List.replicate 64 fr))[r * 20 + j]? = some v := by
  have hj : j < 20 := (List.getElem?_eq_some_iff.1 hv).1
  rw [plc_get] at hv ⊢
  rw [List.getElem?_replicate, if_pos (by omega)] at hv ⊢
  rw [show (r * 20 + j) % 5 = j % 5 by omega]
  exact hv
theorem Ca.new (w : World) (s n k : Nat) (h1 : s ≤ 16) (h2 : 1 ≤ n) (h3 : n ≤ 4) (h4 : k ≤ 64) (Z : Array Value) (hZ : Z = (ints [0, 0, 0] ++ (plc (List.replicate 64 fr) ++ ints [0, 0, 0])).toArray) :
    Ca (w.alloc (.cells (((Z.setIfInBounds 0 (.int .i64 (s : Int))).setIfInBounds 1 (.int .i64 (n : Int))).setIfInBounds 2 (.int .i64 (k : Int))) 61)) w.heap.size s n k R0 0 0 0 := by
  have hs : Z.size = 326 := by rw [hZ]; simp [plc_length, ints]
  have hh := heap_alloc_new w (.cells (((Z.setIfInBounds 0 (.int .i64 (s : Int))).setIfInBounds 1 (.int .i64 (n : Int))).setIfInBounds 2 (.int .i64 (k : Int))) 61)
  have hf : ∀ j, (w.alloc (.cells (((Z.setIfInBounds 0 (.int .i64 (s : Int))).setIfInBounds 1 (.int .i64 (n : Int))).setIfInBounds 2 (.int .i64 (k : Int))) 61)).frozen? ⟨w.heap.size, j, none⟩ = false := fun j => by
    simp only [World.frozen?, hh]
    simp
  have hc : ∀ j, 3 ≤ j → (w.alloc (.cells (((Z.setIfInBounds 0 (.int .i64 (s : Int))).setIfInBounds 1 (.int .i64 (n : Int))).setIfInBounds 2 (.int .i64 (k : Int))) 61)).cell? ⟨w.heap.size, j, none⟩ = Z[j]? := fun j hj => by
    rw [cell_of_row _ _ _ _ _ _ hh, Array.getElem?_setIfInBounds_ne (by omega), Array.getElem?_setIfInBounds_ne (by omega), Array.getElem?_setIfInBounds_ne (by omega)]
  have hl : (plc (List.replicate 64 fr)).length = 320 := by rw [plc_length]; rfl
  have hi3 : (ints [0, 0, 0]).length = 3 := rfl
  have hz : ∀ j, j < 320 → Z[3 + j]? = (plc (List.replicate 64 fr))[j]? := fun j hj => by
    rw [hZ, List.getElem?_toArray, List.getElem?_append_right (by omega), List.getElem?_append_left (by omega), hi3, Nat.add_sub_cancel_left]
  have ht : ∀ j, j < 3 → Z[323 + j]? = (ints [0, 0, 0])[j]? := fun j hj => by
    rw [hZ, List.getElem?_toArray, List.getElem?_append_right (by omega), List.getElem?_append_right (by omega), hi3, hl, show 323 + j - 3 - 320 = j by omega]
  refine ⟨?_, ?_, ?_, fun r hr j v hv => ?_, fun j hj => ⟨?_, hf _⟩, fun r => rfl, ⟨?_, hf _⟩, ⟨?_, hf _⟩, ⟨?_, hf _⟩, h1, h2, h3, h4⟩
  · rw [cell_of_row _ _ _ _ _ _ hh]; simp [hs]
  · rw [cell_of_row _ _ _ _ _ _ hh]; simp [hs]
  · rw [cell_of_row _ _ _ _ _ _ hh]; simp [hs]
  · have hj : j < 20 := (List.getElem?_eq_some_iff.1 hv).1
    rw [hc _ (by omega), Nat.add_assoc, hz _ (by omega)]
    exact free_row r hr j v hv
  · rw [hc _ (by omega)]
    simp [hs]
    omega
  · rw [hc _ (by omega)]; exact ht 0 (by omega)
  · rw [hc _ (by omega)]; exact ht 1 (by omega)
  · rw [hc _ (by omega)]; exact ht 2 (by omega)
set_option maxRecDepth 100000 in
theorem new_ok (s n k : Nat) (w : World) (h1 : s ≤ 16) (h2 : 1 ≤ n) (h3 : n ≤ 4) (h4 : k ≤ 64) :
    Calls Try.prog 6 #[.int .i64 (s : Int), .int .i64 (n : Int), .int .i64 (k : Int)] w fun e w' => ∃ g, e = .returned (.tuple #[.pointer (some ⟨g, 0, none⟩), .int .i64 0]) ∧ Ca w' g s n k R0 0 0 0 ∧ w.heap.size ≤ g ∧ Below w.heap.size w w' := by
  have hz := fun W => zero_of zinfo61 W
  obtain ⟨Z, hZ⟩ : ∃ Z, Z = (ints [0, 0, 0] ++ (plc (List.replicate 64 fr) ++ ints [0, 0, 0])).toArray := ⟨_, rfl⟩
  rw [← hZ] at hz
  have hs : Z.size = 326 := by rw [hZ]; simp [plc_length, ints]
  have hZ0 : (Z = #[]) = False := eq_false (fun h => by rw [h] at hs; simp at hs)
  have HN := hid (Ca.new w s n k h1 h2 h3 h4 Z hZ)
  clear hZ
  have hd1 : decide ((s : Int) < 0) = false := decide_eq_false (by omega)
  have hd2 : decide ((s : Int) > 16) = false := decide_eq_false (by omega)
  have hd3 : decide ((n : Int) < 1) = false := decide_eq_false (by omega)
  have hd4 : decide ((n : Int) > 4) = false := decide_eq_false (by omega)
  have hd5 : decide ((k : Int) < 0) = false := decide_eq_false (by omega)
  have hd6 : decide ((k : Int) > 64) = false := decide_eq_false (by omega)
  clear h1 h2 h3 h4
  go_enter Try.func6, Try.ntmps6
  go_wp2
  exact bodyPost_ret (v := .tuple #[.pointer (some ⟨w.heap.size, 0, none⟩), .int .i64 0]) (by simp [results, Try.results6, go_sem]) rfl ⟨w.heap.size, rfl, HN.out, Nat.le_refl _, below1 _ _⟩
end Go.Proofs.Ythlojdclncikiaa
