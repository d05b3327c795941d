import Derived.Test.YtejkbeeffllpfaaA1
namespace Go.Proofs.Ytejkbeeffllpfaa
open Go.RowKit
set_option linter.unusedVariables false

/-- The program's arena: its box g, its pages' block pb. -/
structure Arn (w : World) (g pb n : Nat) (t : Nat → Bool) (B : Nat → Nat → Nat) : Prop where
  ne : g ≠ pb
  le : n ≤ 256
  head : w.cell? ⟨g, 0, none⟩ = some (.slice (some ⟨pb, 0, none⟩) n n)
  mark : ∀ i, i < 256 → Lies w ⟨g, 1 + i, none⟩ (.bool (t i))
  page : ∀ i j, i < n → j < 64 → Lies w ⟨pb, i * 64 + j, none⟩ (.int .u8 ((B i j : Nat) : Int))
  lt : pb < w.heap.size
  only : ∀ i, t i = true → i < n
  zero : ∀ i j, t i = false → B i j = 0
  small : ∀ i j, B i j < 256
theorem Arn.but {S : Nat → Prop} {w w' : World} {g pb n : Nat} {t : Nat → Bool} {B : Nat → Nat → Nat} (hb : But S w w') (h : Arn w g pb n t B) (h1 : ¬ S g) (h2 : ¬ S pb) : Arn w' g pb n t B :=
  ⟨h.ne, h.le, cell_but hb h.head h1, fun i hi => (h.mark i hi).but hb h1, fun i j hi hj => (h.page i j hi hj).but hb h2, Nat.lt_of_lt_of_le h.lt hb.size, h.only, h.zero, h.small⟩
theorem Arn.later {w w' : World} {g pb n : Nat} {t : Nat → Bool} {B : Nat → Nat → Nat} (hb : Below w.heap.size w w') (h : Arn w g pb n t B) : Arn w' g pb n t B :=
  h.but (S := fun _ => False) (But.of hb) (fun h => h) (fun h => h)
theorem Arn.alloc {w : World} {g pb n : Nat} {t : Nat → Bool} {B : Nat → Nat → Nat} (h : Arn w g pb n t B) (o : Obj) : Arn (w.alloc o) g pb n t B := h.later (below1 _ _)
theorem Arn.glt {w : World} {g pb n : Nat} {t : Nat → Bool} {B : Nat → Nat → Nat} (h : Arn w g pb n t B) : g < w.heap.size := World.block_lt_of_cell? _ _ h.head

theorem info100 : (Try.prog.info? 100).map (fun i => (i.zero, i.size, i.bytes)) = some (some (.agg (#[.slice none 0 0] ++ Array.replicate 256 (.bool false))), 257, 280) := by kernel_rfl
theorem zero_of {t : TypeId} {z : Value} {s b : Nat} (h : (Try.prog.info? t).map (fun i => (i.zero, i.size, i.bytes)) = some (some z, s, b)) (w : World) : (zeroValue t).run Try.prog w = .ok z w := by
  obtain ⟨i, hi, hz0, hz1, hz2⟩ := info_parts h
  simp [zeroValue, typeInfo, hi, hz0]
theorem zero100 : ∃ Z : Array Value, (∀ w, (zeroValue 100).run Try.prog w = .ok (.agg Z) w) ∧ Z.size = 257 ∧ ∀ i, i < 256 → Z[1 + i]? = some (.bool false) :=
  ⟨_, zero_of info100, by simp, fun i hi => by
    rw [Array.getElem?_append_right (by simp)]
    simp [hi]⟩
theorem info104 : (Try.prog.info? 104).map (fun i => (i.zero, i.size, i.bytes)) = some (some (.agg (Array.replicate 64 (.int .u8 0))), 64, 64) := by kernel_rfl
theorem make_pages (w : World) (n : Nat) (hn : n ≤ 256) : ∃ w', (Instr.makeSlice 96 (.int .i64 (n : Int)) (.int .i64 (n : Int))).run Try.prog w = .ok (.slice (some ⟨w.heap.size, 0, none⟩) n n) w' ∧
    (∀ j, j < n * 64 → Lies w' ⟨w.heap.size, j, none⟩ (.int .u8 0)) ∧ w.heap.size < w'.heap.size ∧ Below w.heap.size w w' := by
  obtain ⟨i, hi, hz0, hz1, hz2⟩ := info_parts info104
  obtain ⟨w', hr, ho, hg⟩ := run_make_full (P := Try.prog) w w.heap.size 96 104 i _ 64 Try.underlying96 hi hz0 hz1 .i64 .i64 n (by rw [hz2]; omega) (by unfold maxLen; omega) (Nat.le_refl _)
  rcases ho.2 with ⟨h0, _⟩ | ⟨g, c, cur, hv, hg2, hh, hc, hm, hsz, htk⟩
  · simp at h0
  · simp only [Value.slice.injEq, Option.some.injEq, Addr.mk.injEq] at hv
    obtain ⟨⟨rfl, _⟩, _, rfl⟩ := hv
    refine ⟨w', hr, fun j hj => ⟨?_, by simp [World.frozen?, hh]⟩, (Array.getElem?_eq_some_iff.1 hh).1, (Below.refl _ _).grown hg (Nat.le_refl _) (fun k hk => by cases hk)⟩
    have hq := ho.cells (g := w.heap.size) rfl j (.int .u8 0) (by
      simp only [madeCells, Array.getElem?_toList, Value.cells]
      simp [hj, Nat.mod_lt])
    rwa [addr_add0] at hq
set_option maxRecDepth 100000 in
set_option maxHeartbeats 1000000 in
theorem new_ok (n : Nat) (w : World) (hn : n ≤ 256) :
    Calls Try.prog 22 #[.int .i64 (n : Int)] w fun e w' => ∃ g pb, e = .returned (.tuple #[.pointer (some ⟨g, 0, none⟩), .int .i64 0]) ∧ Arn w' g pb n (fun _ => false) (fun _ _ => 0) ∧ w.heap.size ≤ g ∧ w.heap.size ≤ pb ∧ Below w.heap.size w w' := by
  obtain ⟨w1, hmk, hl, hlt, hb⟩ := make_pages w n hn
  obtain ⟨Z, hz, hZs, hZi⟩ := zero100
  have hZ0 : (Z = #[]) = False := eq_false (fun h => by rw [h] at hZs; simp at hZs)
  have hd1 : decide ((n : Int) < 0) = false := decide_eq_false (by omega)
  have hd2 : decide ((n : Int) > 256) = false := decide_eq_false (by omega)
  have HL : Hid (∀ j, j < n * 64 → Lies w1 ⟨w.heap.size, j, none⟩ (.int .u8 0)) := hl
  have HB : Hid (Below w.heap.size w w1) := hb
  have HZ : Hid (Z.size = 257 ∧ ∀ i, i < 256 → Z[1 + i]? = some (.bool false)) := ⟨hZs, hZi⟩
  clear hl hb hZs hZi
  go_enter Try.func22, Try.ntmps22
  go_wp2
  obtain ⟨hZs, hZi⟩ := HZ.out
  have hb2 := below1 w1 (.cells (Z.setIfInBounds 0 (Value.slice (some ⟨w.heap.size, 0, none⟩) n n)) 100)
  have hh := heap_alloc_new w1 (.cells (Z.setIfInBounds 0 (Value.slice (some ⟨w.heap.size, 0, none⟩) n n)) 100)
  refine bodyPost_ret (v := .tuple #[.pointer (some ⟨w1.heap.size, 0, none⟩), .int .i64 0]) (by simp [results, Try.results22, go_sem]) rfl ⟨_, w.heap.size, rfl, ⟨by omega, hn, ?_, fun i hi => ⟨?_, ?_⟩, fun i j hi hj => ?_, (by simp; omega), fun _ h => (by cases h), fun _ _ _ => rfl, fun _ _ => (by omega)⟩, by omega, Nat.le_refl _, below_call HB.out hb2⟩
  · rw [cell_of_row _ _ _ _ _ _ hh]
    simp [hZs]
  · rw [cell_of_row _ _ _ _ _ _ hh, Array.getElem?_setIfInBounds_ne (by omega)]
    exact hZi i hi
  · simp only [World.frozen?, hh]
    simp
  · exact (HL.out (i * 64 + j) (by omega)).later hb2
set_option maxRecDepth 100000 in
set_option maxHeartbeats 1000000 in
theorem new_bad (n : Int) (w : World) (hn : n < 0 ∨ 256 < n) :
    Calls Try.prog 22 #[.int .i64 n] w fun e w' => e = .returned (.tuple #[.pointer none, .int .i64 16]) ∧ w' = w := by
  by_cases h0 : n < 0
  · have hd1 : decide (n < 0) = true := decide_eq_true h0
    go_enter Try.func22, Try.ntmps22
    go_wp2
    exact bodyPost_ret (v := .tuple #[.pointer none, .int .i64 16]) (by simp [results, Try.results22, go_sem]) rfl ⟨rfl, rfl⟩
  · have hd1 : decide (n < 0) = false := decide_eq_false h0
    have hd2 : decide (n > 256) = true := decide_eq_true (by omega)
    go_enter Try.func22, Try.ntmps22
    go_wp2
    exact bodyPost_ret (v := .tuple #[.pointer none, .int .i64 16]) (by simp [results, Try.results22, go_sem]) rfl ⟨rfl, rfl⟩
/-- Is there such a page? -/
def thr (n : Nat) (p : Int) : Bool := decide (0 ≤ p ∧ p < (n : Int))
set_option maxRecDepth 100000 in
set_option maxHeartbeats 1000000 in
theorem there_any (g pb n : Nat) (p : Int) (w : World) (x : w.cell? ⟨g, 0, none⟩ = some (.slice (some ⟨pb, 0, none⟩) n n)) :
    Calls Try.prog 50 #[.pointer (some ⟨g, 0, none⟩), .int .i64 p] w fun e w' => e = .returned (.bool (thr n p)) ∧ w' = w := by
  unfold thr
  by_cases h0 : 0 ≤ p
  · have hd : decide (0 ≤ p ∧ p < (n : Int)) = decide (p < (n : Int)) := by simp [h0]
    have hg : decide (p ≥ 0) = true := decide_eq_true h0
    go_enter Try.func50, Try.ntmps50
    go_wp2
    go_ret
    exact ⟨ret_bool hd.symm, rfl⟩
  · have hd : decide (0 ≤ p ∧ p < (n : Int)) = false := by simp [h0]
    have hg : decide (p ≥ 0) = false := decide_eq_false h0
    go_enter Try.func50, Try.ntmps50
    go_wp2
    go_ret
    exact ⟨rfl, rfl⟩
end Go.Proofs.Ytejkbeeffllpfaa
