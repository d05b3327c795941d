import Derived.Test.YtcafmhlnfkgegaaW1
namespace Go.Proofs.Ytcafmhlnfkgegaa
open Go.RowKit

theorem wrap_fits {b : Nat} (h : b + 1 < B64) : IntKind.u64.wrap ((b : Int) + 1) = (b : Int) + 1 := by
  rw [IntKind.wrap_u64]; unfold B64 at h; omega
theorem wrap_turns {b : Nat} (h : b + 1 = B64) : IntKind.u64.wrap ((b : Int) + 1) = 0 := by
  rw [IntKind.wrap_u64]; unfold B64 at h; omega

set_option maxHeartbeats 400000 in
theorem oneMore_any (a b : Int) (N : Nat) (w : World) (h : IsV a b N) :
    Calls Try.prog 26 #[.agg #[.int .u64 a, .int .u64 b]] w fun e w' => ∃ c d : Int, e = .returned (.agg #[.int .u64 c, .int .u64 d]) ∧ IsV c d (succN N) ∧ Below w.heap.size w w' := by
  obtain ⟨a, b, rfl, rfl, h⟩ := h
  have hal := h.ha
  have hbl := h.hb
  by_cases h1 : b + 1 < B64
  · have hw := wrap_fits h1
    have hv := IsV.of (succ_lo h h1)
    have hne : ((b : Int) + 1 == 0) = false := by simp; omega
    clear h hal hbl h1
    go_enter Try.func26, Try.ntmps26
    go_wp2
    exact bodyPost_ret (v := .agg #[.int .u64 a, .int .u64 (b + 1)]) (by simp [results, Try.results26, go_sem]) rfl ⟨a, b + 1, rfl, by simpa using hv, below2 _ _ _⟩
  · have hb1 : b + 1 = B64 := by omega
    have hw := wrap_turns hb1
    by_cases h2 : a + 1 < B64
    · have hw2 := wrap_fits h2
      have hv := IsV.of (succ_hi h hb1 h2)
      clear h hal hbl h1 hb1 h2
      go_enter Try.func26, Try.ntmps26
      go_wp2
      exact bodyPost_ret (v := .agg #[.int .u64 (a + 1), .int .u64 0]) (by simp [results, Try.results26, go_sem]) rfl ⟨a + 1, 0, rfl, by simpa using hv, below2 _ _ _⟩
    · have ha1 : a + 1 = B64 := by omega
      have hw2 := wrap_turns ha1
      have hv := IsV.of (succ_top h hb1 ha1)
      clear h hal hbl h1 hb1 h2 ha1
      go_enter Try.func26, Try.ntmps26
      go_wp2
      exact bodyPost_ret (v := .agg #[.int .u64 0, .int .u64 0]) (by simp [results, Try.results26, go_sem]) rfl ⟨0, 0, rfl, by simpa using hv, below2 _ _ _⟩

/-- The cell p holds v and may be written. -/
def Lies (w : World) (p : Addr) (v : Value) : Prop := w.cell? p = some v ∧ w.frozen? p = false
theorem Lies.later {W w1 : World} {p : Addr} {v : Value} (hb : Below W.heap.size W w1) (h : Lies W p v) : Lies w1 p v :=
  ⟨cell_later hb h.1, by rw [hb.frozen (World.block_lt_of_cell? _ _ h.1)]; exact h.2⟩
theorem Lies.alloc {w : World} {p : Addr} {v : Value} (h : Lies w p v) (o : Obj) : Lies (w.alloc o) p v := h.later (below1 _ _)

theorem next_zero {N : Nat} {width c d : Int} (h : IsV c d (succN N)) (hz : wEq c d 0 0 = true) : nextB N width = false ∧ nextN N width = 0 := by
  have hq := wEq_of h IsV.zero
  have e : nextB N width = false := by unfold nextB; rw [← hq, hz]; simp
  exact ⟨e, by unfold nextN; rw [e]; simp⟩
theorem next_none {N : Nat} {width : Int} (hf : fitsB (succN N) width = false) : nextB N width = false ∧ nextN N width = 0 := by
  have e : nextB N width = false := by unfold nextB; rw [hf]; simp
  exact ⟨e, by unfold nextN; rw [e]; simp⟩
theorem next_yes {N : Nat} {width c d : Int} (h : IsV c d (succN N)) (hf : fitsB (succN N) width = true) (hz : wEq c d 0 0 = false) : nextB N width = true ∧ nextN N width = succN N := by
  have hq := wEq_of h IsV.zero
  have e : nextB N width = true := by unfold nextB; rw [← hq, hz, hf]; simp
  exact ⟨e, by unfold nextN; rw [e]; simp⟩

set_option maxHeartbeats 1000000 in
theorem next_any (a b : Int) (N : Nat) (width : Int) (w : World) (h : IsV a b N) :
    Calls Try.prog 11 #[.agg #[.int .u64 a, .int .u64 b], .int .i64 width] w fun e w' => ∃ c d : Int, e = .returned (.tuple #[.agg #[.int .u64 c, .int .u64 d], .bool (nextB N width)]) ∧ IsV c d (nextN N width) ∧ Below w.heap.size w w' := by
  have heq := eqlW
  go_enter Try.func11, Try.ntmps11
  go_wp2_with (first | (go_at_call 26; refine (oneMore_any _ _ _ _ h).mono ?_; rintro e w1 ⟨c, d, rfl, hcd, hb⟩; have A0 : Lies w1 ⟨w.heap.size + 1, 0, none⟩ (.int .u64 0) := Lies.later hb ⟨(by simp [go_sem]), (by simp [go_sem])⟩; have A1 : Lies w1 ⟨w.heap.size + 1, 1, none⟩ (.int .u64 0) := Lies.later hb ⟨(by simp [go_sem]), (by simp [go_sem])⟩) | (go_at_call 10; refine (fits_any _ _ _ _ _ hcd).mono ?_; rintro e w2 ⟨rfl, hb2⟩; obtain ⟨s0, f0⟩ := Lies.later hb2 (A0.alloc _); obtain ⟨s1, f1⟩ := Lies.later hb2 (A1.alloc _); have s2 : w2.cell? ⟨w1.heap.size, 0, none⟩ = some (.int .u64 c) := cell_later hb2 (by simp [go_sem]); have s3 : w2.cell? ⟨w1.heap.size, 1, none⟩ = some (.int .u64 d) := cell_later hb2 (by simp [go_sem]); clear A0 A1))
  · obtain ⟨e1, e2⟩ := next_zero (width := width) hcd ‹_›
    rw [e1, e2]
    exact bodyPost_ret (v := .tuple #[.agg #[.int .u64 0, .int .u64 0], .bool false]) (by simp [results, Try.results11, go_sem, s0, s1]) rfl ⟨0, 0, rfl, IsV.zero, ((below_call (Below.alloc (below_call (below2 _ _ _) hb) (below_call (below2 _ _ _) hb).size _) hb2).setCell (by simp) _).setCell (by simp) _⟩
  · obtain ⟨e1, e2⟩ := next_yes hcd ‹_› ‹_›
    rw [e1, e2]
    exact bodyPost_ret (v := .tuple #[.agg #[.int .u64 c, .int .u64 d], .bool true]) (by simp [results, Try.results11, go_sem, s0, s1]) rfl ⟨c, d, rfl, hcd, ((below_call (Below.alloc (below_call (below2 _ _ _) hb) (below_call (below2 _ _ _) hb).size _) hb2).setCell (by simp) _).setCell (by simp) _⟩
  · obtain ⟨e1, e2⟩ := next_none (Bool.eq_false_iff.2 ‹¬fitsB (succN N) width = true›)
    rw [e1, e2]
    exact bodyPost_ret (v := .tuple #[.agg #[.int .u64 0, .int .u64 0], .bool false]) (by simp [results, Try.results11, go_sem, s0, s1]) rfl ⟨0, 0, rfl, IsV.zero, ((below_call (Below.alloc (below_call (below2 _ _ _) hb) (below_call (below2 _ _ _) hb).size _) hb2).setCell (by simp) _).setCell (by simp) _⟩
end Go.Proofs.Ytcafmhlnfkgegaa
