import Derived.Test.YtcafmhlnfkgegaaW2
namespace Go.Proofs.Ytcafmhlnfkgegaa
open Go.RowKit
/-- The k lowest bytes of h, laid from the cell o of the block g on. -/
def lay8 (w : World) (g o h : Nat) : Nat → World
  | 0 => w
  | k + 1 => (lay8 w g o h k).setCell ⟨g, o + k, none⟩ (.int .u8 ((h : Int) / 2 ^ (8 * k) % 256))

theorem Lies.setCell {w : World} {p q : Addr} {u v : Value} (h : Lies w p v) : ∃ v', Lies (w.setCell q u) p v' := by
  obtain ⟨v', hv'⟩ := cell?_setCell_some (w := w) (p := q) (x := u) (q := p) (v := v) h.1
  exact ⟨v', hv', by rw [World.frozen?_setCell]; exact h.2⟩
theorem lies_lay8 {w : World} {g o h : Nat} (hc : ∀ i, i < 8 → ∃ v, Lies w ⟨g, o + i, none⟩ v) (k : Nat) : ∀ i, i < 8 → ∃ v, Lies (lay8 w g o h k) ⟨g, o + i, none⟩ v := by
  induction k with
  | zero => exact hc
  | succ k ih =>
    intro i hi
    obtain ⟨v, hv⟩ := ih i hi
    exact hv.setCell

set_option maxHeartbeats 400000 in
theorem layHalf_any (g o len cap h : Nat) (w : World) (hl : 8 ≤ len) (hc : ∀ i, i < 8 → ∃ v, Lies w ⟨g, o + i, none⟩ v) :
    Calls Try.prog 27 #[.slice (some ⟨g, o, none⟩) len cap, .int .u64 (h : Int)] w fun e w' => e = .returned (.tuple #[]) ∧ w' = lay8 w g o h 8 := by
  have HC : Hid (∀ i, i < 8 → ∃ v, Lies w ⟨g, o + i, none⟩ v) := hc
  clear hc
  go_enter Try.func27, Try.ntmps27
  go_wp2
  go_loopw [5] (fun i w' => ∃ k : Nat, k ≤ 8 ∧ i = .int .i64 k ∧ w' = lay8 w g o h k) (fun i _ => 8 - (intOf i).toNat)
  case atStart => exact ⟨0, by omega, rfl, rfl⟩
  case round =>
    obtain ⟨k, hk, rfl, rfl⟩ := hrel
    by_cases hlt : k < 8
    · obtain ⟨v, c0, f0⟩ := lies_lay8 (h := h) HC.out k k hlt
      have hlen : (k : Int) < (len : Int) := by omega
      go_wp2
      refine ⟨⟨k + 1, by omega, by go_num, rfl⟩, by simp [intOf]; omega⟩
    · go_wp2
      go_end0
      obtain rfl : k = 8 := by omega
      exact ⟨rfl, rfl⟩
def zero16 : Array Value := Array.replicate 16 (.int .u8 0)
theorem make16 (w : World) : (Instr.makeSlice 32 (.int .i64 16) (.int .i64 16)).run Try.prog w = .ok (.slice (some ⟨w.heap.size, 0, none⟩) 16 16) (w.alloc (.cells zero16 5)) := by kernel_rfl
theorem zero16_at {i : Nat} (h : i < 16) : zero16[i]? = some (.int .u8 0) := by
  simp [zero16, h]
theorem lies_new {w : World} {c : Array Value} {t : TypeId} {i : Nat} {v : Value} (h : c[i]? = some v) : Lies (w.alloc (.cells c t)) ⟨w.heap.size, i, none⟩ v :=
  ⟨by simp [go_sem, h], by simp [go_sem]⟩
theorem Lies.drew {w : World} {p : Addr} {v : Value} (h : Lies w p v) : Lies w.drew p v := h
theorem lay8_other {w : World} {g o h : Nat} {p : Addr} (hp : p.block ≠ g) : ∀ k, (lay8 w g o h k).cell? p = w.cell? p
  | 0 => rfl
  | k + 1 => by
    show ((lay8 w g o h k).setCell _ _).cell? p = _
    rw [World.cell?_setCell_other _ _ _ _ (fun e => hp (by rw [← e]))]
    exact lay8_other hp k
theorem lies_lay (w : World) (g o h : Nat) {p : Addr} {v : Value} (hp : Lies w p v) : ∀ k, ∃ v', Lies (lay8 w g o h k) p v'
  | 0 => ⟨v, hp⟩
  | k + 1 => by
    obtain ⟨v', hv'⟩ := lies_lay w g o h hp k
    exact hv'.setCell
theorem lies_zero (w : World) (A : Obj) (i : Nat) (h : i < 16) : Lies ((w.alloc A).alloc (.cells zero16 5)) ⟨w.heap.size + 1, i, none⟩ (.int .u8 0) := by
  have := lies_new (w := w.alloc A) (t := 5) (zero16_at h)
  simpa using this
set_option maxHeartbeats 400000 in
theorem bytes_raw (a b : Nat) (w : World) :
    Calls Try.prog 12 #[.agg #[.int .u64 (a : Int), .int .u64 (b : Int)]] w fun e w' => e = .returned (.slice (some ⟨w.heap.size + 1, 0, none⟩) 16 16) ∧
      w' = lay8 (lay8 ((w.alloc (Obj.cells #[Value.int IntKind.u64 a, Value.int IntKind.u64 b] 24)).alloc (.cells zero16 5)).drew (w.heap.size + 1) 0 b 8).drew (w.heap.size + 1) 8 a 8 := by
  have hmk := make16
  have h1 : Hid (∀ i, i < 8 → ∃ v, Lies (((w.alloc (Obj.cells #[Value.int IntKind.u64 a, Value.int IntKind.u64 b] 24)).alloc (.cells zero16 5)).drew) ⟨w.heap.size + 1, 0 + i, none⟩ v) := fun i hi => ⟨_, (lies_zero w _ _ (by omega)).drew⟩
  have h2 : Hid (∀ i, i < 8 → ∃ v, Lies ((lay8 ((w.alloc (Obj.cells #[Value.int IntKind.u64 a, Value.int IntKind.u64 b] 24)).alloc (.cells zero16 5)).drew (w.heap.size + 1) 0 b 8).drew) ⟨w.heap.size + 1, 8 + i, none⟩ v) := fun i hi => by
    obtain ⟨v, hv⟩ := lies_lay _ (w.heap.size + 1) 0 b (lies_zero w (Obj.cells #[Value.int IntKind.u64 a, Value.int IntKind.u64 b] 24) (8 + i) (by omega)).drew 8
    exact ⟨v, hv.drew⟩
  have h3 : (lay8 ((w.alloc (Obj.cells #[Value.int IntKind.u64 a, Value.int IntKind.u64 b] 24)).alloc (.cells zero16 5)).drew (w.heap.size + 1) 0 b 8).cell? ⟨w.heap.size, 0, none⟩ = some (.int .u64 a) := by
    rw [lay8_other (by simp)]; simp [go_sem]
  go_enter Try.func12, Try.ntmps12
  go_wp2
  go_region_with (first | (go_at_call 27; refine (layHalf_any _ _ _ _ b _ (by omega) h1.out).mono ?_; rintro e w1 ⟨rfl, rfl⟩))
  go_wp2
  go_region_with (first | (go_at_call 27; refine (layHalf_any _ _ _ _ a _ (by omega) h2.out).mono ?_; rintro e w1 ⟨rfl, rfl⟩))
  go_wp2
  go_ret
  exact ⟨rfl, rfl⟩
end Go.Proofs.Ytcafmhlnfkgegaa
