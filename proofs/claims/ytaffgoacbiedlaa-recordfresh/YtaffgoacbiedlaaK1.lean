import Derived.Test.YtaffgoacbiedlaaA5
import Derived.Test.YtaffgoacbiedlaaHA
namespace Go.Proofs.Ytaffgoacbiedlaa
open Go.RowKit
set_option linter.unusedVariables false
set_option linter.unusedSimpArgs false

theorem p8 (v : Nat) (hv : v < 256) (w : World) : Calls Try.prog 59 #[.slice none 0 0, .int .u8 (v : Int)] w fun e w' => ∃ a c, e = .returned (.slice a 1 c) ∧ Own w' w.heap.size a 1 c (leL v 1) ∧ Below w.heap.size w w' := by
  refine (put8 none 0 0 [] v w hv (row_nil w) (by omega)).mono ?_
  rintro e w' ⟨a, c, rfl, h, hb⟩
  exact ⟨a, c, rfl, h, hb⟩
theorem p16 (v : Nat) (hv : v < 65536) (w : World) : Calls Try.prog 46 #[.slice none 0 0, .int .u16 (v : Int)] w fun e w' => ∃ a c, e = .returned (.slice a 2 c) ∧ Own w' w.heap.size a 2 c (leL v 2) ∧ Below w.heap.size w w' := by
  refine (put16 none 0 0 [] v w hv (row_nil w) (by omega)).mono ?_
  rintro e w' ⟨a, c, rfl, h, hb⟩
  exact ⟨a, c, rfl, h, hb⟩
theorem p32 (v : Nat) (hv : v < 4294967296) (w : World) : Calls Try.prog 98 #[.slice none 0 0, .int .u32 (v : Int)] w fun e w' => ∃ a c, e = .returned (.slice a 4 c) ∧ Own w' w.heap.size a 4 c (leL v 4) ∧ Below w.heap.size w w' := by
  refine (put32 none 0 0 [] v w hv (row_nil w) (by omega)).mono ?_
  rintro e w' ⟨a, c, rfl, h, hb⟩
  exact ⟨a, c, rfl, h, hb⟩
theorem p64 (v : Nat) (hv : v < 18446744073709551616) (w : World) : Calls Try.prog 83 #[.slice none 0 0, .int .u64 (v : Int)] w fun e w' => ∃ a c, e = .returned (.slice a 8 c) ∧ Own w' w.heap.size a 8 c (leL v 8) ∧ Below w.heap.size w w' := by
  refine (put64 none 0 0 [] v w hv (row_nil w) (by omega)).mono ?_
  rintro e w' ⟨a, c, rfl, h, hb⟩
  exact ⟨a, c, rfl, h, hb⟩
set_option maxRecDepth 100000 in
set_option maxHeartbeats 1000000 in
theorem laySigned_any (n : Int) (w : World) : Calls Try.prog 82 #[.int .i64 n] w fun e w' => ∃ a c, e = .returned (.slice a 4 c) ∧ Own w' w.heap.size a 4 c (leL (sg n) 4) ∧ Below w.heap.size w w' := by
  have e1 : IntKind.u32.wrap n = (sg n : Int) := by rw [IntKind.wrap_u32]; unfold sg; omega
  have hv := sg_lt n
  generalize sg n = v at e1 hv ⊢
  have H := hid hv
  clear hv
  go_enter Try.func82, Try.ntmps82
  go_wp2_with (first | (go_at_call 98; refine (p32 v H.out _).mono ?_; rintro e w1 ⟨a, c, rfl, h, hb⟩))
  go_ret
  exact ⟨_, _, rfl, h, hb⟩
set_option maxRecDepth 100000 in
set_option maxHeartbeats 1000000 in
theorem layFlag_any (y : Bool) (w : World) : Calls Try.prog 85 #[.bool y] w fun e w' => ∃ a c, e = .returned (.slice a 1 c) ∧ Own w' w.heap.size a 1 c (leL (if y then 1 else 0) 1) ∧ Below w.heap.size w w' := by
  cases y with
  | true =>
    go_enter Try.func85, Try.ntmps85
    go_wp2_with (first | (go_at_call 59; refine (p8 1 (by omega) _).mono ?_; rintro e w1 ⟨a, c, rfl, hwn, hb⟩))
    go_ret
    exact ⟨_, _, rfl, hwn, hb⟩
  | false =>
    go_enter Try.func85, Try.ntmps85
    go_wp2_with (first | (go_at_call 59; refine (p8 0 (by omega) _).mono ?_; rintro e w1 ⟨a, c, rfl, hwn, hb⟩))
    go_ret
    exact ⟨_, _, rfl, hwn, hb⟩
theorem bytesOf_leL (hi lo : Nat) (h1 : hi < 18446744073709551616) (h2 : lo < 18446744073709551616) : W.bytesOf (hi * B64 + lo) = leL lo 8 ++ leL hi 8 := by
  have key : ∀ (a b : Nat), leL (a + 256 ^ 8 * b) 16 = leL a 8 ++ leL b 8 ∨ 256 ^ 8 ≤ a := by
    intro a b
    by_cases ha : a < 256 ^ 8
    · left
      have e : ∀ v, leL v 16 = leL v 8 ++ leL (v / 256 ^ 8) 8 := by
        intro v
        simp only [leL, List.range_succ, List.range_zero, List.map_append, List.map_nil, List.map_cons, List.nil_append, List.cons_append, Nat.div_div_eq_div_mul, ← Nat.pow_add]
      rw [e, Nat.add_mul_div_left _ _ (by decide), Nat.div_eq_of_lt ha, Nat.zero_add, ← leL_mod _ 8 8 (Nat.le_refl _), Nat.add_mul_mod_self_left, leL_mod _ 8 8 (Nat.le_refl _)]
    · right; omega
  rcases key lo hi with h | h
  · rw [← h]
    unfold W.bytesOf leL
    have : hi * B64 + lo = lo + 256 ^ 8 * hi := by unfold B64; omega
    rw [this]
    rfl
  · omega
theorem wideBytes_any (hi lo : Nat) (w : World) (h1 : hi < 18446744073709551616) (h2 : lo < 18446744073709551616) :
    Calls Try.prog 84 #[.agg #[.int .u64 (hi : Int), .int .u64 (lo : Int)]] w fun e w' => ∃ a c, e = .returned (.slice a 16 c) ∧ Own w' w.heap.size a 16 c (leL lo 8 ++ leL hi 8) ∧ Below w.heap.size w w' := by
  refine (W.bytes_any hi lo (hi * B64 + lo) w ⟨hi, lo, rfl, rfl, ⟨h1, h2, rfl⟩⟩).mono ?_
  rintro e w' ⟨g, rfl, hg, hh, hb⟩
  rw [bytesOf_leL hi lo h1 h2] at hh
  have hs : ∀ x ∈ leL lo 8 ++ leL hi 8, x < 256 := fun x hx => by
    rcases List.mem_append.1 hx with h | h
    · exact leL_small _ _ x h
    · exact leL_small _ _ x h
  exact ⟨_, _, rfl, ⟨⟨by simp [u8s, leL_length], .inr ⟨g, 16, _, rfl, hg, hh, by omega, by unfold maxLen; omega, by simp [u8s, leL_length], List.take_of_length_le (by simp [u8s, leL_length])⟩⟩, hs⟩, hb⟩
end Go.Proofs.Ytaffgoacbiedlaa
