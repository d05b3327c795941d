import Derived.Test.YtcafmhlnfkgegaaW5
namespace Go.Proofs.Ytcafmhlnfkgegaa
open Go.RowKit
def kindI (c : Nat) : Int := if c = 48 then 1 else if 49 ≤ c ∧ c ≤ 57 then 2 else if 97 ≤ c ∧ c ≤ 102 then 3 else 0
def digitV (c : Nat) : Nat := if 48 ≤ c ∧ c ≤ 57 then c - 48 else if 97 ≤ c ∧ c ≤ 102 then c - 87 else 0

set_option maxHeartbeats 400000 in
theorem kindOf_any (c : Nat) (w : World) :
    Calls Try.prog 29 #[.int .u8 (c : Int)] w fun e w' => e = .returned (.int .i64 (kindI c)) ∧ w' = w := by
  by_cases h0 : c = 48
  · subst h0
    go_enter Try.func29, Try.ntmps29
    go_wp2
    go_ret
    exact ⟨rfl, rfl⟩
  · have b0 : ((c : Int) == 48) = false := by simp; omega
    by_cases h1 : 49 ≤ c
    · by_cases h2 : c ≤ 57
      · have hk : kindI c = 2 := by unfold kindI; rw [if_neg h0, if_pos ⟨h1, h2⟩]
        rw [hk]; clear hk
        go_enter Try.func29, Try.ntmps29
        go_wp2
        go_ret
        exact ⟨rfl, rfl⟩
      · by_cases h3 : 97 ≤ c
        · by_cases h4 : c ≤ 102
          · have hk : kindI c = 3 := by unfold kindI; rw [if_neg h0, if_neg (by omega), if_pos ⟨h3, h4⟩]
            rw [hk]; clear hk
            go_enter Try.func29, Try.ntmps29
            go_wp2
            go_ret
            exact ⟨rfl, rfl⟩
          · have hk : kindI c = 0 := by unfold kindI; rw [if_neg h0, if_neg (by omega), if_neg (by omega)]
            rw [hk]; clear hk
            go_enter Try.func29, Try.ntmps29
            go_wp2
            go_ret
            exact ⟨rfl, rfl⟩
        · have hk : kindI c = 0 := by unfold kindI; rw [if_neg h0, if_neg (by omega), if_neg (by omega)]
          rw [hk]; clear hk
          go_enter Try.func29, Try.ntmps29
          go_wp2
          go_ret
          exact ⟨rfl, rfl⟩
    · have hk : kindI c = 0 := by unfold kindI; rw [if_neg h0, if_neg (by omega), if_neg (by omega)]
      rw [hk]; clear hk
      have h3 : ¬ 97 ≤ c := by omega
      go_enter Try.func29, Try.ntmps29
      go_wp2
      go_ret
      exact ⟨rfl, rfl⟩

set_option maxHeartbeats 400000 in
theorem valueOf_any (c : Nat) (w : World) (hc : c < 256) :
    Calls Try.prog 31 #[.int .u8 (c : Int), .int .i64 (kindI c)] w fun e w' => e = .returned (.int .u64 (digitV c : Int)) ∧ w' = w := by
  by_cases h1 : 49 ≤ c ∧ c ≤ 57
  · have hk : kindI c = 2 := by unfold kindI; rw [if_neg (by omega), if_pos h1]
    have hd : digitV c = c - 48 := by unfold digitV; rw [if_pos (by omega)]
    rw [hk, hd]; clear hk hd
    go_enter Try.func31, Try.ntmps31
    go_wp2
    go_ret
    exact ⟨ret_int (by omega), rfl⟩
  · by_cases h2 : 97 ≤ c ∧ c ≤ 102
    · have hk : kindI c = 3 := by unfold kindI; rw [if_neg (by omega), if_neg (by omega), if_pos h2]
      have hd : digitV c = c - 87 := by unfold digitV; rw [if_neg (by omega), if_pos (by omega)]
      rw [hk, hd]; clear hk hd
      go_enter Try.func31, Try.ntmps31
      go_wp2
      go_ret
      exact ⟨ret_int (by omega), rfl⟩
    · have hk : (kindI c == 2) = false := by unfold kindI; repeat (first | rw [if_neg (by omega)] | split <;> simp)
      have hk2 : (kindI c == 3) = false := by unfold kindI; repeat (first | rw [if_neg (by omega)] | split <;> simp)
      have hd : digitV c = 0 := by unfold digitV; split <;> (try split) <;> omega
      rw [hd]; clear hd
      go_enter Try.func31, Try.ntmps31
      go_wp2
      go_ret
      exact ⟨rfl, rfl⟩

theorem or_hi {a b : Nat} (hb : b < B64) : bits BinOp.or IntKind.u64 (IntKind.u64.wrap ((a : Int) * 16)) ((b : Int) / 1152921504606846976) = ((a * 16 % B64 + b / 1152921504606846976 : Nat) : Int) := by
  have e1 : IntKind.u64.wrap ((a : Int) * 16) = ((a * 16 % B64 : Nat) : Int) := by
    rw [IntKind.wrap_u64]; unfold B64; omega
  have e2 : ((b : Int) / 1152921504606846976) = ((b / 1152921504606846976 : Nat) : Int) := by omega
  rw [e1, e2]
  unfold B64 at *
  rw [u64_or_nat _ _ (by omega) (by omega), nat_join 4 _ _ (by omega) (by omega)]
theorem or_lo {b v : Nat} (hv : v < 16) : bits BinOp.or IntKind.u64 (IntKind.u64.wrap ((b : Int) * 16)) (v : Int) = ((b * 16 % B64 + v : Nat) : Int) := by
  have e1 : IntKind.u64.wrap ((b : Int) * 16) = ((b * 16 % B64 : Nat) : Int) := by
    rw [IntKind.wrap_u64]; unfold B64; omega
  rw [e1]
  unfold B64 at *
  rw [u64_or_nat _ _ (by omega) (by omega), nat_join 4 _ _ (by omega) (by omega)]
theorem digit_word {a b N v : Nat} (h : IsW a b N) (hv : v < 16) : IsW (a * 16 % B64 + b / 1152921504606846976) (b * 16 % B64 + v) ((N * 16 + v) % (B64 * B64)) := by
  obtain ⟨ha, hb, rfl⟩ := h
  unfold B64 at *
  exact ⟨by unfold B64; omega, by unfold B64; omega, by unfold B64; omega⟩
theorem or_down {a b : Nat} (hb : b < B64) : bits BinOp.or IntKind.u64 ((b : Int) / 16) (IntKind.u64.wrap ((a : Int) * 1152921504606846976)) = ((b / 16 + a * 1152921504606846976 % B64 : Nat) : Int) := by
  have e1 : IntKind.u64.wrap ((a : Int) * 1152921504606846976) = ((a * 1152921504606846976 % B64 : Nat) : Int) := by
    rw [IntKind.wrap_u64]; unfold B64; omega
  have e2 : ((b : Int) / 16) = ((b / 16 : Nat) : Int) := by omega
  rw [e1, e2]
  unfold B64 at *
  rw [u64_or_nat _ _ (by omega) (by omega), Nat.or_comm, nat_join 60 _ _ (by omega) (by omega), Nat.add_comm]
theorem down_word {a b N : Nat} (h : IsW a b N) : IsW (a / 16) (b / 16 + a * 1152921504606846976 % B64) (N / 16) := by
  obtain ⟨ha, hb, rfl⟩ := h
  unfold B64 at *
  exact ⟨by unfold B64; omega, by unfold B64; omega, by unfold B64; omega⟩
/-- The sign of a digit. -/
def hexC (d : Nat) : Nat := if d < 10 then 48 + d else 87 + d
theorem hex_all : ∀ i : Fin 16, (({ data := #[48, 49, 50, 51, 52, 53, 54, 55, 56, 57, 97, 98, 99, 100, 101, 102] } : ByteArray)[i.val]'i.isLt).toNat = hexC i.val := by decide
theorem hex_at (i : Nat) (h : i < 16) (hb : i < ({ data := #[48, 49, 50, 51, 52, 53, 54, 55, 56, 57, 97, 98, 99, 100, 101, 102] } : ByteArray).size) : ((({ data := #[48, 49, 50, 51, 52, 53, 54, 55, 56, 57, 97, 98, 99, 100, 101, 102] } : ByteArray)[i]'hb).toNat : Int) = (hexC i : Int) := by
  have := hex_all ⟨i, h⟩
  exact congrArg Int.ofNat this

set_option maxHeartbeats 400000 in
theorem withDigit_any (a b : Int) (N v : Nat) (w : World) (h : IsV a b N) (hv : v < 16) :
    Calls Try.prog 30 #[.agg #[.int .u64 a, .int .u64 b], .int .u64 (v : Int)] w fun e w' => ∃ c d : Int, e = .returned (.agg #[.int .u64 c, .int .u64 d]) ∧ IsV c d ((N * 16 + v) % (B64 * B64)) ∧ Below w.heap.size w w' := by
  obtain ⟨a, b, rfl, rfl, h⟩ := h
  have o1 := or_hi (a := a) h.hb
  have o2 := or_lo (b := b) hv
  have hd := IsV.of (digit_word h hv)
  rw [← o1, ← o2] at hd
  clear h o1 o2
  go_enter Try.func30, Try.ntmps30
  go_wp2
  exact bodyPost_ret (v := .agg #[.int .u64 (bits BinOp.or IntKind.u64 (IntKind.u64.wrap ((a : Int) * 16)) ((b : Int) / 1152921504606846976)), .int .u64 (bits BinOp.or IntKind.u64 (IntKind.u64.wrap ((b : Int) * 16)) (v : Int))]) (by simp [results, Try.results30, go_sem]) rfl ⟨_, _, rfl, hd, below2 _ _ _⟩

set_option maxHeartbeats 400000 in
theorem withoutLast_any (a b : Int) (N : Nat) (w : World) (h : IsV a b N) :
    Calls Try.prog 33 #[.agg #[.int .u64 a, .int .u64 b]] w fun e w' => ∃ c d : Int, e = .returned (.agg #[.int .u64 c, .int .u64 d]) ∧ IsV c d (N / 16) ∧ Below w.heap.size w w' := by
  obtain ⟨a, b, rfl, rfl, h⟩ := h
  have o1 := or_down (a := a) h.hb
  have hd := IsV.of (down_word h)
  rw [← o1] at hd
  have e1 : ((a / 16 : Nat) : Int) = (a : Int) / 16 := by omega
  rw [e1] at hd
  clear h o1 e1
  go_enter Try.func33, Try.ntmps33
  go_wp2
  exact bodyPost_ret (v := .agg #[.int .u64 ((a : Int) / 16), .int .u64 (bits BinOp.or IntKind.u64 ((b : Int) / 16) (IntKind.u64.wrap ((a : Int) * 1152921504606846976)))]) (by simp [results, Try.results33, go_sem]) rfl ⟨_, _, rfl, hd, below2 _ _ _⟩

theorem word_mod16 {a b N : Nat} (h : IsW a b N) : N % 16 = b % 16 := by
  obtain ⟨ha, hb, rfl⟩ := h
  unfold B64
  omega
set_option maxHeartbeats 400000 in
theorem lastDigit_any (a b : Int) (N : Nat) (w : World) (h : IsV a b N) :
    Calls Try.prog 32 #[.agg #[.int .u64 a, .int .u64 b]] w fun e w' => e = .returned (.int .u8 (hexC (N % 16) : Int)) ∧ Below w.heap.size w w' := by
  obtain ⟨a, b, rfl, rfl, h⟩ := h
  have hh := h.hb
  rw [word_mod16 h]
  clear h
  go_enter Try.func32, Try.ntmps32
  go_wp2_with (first | (go_at_call 25; refine (low_any b 4 _ hh (by omega) (by omega)).mono ?_; rintro e w' ⟨rfl, rfl⟩))
  go_ret
  exact ⟨ret_int (hex_at _ (by omega) _), below1 _ _⟩
end Go.Proofs.Ytcafmhlnfkgegaa
