import Derived.Test.YtcafmhlnfkgegaaW4
namespace Go.Proofs.Ytcafmhlnfkgegaa
open Go.RowKit
/-- The number whose lowest byte is f 0: of k bytes. -/
def valN (f : Nat → Nat) : Nat → Nat
  | 0 => 0
  | k + 1 => valN f k + f k * 256 ^ k
theorem valN_lt {f : Nat → Nat} (hf : ∀ i, f i < 256) : ∀ k, valN f k < 256 ^ k
  | 0 => by simp [valN]
  | k + 1 => by
    have ih := valN_lt hf k
    have h1 : f k * 256 ^ k ≤ 255 * 256 ^ k := Nat.mul_le_mul_right _ (by have := hf k; omega)
    unfold valN
    rw [Nat.pow_succ]
    omega
theorem pow_two8 (k : Nat) : (256 : Nat) ^ k = 2 ^ (8 * k) := by rw [Nat.pow_mul]
theorem or_step {f : Nat → Nat} (hf : ∀ i, f i < 256) {k : Nat} (hk : k < 8) :
    bits BinOp.or IntKind.u64 (valN f k : Int) (IntKind.u64.wrap ((f k : Int) * 2 ^ (8 * k))) = (valN f (k + 1) : Int) := by
  have h0 := valN_lt hf k
  have e1 : ((2 : Int) ^ (8 * k)) = ((2 ^ (8 * k) : Nat) : Int) := by simp
  have h256 : (256 : Nat) ^ (k + 1) ≤ 256 ^ 8 := Nat.pow_le_pow_right (by omega) (by omega)
  have hb8 : (256 : Nat) ^ 8 = 18446744073709551616 := by decide
  have h1 : f k * 256 ^ k ≤ 255 * 256 ^ k := Nat.mul_le_mul_right _ (by have := hf k; omega)
  rw [Nat.pow_succ] at h256
  have hp : 0 < (256 : Nat) ^ k := Nat.pow_pos (by omega)
  have e2 : IntKind.u64.wrap ((f k : Int) * 2 ^ (8 * k)) = ((f k * 256 ^ k : Nat) : Int) := by
    rw [e1, ← pow_two8, ← Int.natCast_mul, IntKind.wrap_u64]
    omega
  rw [e2, u64_or_nat _ _ (by omega) (by omega), Nat.or_comm]
  rw [nat_join (8 * k) _ _ (by rw [pow_two8]; exact Nat.mul_mod_left _ _) (by rw [← pow_two8]; exact h0), Nat.add_comm]
  rfl
theorem val_eq {a b : Int} {k : IntKind} (h : a = b) : Value.int k a = Value.int k b := by rw [h]

set_option maxHeartbeats 400000 in
theorem halfOf_any (g o len cap : Nat) (f : Nat → Nat) (w : World) (hl : 8 ≤ len) (hf : ∀ i, f i < 256) (hc : ∀ i, i < 8 → w.cell? ⟨g, o + i, none⟩ = some (.int .u8 (f i : Int))) :
    Calls Try.prog 28 #[.slice (some ⟨g, o, none⟩) len cap] w fun e w' => e = .returned (.int .u64 (valN f 8 : Int)) ∧ w' = w := by
  have HC : Hid (∀ i, i < 8 → w.cell? ⟨g, o + i, none⟩ = some (.int .u8 (f i : Int))) := hc
  clear hc
  have HF : Hid (∀ i, f i < 256) := hf
  clear hf
  go_enter Try.func28, Try.ntmps28
  go_wp2
  go_loop [3, 5] (fun s i => ∃ k : Nat, k ≤ 8 ∧ i = .int .i64 k ∧ s = .int .u64 (valN f k : Int)) (fun _ i => 8 - (intOf i).toNat)
  case atStart => exact ⟨0, by omega, rfl, rfl⟩
  case round =>
    obtain ⟨k, hk, rfl, rfl⟩ := hrel
    by_cases hlt : k < 8
    · have c0 := HC.out k hlt
      have hlen : (k : Int) < (len : Int) := by omega
      have hb := HF.out k
      go_wp2
      exact ⟨⟨k + 1, by omega, by go_num, val_eq (or_step HF.out hlt)⟩, by simp [intOf]; omega⟩
    · go_wp2
      go_ret
      obtain rfl : k = 8 := by omega
      exact ⟨rfl, rfl⟩

theorem valN_succ (f : Nat → Nat) (k : Nat) : valN f (k + 1) = valN f k + f k * 256 ^ k := rfl
theorem valN_zero (f : Nat → Nat) : valN f 0 = 0 := rfl
theorem valN_split (f : Nat → Nat) (k : Nat) : valN f (8 + k) = valN f 8 + valN (fun i => f (8 + i)) k * B64 := by
  induction k with
  | zero => rw [valN_zero, Nat.zero_mul, Nat.add_zero, Nat.add_zero]
  | succ k ih =>
    rw [← Nat.add_assoc, valN_succ f (8 + k), valN_succ (fun i => f (8 + i)) k, ih, Nat.add_mul, Nat.mul_assoc, Nat.mul_comm (256 ^ k) B64, Nat.pow_add, show (256 : Nat) ^ 8 = B64 by decide, Nat.add_assoc]
theorem val_word {f : Nat → Nat} (hf : ∀ i, f i < 256) : IsV (valN (fun i => f (8 + i)) 8 : Int) (valN f 8 : Int) (valN f 16) := by
  refine IsV.of ⟨valN_lt (fun i => hf _) 8, valN_lt hf 8, ?_⟩
  rw [Nat.add_comm]
  exact valN_split f 8

set_option maxHeartbeats 400000 in
theorem of_short (a : Option Addr) (len cap : Nat) (w : World) (hl : len < 16) :
    Calls Try.prog 13 #[.slice a len cap] w fun e w' => e = .returned (.tuple #[.agg #[.int .u64 0, .int .u64 0], .int .i64 17]) ∧ Below w.heap.size w w' := by
  have h1 : (len : Int) < 16 := by omega
  go_enter Try.func13, Try.ntmps13
  go_wp2
  exact bodyPost_ret (v := .tuple #[.agg #[.int .u64 0, .int .u64 0], .int .i64 17]) (by simp [results, Try.results13, go_sem]) rfl ⟨rfl, below1 _ _⟩

theorem halfOf_abs (g o len cap : Nat) (F : Nat → Nat) (w : World) (hl : 8 ≤ len) (hf : ∀ i, F i < 256) (hc : ∀ i, i < 8 → w.cell? ⟨g, o + i, none⟩ = some (.int .u8 (F (o + i) : Int))) :
    Calls Try.prog 28 #[.slice (some ⟨g, o, none⟩) len cap] w fun e w' => ∃ n : Nat, e = .returned (.int .u64 (n : Int)) ∧ Hid (n = valN (fun i => F (o + i)) 8) ∧ w' = w := by
  refine (halfOf_any g o len cap (fun i => F (o + i)) w hl (fun _ => hf _) hc).mono ?_
  rintro e w' ⟨rfl, rfl⟩
  exact ⟨_, rfl, rfl, rfl⟩

set_option maxHeartbeats 400000 in
theorem of_abs (g o len cap : Nat) (F : Nat → Nat) (w : World) (hl : 16 ≤ len) (hcap : len ≤ cap) (hf : ∀ i, F i < 256) (hc : ∀ i, i < 16 → w.cell? ⟨g, o + i, none⟩ = some (.int .u8 (F (o + i) : Int))) :
    Calls Try.prog 13 #[.slice (some ⟨g, o, none⟩) len cap] w fun e w' => ∃ n m : Nat, e = .returned (.tuple #[.agg #[.int .u64 (n : Int), .int .u64 (m : Int)], .int .i64 0]) ∧ Hid (n = valN (fun i => F (o + 8 + i)) 8) ∧ Hid (m = valN (fun i => F (o + i)) 8) ∧ Below w.heap.size w w' := by
  have h1 : ¬ (len : Int) < 16 := by omega
  have h2 : (8 : Int) ≤ (cap : Int) := by omega
  have h3 : (16 : Int) ≤ (cap : Int) := by omega
  have h4 : ¬ cap = 8 := by omega
  have hAB : Hid (∀ W : World, Below w.heap.size w W → ∀ p, o ≤ p ∧ p ≤ o + 8 → ∀ i, i < 8 → W.cell? ⟨g, p + i, none⟩ = some (.int .u8 (F (p + i) : Int))) := fun W hW p hp i hi => by
    have := cell_later hW (hc (p - o + i) (by omega))
    rw [show o + (p - o + i) = p + i by omega] at this; exact this
  have HF : Hid (∀ i, F i < 256) := hf
  clear hf hc
  go_enter Try.func13, Try.ntmps13
  go_wp2
  go_region_with (first | (go_at_call 28; refine (halfOf_abs g _ _ _ F _ (Nat.le_refl 8) HF.out ?_).mono ?_; exact hAB.out _ (below1 _ _).drew _ (by omega); rintro e w1 ⟨n, rfl, hn, rfl⟩))
  rename_i m hm
  go_wp2
  exact bodyPost_ret (v := .tuple #[.agg #[.int .u64 (m : Int), .int .u64 (n : Int)], .int .i64 0]) (by simp [results, Try.results13, go_sem]) rfl ⟨m, n, rfl, hm, hn, (below1 _ _).drew⟩

theorem of_any (g o len cap : Nat) (f : Nat → Nat) (w : World) (hl : 16 ≤ len) (hcap : len ≤ cap) (hf : ∀ i, f i < 256) (hc : ∀ i, i < 16 → w.cell? ⟨g, o + i, none⟩ = some (.int .u8 (f i : Int))) :
    Calls Try.prog 13 #[.slice (some ⟨g, o, none⟩) len cap] w fun e w' => ∃ c d : Int, e = .returned (.tuple #[.agg #[.int .u64 c, .int .u64 d], .int .i64 0]) ∧ IsV c d (valN f 16) ∧ Below w.heap.size w w' := by
  refine (of_abs g o len cap (fun k => f (k - o)) w hl hcap (fun _ => hf _) (fun i hi => by simpa using hc i hi)).mono ?_
  rintro e w' ⟨n, m, rfl, hn, hm, hb⟩
  have e1 : (fun i => f (o + 8 + i - o)) = (fun i => f (8 + i)) := by funext i; congr 1; omega
  have e2 : (fun i => f (o + i - o)) = f := by funext i; congr 1; omega
  have hn' := hn.out
  have hm' := hm.out
  rw [e1] at hn'
  rw [e2] at hm'
  refine ⟨n, m, rfl, ?_, hb⟩
  rw [hn', hm']
  exact val_word hf

theorem byteN_mod (N k : Nat) : valN (byteN N) k = N % 256 ^ k := by
  induction k with
  | zero => rw [valN_zero, Nat.pow_zero, Nat.mod_one]
  | succ k ih =>
    rw [valN_succ, ih, Nat.pow_succ, Nat.mod_mul, Nat.mul_comm (256 ^ k)]
    rfl
theorem byteN_back {N : Nat} (h : N < B64 * B64) : valN (byteN N) 16 = N := by
  rw [byteN_mod]
  exact Nat.mod_eq_of_lt (by rw [show (256 : Nat) ^ 16 = B64 * B64 by decide]; exact h)
end Go.Proofs.Ytcafmhlnfkgegaa
