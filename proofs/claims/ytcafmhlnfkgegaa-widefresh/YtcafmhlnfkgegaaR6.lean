import Derived.Test.YtcafmhlnfkgegaaR5
import Derived.Test.YtcafmhlnfkgegaaM3
namespace Go.Proofs.Ytcafmhlnfkgegaa
open Go.RowKit

theorem bit_int (a b : Int) (N : Nat) (x : Int) (w : World) (h : IsV a b N) (h0 : 0 ≤ x) (h1 : x < 128) :
    Calls Try.prog 34 #[.agg #[.int .u64 a, .int .u64 b], .int .i64 x] w fun e w' => e = .returned (.int .i64 (bitN N x.toNat : Int)) ∧ Below w.heap.size w w' := by
  obtain ⟨n, rfl⟩ : ∃ n : Nat, x = n := ⟨x.toNat, by omega⟩
  exact bit_any a b N n w h (by omega)
theorem set_int (a b : Int) (N : Nat) (x : Int) (w : World) (h : IsV a b N) (h0 : 0 ≤ x) (h1 : x < 128) (hz : bitN N x.toNat = 0) :
    Calls Try.prog 35 #[.agg #[.int .u64 a, .int .u64 b], .int .i64 x] w fun e w' => ∃ c d : Int, e = .returned (.agg #[.int .u64 c, .int .u64 d]) ∧ IsV c d (N + 2 ^ x.toNat) ∧ Below w.heap.size w w' := by
  obtain ⟨n, rfl⟩ : ∃ n : Nat, x = n := ⟨x.toNat, by omega⟩
  exact set_any a b N n w h (by omega) hz
theorem bit_byte (N k : Nat) : byteN N (k / 8) / 2 ^ (k % 8) % 2 = bitN N k := by
  unfold byteN bitN
  have e : (256 : Nat) ^ (k / 8) = 2 ^ (8 * (k / 8)) := pow_two8 _
  have e2 : k = 8 * (k / 8) + k % 8 := by omega
  have hlt : k % 8 < 8 := Nat.mod_lt _ (by omega)
  generalize k / 8 = q at *
  generalize k % 8 = r at *
  subst e2
  rw [e, Nat.pow_add, ← Nat.div_div_eq_div_mul]
  generalize N / 2 ^ (8 * q) = x
  obtain ⟨d, hd⟩ : ∃ d, 256 = 2 ^ r * (2 * 2 ^ d) := ⟨7 - r, by
    have : (2 : Nat) * 2 ^ (7 - r) = 2 ^ (7 - r + 1) := by rw [Nat.pow_succ, Nat.mul_comm]
    rw [this, ← Nat.pow_add]
    have : r + (7 - r + 1) = 8 := by omega
    rw [this]⟩
  have hx : x = 256 * (x / 256) + x % 256 := (Nat.div_add_mod x 256).symm
  generalize x / 256 = y at hx
  generalize x % 256 = z at hx
  subst hx
  rw [hd, Nat.mul_assoc, Nat.mul_add_div (Nat.two_pow_pos r), Nat.mul_assoc, Nat.mul_add_mod]

theorem bit_tmod (x r : Nat) : ((x : Int) / 2 ^ r).tmod 2 = ((x / 2 ^ r % 2 : Nat) : Int) := by
  have e1 : ((2 : Int) ^ r) = ((2 ^ r : Nat) : Int) := by simp
  rw [e1, ← Int.natCast_ediv]
  generalize x / 2 ^ r = q
  rw [Int.tmod_eq_emod_of_nonneg (Int.natCast_nonneg _)]; omega
def OfRel (w : World) (N : Nat) (t : Value) (w' : World) : Prop :=
  ∃ k : Nat, k ≤ 128 ∧ t = .int .i64 (k : Int) ∧ ParseAt w w' (N % 2 ^ k)

set_option maxHeartbeats 400000 in
theorem rOf_short (a : Option Addr) (len cap : Nat) (w : World) (hl : len < 16) :
    Calls Try.prog 23 #[.slice a len cap] w fun e w' => e = .returned (.tuple #[.agg #[.int .u64 0, .int .u64 0], .int .i64 17]) ∧ Below w.heap.size w w' := by
  have h1 : (len : Int) < 16 := by omega
  go_enter Try.func23, Try.ntmps23
  go_wp2
  exact bodyPost_ret (v := .tuple #[.agg #[.int .u64 0, .int .u64 0], .int .i64 17]) (by simp [results, Try.results23, go_sem]) rfl ⟨rfl, below1 _ _⟩

set_option maxRecDepth 100000 in
set_option maxHeartbeats 1000000 in
theorem rOf_any (g o len cap : Nat) (f : Nat → Nat) (w : World) (hl : 16 ≤ len) (hf : ∀ i, f i < 256) (hc : ∀ i, i < 16 → w.cell? ⟨g, o + i, none⟩ = some (.int .u8 (f i : Int))) :
    Calls Try.prog 23 #[.slice (some ⟨g, o, none⟩) len cap] w fun e w' => ∃ c d : Int, e = .returned (.tuple #[.agg #[.int .u64 c, .int .u64 d], .int .i64 0]) ∧ IsV c d (valN f 16) ∧ Below w.heap.size w w' := by
  have h1 : ¬ (len : Int) < 16 := by omega
  have HC : Hid (∀ i, i < 16 → w.cell? ⟨g, o + i, none⟩ = some (.int .u8 (f i : Int))) := hc
  have HF : Hid (∀ i, i < 16 → f i = byteN (valN f 16) i) := fun i hi => (byte_valN hf 16 i hi).symm
  have HN : Hid (valN f 16 < 2 ^ 128) := by unfold Hid; have := valN_lt hf 16; rw [show (256 : Nat) ^ 16 = 2 ^ 128 by decide] at this; exact this
  obtain ⟨N, hN⟩ : ∃ N, N = valN f 16 := ⟨_, rfl⟩
  rw [← hN] at HF HN ⊢
  clear hc hf hN
  have H0 : Hid _ := ParseAt.start w
  go_enter Try.func23, Try.ntmps23
  go_wp2
  go_loopw [5] (OfRel w N) (fun t _ => 128 - (intOf t).toNat)
  case atStart => exact ⟨0, by omega, rfl, by rw [Nat.pow_zero, Nat.mod_one]; exact H0.out⟩
  case round =>
    clear H0
    obtain ⟨k, hk, rfl, hP⟩ := hrel
    obtain ⟨c, d, hcd, X0, X1⟩ := hP.word
    have HP : Hid _ := hP
    by_cases hlt : k < 128
    · have hq : k / 8 < 16 := by omega
      have c0 : wr.cell? ⟨g, o + k / 8, none⟩ = some (.int .u8 (f (k / 8) : Int)) := cell_later hP.below (HC.out (k / 8) hq)
      have hql : ((k / 8 : Nat) : Int) < (len : Int) := by omega
      clear hP
      have hbv : ((f (k / 8) : Int) / 2 ^ (k % 8)).tmod 2 = (bitN N k : Int) := by rw [bit_tmod, HF.out _ hq, bit_byte]
      by_cases hv : bitN N k = 1
      · have hv' : (((f (k / 8) : Int) / 2 ^ (k % 8)).tmod 2 == 1) = true := by rw [hbv, hv]; rfl
        have HM : Hid (N % 2 ^ (k + 1) = N % 2 ^ k + 2 ^ k) := by unfold Hid; rw [mod_succ, hv, Nat.one_mul]
        clear hv hbv
        obtain ⟨x0, x0'⟩ := X0
        obtain ⟨x1, x1'⟩ := X1
        go_wp2_with (first | (go_at_call 35; refine (set_any _ _ _ _ _ hcd hlt (bit_mod_zero N k)).mono ?_; rintro e w2 ⟨c', d', rfl, hcd', hb2⟩; obtain ⟨z0, z0'⟩ := Lies.later hb2 ⟨x0, x0'⟩; obtain ⟨z1, z1'⟩ := Lies.later hb2 ⟨x1, x1'⟩))
        rw [← HM.out] at hcd'
        exact ⟨⟨k + 1, by omega, by go_num, HP.out.next (Below.refl _ _) hb2 ⟨z0, z0'⟩ ⟨z1, z1'⟩ hcd'⟩, by simp [intOf]; omega⟩
      · have hv' : (((f (k / 8) : Int) / 2 ^ (k % 8)).tmod 2 == 1) = false := by rw [hbv]; simp; omega
        have HM : Hid (N % 2 ^ (k + 1) = N % 2 ^ k) := by
          unfold Hid
          have : bitN N k = 0 := by have := bitN_lt N k; omega
          rw [mod_succ, this, Nat.zero_mul, Nat.add_zero]
        clear hv hbv
        go_wp2
        exact ⟨⟨k + 1, by omega, by go_num, by rw [HM.out]; exact HP.out⟩, by simp [intOf]; omega⟩
    · obtain rfl : k = 128 := by omega
      have HE : Hid (N % 2 ^ 128 = N) := Nat.mod_eq_of_lt HN.out
      rw [HE.out] at hcd
      obtain ⟨x0, x0'⟩ := X0
      obtain ⟨x1, x1'⟩ := X1
      obtain ⟨y0, y0'⟩ := hP.res0
      obtain ⟨y1, y1'⟩ := hP.res1
      have hB := hP.below
      clear hP HP
      go_wp2
      exact bodyPost_ret (v := .tuple #[.agg #[.int .u64 c, .int .u64 d], .int .i64 0]) (by simp [results, Try.results23, go_sem, y0, y1]) rfl ⟨c, d, rfl, hcd, (hB.setCell (Nat.le_refl _) _).setCell (Nat.le_refl _) _⟩
end Go.Proofs.Ytcafmhlnfkgegaa
