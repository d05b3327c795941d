import Derived.Test.YthfmmfphnimlnaaHC
import Derived.Test.YthfmmfphnimlnaaBB
import Derived.ScopeJumps
namespace Go.Proofs.Ythfmmfphnimlnaa.W
open Go.RowKit
open Go.Proofs.Ythfmmfphnimlnaa (hid)
theorem IsW.lt {a b N : Nat} (h : IsW a b N) : N < B64 * B64 := by
  obtain ⟨ha, hb, rfl⟩ := h
  calc a * B64 + b < a * B64 + B64 := by omega
    _ = (a + 1) * B64 := by rw [Nat.add_mul, Nat.one_mul]
    _ ≤ B64 * B64 := Nat.mul_le_mul_right _ ha
def cutN (N : Nat) (width : Int) : Nat := N % 2 ^ width.toNat
def fitsB (N : Nat) (width : Int) : Bool := decide (1 ≤ width) && decide (N < 2 ^ width.toNat)
theorem u64_low (h n : Nat) (hh : h < B64) (hn : n ≤ 63) :
    bits .and .u64 (h : Int) (IntKind.u64.wrap (IntKind.u64.wrap (2 ^ n) - 1)) = ((h % 2 ^ n : Nat) : Int) := by
  have h2 : (2 : Nat) ^ n ≤ 2 ^ 63 := Nat.pow_le_pow_right (by omega) hn
  have hp : 0 < (2 : Nat) ^ n := Nat.two_pow_pos n
  have e1 : ((2 : Int) ^ n) = ((2 ^ n : Nat) : Int) := by simp
  have e2 : IntKind.u64.wrap (IntKind.u64.wrap (2 ^ n) - 1) = ((2 ^ n - 1 : Nat) : Int) := by
    rw [e1, IntKind.wrap_u64, IntKind.wrap_u64]
    omega
  rw [e2, u64_and_nat _ _ hh (by omega), Nat.and_two_pow_sub_one_eq_mod]
theorem cut_none {N : Nat} {width : Int} (h : width < 1) : cutN N width = 0 := by
  unfold cutN
  have : width.toNat = 0 := by omega
  rw [this]; simp [Nat.mod_one]
theorem pow_big : (2 : Nat) ^ 128 = B64 * B64 := by decide
theorem cut_all {a b N : Nat} {width : Int} (h : IsW a b N) (hw : 128 ≤ width) : IsW a b (cutN N width) := by
  have hl := h.lt
  have : cutN N width = N := by
    unfold cutN
    apply Nat.mod_eq_of_lt
    calc N < B64 * B64 := hl
      _ = 2 ^ 128 := pow_big.symm
      _ ≤ _ := Nat.pow_le_pow_right (by omega) (by omega)
  rw [this]; exact h
theorem cut_hi {a b N : Nat} {width : Int} (h : IsW a b N) (h1 : 64 ≤ width) (_h2 : width < 128) : IsW (a % 2 ^ (width - 64).toNat) b (cutN N width) := by
  obtain ⟨k, hk⟩ : ∃ k : Nat, width = 64 + k := ⟨(width - 64).toNat, by omega⟩
  have e1 : (width - 64).toNat = k := by omega
  have e2 : width.toNat = k + 64 := by omega
  rw [e1]
  refine ⟨Nat.lt_of_le_of_lt (Nat.mod_le _ _) h.ha, h.hb, ?_⟩
  unfold cutN
  rw [e2, h.hn, Nat.pow_add, ← B64_eq, Nat.mul_comm (2 ^ k) B64, Nat.mod_mul]
  have hb := h.hb
  have e3 : (a * B64 + b) % B64 = b := by rw [Nat.add_comm, Nat.add_mul_mod_self_right, Nat.mod_eq_of_lt hb]
  have e4 : (a * B64 + b) / B64 = a := by
    rw [Nat.add_comm, Nat.add_mul_div_right _ _ (by decide), Nat.div_eq_of_lt hb, Nat.zero_add]
  rw [e3, e4, Nat.mul_comm, Nat.add_comm]
theorem cut_lo {a b N : Nat} {width : Int} (h : IsW a b N) (h1 : 1 ≤ width) (h2 : width < 64) : IsW 0 (b % 2 ^ width.toNat) (cutN N width) := by
  have hk : width.toNat ≤ 64 := by omega
  refine ⟨by decide, Nat.lt_of_le_of_lt (Nat.mod_le _ _) h.hb, ?_⟩
  unfold cutN
  rw [h.hn, Nat.zero_mul, Nat.zero_add]
  have : B64 = 2 ^ width.toNat * 2 ^ (64 - width.toNat) := by rw [← Nat.pow_add, B64_eq]; congr 1; omega
  rw [this, ← Nat.mul_assoc, Nat.mul_comm a, Nat.mul_assoc, Nat.add_comm, Nat.add_mul_mod_self_left]
theorem fits_cut (N : Nat) (width : Int) : fitsB N width = (decide (1 ≤ width) && decide (cutN N width = N)) := by
  unfold fitsB cutN
  congr 1
  rw [decide_eq_decide]
  constructor
  · exact Nat.mod_eq_of_lt
  · intro h; rw [← h]; exact Nat.mod_lt _ (Nat.two_pow_pos _)
theorem IsV.lt {a b : Int} {N : Nat} (h : IsV a b N) : N < B64 * B64 := by
  obtain ⟨x, y, rfl, rfl, h⟩ := h
  exact h.lt
theorem eqlW (a b c d : Int) (w : World) : (binOp .eql 63 (.agg #[.int .u64 a, .int .u64 b]) (.agg #[.int .u64 c, .int .u64 d])).run Try.prog w = .ok (.bool (wEq a b c d)) w := by
  unfold wEq
  by_cases h1 : a = c
  · subst h1
    by_cases h2 : b = d
    · subst h2
      simp [go_sem]
    · simp [go_sem, h2]
  · simp [go_sem, h1]
theorem low_any (h : Nat) (n : Int) (w : World) (hh : h < B64) (h0 : 0 ≤ n) (h1 : n ≤ 63) :
    Calls Try.prog 98 #[.int .u64 (h : Int), .int .i64 n] w fun e w' => e = .returned (.int .u64 ((h % 2 ^ n.toNat : Nat) : Int)) ∧ w' = w := by
  have hl := u64_low h n.toNat hh (by omega)
  have HL : Hid (bits .and .u64 (h : Int) (IntKind.u64.wrap (IntKind.u64.wrap (2 ^ n.toNat) - 1)) = ((h % 2 ^ n.toNat : Nat) : Int)) := hl
  clear hl
  go_enter Try.func98, Try.ntmps98
  go_wp2
  go_ret
  exact ⟨ret_int HL.out, rfl⟩
set_option maxHeartbeats 400000 in
theorem cut_any (a b : Int) (N : Nat) (width : Int) (w : World) (h : IsV a b N) :
    Calls Try.prog 93 #[.agg #[.int .u64 a, .int .u64 b], .int .i64 width] w fun e w' => ∃ c d : Int, e = .returned (.agg #[.int .u64 c, .int .u64 d]) ∧ IsV c d (cutN N width) ∧ Below w.heap.size w w' := by
  obtain ⟨a, b, rfl, rfl, h⟩ := h
  by_cases h1 : width < 1
  · have hz : cutN N width = 0 := cut_none h1
    rw [hz]; clear hz
    go_enter Try.func93, Try.ntmps93
    go_wp2
    exact bodyPost_ret (v := .agg #[.int .u64 0, .int .u64 0]) (by simp [results, Try.results93, go_sem]) rfl ⟨0, 0, rfl, IsV.zero, below2 _ _ _⟩
  · by_cases h2 : 128 ≤ width
    · have hz := IsV.of (cut_all h h2)
      clear h
      go_enter Try.func93, Try.ntmps93
      go_wp2
      exact bodyPost_ret (v := .agg #[.int .u64 a, .int .u64 b]) (by simp [results, Try.results93, go_sem]) rfl ⟨a, b, rfl, hz, below2 _ _ _⟩
    · by_cases h3 : 64 ≤ width
      · have hz := IsV.of (cut_hi h h3 (by omega))
        have hh := h.ha
        have hw : IntKind.i64.wrap (width - 64) = width - 64 := by rw [IntKind.wrap_i64]; omega
        clear h
        go_enter Try.func93, Try.ntmps93
        go_wp2
        go_region_with (first | (go_at_call 98; refine (low_any _ _ _ hh (by omega) (by omega)).mono ?_; rintro e w' ⟨rfl, rfl⟩))
        all_goals go_wp2
        all_goals exact bodyPost_ret (v := .agg #[.int .u64 ((a % 2 ^ (width - 64).toNat : Nat) : Int), .int .u64 b]) (by simp [results, Try.results93, go_sem]) rfl ⟨_, b, rfl, hz, (below2 _ _ _).drew⟩
      · have hz := IsV.of (cut_lo (width := width) h (by omega) (by omega))
        have hh := h.hb
        have h4 : width ≤ 63 := by omega
        clear h
        go_enter Try.func93, Try.ntmps93
        go_wp2_with (first | (go_at_call 98; refine (low_any b width _ hh (by omega) h4).mono ?_; rintro e w' ⟨rfl, rfl⟩))
        exact bodyPost_ret (v := .agg #[.int .u64 0, .int .u64 ((b % 2 ^ width.toNat : Nat) : Int)]) (by simp [results, Try.results93, go_sem]) rfl ⟨0, _, rfl, hz, (below2 _ _ _)⟩
set_option maxHeartbeats 400000 in
theorem fits_any (a b : Int) (N : Nat) (width : Int) (w : World) (h : IsV a b N) :
    Calls Try.prog 78 #[.agg #[.int .u64 a, .int .u64 b], .int .i64 width] w fun e w' => e = .returned (.bool (fitsB N width)) ∧ Below w.heap.size w w' := by
  by_cases h1 : width < 1
  · have hz : fitsB N width = false := by unfold fitsB; rw [decide_eq_false (by omega)]; rfl
    rw [hz]; clear hz
    have hd : decide (1 ≤ width) = false := by simp; omega
    go_enter Try.func78, Try.ntmps78
    go_wp2
    go_quiet (fail)
    go_wp2
    go_ret
    exact ⟨rfl, below_drewN (below1 _ _) _⟩
  · have h2 : 1 ≤ width := by omega
    have hz : Hid (fitsB N width = decide (cutN N width = N)) := by unfold Hid; rw [fits_cut, decide_eq_true h2]; rfl
    have hC : Hid (∀ w' : World, Below (w.heap.size + 1) (w.alloc (Obj.cells #[Value.int IntKind.u64 a, Value.int IntKind.u64 b] 63)) w' → ((w'.cell? ⟨w.heap.size, 0, none⟩ = some (.int .u64 a) ∧ w'.cell? ⟨w.heap.size, 1, none⟩ = some (.int .u64 b)) ∧ Below (w.heap.size + 1) (w.alloc (Obj.cells #[Value.int IntKind.u64 a, Value.int IntKind.u64 b] 63)) w')) := by
      intro w' hB
      refine ⟨⟨?_, ?_⟩, hB⟩
      · rw [hB.cell (by simp)]; simp [go_sem]
      · rw [hB.cell (by simp)]; simp [go_sem]
    have heq := eqlW
    go_enter Try.func78, Try.ntmps78
    go_wp2
    go_region_held3 (fun w' => (w'.cell? ⟨w.heap.size, 0, none⟩ = some (.int .u64 a) ∧ w'.cell? ⟨w.heap.size, 1, none⟩ = some (.int .u64 b)) ∧ Below (w.heap.size + 1) (w.alloc (Obj.cells #[Value.int IntKind.u64 a, Value.int IntKind.u64 b] 63)) w') (first | exact hC.out _ (Below.refl _ _).drew | exact hC.out _ (keep_call hb (by simp) (by assumption))) (first | (go_at_call 93; refine (cut_any _ _ _ _ _ h).mono ?_; rintro e w1 ⟨c, d, rfl, hcd, hb⟩))
    go_wp2
    go_ret
    refine ⟨?_, ?_⟩
    · rw [hz.out, ← wEq_of hcd h]
      rfl
    · exact below_call (below1 _ _).drew hb
theorem bits_zero {N n : Nat} : ∀ m, n ≤ m → N < 2 ^ m → (∀ j, n ≤ j → j < m → bitN N j = 0) → N < 2 ^ n := by
  intro m
  induction m with
  | zero => intro h1 h2 _; have : n = 0 := by omega
            subst this; exact h2
  | succ m ih =>
    intro h1 h2 h3
    by_cases e : n = m + 1
    · subst e; exact h2
    · refine ih (by omega) ?_ (fun j a b => h3 j a (by omega))
      have h4 := h3 m (by omega) (by omega)
      unfold bitN at h4
      have h5 : N / 2 ^ m < 2 := by apply Nat.div_lt_of_lt_mul; rw [← Nat.pow_succ]; exact h2
      have h6 : N / 2 ^ m = 0 := by rw [Nat.mod_eq_of_lt h5] at h4; exact h4
      rcases Nat.div_eq_zero_iff.1 h6 with h | h
      · have := Nat.two_pow_pos m; omega
      · exact h
theorem bit_one_ge {N k : Nat} (h : bitN N k = 1) : 2 ^ k ≤ N := by
  unfold bitN at h
  rcases Nat.lt_or_ge N (2 ^ k) with h1 | h1
  · rw [Nat.div_eq_of_lt h1] at h; simp at h
  · exact h1
theorem mod_succ (N k : Nat) : N % 2 ^ (k + 1) = N % 2 ^ k + bitN N k * 2 ^ k := by
  unfold bitN
  rw [Nat.pow_succ, Nat.mod_mul, Nat.mul_comm (2 ^ k)]
theorem bit_mod_zero (N k : Nat) : bitN (N % 2 ^ k) k = 0 := by
  unfold bitN
  rw [Nat.div_eq_of_lt (Nat.mod_lt _ (Nat.two_pow_pos k))]
def FitsRel (w : World) (a b : Int) (N n : Nat) (t : Value) (w' : World) : Prop :=
  ∃ k : Nat, n ≤ k ∧ t = .int .i64 (k : Int) ∧ (∀ j, n ≤ j → j < k → bitN N j = 0) ∧ Below w.heap.size w w' ∧ Box w' w.heap.size a b
set_option maxRecDepth 100000 in
set_option maxHeartbeats 400000 in
theorem rFits_any (a b : Int) (N : Nat) (width : Int) (w : World) (h : IsV a b N) (hmax : width ≤ 9223372036854775807) :
    Calls Try.prog 35 #[.agg #[.int .u64 a, .int .u64 b], .int .i64 width] w fun e w' => e = .returned (.bool (fitsB N width)) ∧ Below w.heap.size w w' := by
  by_cases h1 : width < 1
  · have hz : fitsB N width = false := by unfold fitsB; rw [decide_eq_false (by omega)]; rfl
    rw [hz]; clear hz
    go_enter Try.func35, Try.ntmps35
    go_wp2
    go_ret
    exact ⟨rfl, below1 _ _⟩
  · obtain ⟨n, rfl⟩ : ∃ n : Nat, width = n := ⟨width.toNat, by omega⟩
    have HN : Hid (N < 2 ^ 128) := by unfold Hid; rw [pow_big]; exact h.lt
    have HF : Hid (fitsB N (n : Int) = decide (N < 2 ^ n)) := by
      unfold Hid fitsB
      rw [decide_eq_true (p := 1 ≤ (n : Int)) (by omega), Bool.true_and]
      simp
    go_enter Try.func35, Try.ntmps35
    go_wp2
    go_loopw [5] (FitsRel w a b N n) (fun t _ => 128 - (intOf t).toNat)
    case atStart => exact ⟨n, Nat.le_refl _, rfl, fun j h1 h2 => by omega, below1 _ _, Box.new _ _ _⟩
    case round =>
      obtain ⟨k, hk, rfl, hb, hB, X⟩ := hrel
      have HB : Hid (∀ j, n ≤ j → j < k → bitN N j = 0) := hb
      clear hb
      by_cases hlt : k < 128
      · have x0 := X.1
        have x1 := X.2
        by_cases hv : bitN N k = 1
        · have hv' : ((bitN N k : Int) == 1) = true := by rw [hv]; rfl
          have HR : Hid (fitsB N (n : Int) = false) := by
            unfold Hid
            rw [HF.out]
            apply decide_eq_false
            have := bit_one_ge hv
            have := Nat.pow_le_pow_right (n := 2) (by omega) hk
            omega
          clear hv
          go_wp2_with (first | (go_at_call 64; refine (bit_any _ _ _ _ _ h hlt).mono ?_; rintro e w1 ⟨rfl, hb1⟩))
          go_ret
          exact ⟨by rw [HR.out]; rfl, below_call hB hb1⟩
        · have hv' : ((bitN N k : Int) == 1) = false := by simp; omega
          have HV : Hid (bitN N k = 0) := by unfold Hid; have := bitN_lt N k; omega
          clear hv
          go_wp2_with (first | (go_at_call 64; refine (bit_any _ _ _ _ _ h hlt).mono ?_; rintro e w1 ⟨rfl, hb1⟩))
          refine ⟨⟨k + 1, by omega, by go_num, fun j h1 h2 => ?_, below_call hB hb1, X.later hb1⟩, by simp [intOf]; omega⟩
          by_cases e : j = k
          · subst e; exact HV.out
          · exact HB.out j h1 (by omega)
      · have HR : Hid (fitsB N (n : Int) = true) := by
          unfold Hid
          rw [HF.out]
          apply decide_eq_true
          by_cases h2 : n ≤ 128
          · exact bits_zero 128 h2 HN.out (fun j a b => HB.out j a (by omega))
          · exact Nat.lt_of_lt_of_le HN.out (Nat.pow_le_pow_right (by omega) (by omega))
        go_wp2
        go_ret
        exact ⟨by rw [HR.out]; rfl, hB⟩
end Go.Proofs.Ythfmmfphnimlnaa.W
