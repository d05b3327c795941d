import Derived.Test.YtdkadmnhfnilkaaB2
namespace Go.Proofs.Ytdkadmnhfnilkaa
open Go.RowKit
set_option linter.unusedVariables false

theorem B64_eq : B64 = 2 ^ 64 := rfl
structure IsW (a b N : Nat) : Prop where
  ha : a < B64
  hb : b < B64
  hn : N = a * B64 + b
theorem IsW.lt {a b N : Nat} (h : IsW a b N) : N < B64 * B64 := by
  obtain ⟨ha, hb, rfl⟩ := h
  calc a * B64 + b < a * B64 + B64 := by omega
    _ = (a + 1) * B64 := by rw [Nat.add_mul, Nat.one_mul]
    _ ≤ B64 * B64 := Nat.mul_le_mul_right _ ha
theorem IsW.lt_iff {a b c d N M : Nat} (h : IsW a b N) (k : IsW c d M) : N < M ↔ a < c ∨ a = c ∧ b < d := by
  obtain ⟨ha, hb, hn⟩ := h
  obtain ⟨hc, hd, hm⟩ := k
  unfold B64 at *
  omega
theorem pow_big : (2 : Nat) ^ 128 = B64 * B64 := by decide
structure IsV (a b : Int) (N : Nat) : Prop where
  ex : ∃ x y : Nat, a = x ∧ b = y ∧ IsW x y N
theorem IsV.of {a b N : Nat} (h : IsW a b N) : IsV a b N := ⟨a, b, rfl, rfl, h⟩
theorem IsV.lt {a b : Int} {N : Nat} (h : IsV a b N) : N < B64 * B64 := by
  obtain ⟨x, y, rfl, rfl, h⟩ := h
  exact h.lt
def cmpN (N M : Nat) : Int := if N = M then 0 else if N < M then -1 else 1
theorem keep_call {C : Prop} {K : Nat} {w0 W w1 : World} (hb : Below W.heap.size W w1) (hK : K ≤ w0.heap.size) (hS : C ∧ Below K w0 W) : Below K w0 w1 :=
  hS.2.trans (hb.mono (Nat.le_trans hK hS.2.size))
def Box (w : World) (k : Nat) (a b : Int) : Prop := w.cell? ⟨k, 0, none⟩ = some (.int .u64 a) ∧ w.cell? ⟨k, 1, none⟩ = some (.int .u64 b)
theorem Box.later {W w1 : World} {k : Nat} {a b : Int} (hb : Below W.heap.size W w1) (h : Box W k a b) : Box w1 k a b := ⟨cell_later hb h.1, cell_later hb h.2⟩
theorem Box.new (w : World) (a b : Int) : Box (w.alloc (.cells #[.int .u64 a, .int .u64 b] 32)) w.heap.size a b := ⟨by simp [go_sem], by simp [go_sem]⟩
theorem Box.alloc {w : World} {k : Nat} {a b : Int} (h : Box w k a b) (o : Obj) : Box (w.alloc o) k a b := h.later (below1 _ _)
def bitN (N i : Nat) : Nat := N / 2 ^ i % 2
theorem bitN_lt (N i : Nat) : bitN N i < 2 := Nat.mod_lt _ (by decide)
theorem bit_lo {a b N : Nat} (h : IsW a b N) {i : Nat} (hi : i < 64) : b / 2 ^ i % 2 = bitN N i := by
  unfold bitN
  rw [h.hn]
  obtain ⟨j, hj⟩ : ∃ j, B64 = 2 ^ i * (2 * 2 ^ j) := ⟨64 - i - 1, by
    have : (2 : Nat) * 2 ^ (64 - i - 1) = 2 ^ (64 - i - 1 + 1) := by rw [Nat.pow_succ, Nat.mul_comm]
    rw [this, ← Nat.pow_add, B64_eq]; congr 1; omega⟩
  rw [hj, Nat.add_comm, Nat.mul_comm a, Nat.mul_assoc, Nat.add_mul_div_left _ _ (Nat.two_pow_pos i), Nat.mul_assoc, Nat.add_mul_mod_self_left]
theorem word_div {a b N : Nat} (h : IsW a b N) : N / B64 = a := by
  rw [h.hn, Nat.add_comm, Nat.add_mul_div_right _ _ (by decide), Nat.div_eq_of_lt h.hb, Nat.zero_add]
theorem bit_hi {a b N : Nat} (h : IsW a b N) {i : Nat} : a / 2 ^ i % 2 = bitN N (64 + i) := by
  unfold bitN
  rw [Nat.pow_add, ← B64_eq, ← Nat.div_div_eq_div_mul, word_div h]
theorem bit_val (b i : Nat) : wrap64 (((b : Int) / 2 ^ i).tmod 2) = ((b / 2 ^ i % 2 : Nat) : Int) := by
  have e1 : ((2 : Int) ^ i) = ((2 ^ i : Nat) : Int) := by simp
  rw [e1, ← Int.natCast_ediv]
  generalize b / 2 ^ i = q
  have e2 : ((q : Int)).tmod 2 = ((q % 2 : Nat) : Int) := by
    rw [Int.tmod_eq_emod_of_nonneg (Int.natCast_nonneg _)]; omega
  rw [e2]
  unfold wrap64
  omega
set_option maxHeartbeats 400000 in
theorem bit_any (a b : Int) (N i : Nat) (w : World) (h : IsV a b N) (hi : i < 128) :
    Calls Try.prog 52 #[.agg #[.int .u64 a, .int .u64 b], .int .i64 (i : Int)] w fun e w' => e = .returned (.int .i64 (bitN N i : Int)) ∧ Below w.heap.size w w' := by
  obtain ⟨a, b, rfl, rfl, h⟩ := h
  by_cases h1 : i < 64
  · have hb := bit_lo h h1
    have HV : Hid (wrap64 (((b : Int) / 2 ^ i).tmod 2) = (bitN N i : Int)) := by unfold Hid; rw [bit_val, hb]
    clear hb h
    go_enter Try.func52, Try.ntmps52
    go_wp2
    go_ret
    exact ⟨ret_int HV.out, below1 _ _⟩
  · obtain ⟨j, rfl⟩ : ∃ j, i = 64 + j := ⟨i - 64, by omega⟩
    have hb := bit_hi h (i := j)
    have HV : Hid (wrap64 (((a : Int) / 2 ^ j).tmod 2) = (bitN N (64 + j) : Int)) := by unfold Hid; rw [bit_val, hb]
    have h2 : j < 64 := by omega
    clear hb h h1 hi
    have hw : ((64 + j : Nat) : Int) - 64 = (j : Int) := by omega
    have h3 : ¬ ((64 + j : Nat) : Int) < 64 := by omega
    go_enter Try.func52, Try.ntmps52
    go_wp2
    go_ret
    exact ⟨ret_int HV.out, below1 _ _⟩
theorem div_pow_succ (N m : Nat) : N / 2 ^ m = N / 2 ^ (m + 1) * 2 + bitN N m := by
  unfold bitN
  rw [Nat.pow_succ, ← Nat.div_div_eq_div_mul]
  omega
theorem cmp_bits {N M m : Nat} (h : N / 2 ^ (m + 1) = M / 2 ^ (m + 1)) (hd : bitN N m ≠ bitN M m) : cmpN N M = (bitN N m : Int) - (bitN M m : Int) := by
  have e1 := div_pow_succ N m
  have e2 := div_pow_succ M m
  have l1 := bitN_lt N m
  have l2 := bitN_lt M m
  have hne : N ≠ M := by intro e; subst e; exact hd rfl
  unfold cmpN
  rw [if_neg hne]
  by_cases hb : bitN N m = 0
  · have hlt : N < M := by
      rcases Nat.lt_or_ge N M with h1 | h1
      · exact h1
      · have := Nat.div_le_div_right (c := 2 ^ m) h1
        omega
    rw [if_pos hlt]; omega
  · have hlt : ¬ N < M := by
      intro h1
      have := Nat.div_le_div_right (c := 2 ^ m) (Nat.le_of_lt h1)
      omega
    rw [if_neg hlt]; omega
theorem cmp_same {N M m : Nat} (h : N / 2 ^ (m + 1) = M / 2 ^ (m + 1)) (hd : bitN N m = bitN M m) : N / 2 ^ m = M / 2 ^ m := by
  rw [div_pow_succ N m, div_pow_succ M m, h, hd]
def CmpRel (w : World) (a0 b0 a1 b1 : Int) (N M : Nat) (t : Value) (w' : World) : Prop :=
  (((t = .int .i64 (-1)) ∧ N = M) ∨ ∃ m : Nat, m < 128 ∧ t = .int .i64 (m : Int) ∧ N / 2 ^ (m + 1) = M / 2 ^ (m + 1)) ∧ Below w.heap.size w w' ∧ Box w' w.heap.size a0 b0 ∧ Box w' (w.heap.size + 1) a1 b1
set_option maxRecDepth 100000 in
set_option maxHeartbeats 1000000 in
theorem rCmp_any (a0 b0 a1 b1 : Int) (N M : Nat) (w : World) (hN : IsV a0 b0 N) (hM : IsV a1 b1 M) :
    Calls Try.prog 37 #[.agg #[.int .u64 a0, .int .u64 b0], .agg #[.int .u64 a1, .int .u64 b1]] w fun e w' => e = .returned (.int .i64 (cmpN N M)) ∧ Below w.heap.size w w' := by
  have HN : Hid (N < 2 ^ 128) := by unfold Hid; rw [pow_big]; exact hN.lt
  have HM : Hid (M < 2 ^ 128) := by unfold Hid; rw [pow_big]; exact hM.lt
  go_enter Try.func37, Try.ntmps37
  go_wp2
  go_loopw [5] (CmpRel w a0 b0 a1 b1 N M) (fun t _ => (intOf t + 1).toNat)
  case atStart =>
    refine ⟨.inr ⟨127, by omega, rfl, ?_⟩, below2 _ _ _, (Box.new _ _ _).alloc _, ?_⟩
    · rw [Nat.div_eq_of_lt HN.out, Nat.div_eq_of_lt HM.out]
    · have := Box.new (w.alloc (.cells #[.int .u64 a0, .int .u64 b0] 32)) a1 b1
      simpa using this
  case round =>
    obtain ⟨hcase, hB, X, Y⟩ := hrel
    rcases hcase with ⟨rfl, heqv⟩ | ⟨m, hm, rfl, hdiv⟩
    · have HR : Hid (cmpN N M = 0) := by unfold Hid cmpN; rw [if_pos heqv]
      clear heqv
      go_wp2
      go_ret
      exact ⟨ret_int HR.out.symm, hB⟩
    · have HD : Hid (N / 2 ^ (m + 1) = M / 2 ^ (m + 1)) := hdiv
      clear hdiv
      have hC : Hid (∀ w' : World, Below wr.heap.size wr w' → (w'.cell? ⟨w.heap.size, 0, none⟩ = some (.int .u64 a0) ∧ w'.cell? ⟨w.heap.size, 1, none⟩ = some (.int .u64 b0) ∧ w'.cell? ⟨w.heap.size + 1, 0, none⟩ = some (.int .u64 a1) ∧ w'.cell? ⟨w.heap.size + 1, 1, none⟩ = some (.int .u64 b1)) ∧ Below wr.heap.size wr w') := fun w' h => ⟨⟨cell_later h X.1, cell_later h X.2, cell_later h Y.1, cell_later h Y.2⟩, h⟩
      by_cases hv : bitN N m = bitN M m
      · have hv' : ((bitN N m : Int) != (bitN M m : Int)) = false := by rw [hv]; simp
        have HV : Hid (bitN N m = bitN M m) := hv
        clear hv
        cases m with
        | zero =>
          go_wp2
          go_region_held3 (fun w' => (w'.cell? ⟨w.heap.size, 0, none⟩ = some (.int .u64 a0) ∧ w'.cell? ⟨w.heap.size, 1, none⟩ = some (.int .u64 b0) ∧ w'.cell? ⟨w.heap.size + 1, 0, none⟩ = some (.int .u64 a1) ∧ w'.cell? ⟨w.heap.size + 1, 1, none⟩ = some (.int .u64 b1)) ∧ Below wr.heap.size wr w') (first | exact hC.out _ (Below.refl _ _).drew | exact hC.out _ (keep_call hb (Nat.le_refl _) (by assumption))) (first | (go_at_call 52; refine (bit_any _ _ _ _ _ (by assumption) hm).mono ?_; rintro e w1 ⟨rfl, hb⟩))
          go_wp2
          have hS := hC.out _ (And.right (by assumption) : Below wr.heap.size wr _)
          refine ⟨⟨.inl ⟨rfl, ?_⟩, below_call hB hS.2, X.later hS.2, Y.later hS.2⟩, by simp [intOf]⟩
          have := cmp_same HD.out HV.out
          simpa using this
        | succ j =>
          go_wp2
          go_region_held3 (fun w' => (w'.cell? ⟨w.heap.size, 0, none⟩ = some (.int .u64 a0) ∧ w'.cell? ⟨w.heap.size, 1, none⟩ = some (.int .u64 b0) ∧ w'.cell? ⟨w.heap.size + 1, 0, none⟩ = some (.int .u64 a1) ∧ w'.cell? ⟨w.heap.size + 1, 1, none⟩ = some (.int .u64 b1)) ∧ Below wr.heap.size wr w') (first | exact hC.out _ (Below.refl _ _).drew | exact hC.out _ (keep_call hb (Nat.le_refl _) (by assumption))) (first | (go_at_call 52; refine (bit_any _ _ _ _ _ (by assumption) hm).mono ?_; rintro e w1 ⟨rfl, hb⟩))
          go_wp2
          have hS := hC.out _ (And.right (by assumption) : Below wr.heap.size wr _)
          refine ⟨⟨.inr ⟨j, by omega, by go_num, cmp_same HD.out HV.out⟩, below_call hB hS.2, X.later hS.2, Y.later hS.2⟩, by simp [intOf]; omega⟩
      · have hv' : ((bitN N m : Int) != (bitN M m : Int)) = true := by simp; omega
        have HR : Hid (cmpN N M = (bitN N m : Int) - (bitN M m : Int)) := cmp_bits HD.out hv
        have l1 := bitN_lt N m
        have l2 := bitN_lt M m
        clear hv
        go_wp2
        go_region_held3 (fun w' => (w'.cell? ⟨w.heap.size, 0, none⟩ = some (.int .u64 a0) ∧ w'.cell? ⟨w.heap.size, 1, none⟩ = some (.int .u64 b0) ∧ w'.cell? ⟨w.heap.size + 1, 0, none⟩ = some (.int .u64 a1) ∧ w'.cell? ⟨w.heap.size + 1, 1, none⟩ = some (.int .u64 b1)) ∧ Below wr.heap.size wr w') (first | exact hC.out _ (Below.refl _ _).drew | exact hC.out _ (keep_call hb (Nat.le_refl _) (by assumption))) (first | (go_at_call 52; refine (bit_any _ _ _ _ _ (by assumption) hm).mono ?_; rintro e w1 ⟨rfl, hb⟩))
        go_wp2
        have hS1 : Below wr.heap.size wr w1 := And.right (by assumption)
        have X2 := X.later hS1
        have Y2 := Y.later hS1
        replace hB := below_call hB hS1
        clear hb hC
        have hC2 : Hid (∀ w' : World, Below w1.heap.size w1 w' → (w'.cell? ⟨w.heap.size, 0, none⟩ = some (.int .u64 a0) ∧ w'.cell? ⟨w.heap.size, 1, none⟩ = some (.int .u64 b0) ∧ w'.cell? ⟨w.heap.size + 1, 0, none⟩ = some (.int .u64 a1) ∧ w'.cell? ⟨w.heap.size + 1, 1, none⟩ = some (.int .u64 b1)) ∧ Below w1.heap.size w1 w') := fun w' h => ⟨⟨cell_later h X2.1, cell_later h X2.2, cell_later h Y2.1, cell_later h Y2.2⟩, h⟩
        go_region_held3 (fun w' => (w'.cell? ⟨w.heap.size, 0, none⟩ = some (.int .u64 a0) ∧ w'.cell? ⟨w.heap.size, 1, none⟩ = some (.int .u64 b0) ∧ w'.cell? ⟨w.heap.size + 1, 0, none⟩ = some (.int .u64 a1) ∧ w'.cell? ⟨w.heap.size + 1, 1, none⟩ = some (.int .u64 b1)) ∧ Below w1.heap.size w1 w') (first | exact hC2.out _ (Below.refl _ _).drew | exact hC2.out _ (keep_call hb (Nat.le_refl _) (by assumption))) (first | (go_at_call 52; refine (bit_any _ _ _ _ _ (by assumption) hm).mono ?_; rintro e w2 ⟨rfl, hb⟩))
        go_wp2
        go_ret
        exact ⟨ret_int (by rw [HR.out, IntKind.wrap_i64]; omega), below_call hB (And.right (by assumption) : Below w1.heap.size w1 _)⟩
theorem cmpN_lt {a b c d N M : Nat} (h : IsW a b N) (k : IsW c d M) : (cmpN N M < 0) ↔ (a < c ∨ a = c ∧ b < d) := by
  rw [← h.lt_iff k]
  unfold cmpN
  split
  · simp; omega
  · split
    · simp; omega
    · simp; omega
set_option maxRecDepth 100000 in
set_option maxHeartbeats 1000000 in
theorem less_any (x y : Cp) (w : World) (hx : x.2.1 < B64 ∧ x.2.2 < B64) (hy : y.2.1 < B64 ∧ y.2.2 < B64) : Calls Try.prog 23 #[.agg #[.int .i64 x.1, .int .u64 (x.2.1 : Int), .int .u64 (x.2.2 : Int)], .agg #[.int .i64 y.1, .int .u64 (y.2.1 : Int), .int .u64 (y.2.2 : Int)]] w fun e w' => e = .returned (.bool (decide (ltC x y))) ∧ Below w.heap.size w w' := by
  by_cases h1 : x.1 = y.1
  · have wx : IsW x.2.1 x.2.2 (x.2.1 * B64 + x.2.2) := ⟨hx.1, hx.2, rfl⟩
    have wy : IsW y.2.1 y.2.2 (y.2.1 * B64 + y.2.2) := ⟨hy.1, hy.2, rfl⟩
    have hl := cmpN_lt wx wy
    have hc := fun W => rCmp_any _ _ _ _ _ _ W (IsV.of wx) (IsV.of wy)
    have HR : Hid (decide (cmpN (x.2.1 * B64 + x.2.2) (y.2.1 * B64 + y.2.2) < 0) = decide (ltC x y)) := by
      unfold Hid
      refine decide_eq_decide.2 ?_
      rw [hl]
      unfold ltC
      omega
    have hn : (x.1 != y.1) = false := by simp [h1]
    clear h1 hl
    generalize cmpN (x.2.1 * B64 + x.2.2) (y.2.1 * B64 + y.2.2) = r at hc HR
    go_enter Try.func23, Try.ntmps23
    go_wp2_with (first | (go_at_call 37; refine (hc _).mono ?_; rintro e w' ⟨rfl, hb⟩; have HB := hid (below_call (below2 _ _ _) hb); clear hb))
    go_ret
    exact ⟨ret_bool HR.out, HB.out⟩
  · have HR : Hid (decide (x.1 < y.1) = decide (ltC x y)) := by
      unfold Hid
      refine decide_eq_decide.2 ?_
      unfold ltC
      omega
    have hn : (x.1 != y.1) = true := by simpa using h1
    clear h1
    go_enter Try.func23, Try.ntmps23
    go_wp2
    go_ret
    exact ⟨ret_bool HR.out, below2 _ _ _⟩
end Go.Proofs.Ytdkadmnhfnilkaa
