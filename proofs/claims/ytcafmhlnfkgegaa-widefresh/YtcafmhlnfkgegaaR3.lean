import Derived.Test.YtcafmhlnfkgegaaR2
namespace Go.Proofs.Ytcafmhlnfkgegaa
open Go.RowKit

theorem div_pow_succ (N m : Nat) : N / 2 ^ m = N / 2 ^ (m + 1) * 2 + bitN N m := by
  unfold bitN
  rw [Nat.pow_succ, ← Nat.div_div_eq_div_mul]
  omega
theorem cmp_bits {N M m : Nat} (h : N / 2 ^ (m + 1) = M / 2 ^ (m + 1)) (hd : bitN N m ≠ bitN M m) : cmpI N M = (bitN N m : Int) - (bitN M m : Int) := by
  have e1 := div_pow_succ N m
  have e2 := div_pow_succ M m
  have l1 := bitN_lt N m
  have l2 := bitN_lt M m
  have hne : N ≠ M := by intro e; subst e; exact hd rfl
  unfold cmpI
  rw [if_neg hne]
  by_cases hb : bitN N m = 0
  · have hlt : N < M := by
      rcases Nat.lt_or_ge N M with h1 | h1
      · exact h1
      · have := Nat.div_le_div_right (c := 2 ^ m) h1
        omega
    rw [if_pos hlt]; omega
  · have hlt : ¬ N < M := by
      intro h1
      have := Nat.div_le_div_right (c := 2 ^ m) (Nat.le_of_lt h1)
      omega
    rw [if_neg hlt]; omega
theorem cmp_same {N M m : Nat} (h : N / 2 ^ (m + 1) = M / 2 ^ (m + 1)) (hd : bitN N m = bitN M m) : N / 2 ^ m = M / 2 ^ m := by
  rw [div_pow_succ N m, div_pow_succ M m, h, hd]

def CmpRel (w : World) (a0 b0 a1 b1 : Int) (N M : Nat) (t : Value) (w' : World) : Prop :=
  (((t = .int .i64 (-1)) ∧ N = M) ∨ ∃ m : Nat, m < 128 ∧ t = .int .i64 (m : Int) ∧ N / 2 ^ (m + 1) = M / 2 ^ (m + 1)) ∧ Below w.heap.size w w' ∧ Box w' w.heap.size a0 b0 ∧ Box w' (w.heap.size + 1) a1 b1

set_option maxRecDepth 100000 in
set_option maxHeartbeats 1000000 in
theorem rCmp_any (a0 b0 a1 b1 : Int) (N M : Nat) (w : World) (hN : IsV a0 b0 N) (hM : IsV a1 b1 M) :
    Calls Try.prog 19 #[.agg #[.int .u64 a0, .int .u64 b0], .agg #[.int .u64 a1, .int .u64 b1]] w fun e w' => e = .returned (.int .i64 (cmpI N M)) ∧ Below w.heap.size w w' := by
  have HN : Hid (N < 2 ^ 128) := by unfold Hid; rw [pow_big]; exact hN.lt
  have HM : Hid (M < 2 ^ 128) := by unfold Hid; rw [pow_big]; exact hM.lt
  go_enter Try.func19, Try.ntmps19
  go_wp2
  go_loopw [5] (CmpRel w a0 b0 a1 b1 N M) (fun t _ => (intOf t + 1).toNat)
  case atStart =>
    refine ⟨.inr ⟨127, by omega, rfl, ?_⟩, below2 _ _ _, (Box.new _ _ _).alloc _, ?_⟩
    · rw [Nat.div_eq_of_lt HN.out, Nat.div_eq_of_lt HM.out]
    · have := Box.new (w.alloc (.cells #[.int .u64 a0, .int .u64 b0] 24)) a1 b1
      simpa using this
  case round =>
    obtain ⟨hcase, hB, X, Y⟩ := hrel
    rcases hcase with ⟨rfl, heqv⟩ | ⟨m, hm, rfl, hdiv⟩
    · have HR : Hid (cmpI N M = 0) := by unfold Hid cmpI; rw [if_pos heqv]
      clear heqv
      go_wp2
      go_ret
      exact ⟨ret_int HR.out.symm, hB⟩
    · have HD : Hid (N / 2 ^ (m + 1) = M / 2 ^ (m + 1)) := hdiv
      clear hdiv
      have hC : Hid (∀ w' : World, Below wr.heap.size wr w' → (w'.cell? ⟨w.heap.size, 0, none⟩ = some (.int .u64 a0) ∧ w'.cell? ⟨w.heap.size, 1, none⟩ = some (.int .u64 b0) ∧ w'.cell? ⟨w.heap.size + 1, 0, none⟩ = some (.int .u64 a1) ∧ w'.cell? ⟨w.heap.size + 1, 1, none⟩ = some (.int .u64 b1)) ∧ Below wr.heap.size wr w') := fun w' h => ⟨⟨cell_later h X.1, cell_later h X.2, cell_later h Y.1, cell_later h Y.2⟩, h⟩
      by_cases hv : bitN N m = bitN M m
      · have hv' : ((bitN N m : Int) != (bitN M m : Int)) = false := by rw [hv]; simp
        have HV : Hid (bitN N m = bitN M m) := hv
        clear hv
        cases m with
        | zero =>
          go_wp2
          go_region_held3 (fun w' => (w'.cell? ⟨w.heap.size, 0, none⟩ = some (.int .u64 a0) ∧ w'.cell? ⟨w.heap.size, 1, none⟩ = some (.int .u64 b0) ∧ w'.cell? ⟨w.heap.size + 1, 0, none⟩ = some (.int .u64 a1) ∧ w'.cell? ⟨w.heap.size + 1, 1, none⟩ = some (.int .u64 b1)) ∧ Below wr.heap.size wr w') (first | exact hC.out _ (Below.refl _ _).drew | exact hC.out _ (keep_call hb (Nat.le_refl _) (by assumption))) (first | (go_at_call 34; refine (bit_any _ _ _ _ _ (by assumption) hm).mono ?_; rintro e w1 ⟨rfl, hb⟩))
          go_wp2
          have hS := hC.out _ (And.right (by assumption) : Below wr.heap.size wr _)
          refine ⟨⟨.inl ⟨rfl, ?_⟩, below_call hB hS.2, X.later hS.2, Y.later hS.2⟩, by simp [intOf]⟩
          have := cmp_same HD.out HV.out
          simpa using this
        | succ j =>
          go_wp2
          go_region_held3 (fun w' => (w'.cell? ⟨w.heap.size, 0, none⟩ = some (.int .u64 a0) ∧ w'.cell? ⟨w.heap.size, 1, none⟩ = some (.int .u64 b0) ∧ w'.cell? ⟨w.heap.size + 1, 0, none⟩ = some (.int .u64 a1) ∧ w'.cell? ⟨w.heap.size + 1, 1, none⟩ = some (.int .u64 b1)) ∧ Below wr.heap.size wr w') (first | exact hC.out _ (Below.refl _ _).drew | exact hC.out _ (keep_call hb (Nat.le_refl _) (by assumption))) (first | (go_at_call 34; refine (bit_any _ _ _ _ _ (by assumption) hm).mono ?_; rintro e w1 ⟨rfl, hb⟩))
          go_wp2
          have hS := hC.out _ (And.right (by assumption) : Below wr.heap.size wr _)
          refine ⟨⟨.inr ⟨j, by omega, by go_num, cmp_same HD.out HV.out⟩, below_call hB hS.2, X.later hS.2, Y.later hS.2⟩, by simp [intOf]; omega⟩
      · have hv' : ((bitN N m : Int) != (bitN M m : Int)) = true := by simp; omega
        have HR : Hid (cmpI N M = (bitN N m : Int) - (bitN M m : Int)) := cmp_bits HD.out hv
        have l1 := bitN_lt N m
        have l2 := bitN_lt M m
        clear hv
        go_wp2
        go_region_held3 (fun w' => (w'.cell? ⟨w.heap.size, 0, none⟩ = some (.int .u64 a0) ∧ w'.cell? ⟨w.heap.size, 1, none⟩ = some (.int .u64 b0) ∧ w'.cell? ⟨w.heap.size + 1, 0, none⟩ = some (.int .u64 a1) ∧ w'.cell? ⟨w.heap.size + 1, 1, none⟩ = some (.int .u64 b1)) ∧ Below wr.heap.size wr w') (first | exact hC.out _ (Below.refl _ _).drew | exact hC.out _ (keep_call hb (Nat.le_refl _) (by assumption))) (first | (go_at_call 34; refine (bit_any _ _ _ _ _ (by assumption) hm).mono ?_; rintro e w1 ⟨rfl, hb⟩))
        go_wp2
        have hS1 : Below wr.heap.size wr w1 := And.right (by assumption)
        have X2 := X.later hS1
        have Y2 := Y.later hS1
        replace hB := below_call hB hS1
        clear hb hC
        have hC2 : Hid (∀ w' : World, Below w1.heap.size w1 w' → (w'.cell? ⟨w.heap.size, 0, none⟩ = some (.int .u64 a0) ∧ w'.cell? ⟨w.heap.size, 1, none⟩ = some (.int .u64 b0) ∧ w'.cell? ⟨w.heap.size + 1, 0, none⟩ = some (.int .u64 a1) ∧ w'.cell? ⟨w.heap.size + 1, 1, none⟩ = some (.int .u64 b1)) ∧ Below w1.heap.size w1 w') := fun w' h => ⟨⟨cell_later h X2.1, cell_later h X2.2, cell_later h Y2.1, cell_later h Y2.2⟩, h⟩
        go_region_held3 (fun w' => (w'.cell? ⟨w.heap.size, 0, none⟩ = some (.int .u64 a0) ∧ w'.cell? ⟨w.heap.size, 1, none⟩ = some (.int .u64 b0) ∧ w'.cell? ⟨w.heap.size + 1, 0, none⟩ = some (.int .u64 a1) ∧ w'.cell? ⟨w.heap.size + 1, 1, none⟩ = some (.int .u64 b1)) ∧ Below w1.heap.size w1 w') (first | exact hC2.out _ (Below.refl _ _).drew | exact hC2.out _ (keep_call hb (Nat.le_refl _) (by assumption))) (first | (go_at_call 34; refine (bit_any _ _ _ _ _ (by assumption) hm).mono ?_; rintro e w2 ⟨rfl, hb⟩))
        go_wp2
        go_ret
        exact ⟨ret_int (by rw [HR.out, IntKind.wrap_i64]; omega), below_call hB (And.right (by assumption) : Below w1.heap.size w1 _)⟩
end Go.Proofs.Ytcafmhlnfkgegaa
