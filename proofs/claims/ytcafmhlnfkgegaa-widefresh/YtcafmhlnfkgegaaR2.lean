import Derived.Test.YtcafmhlnfkgegaaR1
namespace Go.Proofs.Ytcafmhlnfkgegaa
open Go.RowKit

theorem bits_zero {N n : Nat} : ∀ m, n ≤ m → N < 2 ^ m → (∀ j, n ≤ j → j < m → bitN N j = 0) → N < 2 ^ n := by
  intro m
  induction m with
  | zero => intro h1 h2 _; have : n = 0 := by omega
            subst this; exact h2
  | succ m ih =>
    intro h1 h2 h3
    by_cases e : n = m + 1
    · subst e; exact h2
    · refine ih (by omega) ?_ (fun j a b => h3 j a (by omega))
      have h4 := h3 m (by omega) (by omega)
      unfold bitN at h4
      have h5 : N / 2 ^ m < 2 := by apply Nat.div_lt_of_lt_mul; rw [← Nat.pow_succ]; exact h2
      have h6 : N / 2 ^ m = 0 := by rw [Nat.mod_eq_of_lt h5] at h4; exact h4
      rcases Nat.div_eq_zero_iff.1 h6 with h | h
      · have := Nat.two_pow_pos m; omega
      · exact h
theorem bit_one_ge {N k : Nat} (h : bitN N k = 1) : 2 ^ k ≤ N := by
  unfold bitN at h
  rcases Nat.lt_or_ge N (2 ^ k) with h1 | h1
  · rw [Nat.div_eq_of_lt h1] at h; simp at h
  · exact h1
theorem mod_succ (N k : Nat) : N % 2 ^ (k + 1) = N % 2 ^ k + bitN N k * 2 ^ k := by
  unfold bitN
  rw [Nat.pow_succ, Nat.mod_mul, Nat.mul_comm (2 ^ k)]
theorem bit_mod_zero (N k : Nat) : bitN (N % 2 ^ k) k = 0 := by
  unfold bitN
  rw [Nat.div_eq_of_lt (Nat.mod_lt _ (Nat.two_pow_pos k))]

def FitsRel (w : World) (a b : Int) (N n : Nat) (t : Value) (w' : World) : Prop :=
  ∃ k : Nat, n ≤ k ∧ t = .int .i64 (k : Int) ∧ (∀ j, n ≤ j → j < k → bitN N j = 0) ∧ Below w.heap.size w w' ∧ Box w' w.heap.size a b

set_option maxRecDepth 100000 in
set_option maxHeartbeats 400000 in
theorem rFits_any (a b : Int) (N : Nat) (width : Int) (w : World) (h : IsV a b N) (hmax : width ≤ 9223372036854775807) :
    Calls Try.prog 17 #[.agg #[.int .u64 a, .int .u64 b], .int .i64 width] w fun e w' => e = .returned (.bool (fitsB N width)) ∧ Below w.heap.size w w' := by
  by_cases h1 : width < 1
  · have hz : fitsB N width = false := by unfold fitsB; rw [decide_eq_false (by omega)]; rfl
    rw [hz]; clear hz
    go_enter Try.func17, Try.ntmps17
    go_wp2
    go_ret
    exact ⟨rfl, below1 _ _⟩
  · obtain ⟨n, rfl⟩ : ∃ n : Nat, width = n := ⟨width.toNat, by omega⟩
    have HN : Hid (N < 2 ^ 128) := by unfold Hid; rw [pow_big]; exact h.lt
    have HF : Hid (fitsB N (n : Int) = decide (N < 2 ^ n)) := by
      unfold Hid fitsB
      rw [decide_eq_true (p := 1 ≤ (n : Int)) (by omega), Bool.true_and]
      simp
    go_enter Try.func17, Try.ntmps17
    go_wp2
    go_loopw [5] (FitsRel w a b N n) (fun t _ => 128 - (intOf t).toNat)
    case atStart => exact ⟨n, Nat.le_refl _, rfl, fun j h1 h2 => by omega, below1 _ _, Box.new _ _ _⟩
    case round =>
      obtain ⟨k, hk, rfl, hb, hB, X⟩ := hrel
      have HB : Hid (∀ j, n ≤ j → j < k → bitN N j = 0) := hb
      clear hb
      by_cases hlt : k < 128
      · have x0 := X.1
        have x1 := X.2
        by_cases hv : bitN N k = 1
        · have hv' : ((bitN N k : Int) == 1) = true := by rw [hv]; rfl
          have HR : Hid (fitsB N (n : Int) = false) := by
            unfold Hid
            rw [HF.out]
            apply decide_eq_false
            have := bit_one_ge hv
            have := Nat.pow_le_pow_right (n := 2) (by omega) hk
            omega
          clear hv
          go_wp2_with (first | (go_at_call 34; refine (bit_any _ _ _ _ _ h hlt).mono ?_; rintro e w1 ⟨rfl, hb1⟩))
          go_ret
          exact ⟨by rw [HR.out]; rfl, below_call hB hb1⟩
        · have hv' : ((bitN N k : Int) == 1) = false := by simp; omega
          have HV : Hid (bitN N k = 0) := by unfold Hid; have := bitN_lt N k; omega
          clear hv
          go_wp2_with (first | (go_at_call 34; refine (bit_any _ _ _ _ _ h hlt).mono ?_; rintro e w1 ⟨rfl, hb1⟩))
          refine ⟨⟨k + 1, by omega, by go_num, fun j h1 h2 => ?_, below_call hB hb1, X.later hb1⟩, by simp [intOf]; omega⟩
          by_cases e : j = k
          · subst e; exact HV.out
          · exact HB.out j h1 (by omega)
      · have HR : Hid (fitsB N (n : Int) = true) := by
          unfold Hid
          rw [HF.out]
          apply decide_eq_true
          by_cases h2 : n ≤ 128
          · exact bits_zero 128 h2 HN.out (fun j a b => HB.out j a (by omega))
          · exact Nat.lt_of_lt_of_le HN.out (Nat.pow_le_pow_right (by omega) (by omega))
        go_wp2
        go_ret
        exact ⟨by rw [HR.out]; rfl, hB⟩

structure CutAt (w w' : World) (a b : Int) (M : Nat) : Prop where
  below : Below w.heap.size w w'
  box : Box w' w.heap.size a b
  res0 : Lies w' ⟨w.heap.size + 1, 0, none⟩ (.int .u64 0)
  res1 : Lies w' ⟨w.heap.size + 1, 1, none⟩ (.int .u64 0)
  word : ∃ c d : Int, IsV c d M ∧ Lies w' ⟨w.heap.size + 1 + 1, 0, none⟩ (.int .u64 c) ∧ Lies w' ⟨w.heap.size + 1 + 1, 1, none⟩ (.int .u64 d)
theorem lies_one {w : World} (o : Obj) {c : Array Value} {t : TypeId} {i : Nat} {v : Value} (h : c[i]? = some v) : Lies ((w.alloc o).alloc (.cells c t)) ⟨w.heap.size + 1, i, none⟩ v := by
  have := lies_new (w := w.alloc o) (t := t) h
  simpa using this
theorem CutAt.start (w : World) (a b : Int) : CutAt w (((w.alloc (Obj.cells #[Value.int IntKind.u64 a, Value.int IntKind.u64 b] 24)).alloc (Obj.cells #[Value.int IntKind.u64 0, Value.int IntKind.u64 0] 24)).alloc (Obj.cells #[Value.int IntKind.u64 0, Value.int IntKind.u64 0] 24)) a b 0 := by
  have l1 : ∀ i, i < 2 → Lies ((((w.alloc (Obj.cells #[Value.int IntKind.u64 a, Value.int IntKind.u64 b] 24)).alloc (Obj.cells #[Value.int IntKind.u64 0, Value.int IntKind.u64 0] 24)).alloc (Obj.cells #[Value.int IntKind.u64 0, Value.int IntKind.u64 0] 24))) ⟨w.heap.size + 1 + 1, i, none⟩ (.int .u64 0) := by
    intro i hi
    have := lies_one (w := w.alloc (Obj.cells #[Value.int IntKind.u64 a, Value.int IntKind.u64 b] 24)) (Obj.cells #[Value.int IntKind.u64 0, Value.int IntKind.u64 0] 24) (c := #[Value.int IntKind.u64 0, Value.int IntKind.u64 0]) (t := 24) (i := i) (v := Value.int IntKind.u64 0) (by
      rcases (by omega : i = 0 ∨ i = 1) with rfl | rfl <;> rfl)
    simpa using this
  refine ⟨(below2 _ _ _).alloc (by simp; omega) _, ((Box.new _ _ _).alloc _).alloc _, ?_, ?_, 0, 0, IsV.zero, l1 0 (by omega), l1 1 (by omega)⟩
  · exact (lies_one _ (by rfl)).alloc _
  · exact (lies_one _ (by rfl)).alloc _
theorem CutAt.later {w w' w1 : World} {a b : Int} {M : Nat} (h : CutAt w w' a b M) (hb : Below w'.heap.size w' w1) : CutAt w w1 a b M := by
  obtain ⟨c, d, hv, l0, l1⟩ := h.word
  exact ⟨below_call h.below hb, h.box.later hb, h.res0.later hb, h.res1.later hb, c, d, hv, l0.later hb, l1.later hb⟩
theorem Box.keep {w : World} {k g o : Nat} {a b : Int} {v : Value} (h : Box w k a b) (hk : g ≠ k) : Box (w.setCell ⟨g, o, none⟩ v) k a b :=
  ⟨by rw [World.cell?_setCell_other _ _ _ _ (addr_ne (.inl hk))]; exact h.1, by rw [World.cell?_setCell_other _ _ _ _ (addr_ne (.inl hk))]; exact h.2⟩
theorem CutAt.put {w w' : World} {a b c d : Int} {M M' : Nat} (h : CutAt w w' a b M) (hv : IsV c d M') : CutAt w ((w'.setCell ⟨w.heap.size + 1 + 1, 0, none⟩ (.int .u64 c)).setCell ⟨w.heap.size + 1 + 1, 1, none⟩ (.int .u64 d)) a b M' := by
  obtain ⟨c0, d0, _, l0, l1⟩ := h.word
  refine ⟨(h.below.setCell (by show _ ≤ w.heap.size + 1 + 1; omega) _).setCell (by show _ ≤ w.heap.size + 1 + 1; omega) _, (h.box.keep (by omega)).keep (by omega), ?_, ?_, c, d, hv, ?_, ?_⟩
  · exact (h.res0.keep (addr_ne (.inl (by omega)))).keep (addr_ne (.inl (by omega)))
  · exact (h.res1.keep (addr_ne (.inl (by omega)))).keep (addr_ne (.inl (by omega)))
  · exact l0.put.keep (addr_ne (.inr (by omega)))
  · exact (l1.keep (addr_ne (.inr (by omega)))).put
def CutRel (w : World) (a b : Int) (N : Nat) (width : Int) (t : Value) (w' : World) : Prop :=
  ∃ k : Nat, k ≤ 128 ∧ (k = 0 ∨ (k : Int) ≤ width) ∧ t = .int .i64 (k : Int) ∧ CutAt w w' a b (N % 2 ^ k)
theorem cut_end {N k : Nat} {width : Int} (hN : N < 2 ^ 128) (hk : k ≤ 128) (h : k = 0 ∨ (k : Int) ≤ width) (he : ¬ ((k : Int) < width ∧ k < 128)) : N % 2 ^ k = cutN N width := by
  unfold cutN
  by_cases h1 : k = 128
  · subst h1
    rw [Nat.mod_eq_of_lt hN, Nat.mod_eq_of_lt (Nat.lt_of_lt_of_le hN (Nat.pow_le_pow_right (by omega) (by omega)))]
  · have : k = width.toNat := by omega
    rw [this]

set_option maxRecDepth 100000 in
set_option maxHeartbeats 1000000 in
theorem rCut_any (a b : Int) (N : Nat) (width : Int) (w : World) (h : IsV a b N) :
    Calls Try.prog 18 #[.agg #[.int .u64 a, .int .u64 b], .int .i64 width] w fun e w' => ∃ c d : Int, e = .returned (.agg #[.int .u64 c, .int .u64 d]) ∧ IsV c d (cutN N width) ∧ Below w.heap.size w w' := by
  have HN : Hid (N < 2 ^ 128) := by unfold Hid; rw [pow_big]; exact h.lt
  have H0 : Hid _ := CutAt.start w a b
  go_enter Try.func18, Try.ntmps18
  go_wp2
  go_loopw [6] (CutRel w a b N width) (fun t _ => 128 - (intOf t).toNat)
  case atStart => exact ⟨0, by omega, .inl rfl, rfl, by rw [Nat.pow_zero, Nat.mod_one]; exact H0.out⟩
  case round =>
    clear H0
    obtain ⟨k, hk, hkw, rfl, hC⟩ := hrel
    by_cases hlt : (k : Int) < width ∧ k < 128
    · obtain ⟨h1, h2⟩ := hlt
      obtain ⟨c, d, hcd, X0, X1⟩ := hC.word
      have x0 := hC.box.1
      have x1 := hC.box.2
      have HC : Hid (CutAt w wr a b (N % 2 ^ k)) := hC
      clear hC
      by_cases hv : bitN N k = 1
      · have hv' : ((bitN N k : Int) == 1) = true := by rw [hv]; rfl
        have HM : Hid (N % 2 ^ (k + 1) = N % 2 ^ k + 2 ^ k) := by unfold Hid; rw [mod_succ, hv, Nat.one_mul]
        clear hv
        go_wp2_with (first | (go_at_call 34; refine (bit_any _ _ _ _ _ h h2).mono ?_; rintro e w1 ⟨rfl, hb1⟩; have Y0 := X0.later hb1; have Y1 := X1.later hb1; obtain ⟨y0, y0'⟩ := Y0; obtain ⟨y1, y1'⟩ := Y1) | (go_at_call 35; refine (set_any _ _ _ _ _ hcd h2 (bit_mod_zero N k)).mono ?_; rintro e w2 ⟨c', d', rfl, hcd', hb2⟩; have Z0 := (X0.later hb1).later hb2; have Z1 := (X1.later hb1).later hb2; obtain ⟨z0, z0'⟩ := Z0; obtain ⟨z1, z1'⟩ := Z1))
        rw [← HM.out] at hcd'
        exact ⟨⟨k + 1, by omega, .inr (by omega), by go_num, ((HC.out.later hb1).later hb2).put hcd'⟩, by simp [intOf]; omega⟩
      · have hv' : ((bitN N k : Int) == 1) = false := by simp; omega
        have HM : Hid (N % 2 ^ (k + 1) = N % 2 ^ k) := by unfold Hid; rw [mod_succ]; have : bitN N k = 0 := by have := bitN_lt N k; omega
                                                          rw [this, Nat.zero_mul, Nat.add_zero]
        clear hv
        go_wp2_with (first | (go_at_call 34; refine (bit_any _ _ _ _ _ h h2).mono ?_; rintro e w1 ⟨rfl, hb1⟩))
        exact ⟨⟨k + 1, by omega, .inr (by omega), by go_num, by rw [HM.out]; exact HC.out.later hb1⟩, by simp [intOf]; omega⟩
    · have HE : Hid (N % 2 ^ k = cutN N width) := cut_end HN.out hk hkw hlt
      obtain ⟨c, d, hcd, X0, X1⟩ := hC.word
      obtain ⟨x0, x0'⟩ := X0
      obtain ⟨x1, x1'⟩ := X1
      obtain ⟨y0, y0'⟩ := hC.res0
      obtain ⟨y1, y1'⟩ := hC.res1
      have hB := hC.below
      rw [HE.out] at hcd
      clear hC
      by_cases h1 : (k : Int) < width
      · have h2 : ¬ k < 128 := fun e => hlt ⟨h1, e⟩
        clear hlt
        go_wp2
        exact bodyPost_ret (v := .agg #[.int .u64 c, .int .u64 d]) (by simp [results, Try.results18, go_sem, y0, y1]) rfl ⟨c, d, rfl, hcd, (hB.setCell (Nat.le_succ _) _).setCell (Nat.le_succ _) _⟩
      · clear hlt
        go_wp2
        exact bodyPost_ret (v := .agg #[.int .u64 c, .int .u64 d]) (by simp [results, Try.results18, go_sem, y0, y1]) rfl ⟨c, d, rfl, hcd, (hB.setCell (Nat.le_succ _) _).setCell (Nat.le_succ _) _⟩
end Go.Proofs.Ytcafmhlnfkgegaa
