import Derived.Test.YtgihdchgdejkhaaGreatDoorMA
namespace Go.Proofs.YtgihdchgdejkhaaGreatDoor.D
open Go.Proofs.YtgihdchgdejkhaaGreatDoor.H (B64)
open Go.RowKit
set_option linter.unusedVariables false

theorem low_any (h : Nat) (n : Int) (w : World) (hh : h < B64) (h0 : 0 ≤ n) (h1 : n ≤ 63) :
    Calls Tryz.prog 113 #[.int .u64 (h : Int), .int .i64 n] w fun e w' => e = .returned (.int .u64 ((h % 2 ^ n.toNat : Nat) : Int)) ∧ w' = w := by
  have hl := u64_low h n.toNat hh (by omega)
  have HL : Hid (bits .and .u64 (h : Int) (IntKind.u64.wrap (IntKind.u64.wrap (2 ^ n.toNat) - 1)) = ((h % 2 ^ n.toNat : Nat) : Int)) := hl
  clear hl
  go_enter Tryz.func113, Tryz.ntmps113
  go_wp2
  go_ret
  exact ⟨ret_int HL.out, rfl⟩

set_option maxHeartbeats 400000 in
theorem cut_any (a b : Int) (N : Nat) (width : Int) (w : World) (h : IsV a b N) :
    Calls Tryz.prog 80 #[.agg #[.int .u64 a, .int .u64 b], .int .i64 width] w fun e w' => ∃ c d : Int, e = .returned (.agg #[.int .u64 c, .int .u64 d]) ∧ IsV c d (cutN N width) ∧ Below w.heap.size w w' := by
  obtain ⟨a, b, rfl, rfl, h⟩ := h
  by_cases h1 : width < 1
  · have hz : cutN N width = 0 := cut_none h1
    rw [hz]; clear hz
    go_enter Tryz.func80, Tryz.ntmps80
    go_wp2
    exact bodyPost_ret (v := .agg #[.int .u64 0, .int .u64 0]) (by simp [results, Tryz.results80, go_sem]) rfl ⟨0, 0, rfl, IsV.zero, below2 _ _ _⟩
  · by_cases h2 : 128 ≤ width
    · have hz := IsV.of (cut_all h h2)
      clear h
      go_enter Tryz.func80, Tryz.ntmps80
      go_wp2
      exact bodyPost_ret (v := .agg #[.int .u64 a, .int .u64 b]) (by simp [results, Tryz.results80, go_sem]) rfl ⟨a, b, rfl, hz, below2 _ _ _⟩
    · by_cases h3 : 64 ≤ width
      · have hz := IsV.of (cut_hi h h3 (by omega))
        have hh := h.ha
        have hw : IntKind.i64.wrap (width - 64) = width - 64 := by rw [IntKind.wrap_i64]; omega
        clear h
        go_enter Tryz.func80, Tryz.ntmps80
        go_wp2
        go_region_with (first | (go_at_call 113; refine (low_any _ _ _ hh (by omega) (by omega)).mono ?_; rintro e w' ⟨rfl, rfl⟩))
        all_goals go_wp2
        all_goals exact bodyPost_ret (v := .agg #[.int .u64 ((a % 2 ^ (width - 64).toNat : Nat) : Int), .int .u64 b]) (by simp [results, Tryz.results80, go_sem]) rfl ⟨_, b, rfl, hz, (below2 _ _ _).drew⟩
      · have hz := IsV.of (cut_lo (width := width) h (by omega) (by omega))
        have hh := h.hb
        have h4 : width ≤ 63 := by omega
        clear h
        go_enter Tryz.func80, Tryz.ntmps80
        go_wp2_with (first | (go_at_call 113; refine (low_any b width _ hh (by omega) h4).mono ?_; rintro e w' ⟨rfl, rfl⟩))
        exact bodyPost_ret (v := .agg #[.int .u64 0, .int .u64 ((b % 2 ^ width.toNat : Nat) : Int)]) (by simp [results, Tryz.results80, go_sem]) rfl ⟨0, _, rfl, hz, (below2 _ _ _)⟩

set_option maxHeartbeats 400000 in
theorem bit_any (a b : Int) (N i : Nat) (w : World) (h : IsV a b N) (hi : i < 128) :
    Calls Tryz.prog 124 #[.agg #[.int .u64 a, .int .u64 b], .int .i64 (i : Int)] w fun e w' => e = .returned (.int .i64 (bitN N i : Int)) ∧ Below w.heap.size w w' := by
  obtain ⟨a, b, rfl, rfl, h⟩ := h
  by_cases h1 : i < 64
  · have hb := bit_lo h h1
    have HV : Hid (wrap64 (((b : Int) / 2 ^ i).tmod 2) = (bitN N i : Int)) := by unfold Hid; rw [bit_val, hb]
    clear hb h
    go_enter Tryz.func124, Tryz.ntmps124
    go_wp2
    go_ret
    exact ⟨ret_int HV.out, below1 _ _⟩
  · obtain ⟨j, rfl⟩ : ∃ j, i = 64 + j := ⟨i - 64, by omega⟩
    have hb := bit_hi h (i := j)
    have HV : Hid (wrap64 (((a : Int) / 2 ^ j).tmod 2) = (bitN N (64 + j) : Int)) := by unfold Hid; rw [bit_val, hb]
    have h2 : j < 64 := by omega
    clear hb h h1 hi
    have hw : ((64 + j : Nat) : Int) - 64 = (j : Int) := by omega
    have h3 : ¬ ((64 + j : Nat) : Int) < 64 := by omega
    go_enter Tryz.func124, Tryz.ntmps124
    go_wp2
    go_ret
    exact ⟨ret_int HV.out, below1 _ _⟩
set_option maxHeartbeats 400000 in
theorem set_any (a b : Int) (N i : Nat) (w : World) (h : IsV a b N) (hi : i < 128) (hz : bitN N i = 0) :
    Calls Tryz.prog 125 #[.agg #[.int .u64 a, .int .u64 b], .int .i64 (i : Int)] w fun e w' => ∃ c d : Int, e = .returned (.agg #[.int .u64 c, .int .u64 d]) ∧ IsV c d (N + 2 ^ i) ∧ Below w.heap.size w w' := by
  obtain ⟨a, b, rfl, rfl, h⟩ := h
  by_cases h1 : i < 64
  · obtain ⟨s1, s2⟩ := set_lo h h1 hz
    have s3 := IsV.of s1
    rw [← s2] at s3
    clear s1 s2 h hz
    go_enter Tryz.func125, Tryz.ntmps125
    go_wp2
    exact bodyPost_ret (v := .agg #[.int .u64 (a : Int), .int .u64 (bits BinOp.or IntKind.u64 (b : Int) (IntKind.u64.wrap (2 ^ i)))]) (by simp [results, Tryz.results125, go_sem]) rfl ⟨_, _, rfl, s3, below2 _ _ _⟩
  · obtain ⟨j, rfl⟩ : ∃ j, i = 64 + j := ⟨i - 64, by omega⟩
    have h2 : j < 64 := by omega
    obtain ⟨s1, s2⟩ := set_hi h h2 hz
    have s3 := IsV.of s1
    rw [← s2] at s3
    clear s1 s2 h hz h1 hi
    have hw : ((64 + j : Nat) : Int) - 64 = (j : Int) := by omega
    have h3 : ¬ ((64 + j : Nat) : Int) < 64 := by omega
    go_enter Tryz.func125, Tryz.ntmps125
    go_wp2
    exact bodyPost_ret (v := .agg #[.int .u64 (bits BinOp.or IntKind.u64 (a : Int) (IntKind.u64.wrap (2 ^ j))), .int .u64 (b : Int)]) (by simp [results, Tryz.results125, go_sem]) rfl ⟨_, _, rfl, s3, below2 _ _ _⟩
theorem lies_new {w : World} {c : Array Value} {t : TypeId} {i : Nat} {v : Value} (h : c[i]? = some v) : Lies (w.alloc (.cells c t)) ⟨w.heap.size, i, none⟩ v :=
  ⟨by simp [go_sem, h], by simp [go_sem]⟩
theorem _root_.Go.Proofs.YtgihdchgdejkhaaGreatDoor.Lies.keep {w : World} {p q : Addr} {u v : Value} (h : Lies w p v) (hn : q ≠ p) : Lies (w.setCell q u) p v :=
  ⟨by rw [World.cell?_setCell_other _ _ _ _ hn]; exact h.1, by rw [World.frozen?_setCell]; exact h.2⟩
theorem addr_ne {b o b' o' : Nat} (h : b ≠ b' ∨ o ≠ o') : (⟨b, o, none⟩ : Addr) ≠ ⟨b', o', none⟩ := by
  intro e
  simp only [Addr.mk.injEq, and_true] at e
  omega

/-- One round: the digit laid, the word shortened. -/
structure CutAt (w w' : World) (a b : Int) (M : Nat) : Prop where
  below : Below w.heap.size w w'
  box : Box w' w.heap.size a b
  res0 : Lies w' ⟨w.heap.size + 1, 0, none⟩ (.int .u64 0)
  res1 : Lies w' ⟨w.heap.size + 1, 1, none⟩ (.int .u64 0)
  word : ∃ c d : Int, IsV c d M ∧ Lies w' ⟨w.heap.size + 1 + 1, 0, none⟩ (.int .u64 c) ∧ Lies w' ⟨w.heap.size + 1 + 1, 1, none⟩ (.int .u64 d)
theorem lies_one {w : World} (o : Obj) {c : Array Value} {t : TypeId} {i : Nat} {v : Value} (h : c[i]? = some v) : Lies ((w.alloc o).alloc (.cells c t)) ⟨w.heap.size + 1, i, none⟩ v := by
  have := lies_new (w := w.alloc o) (t := t) h
  simpa using this
theorem CutAt.start (w : World) (a b : Int) : CutAt w (((w.alloc (Obj.cells #[Value.int IntKind.u64 a, Value.int IntKind.u64 b] 30)).alloc (Obj.cells #[Value.int IntKind.u64 0, Value.int IntKind.u64 0] 30)).alloc (Obj.cells #[Value.int IntKind.u64 0, Value.int IntKind.u64 0] 30)) a b 0 := by
  have l1 : ∀ i, i < 2 → Lies ((((w.alloc (Obj.cells #[Value.int IntKind.u64 a, Value.int IntKind.u64 b] 30)).alloc (Obj.cells #[Value.int IntKind.u64 0, Value.int IntKind.u64 0] 30)).alloc (Obj.cells #[Value.int IntKind.u64 0, Value.int IntKind.u64 0] 30))) ⟨w.heap.size + 1 + 1, i, none⟩ (.int .u64 0) := by
    intro i hi
    have := lies_one (w := w.alloc (Obj.cells #[Value.int IntKind.u64 a, Value.int IntKind.u64 b] 30)) (Obj.cells #[Value.int IntKind.u64 0, Value.int IntKind.u64 0] 30) (c := #[Value.int IntKind.u64 0, Value.int IntKind.u64 0]) (t := 30) (i := i) (v := Value.int IntKind.u64 0) (by
      rcases (by omega : i = 0 ∨ i = 1) with rfl | rfl <;> rfl)
    simpa using this
  refine ⟨(below2 _ _ _).alloc (by simp; omega) _, ((Box.new _ _ _).alloc _).alloc _, ?_, ?_, 0, 0, IsV.zero, l1 0 (by omega), l1 1 (by omega)⟩
  · exact (lies_one _ (by rfl)).alloc _
  · exact (lies_one _ (by rfl)).alloc _
theorem CutAt.later {w w' w1 : World} {a b : Int} {M : Nat} (h : CutAt w w' a b M) (hb : Below w'.heap.size w' w1) : CutAt w w1 a b M := by
  obtain ⟨c, d, hv, l0, l1⟩ := h.word
  exact ⟨below_call h.below hb, h.box.later hb, h.res0.later hb, h.res1.later hb, c, d, hv, l0.later hb, l1.later hb⟩
theorem Box.keep {w : World} {k g o : Nat} {a b : Int} {v : Value} (h : Box w k a b) (hk : g ≠ k) : Box (w.setCell ⟨g, o, none⟩ v) k a b :=
  ⟨by rw [World.cell?_setCell_other _ _ _ _ (addr_ne (.inl hk))]; exact h.1, by rw [World.cell?_setCell_other _ _ _ _ (addr_ne (.inl hk))]; exact h.2⟩
theorem CutAt.put {w w' : World} {a b c d : Int} {M M' : Nat} (h : CutAt w w' a b M) (hv : IsV c d M') : CutAt w ((w'.setCell ⟨w.heap.size + 1 + 1, 0, none⟩ (.int .u64 c)).setCell ⟨w.heap.size + 1 + 1, 1, none⟩ (.int .u64 d)) a b M' := by
  obtain ⟨c0, d0, _, l0, l1⟩ := h.word
  refine ⟨(h.below.setCell (by show _ ≤ w.heap.size + 1 + 1; omega) _).setCell (by show _ ≤ w.heap.size + 1 + 1; omega) _, (h.box.keep (by omega)).keep (by omega), ?_, ?_, c, d, hv, ?_, ?_⟩
  · exact (h.res0.keep (addr_ne (.inl (by omega)))).keep (addr_ne (.inl (by omega)))
  · exact (h.res1.keep (addr_ne (.inl (by omega)))).keep (addr_ne (.inl (by omega)))
  · exact l0.put.keep (addr_ne (.inr (by omega)))
  · exact (l1.keep (addr_ne (.inr (by omega)))).put
def CutRel (w : World) (a b : Int) (N : Nat) (width : Int) (t : Value) (w' : World) : Prop :=
  ∃ k : Nat, k ≤ 128 ∧ (k = 0 ∨ (k : Int) ≤ width) ∧ t = .int .i64 (k : Int) ∧ CutAt w w' a b (N % 2 ^ k)
set_option maxRecDepth 100000 in
set_option maxHeartbeats 1000000 in
theorem rCut_any (a b : Int) (N : Nat) (width : Int) (w : World) (h : IsV a b N) :
    Calls Tryz.prog 99 #[.agg #[.int .u64 a, .int .u64 b], .int .i64 width] w fun e w' => ∃ c d : Int, e = .returned (.agg #[.int .u64 c, .int .u64 d]) ∧ IsV c d (cutN N width) ∧ Below w.heap.size w w' := by
  have HN : Hid (N < 2 ^ 128) := by unfold Hid; rw [pow_big]; exact h.lt
  have H0 : Hid _ := CutAt.start w a b
  go_enter Tryz.func99, Tryz.ntmps99
  go_wp2
  go_loopw [6] (CutRel w a b N width) (fun t _ => 128 - (intOf t).toNat)
  case atStart => exact ⟨0, by omega, .inl rfl, rfl, by rw [Nat.pow_zero, Nat.mod_one]; exact H0.out⟩
  case round =>
    clear H0
    obtain ⟨k, hk, hkw, rfl, hC⟩ := hrel
    by_cases hlt : (k : Int) < width ∧ k < 128
    · obtain ⟨h1, h2⟩ := hlt
      obtain ⟨c, d, hcd, X0, X1⟩ := hC.word
      have x0 := hC.box.1
      have x1 := hC.box.2
      have HC : Hid (CutAt w wr a b (N % 2 ^ k)) := hC
      clear hC
      by_cases hv : bitN N k = 1
      · have hv' : ((bitN N k : Int) == 1) = true := by rw [hv]; rfl
        have HM : Hid (N % 2 ^ (k + 1) = N % 2 ^ k + 2 ^ k) := by unfold Hid; rw [mod_succ, hv, Nat.one_mul]
        clear hv
        go_wp2_with (first | (go_at_call 124; refine (bit_any _ _ _ _ _ h h2).mono ?_; rintro e w1 ⟨rfl, hb1⟩; have Y0 := X0.later hb1; have Y1 := X1.later hb1; obtain ⟨y0, y0'⟩ := Y0; obtain ⟨y1, y1'⟩ := Y1) | (go_at_call 125; refine (set_any _ _ _ _ _ hcd h2 (bit_mod_zero N k)).mono ?_; rintro e w2 ⟨c', d', rfl, hcd', hb2⟩; have Z0 := (X0.later hb1).later hb2; have Z1 := (X1.later hb1).later hb2; obtain ⟨z0, z0'⟩ := Z0; obtain ⟨z1, z1'⟩ := Z1))
        rw [← HM.out] at hcd'
        exact ⟨⟨k + 1, by omega, .inr (by omega), by go_num, ((HC.out.later hb1).later hb2).put hcd'⟩, by simp [intOf]; omega⟩
      · have hv' : ((bitN N k : Int) == 1) = false := by simp; omega
        have HM : Hid (N % 2 ^ (k + 1) = N % 2 ^ k) := by unfold Hid; rw [mod_succ]; have : bitN N k = 0 := by have := bitN_lt N k; omega
                                                          rw [this, Nat.zero_mul, Nat.add_zero]
        clear hv
        go_wp2_with (first | (go_at_call 124; refine (bit_any _ _ _ _ _ h h2).mono ?_; rintro e w1 ⟨rfl, hb1⟩))
        exact ⟨⟨k + 1, by omega, .inr (by omega), by go_num, by rw [HM.out]; exact HC.out.later hb1⟩, by simp [intOf]; omega⟩
    · have HE : Hid (N % 2 ^ k = cutN N width) := cut_end HN.out hk hkw hlt
      obtain ⟨c, d, hcd, X0, X1⟩ := hC.word
      obtain ⟨x0, x0'⟩ := X0
      obtain ⟨x1, x1'⟩ := X1
      obtain ⟨y0, y0'⟩ := hC.res0
      obtain ⟨y1, y1'⟩ := hC.res1
      have hB := hC.below
      rw [HE.out] at hcd
      clear hC
      by_cases h1 : (k : Int) < width
      · have h2 : ¬ k < 128 := fun e => hlt ⟨h1, e⟩
        clear hlt
        go_wp2
        exact bodyPost_ret (v := .agg #[.int .u64 c, .int .u64 d]) (by simp [results, Tryz.results99, go_sem, y0, y1]) rfl ⟨c, d, rfl, hcd, (hB.setCell (Nat.le_succ _) _).setCell (Nat.le_succ _) _⟩
      · clear hlt
        go_wp2
        exact bodyPost_ret (v := .agg #[.int .u64 c, .int .u64 d]) (by simp [results, Tryz.results99, go_sem, y0, y1]) rfl ⟨c, d, rfl, hcd, (hB.setCell (Nat.le_succ _) _).setCell (Nat.le_succ _) _⟩

theorem cutP (N : Nat) (width : Int) (w : World) (h : N < B64 * B64) :
    Calls Tryz.prog 80 #[.agg #[.int .u64 (hiI N), .int .u64 (loI N)], .int .i64 width] w fun e w' => e = .returned (.agg #[.int .u64 (hiI (cutN N width)), .int .u64 (loI (cutN N width))]) ∧ Below w.heap.size w w' := by
  refine (cut_any _ _ N width w (isV h)).mono ?_
  rintro e w' ⟨c, d, rfl, hv, hb⟩
  rw [hv.hi, hv.lo]
  exact ⟨rfl, hb⟩
theorem cutR (N : Nat) (width : Int) (w : World) (h : N < B64 * B64) :
    Calls Tryz.prog 99 #[.agg #[.int .u64 (hiI N), .int .u64 (loI N)], .int .i64 width] w fun e w' => e = .returned (.agg #[.int .u64 (hiI (cutN N width)), .int .u64 (loI (cutN N width))]) ∧ Below w.heap.size w w' := by
  refine (rCut_any _ _ N width w (isV h)).mono ?_
  rintro e w' ⟨c, d, rfl, hv, hb⟩
  rw [hv.hi, hv.lo]
  exact ⟨rfl, hb⟩
end Go.Proofs.YtgihdchgdejkhaaGreatDoor.D
