import Derived.Test.YtcafmhlnfkgegaaR4
namespace Go.Proofs.Ytcafmhlnfkgegaa
open Go.RowKit

structure NextAt (w w' : World) (a b : Int) : Prop where
  below : Below w.heap.size w w'
  box : Box w' w.heap.size a b
  res0 : Lies w' ⟨w.heap.size + 1, 0, none⟩ (.int .u64 0)
  res1 : Lies w' ⟨w.heap.size + 1, 1, none⟩ (.int .u64 0)
theorem NextAt.start (w : World) (a b : Int) : NextAt w ((w.alloc (Obj.cells #[Value.int IntKind.u64 a, Value.int IntKind.u64 b] 24)).alloc (Obj.cells #[Value.int IntKind.u64 0, Value.int IntKind.u64 0] 24)) a b :=
  ⟨below2 _ _ _, (Box.new _ _ _).alloc _, lies_one _ (by rfl), lies_one _ (by rfl)⟩
theorem NextAt.later {w w' w1 : World} {a b : Int} (h : NextAt w w' a b) (hb : Below w'.heap.size w' w1) : NextAt w w1 a b :=
  ⟨below_call h.below hb, h.box.later hb, h.res0.later hb, h.res1.later hb⟩
theorem NextAt.put {w w' : World} {a b : Int} {g o : Nat} {v : Value} (h : NextAt w w' a b) (hg : w.heap.size + 1 < g) : NextAt w (w'.setCell ⟨g, o, none⟩ v) a b :=
  ⟨h.below.setCell (by show _ ≤ g; omega) _, h.box.keep (by omega), h.res0.keep (addr_ne (.inl (by omega))), h.res1.keep (addr_ne (.inl (by omega)))⟩
theorem NextAt.size {w w' : World} {a b : Int} (h : NextAt w w' a b) : w.heap.size + 1 < w'.heap.size := World.block_lt_of_cell? _ _ h.res0.1
def NextRel (w : World) (a b : Int) (N : Nat) (width : Int) (t : Value) (w' : World) : Prop :=
  ∃ k : Nat, k ≤ 128 ∧ (k : Int) ≤ width ∧ t = .int .i64 (k : Int) ∧ N % 2 ^ k = 2 ^ k - 1 ∧ NextAt w w' a b
def MidRel (w : World) (a b : Int) (N k P : Nat) (t : Value) (w' : World) : Prop :=
  ∃ j : Nat, k + 1 ≤ j ∧ j ≤ 128 ∧ t = .int .i64 (j : Int) ∧ NextAt w w' a b ∧ ∃ c d : Int, IsV c d (midN N k j) ∧ Lies w' ⟨P, 0, none⟩ (.int .u64 c) ∧ Lies w' ⟨P, 1, none⟩ (.int .u64 d)

set_option maxRecDepth 100000 in
set_option maxHeartbeats 1000000 in
theorem rNext_any (a b : Int) (N : Nat) (width : Int) (w : World) (h : IsV a b N) (hmax : width ≤ 9223372036854775807) :
    Calls Try.prog 20 #[.agg #[.int .u64 a, .int .u64 b], .int .i64 width] w fun e w' => ∃ c d : Int, e = .returned (.tuple #[.agg #[.int .u64 c, .int .u64 d], .bool (nextB N width)]) ∧ IsV c d (nextN N width) ∧ Below w.heap.size w w' := by
  have HN : Hid (N < 2 ^ 128) := by unfold Hid; rw [pow_big]; exact h.lt
  have H0 : Hid _ := NextAt.start w a b
  cases hf : fitsB N width with
  | false =>
    have hz := next_unfit HN.out hf
    have HZ : Hid (nextB N width = false) := hz
    have HZ2 : Hid (nextN N width = 0) := by unfold Hid nextN; rw [hz]; rfl
    clear hz
    go_enter Try.func20, Try.ntmps20
    go_wp2_with (first | (go_at_call 17; refine (rFits_any _ _ _ _ _ h hmax).mono ?_; rintro e w1 ⟨rfl, hb⟩; have H1 := H0.out.later hb; obtain ⟨r0, r0'⟩ := H1.res0; obtain ⟨r1, r1'⟩ := H1.res1; have hB := H1.below; clear H1))
    rw [HZ.out, HZ2.out]
    exact bodyPost_ret (v := .tuple #[.agg #[.int .u64 0, .int .u64 0], .bool false]) (by simp [results, Try.results20, go_sem, r0, r1]) rfl ⟨0, 0, rfl, IsV.zero, (hB.setCell (Nat.le_succ _) _).setCell (Nat.le_succ _) _⟩
  | true =>
    have HF : Hid (fitsB N width = true) := hf
    have hw1 : 1 ≤ width := by
      unfold fitsB at hf
      rw [Bool.and_eq_true, decide_eq_true_eq] at hf
      exact hf.1
    go_enter Try.func20, Try.ntmps20
    go_wp2_with (first | (go_at_call 17; refine (rFits_any _ _ _ _ _ h hmax).mono ?_; rintro e w1 ⟨rfl, hb⟩; have H1 : Hid _ := H0.out.later hb))
    go_loopw [6] (NextRel w a b N width) (fun t _ => 128 - (intOf t).toNat)
    case atStart => exact ⟨0, by omega, by omega, rfl, by rw [Nat.pow_zero, Nat.mod_one], H1.out⟩
    case round =>
      clear H0 H1 hb
      obtain ⟨k, hk, hkw, rfl, hones, hA⟩ := hrel
      have HO : Hid (N % 2 ^ k = 2 ^ k - 1) := hones
      have HA : Hid (NextAt w wr a b) := hA
      clear hones
      by_cases hlt : (k : Int) < width ∧ k < 128
      · obtain ⟨h1, h2⟩ := hlt
        have x0 := hA.box.1
        have x1 := hA.box.2
        clear hA
        by_cases hv : bitN N k = 0
        · have hv' : ((bitN N k : Int) == 0) = true := by rw [hv]; rfl
          obtain ⟨n1, n2⟩ := next_at HN.out HF.out h1 h2 HO.out hv
          obtain ⟨_, m2, m3⟩ := mid_end HN.out HO.out hv
          have HB : Hid (nextB N width = true) := n1
          have HNN : Hid (midN N k 128 + 2 ^ k = nextN N width) := by unfold Hid; rw [m3, n2]
          have HM2 : Hid (bitN (midN N k 128) k = 0) := m2
          clear hv n1 n2 m2 m3
          go_wp2_with (first | (go_at_call 34; refine (bit_any _ _ _ _ _ h h2).mono ?_; rintro e w2 ⟨rfl, hb⟩; have H2 : Hid _ := HA.out.later hb; have hs : w.heap.size + 1 < w2.heap.size := H2.out.size))
          go_loopw [8] (MidRel w a b N k w2.heap.size) (fun t _ => 128 - (intOf t).toNat)
          case atStart =>
            refine ⟨k + 1, Nat.le_refl _, by omega, by go_num, H2.out.later (below1 _ _), 0, 0, ?_, lies_new (by rfl), lies_new (by rfl)⟩
            rw [mid_start]; exact IsV.zero
          case round =>
            clear H2 hb x0 x1 HA
            obtain ⟨j, hj1, hj2, rfl, hA, c, d, hcd, X0, X1⟩ := hrel
            have HA2 : Hid _ := hA
            by_cases hl2 : j < 128
            · have x0 := hA.box.1
              have x1 := hA.box.2
              by_cases hv : bitN N j = 1
              · have hv2 : ((bitN N j : Int) == 1) = true := by rw [hv]; rfl
                have HS : Hid (midN N k (j + 1) = midN N k j + 2 ^ j) := by unfold Hid; rw [mid_succ N hj1, hv, Nat.one_mul]
                clear hv hA
                go_wp2_with (first | (go_at_call 34; refine (bit_any _ _ _ _ _ h hl2).mono ?_; rintro e w3 ⟨rfl, hb3⟩; obtain ⟨y0, y0'⟩ := X0.later hb3; obtain ⟨y1, y1'⟩ := X1.later hb3) | (go_at_call 35; refine (set_any _ _ _ _ _ hcd hl2 (mid_bit N k j)).mono ?_; rintro e w4 ⟨c', d', rfl, hcd', hb4⟩; obtain ⟨z0, z0'⟩ := (X0.later hb3).later hb4; obtain ⟨z1, z1'⟩ := (X1.later hb3).later hb4))
                rw [← HS.out] at hcd'
                refine ⟨⟨j + 1, by omega, by omega, by go_num, (((HA2.out.later hb3).later hb4).put hs).put hs, c', d', hcd', ?_, ?_⟩, by simp [intOf]; omega⟩
                · exact (Lies.put ⟨z0, z0'⟩).keep (addr_ne (.inr (by omega)))
                · exact (Lies.keep ⟨z1, z1'⟩ (addr_ne (.inr (by omega)))).put
              · have hv2 : ((bitN N j : Int) == 1) = false := by simp; omega
                have HS : Hid (midN N k (j + 1) = midN N k j) := by
                  unfold Hid
                  have : bitN N j = 0 := by have := bitN_lt N j; omega
                  rw [mid_succ N hj1, this, Nat.zero_mul, Nat.add_zero]
                clear hv hA
                go_wp2_with (first | (go_at_call 34; refine (bit_any _ _ _ _ _ h hl2).mono ?_; rintro e w3 ⟨rfl, hb3⟩))
                exact ⟨⟨j + 1, by omega, by omega, by go_num, HA2.out.later hb3, c, d, by rw [HS.out]; exact hcd, X0.later hb3, X1.later hb3⟩, by simp [intOf]; omega⟩
            · obtain rfl : j = 128 := by omega
              obtain ⟨y0, y0'⟩ := X0
              obtain ⟨y1, y1'⟩ := X1
              clear hA
              go_wp2_with (first | (go_at_call 35; refine (set_any _ _ _ _ _ hcd h2 HM2.out).mono ?_; rintro e w4 ⟨c', d', rfl, hcd', hb4⟩; have H4 := HA2.out.later hb4; obtain ⟨r0, r0'⟩ := H4.res0; obtain ⟨r1, r1'⟩ := H4.res1; have hB := H4.below; clear H4))
              rw [HB.out]
              rw [HNN.out] at hcd'
              exact bodyPost_ret (v := .tuple #[.agg #[.int .u64 c', .int .u64 d'], .bool true]) (by simp [results, Try.results20, go_sem, r0, r1]) rfl ⟨c', d', rfl, hcd', (hB.setCell (Nat.le_succ _) _).setCell (Nat.le_succ _) _⟩
        · have hv' : ((bitN N k : Int) == 0) = false := by simp; omega
          have HO2 : Hid (N % 2 ^ (k + 1) = 2 ^ (k + 1) - 1) := ones_next HO.out (by have := bitN_lt N k; omega)
          clear hv
          go_wp2_with (first | (go_at_call 34; refine (bit_any _ _ _ _ _ h h2).mono ?_; rintro e w2 ⟨rfl, hb⟩))
          exact ⟨⟨k + 1, by omega, by omega, by go_num, HO2.out, HA.out.later hb⟩, by simp [intOf]; omega⟩
      · have hz := next_last HN.out HF.out hk hkw hlt HO.out
        have HZ : Hid (nextB N width = false) := hz
        have HZ2 : Hid (nextN N width = 0) := by unfold Hid nextN; rw [hz]; rfl
        clear hz
        obtain ⟨r0, r0'⟩ := hA.res0
        obtain ⟨r1, r1'⟩ := hA.res1
        have hB := hA.below
        clear hA
        by_cases h1 : (k : Int) < width
        · have h2 : ¬ k < 128 := fun e => hlt ⟨h1, e⟩
          clear hlt
          go_wp2
          rw [HZ.out, HZ2.out]
          exact bodyPost_ret (v := .tuple #[.agg #[.int .u64 0, .int .u64 0], .bool false]) (by simp [results, Try.results20, go_sem, r0, r1]) rfl ⟨0, 0, rfl, IsV.zero, (hB.setCell (Nat.le_succ _) _).setCell (Nat.le_succ _) _⟩
        · clear hlt
          go_wp2
          rw [HZ.out, HZ2.out]
          exact bodyPost_ret (v := .tuple #[.agg #[.int .u64 0, .int .u64 0], .bool false]) (by simp [results, Try.results20, go_sem, r0, r1]) rfl ⟨0, 0, rfl, IsV.zero, (hB.setCell (Nat.le_succ _) _).setCell (Nat.le_succ _) _⟩
end Go.Proofs.Ytcafmhlnfkgegaa
