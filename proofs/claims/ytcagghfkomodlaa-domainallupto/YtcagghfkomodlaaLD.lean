import Derived.Test.YtcagghfkomodlaaT7
namespace Go.Proofs.Ytcagghfkomodlaa
open Go.RowKit
set_option linter.unusedVariables false
set_option linter.unusedSimpArgs false
set_option maxRecDepth 100000 in
set_option maxHeartbeats 8000000 in
theorem all_ff (mo ot : Int) (w : World) {a : Option Addr} {k c : Nat} {f : Nat → Sp} (hS : Ss w a k f) (hk : k ≤ 9223372036854775807) (h1 : mo < 1 ∨ 32 < mo) (h2 : ot < 1 ∨ 32 < ot) :
    Calls Try.prog 5 #[.int .i64 mo, .int .i64 ot, .slice a k c] w fun e w' => e = .returned (.bool true) ∧ Below w.heap.size w w' := by
  have HS := hid hS
  have H1 := hid h1
  have H2 := hid h2
  clear hS h1 h2
  go_enter Try.func5, Try.ntmps5
  go_upto_region 2 with (first | (go_at_call 7; refine (new_bad mo _ H1.out).mono ?_; rintro e w9 ⟨rfl, hw9⟩; obtain rfl := hw9.symm; clear hw9))
  go_upto_region 3 with (first | (go_at_call 17; refine (rnew_bad mo _ H1.out).mono ?_; rintro e w9 ⟨rfl, hw9⟩; obtain rfl := hw9.symm; clear hw9))
  obtain ⟨w2, hw2⟩ : ∃ w2, w2 = w := ⟨_, rfl⟩
  have HW2 : Hid (Below w.heap.size w w2) := by rw [hw2]; exact Below.refl _ _
  have HP1 : Hid (Pd false w2 w.heap.size mo (.pointer none) (.pointer none) (fun _ => False)) := Pd.nil _ _ _ _ _
  obtain ⟨S1, hS1⟩ : ∃ S1 : Nat → Prop, S1 = fun _ => False := ⟨_, rfl⟩
  rw [← hS1] at HP1
  go_upto_region 4 with (first | (go_at_call 7; refine (new_bad ot _ H2.out).mono ?_; rintro e w9 ⟨rfl, hw9⟩; obtain rfl := hw9.symm; clear hw9))
  go_upto_region 5 with (first | (go_at_call 17; refine (rnew_bad ot _ H2.out).mono ?_; rintro e w9 ⟨rfl, hw9⟩; obtain rfl := hw9.symm; clear hw9))
  obtain ⟨w4, hw4⟩ : ∃ w4, w4 = w2 := ⟨_, rfl⟩
  have HW4 : Hid (Below w2.heap.size w2 w4) := by rw [hw4]; exact Below.refl _ _
  have HP2 : Hid (Pd false w4 w2.heap.size ot (.pointer none) (.pointer none) (fun _ => False)) := Pd.nil _ _ _ _ _
  obtain ⟨S2, hS2⟩ : ∃ S2 : Nat → Prop, S2 = fun _ => False := ⟨_, rfl⟩
  rw [← hS2] at HP2
  have hkn := hid (known_any w)
  go_upto_region 7 with (first | (go_at_call 8; refine hkn.out.mono ?_; rintro e w5 ⟨rfl, hb⟩; rw [← hw2, ← hw4] at hb; have HB5 : Hid (Below w4.heap.size w4 w5) := hb; clear hb))
  obtain ⟨w7, hw7⟩ : ∃ w7, w7 = (w5.alloc (Obj.cells #[.pointer none, .pointer none] 52)).alloc (Obj.cells #[.pointer none, .pointer none] 52) := ⟨_, rfl⟩
  have hB7 : Below w5.heap.size w5 w7 := by rw [hw7]; exact below2 _ _ _
  have hB47 := below_call HB5.out hB7
  have hA : Al w w7 false false mo ot (.pointer none) (.pointer none) (.pointer none) (.pointer none) w5.heap.size S1 S2 := by
    have n1 : ∀ k, S1 k → k < w2.heap.size := fun k hk => (HP1.out.blk k hk).2
    have n2 : ∀ k, S2 k → w2.heap.size ≤ k ∧ k < w4.heap.size := fun k hk => HP2.out.blk k hk
    have s1 := HW4.out.size
    have s2 := HB5.out.size
    refine ⟨(HP1.out.later HW4.out).later hB47, (HP2.out.mono HW2.out.size).later hB47, fun k h1 h2 => by have := n1 k h1; have := n2 k h2; omega, ⟨fun e => by have := n1 _ e; omega, fun e => by have := n1 _ e; omega⟩, ⟨fun e => by have := n2 _ e; omega, fun e => by have := n2 _ e; omega⟩, by rw [hw7]; simp, by rw [hw7]; simp [go_sem], by rw [hw7]; simp [go_sem], by rw [hw7]; simp [go_sem], by rw [hw7]; simp [go_sem], ?_⟩
    exact (HW2.out.trans (HW4.out.mono HW2.out.size)).trans (hB47.mono (Nat.le_trans HW2.out.size HW4.out.size))
  have H0 : Hid (AlRel w false false mo ot (.pointer none) (.pointer none) (.pointer none) (.pointer none) w5.heap.size k (.int .i64 0) w7) := ⟨0, S1, S2, Nat.zero_le _, rfl, hA⟩
  clear hA hB7 hB47 HP1 HP2 HW2 HW4 HB5 hkn hw2 hS1 hw4 hS2
  go_upto_region 9 with fail
  rw [← hw7]
  clear hw7
  obtain ⟨bx, hbx⟩ : ∃ bx, bx = w5.heap.size := ⟨_, rfl⟩
  rw [← hbx] at H0 ⊢
  clear hbx
  go_upto_region 10 with fail
  go_loopw [17] (AlRel w false false mo ot (.pointer none) (.pointer none) (.pointer none) (.pointer none) bx k) (fun t _ => k - (intOf t).toNat)
  case atStart => exact H0.out
  case round =>
    clear H0
    obtain ⟨i, S1, S2, hi, rfl, hA⟩ := hrel
    have HA := hid hA
    clear hA
    by_cases hlt : i < k
    · have hd : decide ((i : Int) < (k : Int)) = true := decide_eq_true (by omega)
      obtain ⟨b, o, rfl, hat⟩ := HS.out (by omega)
      obtain ⟨s, hs⟩ : ∃ s, s = f i := ⟨_, rfl⟩
      have hb0 := hat i hlt
      rw [← hs] at hb0
      have HSB := hid (fun (U : World) (hU : Below w.heap.size w U) => hb0.later hU)
      have c0 := (HSB.out wr HA.out.bl).c0
      clear hat hs hb0
      cases hsec : s.sec with
      | true =>
        have hsec2 := hsec
        rw [hsec] at c0
        go_wp2
        exact ⟨⟨i + 1, S1, S2, by omega, by go_num, HA.out⟩, by simp [intOf]; omega⟩
      | false =>
        have hsec2 := hsec
        rw [hsec] at c0
        go_wp2
        exact ⟨⟨i + 1, S1, S2, by omega, by go_num, HA.out⟩, by simp [intOf]; omega⟩
    · obtain rfl : i = k := by omega
      have hd : decide ((i : Int) < (i : Int)) = false := by simp
      go_upto_region 20 with fail
      obtain ⟨w8, hw8⟩ : ∃ w8, w8 = wr.alloc (Obj.cells #[.bool false, .int .i64 3, .int .i64 0, .int .u64 0, .int .u64 0, .int .i64 0, .slice none 0 0] 54) := ⟨_, rfl⟩
      have hB8 : Below wr.heap.size wr w8 := by rw [hw8]; exact below1 _ _
      have hsb : Sb w8 wr.heap.size 0 ⟨false, 3, (0, 0, 0), 0, none, 0, 0, []⟩ := by rw [hw8]; exact ⟨by simp [go_sem], by simp [go_sem], by simp [go_sem], by simp [go_sem], by simp [go_sem], by simp [go_sem], by simp [go_sem], row_nil _, by simp⟩
      rw [← hw8]
      clear hw8
      have HA8 := hid (HA.out.later hB8)
      obtain ⟨be, hbe⟩ : ∃ be, be = wr.heap.size := ⟨_, rfl⟩
      rw [← hbe] at hsb ⊢
      have hblt : be < w8.heap.size := World.block_lt_of_cell? _ _ hsb.c0
      have HNB1 : Hid (¬ S1 be) := fun e => by have := (HA.out.one.blk _ e).2; omega
      have HNB2 : Hid (¬ S2 be) := fun e => by have := (HA.out.two.blk _ e).2; omega
      have HSB := hid hsb
      clear hB8 hbe HA hsb
      obtain ⟨e0, e1, e2, e3, e4, e5, e6, _, _⟩ := HSB.out
      simp only [Nat.zero_add, Int.cast_ofNat_Int] at e0 e1 e2 e3 e4 e5 e6
      go_wp2
      go_ret
      exact ⟨rfl, HA8.out.bl⟩
end Go.Proofs.Ytcagghfkomodlaa
