import Derived.Test.YtcagghfkomodlaaT1
namespace Go.Proofs.Ytcagghfkomodlaa
open Go.RowKit
set_option linter.unusedVariables false
set_option linter.unusedSimpArgs false
variable {w w' : World} {base g r : Nat} {m : Int} {pa : Option Addr} {ca : Nat} {pb : Option Addr} {cb : Nat} {K : List Cp}
set_option maxRecDepth 100000 in
set_option maxHeartbeats 4000000 in
theorem step_pick (h : Duo w base g r m pa ca pb cb K) (sec : Bool) (c : Cp) (n : Int) (la : Option Addr) (ln lc : Nat) {P : List Int} (hP : Row w la ln lc (ints P)) (hln : ln ≤ 1048576) :
    Calls Try.prog 18 #[.agg #[.pointer (some ⟨g, 0, none⟩), .pointer (some ⟨r, 0, none⟩)], .agg #[.bool sec, .int .i64 4, .int .i64 c.1, .int .u64 (c.2.1 : Int), .int .u64 (c.2.2 : Int), .int .i64 n, .slice la ln lc]] w (Did w base g r m pa pb) := by
  obtain ⟨w2, hw2⟩ : ∃ w2, w2 = sxW w g r sec 4 c n la ln lc := ⟨_, rfl⟩
  have hB2 : Below w.heap.size w w2 := by rw [hw2]; exact below2 _ _ _
  have hX2 : Sx w2 w.heap.size (w.heap.size + 1) g r sec 4 c n la ln lc := by rw [hw2]; exact sx_new w g r sec 4 c n la ln lc
  have h2 := h.later hB2
  have hsz : w2.heap.size = w.heap.size + 2 := by rw [hw2]; simp
  have HT : Hid (∀ k, Two g pa r pb k → k < w.heap.size) := fun k hk => (h.blk k hk).2
  have HC : Hid (∀ U, But (Two g pa r pb) w2 U → Sx U w.heap.size (w.heap.size + 1) g r sec 4 c n la ln lc) := fun U hU => hX2.but hU (fun e => by have := HT.out _ e; omega) (fun e => by have := HT.out _ e; omega)
  have HB2 := hid hB2
  have H2 := hid h2
  have hkl := h2.kl
  have hm32 := h2.m32
  have hle := h2.le
  have s1 := hX2.s1
  clear h hB2 hX2 h2
  unfold sxW at hw2
  obtain ⟨x0, x1, _, _, _, _, _, s6⟩ := HC.out w2 (But.refl _ _)
  have hR2 := hP.later HB2.out
  have hcA := hid (rpick_any H2.out.q hR2 hln hkl)
  have HRB := hid (fun (U : World) (hU : Below w2.heap.size w2 U) => pick_any (H2.out.p.later hU) (hR2.later hU) (by omega) hkl hm32)
  obtain ⟨E, hE⟩ : ∃ E, E = pickE m K P := ⟨_, rfl⟩
  have hplen : (pickL m K P).length ≤ 32 := by
    unfold pickL
    split
    · next h0 =>
      rw [List.length_map]
      unfold pickE at h0
      split at h0
      · split at h0
        · cases h0
        · omega
      · cases h0
    · simp
  obtain ⟨L, hLL⟩ : ∃ L, L = pickL m K P := ⟨_, rfl⟩
  rw [← hE, ← hLL] at hcA HRB
  rw [← hLL] at hplen
  clear hR2 hE hLL hP
  have hsm : Hid (∀ (U : World) (p q : Option Addr) (cp cq : Nat), Rd U p L.length L → Rd U q L.length L → Calls Try.prog 12 #[.slice p L.length cp, .slice q L.length cq] U fun e w' => e = .returned (.bool true) ∧ Below U.heap.size U w') := fun U p q cp cq hp hq => by
    refine (sameC_any cp cq hp hq (by omega) (by omega)).mono ?_
    rintro e w' ⟨rfl, q, rfl⟩
    exact ⟨ret_bool (by simp), below_drewN (Below.refl _ _) q⟩
  have hq1 : (E == E) = true := by simp
  go_enter Try.func18, Try.ntmps18
  go_upto_region 1 with fail
  rw [← hw2]
  clear hw2
  go_upto_region 16 with (first | (go_at_call 24; refine hcA.out.mono ?_; rintro e w3 ⟨q3, c3, rfl, ho3, hb3⟩; have HQ3 := hid (Ow.rd (K := L) ho3 rfl); have HB3 := hid hb3; clear ho3 hb3))
  clear s1 x0 x1 s6 hcA
  obtain ⟨x0, x1, _, _, _, _, _, s6⟩ := HC.out w3 (But.of HB3.out)
  have hcB := hid (HRB.out w3 HB3.out)
  clear HRB
  go_wp2_with (first
    | (go_at_call 15; refine hcB.out.mono ?_; rintro e w4 ⟨p4, c4, rfl, ho4, hb4⟩; have HP4 := hid (Ow.rd (K := L) ho4 rfl); have HQ4 := hid (HQ3.out.later hb4); have HB4 := hid (below_call HB3.out hb4); clear ho4 hb4)
    | (go_at_call 12; refine (hsm.out _ _ _ _ _ HP4.out HQ4.out).mono ?_; rintro e w5 ⟨rfl, hb5⟩; have HB5 := hid (below_call HB4.out hb5); clear hb5))
  go_ret
  exact ⟨pa, ca, pb, cb, K, rfl, H2.out.later HB5.out, Mv.refl (below_call HB2.out HB5.out)⟩
set_option maxRecDepth 100000 in
set_option maxHeartbeats 4000000 in
theorem step_other (h : Duo w base g r m pa ca pb cb K) (sec : Bool) (kd : Int) (c : Cp) (n : Int) (la : Option Addr) (ln lc : Nat) (k0 : kd ≠ 0) (k1 : kd ≠ 1) (k2 : kd ≠ 2) (k3 : kd ≠ 3) (k4 : kd ≠ 4) :
    Calls Try.prog 18 #[.agg #[.pointer (some ⟨g, 0, none⟩), .pointer (some ⟨r, 0, none⟩)], .agg #[.bool sec, .int .i64 kd, .int .i64 c.1, .int .u64 (c.2.1 : Int), .int .u64 (c.2.2 : Int), .int .i64 n, .slice la ln lc]] w (Did w base g r m pa pb) := by
  obtain ⟨w2, hw2⟩ : ∃ w2, w2 = sxW w g r sec kd c n la ln lc := ⟨_, rfl⟩
  have hB2 : Below w.heap.size w w2 := by rw [hw2]; exact below2 _ _ _
  have hX2 : Sx w2 w.heap.size (w.heap.size + 1) g r sec kd c n la ln lc := by rw [hw2]; exact sx_new w g r sec kd c n la ln lc
  have h2 := h.later hB2
  have hsz : w2.heap.size = w.heap.size + 2 := by rw [hw2]; simp
  have HT : Hid (∀ k, Two g pa r pb k → k < w.heap.size) := fun k hk => (h.blk k hk).2
  have HC : Hid (∀ U, But (Two g pa r pb) w2 U → Sx U w.heap.size (w.heap.size + 1) g r sec kd c n la ln lc) := fun U hU => hX2.but hU (fun e => by have := HT.out _ e; omega) (fun e => by have := HT.out _ e; omega)
  have HB2 := hid hB2
  have H2 := hid h2
  have hkl := h2.kl
  have hm32 := h2.m32
  have hle := h2.le
  have s1 := hX2.s1
  clear h hB2 hX2 h2
  unfold sxW at hw2
  go_enter Try.func18, Try.ntmps18
  go_upto_region 1 with fail
  rw [← hw2]
  clear hw2
  have d0 : (kd == 0) = false := by simpa using k0
  have d1 : (kd == 1) = false := by simpa using k1
  have d2 : (kd == 2) = false := by simpa using k2
  have d3 : (kd == 3) = false := by simpa using k3
  have d4 : (kd == 4) = false := by simpa using k4
  go_wp2
  go_ret
  exact ⟨pa, ca, pb, cb, K, rfl, H2.out, Mv.refl HB2.out⟩
end Go.Proofs.Ytcagghfkomodlaa
