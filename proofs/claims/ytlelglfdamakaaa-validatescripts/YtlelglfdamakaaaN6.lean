import Derived.Test.YtlelglfdamakaaaN5
namespace Go.Proofs.Ytlelglfdamakaaa
open Go.RowKit H
set_option linter.unusedVariables false
set_option linter.unusedSimpArgs false
variable {w w' : World} {H : Hv} {X : List Tk} {l : Fo} {T : Nat → List K.Pu}

/-! ### Given -/
set_option maxRecDepth 100000 in
set_option maxHeartbeats 2000000 in
theorem given_any (h : Vt w H X l) (c : Cp) (need : Int) (hw : c.2.1 < B64 ∧ c.2.2 < B64) :
    Calls Try.prog 11 #[.pointer (some ⟨H.v, 0, none⟩), cpV c, .int .i64 need] w fun e w' => e = .returned (.int .i64 (givE X l need c)) ∧ Vt w' H X l ∧ But (fun k => k = H.g) w w' := by
  obtain ⟨o, hi, lo⟩ := c
  obtain ⟨w1, hw1⟩ : ∃ w1, w1 = w.alloc (Obj.cells #[.int .i64 o, .int .u64 (hi : Int), .int .u64 (lo : Int)] 32) := ⟨_, rfl⟩
  have hB1 : Below w.heap.size w w1 := by rw [hw1]; exact below1 _ _
  have x0 : w1.cell? ⟨w.heap.size, 0, none⟩ = some (.int .i64 o) := by rw [hw1]; simp [go_sem]
  have x1 : w1.cell? ⟨w.heap.size, 1, none⟩ = some (.int .u64 (hi : Int)) := by rw [hw1]; simp [go_sem]
  have x2 : w1.cell? ⟨w.heap.size, 2, none⟩ = some (.int .u64 (lo : Int)) := by rw [hw1]; simp [go_sem]
  have HR := hid (rights_any (h.later hB1) (o, hi, lo) hw)
  have HB1 := hid hB1
  have HSr : Hid (hasC X l (o, hi, lo) = true → srcN X l (o, hi, lo) = rgt X l (o, hi, lo)) := fun e => by unfold srcN; rw [e]; rfl
  clear h hB1 hw
  rcases givE_cases X l need (o, hi, lo) with ⟨h1, h2⟩ | ⟨h1, h2, h3⟩ | ⟨h1, h2, h3⟩
  · rw [h1] at HR
    rw [h2]
    clear h1 h2
    go_enter Try.func11, Try.ntmps11
    go_upto_region 1 with fail
    rw [← hw1]
    clear hw1
    go_wp2_with (first | (go_at_call 34; refine HR.out.mono ?_; rintro e w2 ⟨rfl, hv2, hb2⟩; have HV2 := hid hv2; have HB2 := hid ((But.of (S := fun k => k = H.g) HB1.out).trans hb2); clear hv2 hb2))
    go_ret
    exact ⟨rfl, HV2.out, HB2.out⟩
  · have hs := HSr.out h1
    rw [h1, hs] at HR
    rw [h3]
    have HH := hid (has35 (rgt X l (o, hi, lo)) need)
    rw [h2] at HH
    clear h1 h2 h3 hs
    generalize rgt X l (o, hi, lo) = q at *
    go_enter Try.func11, Try.ntmps11
    go_upto_region 1 with fail
    rw [← hw1]
    clear hw1
    go_wp2_with (first
      | (go_at_call 35; refine (HH.out _).mono ?_; rintro e w9 ⟨rfl, hw9⟩; obtain rfl := hw9.symm; clear hw9)
      | (go_at_call 34; refine HR.out.mono ?_; rintro e w2 ⟨rfl, hv2, hb2⟩; have HV2 := hid hv2; have HB2 := hid ((But.of (S := fun k => k = H.g) HB1.out).trans hb2); clear hv2 hb2))
    go_ret
    exact ⟨rfl, HV2.out, HB2.out⟩
  · have hs := HSr.out h1
    rw [h1, hs] at HR
    rw [h3]
    have HH := hid (has35 (rgt X l (o, hi, lo)) need)
    rw [h2] at HH
    clear h1 h2 h3 hs
    generalize rgt X l (o, hi, lo) = q at *
    go_enter Try.func11, Try.ntmps11
    go_upto_region 1 with fail
    rw [← hw1]
    clear hw1
    go_wp2_with (first
      | (go_at_call 35; refine (HH.out _).mono ?_; rintro e w9 ⟨rfl, hw9⟩; obtain rfl := hw9.symm; clear hw9)
      | (go_at_call 34; refine HR.out.mono ?_; rintro e w2 ⟨rfl, hv2, hb2⟩; have HV2 := hid hv2; have HB2 := hid ((But.of (S := fun k => k = H.g) HB1.out).trans hb2); clear hv2 hb2))
    go_ret
    exact ⟨rfl, HV2.out, HB2.out⟩

/-! ### Gone, forget, New -/
set_option maxRecDepth 100000 in
set_option maxHeartbeats 2000000 in
theorem gone_any (h : Vg w H X l) : Calls Try.prog 14 #[.pointer (some ⟨H.v, 0, none⟩)] w fun e w' => e = .returned (.tuple #[]) ∧ Vt w' H X l ∧ But (fun k => k = H.g) w w' := by
  obtain ⟨T, h⟩ := h
  obtain ⟨E, hi, mi, hk⟩ := h.ch
  have HT := hid (K.kturn hk)
  have v0 := h.va.c0
  have HH := hid h
  clear h hk
  go_enter Try.func14, Try.ntmps14
  go_wp2_with (first | (go_at_call 40; refine HT.out.mono ?_; rintro e w2 ⟨rfl, hk2, hb2⟩; have HK2 := hid hk2; have HB2 := hid hb2; clear hk2 hb2))
  exact bodyPost_end (by simp [results, Try.results14, go_sem]) rfl ⟨rfl, ⟨_, HH.out.keep HB2.out ⟨_, _, _, HK2.out⟩, Tr.zero _ _⟩, HB2.out⟩
def FgRel (w1 : World) (g s n k : Nat) (t : Value) (w : World) : Prop :=
  ∃ i : Nat, t = .int .i64 (i : Int) ∧ i ≤ 256 ∧ (∃ E T hi mi, K.Kc w g s n k T E hi mi ∧ (1 ≤ i → T = K.T0)) ∧ But (fun k => k = g) w1 w
set_option maxRecDepth 100000 in
set_option maxHeartbeats 2000000 in
theorem forget_any {g s n k E : Nat} {hi mi : Int} (hk : K.Kc w g s n k T E hi mi) :
    Calls Try.prog 52 #[.pointer (some ⟨g, 0, none⟩)] w fun e w' => e = .returned (.tuple #[]) ∧ (∃ E hi mi, K.Kc w' g s n k K.T0 E hi mi) ∧ But (fun k => k = g) w w' := by
  have HK := hid hk
  clear hk
  go_enter Try.func52, Try.ntmps52
  go_upto_region 1 with fail
  go_loopw [2] (FgRel w g s n k) (fun t _ => 256 - (intOf t).toNat)
  case atStart => exact ⟨0, rfl, by omega, ⟨_, _, _, _, HK.out, fun h => by omega⟩, But.refl _ _⟩
  case round =>
    obtain ⟨i, rfl, hi2, ⟨E', T', h1, h2, hk, ht⟩, hB⟩ := hrel
    have HB := hid hB
    by_cases hlt : i < 256
    · have hd : decide ((i : Int) < 256) = true := decide_eq_true (by omega)
      have HT := hid (K.kturn hk)
      clear hk ht hB
      go_wp2_with (first | (go_at_call 40; refine HT.out.mono ?_; rintro e w2 ⟨rfl, hk2, hb2⟩; have HK2 := hid hk2; have HB2 := hid (HB.out.trans hb2); clear hk2 hb2))
      exact ⟨⟨i + 1, by go_num, by omega, ⟨_, _, _, _, HK2.out, fun _ => rfl⟩, HB2.out⟩, by simp [intOf]; omega⟩
    · have hd : decide ((i : Int) < 256) = false := decide_eq_false (by omega)
      have HK3 := hid hk
      rw [ht (by omega)] at HK3
      clear hk ht hB
      go_wp2
      exact bodyPost_end (by simp [results, Try.results52, go_sem]) rfl ⟨rfl, ⟨_, _, _, HK3.out⟩, HB.out⟩
set_option maxRecDepth 100000 in
set_option maxHeartbeats 2000000 in
theorem vnew_any {g s n k E c : Nat} {hi mi : Int} (hk : K.Kc w g s n k T E hi mi) :
    Calls Try.prog 27 #[.pointer (some ⟨c, 0, none⟩), .pointer (some ⟨g, 0, none⟩)] w fun e w' => ∃ v, e = .returned (.pointer (some ⟨v, 0, none⟩)) ∧ Va w' v g c ∧ (∃ E hi mi, K.Kc w' g s n k K.T0 E hi mi) ∧ w.heap.size ≤ v ∧ But (fun k => k = g) w w' := by
  have HF := hid (forget_any hk)
  clear hk
  go_enter Try.func27, Try.ntmps27
  go_upto_region 2 with (first | (go_at_call 52; refine HF.out.mono ?_; rintro e w2 ⟨rfl, hk2, hb2⟩; have HK2 := hid hk2; have HB2 := hid hb2; clear hk2 hb2))
  go_wp2
  go_ret
  obtain ⟨E2, h2, m2, hk2⟩ := HK2.out
  exact ⟨_, rfl, ⟨by simp [go_sem], by simp [go_sem], by simp [go_sem]⟩, ⟨_, _, _, hk2.later (below1 _ _)⟩, HB2.out.size, HB2.out.alloc _⟩
end Go.Proofs.Ytlelglfdamakaaa
