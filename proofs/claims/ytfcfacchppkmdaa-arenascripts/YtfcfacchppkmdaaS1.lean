import Derived.Test.YtfcfacchppkmdaaR3
namespace Go.Proofs.Ytfcfacchppkmdaa
open Go.RowKit
set_option linter.unusedVariables false
set_option linter.unusedSimpArgs false

/-- Both arenas, alike. -/
structure Duo (w : World) (g pb r rb n : Nat) (t : Nat → Bool) (B C : Nat → Nat → Nat) : Prop where
  p : Arn w g pb n t B
  q : Ref w r rb n t C
  same : ∀ i j, t i = true → j < 64 → C i j = B i j
  ap : g ≠ r ∧ g ≠ rb ∧ pb ≠ r ∧ pb ≠ rb
/-- The memory of both. -/
def Ours (g pb r rb k : Nat) : Prop := k = g ∨ k = pb ∨ k = r ∨ k = rb
theorem Duo.but {S : Nat → Prop} {w w' : World} {g pb r rb n : Nat} {t : Nat → Bool} {B C : Nat → Nat → Nat} (hb : But S w w') (h : Duo w g pb r rb n t B C) (hn : ∀ k, Ours g pb r rb k → ¬ S k) : Duo w' g pb r rb n t B C :=
  ⟨h.p.but hb (hn _ (.inl rfl)) (hn _ (.inr (.inl rfl))), h.q.but hb (hn _ (.inr (.inr (.inl rfl)))) (hn _ (.inr (.inr (.inr rfl)))), h.same, h.ap⟩
theorem Duo.later {w w' : World} {g pb r rb n : Nat} {t : Nat → Bool} {B C : Nat → Nat → Nat} (hb : Below w.heap.size w w') (h : Duo w g pb r rb n t B C) : Duo w' g pb r rb n t B C := h.but (S := fun _ => False) (But.of hb) (fun _ _ h => h)
theorem Duo.lt {w : World} {g pb r rb n : Nat} {t : Nat → Bool} {B C : Nat → Nat → Nat} (h : Duo w g pb r rb n t B C) : ∀ k, Ours g pb r rb k → k < w.heap.size := by
  rintro k (rfl | rfl | rfl | rfl)
  · exact h.p.glt
  · exact h.p.lt
  · exact h.q.rlt
  · exact h.q.lt
theorem pgL_same {w : World} {g pb r rb n : Nat} {t : Nat → Bool} {B C : Nat → Nat → Nat} (h : Duo w g pb r rb n t B C) {p off m : Nat} (hp : t p = true) (ho : off + m ≤ 64) : pgL C p off m = pgL B p off m := by
  unfold pgL
  exact List.map_congr_left fun k hk => h.same p (off + k) hp (by have := List.mem_range.1 hk; omega)
theorem pgL_smallR {w : World} {r rb n : Nat} {t : Nat → Bool} {B : Nat → Nat → Nat} (h : Ref w r rb n t B) (p off m : Nat) : ∀ x ∈ pgL B p off m, x < 256 := by
  intro x hx
  simp only [pgL, List.mem_map] at hx
  obtain ⟨k, _, rfl⟩ := hx
  exact h.small _ _
set_option maxRecDepth 100000 in
set_option maxHeartbeats 1000000 in
theorem holds_any (g pb r rb n : Nat) (t : Nat → Bool) (B C : Nat → Nat → Nat) (w : World) (h : Duo w g pb r rb n t B C) :
    Calls Try.prog 21 #[.pointer (some ⟨g, 0, none⟩), .pointer (some ⟨r, 0, none⟩)] w fun e w' => e = .returned (.bool true) ∧ Below w.heap.size w w' := by
  have H := hid h
  have hn := h.p.le
  obtain ⟨F, hF⟩ : ∃ F, (lst n t false).length = F := ⟨_, rfl⟩
  obtain ⟨T, hT⟩ : ∃ T, (lst n t true).length = T := ⟨_, rfl⟩
  have hTn : T ≤ n := by rw [← hT]; exact lst_length _ _ _
  clear h
  go_enter Try.func21, Try.ntmps21
  go_upto_region 2 with (first | (go_at_call 33; refine (rtaken_any r rb n t C _ H.out.q).mono ?_; rintro e w1 ⟨a, m, cap, rfl, O1, b1⟩; obtain rfl := len_of O1 hT))
  have H1 := hid (H.out.later b1)
  have HB := hid b1
  have HO := hid O1
  clear b1 O1 H
  go_upto_region 5 with (first
    | (go_at_call 14; refine (taken_any g pb n t B _ H1.out.p).mono ?_; rintro e w2 ⟨a2, m2, c2, rfl, O2, b2⟩; obtain rfl := len_of O2 hT; replace H1 := hid (H1.out.later b2); replace HB := hid (below_call HB.out b2); replace HO := hid (HO.out.later b2); clear b2)
    | (go_at_call 17; refine (numbers_eq _ _ _ _ _ _ (nats (lst n t true)) _ O2.read HO.out.read (by omega)).mono ?_; rintro e w3 ⟨rfl, b3⟩; replace H1 := hid (H1.out.later b3); replace HB := hid (below_call HB.out b3); replace HO := hid (HO.out.later b3); clear b3 O2)
    | (go_at_call 11; refine (free_any g pb n t B _ H1.out.p).mono ?_; rintro e w4 ⟨rfl, b4⟩; rw [hF]; replace H1 := hid (H1.out.later b4); replace HB := hid (below_call HB.out b4); replace HO := hid (HO.out.later b4); clear b4)
    | (go_at_call 34; refine (rfree_any r rb n t C _ H1.out.q).mono ?_; rintro e w5 ⟨rfl, b5⟩; rw [hF]; replace H1 := hid (H1.out.later b5); replace HB := hid (below_call HB.out b5); replace HO := hid (HO.out.later b5); clear b5))
  go_loopw [6] (fun v w' => ∃ i : Nat, v = .int .i64 (i : Int) ∧ i ≤ T ∧ Below w5.heap.size w5 w') (fun k _ => T - (intOf k).toNat)
  case atStart => exact ⟨0, rfl, Nat.zero_le _, Below.refl _ _⟩
  case round =>
    obtain ⟨i, rfl, hi, hB⟩ := hrel
    have HBr := hid hB
    have H2 := hid (H1.out.later hB)
    have HO2 := hid (HO.out.later hB)
    clear hB
    by_cases hlt : i < T
    · have hd : decide ((i : Int) < (T : Int)) = true := decide_eq_true (by omega)
      have hil : i < (lst n t true).length := by omega
      obtain ⟨b, o, rfl, hc⟩ := HO2.out.read.plain (by omega)
      have y := hc i _ (ints_nats_get _ i hil)
      obtain ⟨p, hp⟩ : ∃ p, p = (lst n t true)[i] := ⟨_, rfl⟩
      rw [← hp] at y
      have htp : t p = true := (mem_lst.1 (by rw [hp]; exact List.getElem_mem _)).2
      clear hc hp
      go_upto_region 8 with (first | (go_at_call 15; refine (read_ok g pb n t B p 0 64 _ H2.out.p htp (by omega)).mono ?_; rintro e w6 ⟨ba, rfl, N6, b6⟩))
      have H3 := hid (H2.out.later b6)
      have y2 := cell_later b6 y
      have HB3 := hid (below_call HBr.out b6)
      have HN := hid N6
      clear b6 N6 y
      go_upto_region 9 with (first | (go_at_call 31; refine (rread_ok r rb n t C p 0 64 _ H3.out.q htp (by omega)).mono ?_; rintro e w7 ⟨ca, cc, rfl, O7, b7⟩))
      rw [pgL_same H3.out htp (by omega)] at O7
      have cv1 := (HN.out.row.later b7).conv (pgL_small H3.out.p p 0 64)
      have cv2 := O7.read.conv (pgL_small H3.out.p p 0 64)
      obtain ⟨sb, hsb⟩ : ∃ sb, sb = strB (pgL B p 0 64) := ⟨_, rfl⟩
      rw [← hsb] at cv1 cv2
      have HB4 := hid (below_call HB3.out b7)
      clear hsb b7 O7
      go_wp2_with (first | (go_at_call 8; refine (num_any _ _).mono ?_; rintro e w8 ⟨rfl, hw⟩; obtain rfl := hw.symm))
      exact ⟨⟨i + 1, rfl, by omega, HB4.out⟩, by simp [intOf]; omega⟩
    · obtain rfl : T = i := by omega
      have hd : decide ((T : Int) < (T : Int)) = false := by simp
      go_wp2
      go_ret
      exact ⟨rfl, below_call HB.out HBr.out⟩
end Go.Proofs.Ytfcfacchppkmdaa
