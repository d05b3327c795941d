import Derived.Test.YtpkpidhomidjiaaD2
namespace Go.Proofs.Ytpkpidhomidjiaa
open Go.RowKit
set_option linter.unusedVariables false

def FreeRel (w : World) (m : Nat) (l : Fo) (f k : Value) (w' : World) : Prop :=
  ∃ (i : Nat) (x : Int), i ≤ m ∧ k = .int .i64 (i : Int) ∧ f = .int .i64 x ∧ (x = -1 ∨ (0 ≤ x ∧ x < m ∧ x ∉ nums l)) ∧ w' = w
def TwigRel (w : World) (g gb m : Nat) (l : Fo) (k _r : Value) (w' : World) : Prop :=
  ∃ (i : Nat), i ≤ m ∧ k = .int .i64 (i : Int) ∧ Ki w' g gb m l ∧ But (· = gb) w w'
set_option maxRecDepth 100000 in
set_option maxHeartbeats 2000000 in
theorem last_any {w : World} {g gb m : Nat} {l : Fo} (h : Ki w g gb m l) (n : Int) :
    Calls Try.prog 13 #[.pointer (some ⟨g, 0, none⟩), .int .i64 (m : Int), .int .i64 n] w fun e w' => e = .returned (.bool true) ∧ But (· = gb) w w' := by
  have HK := hid h
  have HOK := hid h.ok
  have hbig := h.big
  clear h
  go_enter Try.func13, Try.ntmps13
  go_upto_region 3 with fail
  go_loopw [7, 8] (FreeRel w m l) (fun _ k _ => m - (intOf k).toNat)
  case atStart => exact ⟨0, -1, Nat.zero_le _, rfl, rfl, .inl rfl, rfl⟩
  case round =>
    obtain ⟨i, x, hi, rfl, rfl, hx, rfl⟩ := hrel
    have HX := hid hx
    clear hx
    by_cases hlt : i < m
    · by_cases hin : (i : Int) ∈ nums l
      · have hh := has_any HK.out (i : Int)
        rw [decide_eq_true hin] at hh
        clear hin
        go_wp2_with (first | (go_at_call 11; refine hh.mono ?_; rintro e w9 ⟨rfl, rfl⟩))
        go_roundw
        case rel => exact ⟨i + 1, x, by omega, by go_num, rfl, HX.out, rfl⟩
        case measure => simp [intOf]; omega
      · have hh := has_any HK.out (i : Int)
        rw [decide_eq_false hin] at hh
        have HIN := hid hin
        clear hin
        go_wp2_with (first | (go_at_call 11; refine hh.mono ?_; rintro e w9 ⟨rfl, rfl⟩))
        go_roundw
        case rel => exact ⟨i + 1, i, by omega, by go_num, rfl, .inr ⟨by omega, by omega, HIN.out⟩, rfl⟩
        case measure => simp [intOf]; omega
    · obtain rfl : i = m := by omega
      go_upto_region 8 with fail
      go_loopw [9, 10] (TwigRel wr g gb i l) (fun k _ _ => i - (intOf k).toNat)
      case atStart => exact ⟨0, Nat.zero_le _, rfl, HK.out, But.refl _ _⟩
      case round =>
        obtain ⟨k, hk, rfl, hK2, hB2⟩ := hrel
        have HK2 := hid hK2
        have HB2 := hid hB2
        clear hK2 hB2
        by_cases hgo : k < i ∧ 0 ≤ x
        · obtain ⟨hki, hx0⟩ := hgo
          have hxx : x < i ∧ x ∉ nums l := by
            rcases HX.out with h | h
            · omega
            · exact ⟨h.2.1, h.2.2⟩
          obtain ⟨hx1, hx2⟩ := hxx
          have HX2 := hid hx2
          clear hx2
          by_cases hin : (k : Int) ∈ nums l
          · have hh := has_any HK2.out (k : Int)
            rw [decide_eq_true hin] at hh
            have HT : Hid (Twig i l (k : Int) x) := hid ⟨HOK.out, hin, hx0, hx1, HX2.out⟩
            clear hin
            go_upto_region 14 with (first | (go_at_call 11; refine hh.mono ?_; rintro e w9 ⟨rfl, rfl⟩) | (go_at_call 12; refine (children_lst HK2.out (k : Int)).mono ?_; rintro e w3 ⟨a3, n3, c3, rfl, hL3, hb3⟩; have HL3 := hid hL3; have HK3 := hid (HK2.out.later hb3); have HB3 := hid (HB2.out.call hb3); clear hL3 hb3 hh HK2 HB2))
            go_upto_region 16 with (first | (have hq_ := HK5; clear hq_; go_at_call 21; refine (HT.out.child2 HK5.out).mono ?_; rintro e w9 ⟨rfl, rfl⟩) | (have hq_ := HK4; clear hq_; go_at_call 20; refine (HT.out.root HK4.out).mono ?_; rintro e w9 ⟨rfl, rfl⟩; have HK5 := HK4) | (go_at_call 21; refine (HT.out.child HK3.out).mono ?_; rintro e w4 ⟨rfl, hK4, hB4⟩; have HK4 := hid hK4; have HB4 := hid (HB3.out.trans hB4); have HL4 := hid (HL3.out.but hB4); clear hK4 hB4 HL3 HK3 HB3) | (go_at_call 7; refine (num_any _ _).mono ?_; rintro e w9 ⟨rfl, rfl⟩))
            clear HK5
            have hkk := hid HT.out.kids
            go_wp2_with (first | (have hq_ := HL9; clear hq_; go_at_call 16; refine (numbers_same _ _ _ _ _ _ (kids l (k : Int)) _ HL9.out.1.read HW9.out.1.read (by have := HL9.out.2; omega)).mono ?_; rintro e wB ⟨rfl, q9, rfl⟩) | (have hq_ := HK8; clear hq_; go_at_call 12; refine (children_lst HK8.out (k : Int)).mono ?_; rintro e w9 ⟨a9, n9, c9, rfl, hL9, hb9⟩; have HL9 := hid hL9; have HW9 := hid (HW8.out.later hb9); have HK9 := hid (HK8.out.later hb9); have HB9 := hid (HB8.out.call hb9); clear hL9 hb9 HK8 HW8 HB8) | (have hq_ := mk2; go_at_call 22; refine (HT.out.cutf HKn.out).mono ?_; rintro e w8 ⟨rfl, hK8, hB8⟩; have HK8 := hid hK8; have HW8 := hid (HWn.out.but hB8); have HB8 := hid (HBn.out.trans hB8); clear hK8 hB8 HKn HWn HBn) | (have hq_ := mk1; go_at_call 22; refine (HT.out.cutk HKn.out).mono ?_; rintro e w9 ⟨rfl, rfl⟩; obtain ⟨mk2, _⟩ : ∃ m : Nat, m = 0 := ⟨0, rfl⟩) | (have hq_ := HA; clear hq_; go_at_call 16; refine (numbers_same _ _ _ _ _ _ (kids l (k : Int) ++ [x]) _ HC7.out.1.read HO7.out.read (by have := HC7.out.2; omega)).mono ?_; rintro e w8 ⟨rfl, q8, rfl⟩; have HKn := hid (HK7.out.later (below_drewN (Below.refl _ _) q8)); have HWn := hid (HW7.out.later (below_drewN (Below.refl _ _) q8)); have HBn := hid (HB7.out.call (below_drewN (Below.refl _ _) q8)); obtain ⟨mk1, _⟩ : ∃ m : Nat, m = 0 := ⟨0, rfl⟩; clear HA HC7 HO7 HK7 HW7 HB7) | (at_builtin; refine wpList_append_known rfl _ _ 35 rfl _ _ rfl rfl _ w7 HRUN.out ?_; have HA := HRUN; clear HRUN) | (go_at_call 14; refine (copied_any a3 n3 c3 (kids l (k : Int)) _ HW5.out.1.read (by have := HW5.out.2; omega)).mono ?_; rintro e w6 ⟨a6, c6, rfl, hO6, hb6⟩; obtain ⟨a7, c7, w7, hrun, hO7, hG7⟩ := append_ints (hO6.alloc (Obj.cells #[.int .i64 x] 3)) (Row.single w6 3 (.int .i64 x) rfl) (by have := hb6.size; simp; omega) (by have := HW5.out.2; omega); have hb7 := (hb6.alloc hb6.size (Obj.cells #[.int .i64 x] 3)).trans (Gr.below (hO6.alloc _) hG7 (by have := hb6.size; simp; omega)); have HRUN := hid hrun; have HO7 : Hid (Own w7 _ 3 a7 (n3 + 1) c7 (ints (kids l (k : Int) ++ [x]))) := hid (by rw [ints_append]; exact hO7); have HC7 := hid (HC5.out.later hb7); have HK7 := hid (HKb.out.later hb7); have HW7 := hid (HW5.out.later hb7); have HB7 := hid (HB5.out.call hb7); clear hrun hO7 hG7 hb7 hb6 hO6 HC5 HKb HW5 HB5) | (go_at_call 12; refine (children_lst HK4.out (k : Int)).mono ?_; rintro e w5 ⟨a5, n5, c5, rfl, hL5, hb5⟩; have HC5 := hid hL5; rw [hkk.out] at HC5; have HW5 := hid (HL4.out.later hb5); have HKb := hid (HK4.out.later hb5); have HB5 := hid (HB4.out.call hb5); clear hL5 hb5 HK4 HL4 HB4) | (go_at_call 7; refine (num_any _ _).mono ?_; rintro e w9 ⟨rfl, rfl⟩))
            go_roundw
            case rel => exact ⟨k + 1, by omega, by go_num, HK9.out.later (below_drewN (Below.refl _ _) q9), HB9.out.call (below_drewN (Below.refl _ _) q9)⟩
            case measure => simp [intOf]; omega
          · have hh := has_any HK2.out (k : Int)
            rw [decide_eq_false hin] at hh
            have hc := child_none HK2.out (k : Int) x hin
            clear hin
            go_wp2_with (first | (go_at_call 11; refine hh.mono ?_; rintro e w9 ⟨rfl, rfl⟩) | (go_at_call 21; refine hc.mono ?_; rintro e w9 ⟨rfl, rfl⟩) | (go_at_call 7; refine (num_any _ _).mono ?_; rintro e w9 ⟨rfl, rfl⟩))
            go_roundw
            case rel => exact ⟨k + 1, by omega, by go_num, HK2.out, HB2.out⟩
            case measure => simp [intOf]; omega
        · have hd : ¬ ((k : Int) < (i : Int) ∧ 0 ≤ x) := by omega
          have hr1 := r_bad HK2.out (i : Int) (by omega)
          have hr2 := r_bad HK2.out (-1) (by omega)
          have hr3 := c_bad HK2.out (i : Int) (by omega)
          have HE : Hid (¬ (n < (i : Int) ∧ 0 ≤ n) → n < 0 ∨ (i : Int) ≤ n) := hid (by omega)
          have hgt : ¬ (k : Int) < (i : Int) ∨ ((k : Int) < (i : Int) ∧ ¬ 0 ≤ x) := by omega
          clear hgo hd
          by_cases hn : n < (i : Int) ∧ 0 ≤ n
          · obtain ⟨hn1, hn2⟩ := hn
            rcases hgt with hgt | ⟨hgt, hgt2⟩
            · go_wp2_with (first | (have hq_ := mk1; go_at_call 20; refine hr2.mono ?_; rintro e w9 ⟨rfl, rfl⟩) | (go_at_call 20; refine hr1.mono ?_; rintro e w9 ⟨rfl, rfl⟩; obtain ⟨mk1, _⟩ : ∃ m : Nat, m = 0 := ⟨0, rfl⟩) | (go_at_call 22; refine hr3.mono ?_; rintro e w9 ⟨rfl, rfl⟩) | (go_at_call 7; refine (num_any _ _).mono ?_; rintro e w9 ⟨rfl, rfl⟩))
              go_ret
              exact ⟨rfl, HB2.out⟩
            · go_wp2_with (first | (have hq_ := mk1; go_at_call 20; refine hr2.mono ?_; rintro e w9 ⟨rfl, rfl⟩) | (go_at_call 20; refine hr1.mono ?_; rintro e w9 ⟨rfl, rfl⟩; obtain ⟨mk1, _⟩ : ∃ m : Nat, m = 0 := ⟨0, rfl⟩) | (go_at_call 22; refine hr3.mono ?_; rintro e w9 ⟨rfl, rfl⟩) | (go_at_call 7; refine (num_any _ _).mono ?_; rintro e w9 ⟨rfl, rfl⟩))
              go_ret
              exact ⟨rfl, HB2.out⟩
          · have hr4 := c_bad HK2.out n (HE.out hn)
            have hn3 : ¬ n < (i : Int) ∨ (n < (i : Int) ∧ ¬ 0 ≤ n) := by omega
            clear hn
            rcases hgt with hgt | ⟨hgt, hgt2⟩ <;> rcases hn3 with hn | ⟨hn, hn2⟩ <;> go_wp2_with (first | (have hq_ := mk1; go_at_call 20; refine hr2.mono ?_; rintro e w9 ⟨rfl, rfl⟩) | (go_at_call 20; refine hr1.mono ?_; rintro e w9 ⟨rfl, rfl⟩; obtain ⟨mk1, _⟩ : ∃ m : Nat, m = 0 := ⟨0, rfl⟩) | (have hq_ := mk2; go_at_call 22; refine hr4.mono ?_; rintro e w9 ⟨rfl, rfl⟩) | (go_at_call 22; refine hr3.mono ?_; rintro e w9 ⟨rfl, rfl⟩; obtain ⟨mk2, _⟩ : ∃ m : Nat, m = 0 := ⟨0, rfl⟩) | (go_at_call 7; refine (num_any _ _).mono ?_; rintro e w9 ⟨rfl, rfl⟩))
            all_goals go_ret
            all_goals exact ⟨rfl, HB2.out⟩
end Go.Proofs.Ytpkpidhomidjiaa
