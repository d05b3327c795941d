import Derived.Test.YtaffgoacbiedlaaR1
namespace Go.Proofs.Ytaffgoacbiedlaa
open Go.RowKit
set_option linter.unusedVariables false
set_option linter.unusedSimpArgs false

theorem hid' {p : Prop} (h : p) : Hid p := h
theorem word_ok (g gb : Nat) (R : List Nat) (w : World) (h : Rd w g gb R) (hl : ¬ R.length < 16) :
    Calls Try.prog 89 #[.pointer (some ⟨g, 0, none⟩)] w fun e w' => e = .returned (.tuple #[.agg #[.int .u64 ((valL ((R.drop 8).take 8) : Nat) : Int), .int .u64 ((valL (R.take 8) : Nat) : Int)], .int .i64 0]) ∧ Rd w' g gb (R.drop 16) ∧ But (· = g) w w' := by
  refine (word_any g gb R w h).mono ?_
  have e1 : wordE R = 0 := if_neg hl
  have e2 : wordN R = 16 := if_neg hl
  have e3 : wordHi R = valL ((R.drop 8).take 8) := if_neg hl
  have e4 : wordLo R = valL (R.take 8) := if_neg hl
  rw [e1, e2, e3, e4]
  exact fun _ _ h => h
theorem word_bad (g gb : Nat) (R : List Nat) (w : World) (h : Rd w g gb R) (hl : R.length < 16) :
    Calls Try.prog 89 #[.pointer (some ⟨g, 0, none⟩)] w fun e w' => ∃ a b c : Int, e = .returned (.tuple #[.agg #[.int .u64 a, .int .u64 b], .int .i64 c]) ∧ c ≠ 0 ∧ But (· = g) w w' := by
  refine (word_any g gb R w h).mono ?_
  rintro e w' ⟨rfl, _, hb⟩
  have e1 : wordE R = 17 := if_pos hl
  exact ⟨_, _, _, rfl, by rw [e1]; omega, hb⟩
theorem capr_ok (g gb : Nat) (R : List Nat) (w : World) (h : Rd w g gb R) (he : capE R = 0) :
    Calls Try.prog 53 #[.pointer (some ⟨g, 0, none⟩)] w fun e w' => e = .returned (.tuple #[.agg #[.int .i64 ((loV R : Nat) : Int), .int .u64 ((hiV (R.drop 8) : Nat) : Int), .int .u64 ((loV (R.drop 8) : Nat) : Int)], .int .i64 0]) ∧ Rd w' g gb (R.drop 24) ∧ But (· = g) w w' := by
  refine (cap_any g gb R w h).mono ?_
  obtain ⟨e1, e2, e3, e4⟩ := cap_ok he
  rw [he, e1, e2, e3, e4]
  exact fun _ _ h => h
theorem capr_bad (g gb : Nat) (R : List Nat) (w : World) (h : Rd w g gb R) (he : capE R ≠ 0) :
    Calls Try.prog 53 #[.pointer (some ⟨g, 0, none⟩)] w fun e w' => ∃ o a b c : Int, e = .returned (.tuple #[.agg #[.int .i64 o, .int .u64 a, .int .u64 b], .int .i64 c]) ∧ c ≠ 0 ∧ But (· = g) w w' := by
  refine (cap_any g gb R w h).mono ?_
  rintro e w' ⟨rfl, _, hb⟩
  exact ⟨_, _, _, _, rfl, he, hb⟩
set_option maxRecDepth 100000 in
set_option maxHeartbeats 1000000 in
theorem rest_any (g gb : Nat) (R : List Nat) (m : Nat) (w : World) (h : Rd w g gb R) (hr : R.length ≤ 140737488355328) :
    Calls Try.prog 54 #[.pointer (some ⟨g, 0, none⟩), .int .i64 (m : Int)] w fun e w' => ∃ a n c, e = .returned (.slice a n c) ∧ Own w' w.heap.size a n c (R.take (min R.length m)) ∧ Rd w' g gb (R.drop (min R.length m)) ∧ But (· = g) w w' := by
  have e0 : ∀ k, k ≤ R.length → rowE R (k : Int) = 0 ∧ rowN R (k : Int) = k := fun k hk => by
    have : rowE R (k : Int) = 0 := by unfold rowE; rw [if_neg (by omega), if_neg (by omega)]
    exact ⟨this, by unfold rowN; rw [if_pos this]; rfl⟩
  have H := left_any g gb R w h
  by_cases hlt : m < R.length
  · have hd : (m : Int) < (R.length : Int) := by omega
    have H2 := row_any g gb R (m : Int) w h hr
    rw [(e0 m (by omega)).1, (e0 m (by omega)).2] at H2
    rw [Nat.min_eq_right (by omega)]
    clear e0 h hr
    go_enter Try.func54, Try.ntmps54
    go_wp2_with (first | (go_at_call 76; refine H.mono ?_; rintro e w1 ⟨rfl, rfl⟩) | (go_at_call 75; refine H2.mono ?_; rintro e w1 ⟨a, n, c, rfl, hown, hrd, hbut⟩) | (go_at_call 74; refine (must_row _ _ _ _).mono ?_; rintro e w2 ⟨rfl, rfl⟩))
    go_ret
    exact ⟨_, _, _, rfl, hown, hrd, hbut⟩
  · have hd : ¬ (m : Int) < (R.length : Int) := by omega
    have hd2 : (R.length : Int) ≤ (m : Int) := by omega
    have H2 := row_any g gb R (R.length : Int) w h hr
    rw [(e0 _ (Nat.le_refl _)).1, (e0 _ (Nat.le_refl _)).2] at H2
    rw [Nat.min_eq_left (by omega)]
    clear e0 h hr
    go_enter Try.func54, Try.ntmps54
    go_wp2_with (first | (go_at_call 76; refine H.mono ?_; rintro e w1 ⟨rfl, rfl⟩) | (go_at_call 75; refine H2.mono ?_; rintro e w1 ⟨a, n, c, rfl, hown, hrd, hbut⟩) | (go_at_call 74; refine (must_row _ _ _ _).mono ?_; rintro e w2 ⟨rfl, rfl⟩))
    go_ret
    exact ⟨_, _, _, rfl, hown, hrd, hbut⟩
/-- Gifts under way. -/
def GiRel (w : World) (g gb : Nat) (R : List Nat) (k : Nat) (l t : Value) (w' : World) : Prop :=
  ∃ (i : Nat) (a : Option Addr) (n c : Nat), i ≤ k ∧ 2 * i ≤ R.length ∧ t = .int .i64 (i : Int) ∧ l = .slice a n c ∧ OI w' w.heap.size a n c (gL R i) ∧ Rd w' g gb (R.drop (2 * i)) ∧ But (· = g) w w'
theorem rd2 {R : List Nat} (hs : ∀ x ∈ R, x < 256) (h : 2 ≤ R.length) : rdN 2 65535 R = some (valL (R.take 2), R.drop 2) := by
  have := valL_take_lt R 2 h hs
  unfold rdN
  rw [if_neg (by omega), if_neg (by omega)]
theorem rd2_bad {R : List Nat} (h : R.length < 2) : rdN 2 65535 R = none := by unfold rdN; rw [if_pos h]
set_option maxRecDepth 100000 in
set_option maxHeartbeats 2000000 in
theorem readGifts_all (g gb : Nat) (R0 R : List Nat) (k : Nat) (w : World) (h : Rd w g gb R0) (hr : rdN 1 255 R0 = some (k, R)) (hg : g < w.heap.size) (hgb : gb < w.heap.size) :
    Calls Try.prog 90 #[.pointer (some ⟨g, 0, none⟩)] w fun e w' => ((2 * k ≤ R.length ∧ ∃ a n c, e = .returned (.slice a n c) ∧ OI w' w.heap.size a n c (gL R k) ∧ Rd w' g gb (R.drop (2 * k))) ∨ (R.length < 2 * k ∧ Gave e)) ∧ But (· = g) w w' := by
  have H := int_ok g gb R0 1 255 w h (by omega) (by omega) hr
  have hk : k ≤ 255 := (look_rd (k := 1) (by omega) hr).2.2.2
  clear h hr
  go_enter Try.func90, Try.ntmps90
  go_upto_region 3 with (first | (go_at_call 51; refine H.mono ?_; rintro e w1 ⟨rfl, hrd, hbut⟩) | (go_at_call 50; refine (must_int _ _).mono ?_; rintro e w9 ⟨rfl, hw9⟩; obtain rfl := hw9.symm))
  have R0 : Hid (GiRel w g gb R k (.slice none 0 0) (.int .i64 0) w1) := ⟨0, none, 0, 0, by omega, by omega, rfl, rfl, OI.nil _ _, hrd, hbut⟩
  clear H hrd hbut
  go_loopw [3, 9] (GiRel w g gb R k) (fun _ t _ => k - (intOf t).toNat)
  case atStart => exact R0.out
  case round =>
    clear R0
    obtain ⟨i, a, n, c, hi, hil, rfl, rfl, hoi, hrd, hbut⟩ := hrel
    have ei : IntKind.i64.wrap ((i : Int) + 1) = (i : Int) + 1 := by rw [IntKind.wrap_i64]; omega
    obtain rfl : i = n := by have := hoi.len; rw [gL_length] at this; exact this
    by_cases hlt : i < k
    · have hdi : decide ((i : Int) < (k : Int)) = true := by simp; omega
      by_cases h2 : 2 * (i + 1) ≤ R.length
      · have H2 := int_ok g gb (R.drop (2 * i)) 2 65535 _ hrd (by omega) (by omega) (rd2 hrd.small (by simp; omega))
        rw [List.drop_drop] at H2
        have HV : Hid (gL R (i + 1) = gL R i ++ [((valL ((R.drop (2 * i)).take 2) : Nat) : Int)]) := rfl
        generalize valL ((R.drop (2 * i)).take 2) = v at H2 HV
        have HO := hid' hoi
        have HB := hid' hbut
        clear hoi hrd hbut
        go_upto_region 4 with fail
        go_wp2_with (first | (go_at_call 51; refine H2.mono ?_; rintro e w1 ⟨rfl, hrd, hbut⟩; obtain ⟨a2, c2, w2, hrun, hoi2, hgr⟩ := append_int (b := (v : Int)) (HO.out.but hbut (fun x hx e => by have := HO.out.blk x hx; omega)) (Nat.le_trans HB.out.size hbut.size) (by omega); have HRUN := hid' hrun; have HO2 := hid' hoi2; have HG := hid' hgr; have HRD := hid' hrd; have HB2 := hid' hbut; clear hrun hoi2 hgr hrd hbut) | (go_at_call 50; refine (must_int _ _).mono ?_; rintro e w9 ⟨rfl, hw9⟩; obtain rfl := hw9.symm) | (at_builtin; refine wpList_append_known rfl _ _ 39 rfl _ _ rfl rfl _ w2 HRUN.out ?_))
        go_roundw
        case rel => exact ⟨i + 1, a2, _, c2, by omega, h2, by go_num, rfl, by rw [HV.out]; exact HO2.out, (HRD.out).but HG.out.but (fun hx => by obtain ⟨x, hx1, hx2⟩ := hx; have := HO.out.blk g ⟨x, hx1, hx2⟩; omega) (fun hx => by have := HO.out.blk gb hx; exact absurd this (by omega)), (HB.out.trans HB2.out).comp HG.out.but (fun x hx => .inr (HO.out.blk x hx))⟩
        case measure => simp [intOf]; omega
      · have H2 := int_bad g gb (R.drop (2 * i)) 2 65535 _ hrd (by omega) (by omega) (rd2_bad (by simp; omega))
        have HB := hid' hbut
        clear hoi hrd hbut
        go_wp2_with (first | (go_at_call 51; refine H2.mono ?_; rintro e w1 ⟨v, cc, rfl, hcc, hbut⟩) | (go_at_call 50; refine (must_int_bad _ _ hcc _).mono ?_; rintro e w9 ⟨⟨x, rfl⟩, hw9⟩; obtain rfl := hw9.symm))
        exact ⟨rfl, .inr ⟨by omega, ⟨_, rfl⟩⟩, HB.out.trans hbut⟩
    · obtain rfl : i = k := by omega
      go_wp2
      go_ret
      exact ⟨.inl ⟨hil, _, _, _, rfl, hoi, hrd⟩, hbut⟩
end Go.Proofs.Ytaffgoacbiedlaa
