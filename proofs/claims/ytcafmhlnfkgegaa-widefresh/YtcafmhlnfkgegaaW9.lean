import Derived.Test.YtcafmhlnfkgegaaW8
namespace Go.Proofs.Ytcafmhlnfkgegaa
open Go.RowKit
set_option maxHeartbeats 1000000 in
theorem parse_loop2 (s : ByteArray) (w : World) (h1 : 1 < s.size) (h2 : s.size ≤ 32) (h3 : ¬ s[0].toNat = 48) :
    Calls Try.prog 14 #[.string s] w fun e w' => ∃ c d : Int, e = .returned (.tuple #[.agg #[.int .u64 c, .int .u64 d], .int .i64 (hexE s)]) ∧ IsV c d (hexV s) ∧ Below w.heap.size w w' := by
  have H0 : Hid _ := ParseAt.start w
  have hd1 : decide ((s.size : Int) < 1) = false := by simp; omega
  have hd2 : decide (32 < (s.size : Int)) = false := by simp; omega
  have hd3 : decide (1 < (s.size : Int)) = true := by simp; omega
  have hk0 : (kindI s[0].toNat == 1) = false := by rw [kind_zero]; simpa using h3
  clear h3
  go_enter Try.func14, Try.ntmps14
  go_wp2_with (first | (go_at_call 29; refine (kindOf_any _ _).mono ?_; rintro e w1 ⟨rfl, rfl⟩))
  go_loopw [28] (ParseRel s w) (fun t _ => s.size - (intOf t).toNat)
  case atStart => exact ⟨0, by omega, rfl, H0.out, rfl⟩
  case round =>
    clear H0
    obtain ⟨k, hk, rfl, hP, hall⟩ := hrel
    obtain ⟨c, d, hcd, X0, X1⟩ := hP.word
    have HP : Hid (ParseAt w wr (hexVal ((natsOf s).take k))) := hP
    have HA : Hid (((natsOf s).take k).all isHex = true) := hall
    have R0 := hP.res0
    have R1 := hP.res1
    clear hP hall
    by_cases hlt : k < s.size
    · cases hx : isHex s[k].toNat with
      | true =>
        have kk := kind_hex hx
        have HX : Hid (isHex s[k].toNat = true) := hx
        clear hx
        obtain ⟨x0, f0⟩ := X0
        obtain ⟨x1, f1⟩ := X1
        have hb : s[k].toNat < 256 := s[k].toNat_lt
        go_wp2_with (first | (go_at_call 29; refine (kindOf_any _ _).mono ?_; rintro e w1 ⟨rfl, rfl⟩))
        go_region_with (first | (go_at_call 31; refine (valueOf_any _ _ hb).mono ?_; rintro e w2 ⟨rfl, rfl⟩) | (go_at_call 30; refine (withDigit_any _ _ _ _ _ hcd (digitV_lt _)).mono ?_; rintro e w3 ⟨c', d', rfl, hcd', hb3⟩; obtain ⟨y0, y0'⟩ := Lies.later hb3 (Lies.drew ⟨x0, f0⟩); obtain ⟨y1, y1'⟩ := Lies.later hb3 (Lies.drew ⟨x1, f1⟩)))
        all_goals
          go_wp2
          rw [hex_next hlt h2] at hcd'
          exact ⟨⟨k + 1, by omega, by go_num, HP.out.next (Below.refl _ _).drew hb3 ⟨y0, y0'⟩ ⟨y1, y1'⟩ hcd', all_next hlt HA.out HX.out⟩, by simp [intOf]; omega⟩
      | false =>
        have kk := kind_nohex hx
        obtain ⟨e1, e2⟩ := hex_no hlt hx
        have E1 : Hid (hexE s = 22) := e1
        have E2 : Hid (hexV s = 0) := e2
        clear hx e1 e2
        obtain ⟨x0, f0⟩ := R0
        obtain ⟨x1, f1⟩ := R1
        go_wp2_with (first | (go_at_call 29; refine (kindOf_any _ _).mono ?_; rintro e w1 ⟨rfl, rfl⟩))
        rw [E1.out, E2.out]
        exact bodyPost_ret (v := .tuple #[.agg #[.int .u64 0, .int .u64 0], .int .i64 22]) (by simp [results, Try.results14, go_sem, x0, x1]) rfl ⟨0, 0, rfl, IsV.zero, (HP.out.below.setCell (Nat.le_refl _) _).setCell (Nat.le_refl _) _⟩
    · obtain ⟨e1, e2⟩ := hex_yes (by omega) HA.out
      have E1 : Hid (hexE s = 0) := e1
      have E2 : Hid (hexV s = hexVal ((natsOf s).take k)) := e2
      clear e1 e2
      obtain ⟨x0, f0⟩ := R0
      obtain ⟨x1, f1⟩ := R1
      obtain ⟨y0, g0⟩ := X0
      obtain ⟨y1, g1⟩ := X1
      go_wp2
      rw [E1.out, E2.out]
      exact bodyPost_ret (v := .tuple #[.agg #[.int .u64 c, .int .u64 d], .int .i64 0]) (by simp [results, Try.results14, go_sem, x0, x1]) rfl ⟨c, d, rfl, hcd, (HP.out.below.setCell (Nat.le_refl _) _).setCell (Nat.le_refl _) _⟩

theorem parse_any (s : ByteArray) (w : World) :
    Calls Try.prog 14 #[.string s] w fun e w' => ∃ c d : Int, e = .returned (.tuple #[.agg #[.int .u64 c, .int .u64 d], .int .i64 (parseE (natsOf s))]) ∧ IsV c d (parseV (natsOf s)) ∧ Below w.heap.size w w' := by
  by_cases h1 : s.size < 1 ∨ 32 < s.size
  · have hk : parseOk (natsOf s) = false := by
      unfold parseOk
      rw [natsOf_length, decide_eq_false (by omega)]
      rfl
    unfold parseE parseV
    rw [hk]
    exact (parse_bounds s w h1).mono fun e w' ⟨he, hb⟩ => ⟨0, 0, he, IsV.zero, hb⟩
  · by_cases h2 : 1 < s.size
    · by_cases h3 : s[0].toNat = 48
      · have hk : parseOk (natsOf s) = false := by
          unfold parseOk
          rw [natsOf_length, natsOf_get s 0 (by omega), h3, decide_eq_false (show ¬ ¬ 1 < s.size by omega)]
          simp
        unfold parseE parseV
        rw [hk]
        exact (parse_ahead s w h2 (by omega) h3).mono fun e w' ⟨he, hb⟩ => ⟨0, 0, he, IsV.zero, hb⟩
      · have hk : parseOk (natsOf s) = (natsOf s).all isHex := by
          unfold parseOk
          rw [natsOf_length, natsOf_get s 0 (by omega), decide_eq_true (show 1 ≤ s.size ∧ s.size ≤ 32 by omega), decide_eq_false (p := some s[0].toNat = some 48) (by simpa using h3)]
          simp
        unfold parseE parseV
        rw [hk]
        exact parse_loop2 s w h2 (by omega) h3
    · have hk : parseOk (natsOf s) = (natsOf s).all isHex := by
        unfold parseOk
        rw [natsOf_length, decide_eq_true (show 1 ≤ s.size ∧ s.size ≤ 32 by omega), decide_eq_true h2]
        simp
      unfold parseE parseV
      rw [hk]
      exact parse_loop s w (by omega) (by omega) h2
end Go.Proofs.Ytcafmhlnfkgegaa
