import Derived.Test.YtcknjglpgfkaiaaC3
namespace Go.Proofs.Ytcknjglpgfkaiaa
open Go.RowKit

theorem reads_rd {v c : Int} (h : Reads ⟨#[114, 100]⟩ v c) : v = 5 ∧ c = 0 := h.inj (Reads.name (n := 5) (by decide))
set_option maxRecDepth 100000 in
set_option maxHeartbeats 1000000 in
theorem head_any (w : World) :
    Calls Try.prog 6 #[] w fun e w' => e = .returned (.bool true) ∧ Below w.heap.size w w' := by
  have h1 : validB 31 = true := by decide
  have h2 : partB 1 3 = true := by decide
  have h3 : partB 3 1 = false := by decide
  have h4 : nameB 24 = ⟨#[118, 120]⟩ := by rfl
  have h5 : nameB 0 = ⟨#[45]⟩ := by rfl
  go_enter Try.func6, Try.ntmps6
  go_wp2_with (first | (go_at_call 7; refine (parse_any _ _).mono ?_; rintro e w1 ⟨v, c, rfl, hr, hb⟩; obtain ⟨rfl, rfl⟩ := reads_rd hr; clear hr) | (go_at_call 10; refine (valid_any _ _).mono ?_; rintro e w2 ⟨rfl, rfl⟩) | (go_at_call 9; refine (part_any _ _ _).mono ?_; rintro e w2 ⟨rfl, rfl⟩) | (go_at_call 11; refine (has_any _ _ _).mono ?_; rintro e w2 ⟨rfl, rfl⟩) | (go_at_call 8; refine (names_any _ _).mono ?_; rintro e w2 ⟨rfl, hb2⟩; replace hb := below_call hb hb2; clear hb2))
  go_ret
  exact ⟨rfl, hb⟩

/-! ### The document's answer: has -/
theorem mod_beq (q : Nat) : ((q : Int) % 2 == 1) = decide (q % 2 = 1) := by
  by_cases h : q % 2 = 1
  · rw [decide_eq_true h]
    have : (q : Int) % 2 = 1 := by omega
    rw [this]; rfl
  · rw [decide_eq_false h, beq_eq_false_iff_ne]
    omega
def HasRel (n i : Nat) (r t : Value) : Prop := ∃ k : Nat, k ≤ i ∧ t = .int .i64 (k : Int) ∧ r = .int .i64 ((n / 2 ^ k : Nat) : Int)
set_option maxRecDepth 100000 in
set_option maxHeartbeats 1000000 in
theorem rhas_any (n i : Nat) (w : World) (hn : n < 32) (hi : i < 5) :
    Calls Try.prog 17 #[.int .i64 (n : Int), .int .i64 (i : Int)] w fun e w' => e = .returned (.bool (hasB n i)) ∧ w' = w := by
  have HS : Hid (HasRel n i (.int .i64 (n : Int)) (.int .i64 0)) := ⟨0, by omega, rfl, by simp⟩
  go_enter Try.func17, Try.ntmps17
  go_wp2
  go_loopw [0, 5] (fun r t w' => HasRel n i r t ∧ w' = w) (fun _ t _ => i - (intOf t).toNat)
  case atStart => exact ⟨HS.out, rfl⟩
  case round =>
    clear HS
    obtain ⟨⟨k, hk, rfl, rfl⟩, rfl⟩ := hrel
    obtain ⟨q, hq⟩ : ∃ q, q = n / 2 ^ k := ⟨_, rfl⟩
    have hqn : q < 32 := by rw [hq]; exact Nat.lt_of_le_of_lt (Nat.div_le_self _ _) hn
    rw [← hq]
    by_cases hlt : k < i
    · have hd : decide ((k : Int) < (i : Int)) = true := by simp; omega
      have HQ : Hid (q / 2 = n / 2 ^ (k + 1)) := by unfold Hid; rw [hq, Nat.pow_succ, ← Nat.div_div_eq_div_mul]
      clear hq
      go_wp2
      go_roundw
      case rel => exact ⟨⟨k + 1, by omega, by go_num, by rw [← HQ.out]; simp⟩, trivial⟩
      case measure => simp [intOf]; omega
    · obtain rfl : k = i := by omega
      have HQ : Hid (hasB n k = decide (q % 2 = 1)) := by unfold Hid hasB; rw [hq]
      clear hq
      go_wp2
      go_ret
      refine ⟨?_, rfl⟩
      rw [HQ.out]
      exact ret_bool (mod_beq q)

/-! ### Part, Names, Parse -/
def RPartRel (n m : Nat) (t : Value) : Prop := ∃ k : Nat, k ≤ 5 ∧ t = .int .i64 (k : Int) ∧ ∀ j, j < k → (!hasB n j || hasB m j) = true
theorem sub_yes {n m : Nat} (hn : n < 32) (hm : m < 32) (h : ∀ j, j < 5 → (!hasB n j || hasB m j) = true) : subN n m = true := by
  rw [sub_rights n hn m hm, List.all_eq_true]
  intro x hx
  exact h x (List.mem_range.1 hx)
theorem sub_no {n m j : Nat} (hn : n < 32) (hm : m < 32) (hj : j < 5) (h1 : hasB n j = true) (h2 : hasB m j = false) : subN n m = false := by
  rw [sub_rights n hn m hm, List.all_eq_false]
  exact ⟨j, List.mem_range.2 hj, by simp [h1, h2]⟩
set_option maxRecDepth 100000 in
set_option maxHeartbeats 1000000 in
theorem rpart_any (a b : Int) (w : World) :
    Calls Try.prog 14 #[.int .i64 a, .int .i64 b] w fun e w' => e = .returned (.bool (partB a b)) ∧ w' = w := by
  by_cases h1 : validB a = true
  · by_cases h2 : validB b = true
    · obtain ⟨n, rfl, _, hn⟩ := valid_nat h1
      obtain ⟨m, rfl, _, hm⟩ := valid_nat h2
      have HP : Hid (partB (n : Int) (m : Int) = subN n m) := by unfold Hid partB; rw [h1, h2]; simp
      have HS : Hid (RPartRel n m (.int .i64 0)) := ⟨0, by omega, rfl, fun j hj => by omega⟩
      go_enter Try.func14, Try.ntmps14
      go_wp2_with (first | (go_at_call 13; refine (rvalid_any _ _).mono ?_; rintro e w1 ⟨rfl, rfl⟩))
      rename World => w
      go_loopw [5] (fun t w' => RPartRel n m t ∧ w' = w) (fun t _ => 5 - (intOf t).toNat)
      case atStart => exact ⟨HS.out, rfl⟩
      case round =>
        clear HS
        obtain ⟨⟨k, hk, rfl, hall⟩, rfl⟩ := hrel
        have HA : Hid (∀ j, j < k → (!hasB n j || hasB m j) = true) := hall
        clear hall
        by_cases hlt : k < 5
        · have hd : decide ((k : Int) < 5) = true := by simp; omega
          by_cases p1 : hasB n k = true
          · by_cases p2 : hasB m k = true
            · have HN : Hid (RPartRel n m (.int .i64 ((k : Int) + 1))) := ⟨k + 1, by omega, rfl, fun j hj => by
                by_cases h : j = k
                · subst h; rw [p2]; simp
                · exact HA.out j (by omega)⟩
              go_wp2_with (first | (go_at_call 17; refine (rhas_any _ _ _ (by assumption) hlt).mono ?_; rintro e w1 ⟨rfl, rfl⟩))
              go_roundw
              case rel => exact ⟨HN.out, trivial⟩
              case measure => simp [intOf]; omega
            · have p2 : hasB m k = false := by simpa using p2
              have HZ : Hid (subN n m = false) := sub_no hn hm hlt p1 p2
              go_wp2_with (first | (go_at_call 17; refine (rhas_any _ _ _ (by assumption) hlt).mono ?_; rintro e w1 ⟨rfl, rfl⟩))
              go_ret
              refine ⟨?_, rfl⟩
              rw [HP.out, HZ.out]
              rfl
          · have p1 : hasB n k = false := by simpa using p1
            have HN : Hid (RPartRel n m (.int .i64 ((k : Int) + 1))) := ⟨k + 1, by omega, rfl, fun j hj => by
                by_cases h : j = k
                · subst h; rw [p1]; simp
                · exact HA.out j (by omega)⟩
            go_wp2_with (first | (go_at_call 17; refine (rhas_any _ _ _ (by assumption) hlt).mono ?_; rintro e w1 ⟨rfl, rfl⟩))
            go_roundw
            case rel => exact ⟨HN.out, trivial⟩
            case measure => simp [intOf]; omega
        · obtain rfl : k = 5 := by omega
          have HZ : Hid (subN n m = true) := sub_yes hn hm HA.out
          simp only [Int.cast_ofNat_Int]
          go_wp2
          go_ret
          refine ⟨?_, rfl⟩
          rw [HP.out, HZ.out]
          rfl
    · have h2 : validB b = false := by simpa using h2
      have hz : partB a b = false := by unfold partB; rw [h2]; simp
      rw [hz]; clear hz
      go_enter Try.func14, Try.ntmps14
      go_wp2_with (first | (go_at_call 13; refine (rvalid_any _ _).mono ?_; rintro e w1 ⟨rfl, rfl⟩))
      go_ret
      exact ⟨rfl, rfl⟩
  · have h1 : validB a = false := by simpa using h1
    have hz : partB a b = false := by unfold partB; rw [h1]; simp
    rw [hz]; clear hz
    go_enter Try.func14, Try.ntmps14
    go_wp2_with (first | (go_at_call 13; refine (rvalid_any _ _).mono ?_; rintro e w1 ⟨rfl, rfl⟩))
    go_ret
    exact ⟨rfl, rfl⟩
end Go.Proofs.Ytcknjglpgfkaiaa
