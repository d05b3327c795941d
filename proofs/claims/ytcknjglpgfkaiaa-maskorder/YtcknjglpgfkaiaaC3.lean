import Derived.Test.YtcknjglpgfkaiaaC2
namespace Go.Proofs.Ytcknjglpgfkaiaa
open Go.RowKit

theorem str_beq (x y : ByteArray) : (x.toList == y.toList) = decide (x = y) := by
  by_cases h : x = y
  · subst h; simp
  · rw [decide_eq_false h, beq_eq_false_iff_ne]
    intro e
    rw [ByteArray.toList_eq, ByteArray.toList_eq] at e
    exact h (ByteArray.ext (Array.toList_inj.1 e))
theorem nameB_zero : nameB 0 = ⟨#[45]⟩ := by rfl
theorem nameB_none {r : Int} (h0 : r ≠ 0) (h : validB r = false) : nameB r = ⟨#[]⟩ := by
  unfold nameB nameI
  rw [if_neg h0, if_neg (by simp [h])]
  rfl
theorem nameB_valid {n : Nat} (h0 : 1 ≤ n) (hn : n < 32) : nameB (n : Int) = strB (nameL n 5) := by
  unfold nameB nameI
  rw [if_neg (by omega), if_pos (valid_of h0 hn)]
  rfl
theorem names_any (r : Int) (w : World) :
    Calls Try.prog 8 #[.int .i64 r] w fun e w' => e = .returned (.string (nameB r)) ∧ Below w.heap.size w w' := by
  by_cases h0 : r = 0
  · subst h0
    rw [nameB_zero]
    go_enter Try.func8, Try.ntmps8
    go_wp2
    go_ret
    exact ⟨rfl, Below.refl _ _⟩
  · by_cases h1 : validB r = true
    · obtain ⟨n, rfl, hn0, hn⟩ := valid_nat h1
      rw [nameB_valid hn0 hn]
      exact names_valid n w hn0 hn
    · have h1 : validB r = false := by simpa using h1
      rw [nameB_none h0 h1]
      have hz : (r == 0) = false := by simpa using h0
      go_enter Try.func8, Try.ntmps8
      go_wp2_with (first | (go_at_call 10; refine (valid_any _ _).mono ?_; rintro e w1 ⟨rfl, rfl⟩))
      go_ret
      exact ⟨rfl, Below.refl _ _⟩

def ParseRel (w : World) (s : ByteArray) (t : Value) (w' : World) : Prop :=
  ∃ k : Nat, k ≤ 32 ∧ t = .int .i64 (k : Int) ∧ (∀ j : Nat, j < k → nameB (j : Int) ≠ s) ∧ Below w.heap.size w w'
set_option maxRecDepth 100000 in
set_option maxHeartbeats 1000000 in
theorem parse_any (s : ByteArray) (w : World) :
    Calls Try.prog 7 #[.string s] w fun e w' => ∃ v c : Int, e = .returned (.tuple #[.int .i64 v, .int .i64 c]) ∧ Reads s v c ∧ Below w.heap.size w w' := by
  have HS : Hid (ParseRel w s (.int .i64 0) w) := ⟨0, by omega, rfl, fun j hj => by omega, Below.refl _ _⟩
  go_enter Try.func7, Try.ntmps7
  go_wp2
  go_loopw [5] (ParseRel w s) (fun t _ => 32 - (intOf t).toNat)
  case atStart => exact HS.out
  case round =>
    clear HS
    obtain ⟨k, hk, rfl, hno, hB⟩ := hrel
    by_cases hlt : k < 32
    · have hd : decide ((k : Int) < 32) = true := by simp; omega
      have HN : Hid (∀ j : Nat, j < k → nameB (j : Int) ≠ s) := hno
      clear hno
      by_cases he : nameB (k : Int) = s
      · have he' : ((nameB (k : Int)).toList == s.toList) = true := by rw [str_beq, decide_eq_true he]
        have HE : Hid (nameB (k : Int) = s) := he
        clear he
        go_wp2_with (first | (go_at_call 8; refine (names_any _ _).mono ?_; rintro e w1 ⟨rfl, hb⟩))
        exact bodyPost_ret (v := .tuple #[.int .i64 (k : Int), .int .i64 0]) (by simp [results, Try.results7, go_sem]) rfl ⟨(k : Int), 0, rfl, ⟨.inl ⟨k, hlt, rfl, rfl, HE.out⟩⟩, below_call hB hb⟩
      · have he' : ((nameB (k : Int)).toList == s.toList) = false := by rw [str_beq, decide_eq_false he]
        have HE : Hid (nameB (k : Int) ≠ s) := he
        clear he
        go_wp2_with (first | (go_at_call 8; refine (names_any _ _).mono ?_; rintro e w1 ⟨rfl, hb⟩))
        go_roundw
        case rel =>
          refine ⟨k + 1, by omega, by go_num, fun j hj => ?_, below_call hB hb⟩
          by_cases h : j = k
          · subst h; exact HE.out
          · exact HN.out j (by omega)
        case measure => simp [intOf]; omega
    · obtain rfl : k = 32 := by omega
      have HN : Hid (∀ j : Nat, j < 32 → nameB (j : Int) ≠ s) := hno
      clear hno
      simp only [Int.cast_ofNat_Int]
      go_wp2
      exact bodyPost_ret (v := .tuple #[.int .i64 0, .int .i64 22]) (by simp [results, Try.results7, go_sem]) rfl ⟨0, 22, rfl, ⟨.inr ⟨rfl, rfl, HN.out⟩⟩, hB⟩
end Go.Proofs.Ytcknjglpgfkaiaa
