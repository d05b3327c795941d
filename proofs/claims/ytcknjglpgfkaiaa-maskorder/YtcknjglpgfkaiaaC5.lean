import Derived.Test.YtcknjglpgfkaiaaC4
namespace Go.Proofs.Ytcknjglpgfkaiaa
open Go.RowKit

set_option maxRecDepth 100000 in
set_option maxHeartbeats 1000000 in
theorem rnames_valid (n : Nat) (w : World) (h0 : 1 ≤ n) (hn : n < 32) :
    Calls Try.prog 15 #[.int .i64 (n : Int)] w fun e w' => e = .returned (.string (strB (nameL n 5))) ∧ Below w.heap.size w w' := by
  have HS : Hid (NamesRel w n (.slice none 0 0) (.int .i64 0) w) := names_start w n
  have hv := valid_of h0 hn
  have hz : ((n : Int) == 0) = false := by simp; omega
  go_enter Try.func15, Try.ntmps15
  go_wp2_with (first | (go_at_call 13; refine (rvalid_any _ _).mono ?_; rintro e w1 ⟨rfl, rfl⟩))
  rename World => w
  go_loopw [3, 4] (NamesRel w n) (fun _ t _ => 5 - (intOf t).toNat)
  case atStart => exact HS.out
  case round =>
    clear HS
    obtain ⟨k, a, cap, hk, rfl, rfl, hown, hB⟩ := hrel
    by_cases hlt : k < 5
    · have hd : decide ((k : Int) < 5) = true := by simp; omega
      by_cases hb : hasB n k = true
      · have hks : k < (⟨#[114, 119, 100, 118, 120]⟩ : ByteArray).size := hlt
        obtain ⟨a2, c2, w2, hrun, hrel2⟩ := names_more (let_at k hks) hlt (let_small k hlt) hb hown hB
        have HRUN : Hid _ := hrun
        have HR : Hid _ := hrel2
        clear hrun hrel2 hown hB
        go_wp2_with (first | (go_at_call 17; refine (rhas_any n k _ hn hlt).mono ?_; rintro e w1 ⟨rfl, rfl⟩) | (at_builtin; refine wpList_append_known rfl _ _ 30 rfl _ _ rfl rfl _ w2 HRUN.out ?_))
        go_roundw
        case rel => exact HR.out
        case measure => simp [intOf]; omega
      · have hb : hasB n k = false := by simpa using hb
        have HR : Hid (NamesRel w n (.slice a (nameL n k).length cap) (.int .i64 ((k : Int) + 1)) wr) := ⟨k + 1, a, cap, by omega, rfl, by rw [nameL_no hb], by rw [nameL_no hb]; exact hown, hB⟩
        clear hown hB
        go_wp2_with (first | (go_at_call 17; refine (rhas_any n k _ hn hlt).mono ?_; rintro e w1 ⟨rfl, rfl⟩))
        go_roundw
        case rel => exact HR.out
        case measure => simp [intOf]; omega
    · obtain rfl : k = 5 := by omega
      have hcv := conv_row hown.read (name_some n hn h0)
      simp only [Int.cast_ofNat_Int]
      go_wp2
      go_ret
      exact ⟨rfl, hB⟩
theorem rnames_any (r : Int) (w : World) :
    Calls Try.prog 15 #[.int .i64 r] w fun e w' => e = .returned (.string (nameB r)) ∧ Below w.heap.size w w' := by
  by_cases h0 : r = 0
  · subst h0
    rw [nameB_zero]
    go_enter Try.func15, Try.ntmps15
    go_wp2
    go_ret
    exact ⟨rfl, Below.refl _ _⟩
  · by_cases h1 : validB r = true
    · obtain ⟨n, rfl, hn0, hn⟩ := valid_nat h1
      rw [nameB_valid hn0 hn]
      exact rnames_valid n w hn0 hn
    · have h1 : validB r = false := by simpa using h1
      rw [nameB_none h0 h1]
      have hz : (r == 0) = false := by simpa using h0
      go_enter Try.func15, Try.ntmps15
      go_wp2_with (first | (go_at_call 13; refine (rvalid_any _ _).mono ?_; rintro e w1 ⟨rfl, rfl⟩))
      go_ret
      exact ⟨rfl, Below.refl _ _⟩

set_option maxRecDepth 100000 in
set_option maxHeartbeats 1000000 in
theorem rparse_any (s : ByteArray) (w : World) :
    Calls Try.prog 12 #[.string s] w fun e w' => ∃ v c : Int, e = .returned (.tuple #[.int .i64 v, .int .i64 c]) ∧ Reads s v c ∧ Below w.heap.size w w' := by
  have HS : Hid (ParseRel w s (.int .i64 0) w) := ⟨0, by omega, rfl, fun j hj => by omega, Below.refl _ _⟩
  go_enter Try.func12, Try.ntmps12
  go_wp2
  go_loopw [4] (ParseRel w s) (fun t _ => 32 - (intOf t).toNat)
  case atStart => exact HS.out
  case round =>
    clear HS
    obtain ⟨k, hk, rfl, hno, hB⟩ := hrel
    by_cases hlt : k < 32
    · have hd : decide ((k : Int) ≤ 31) = true := by simp; omega
      have HN : Hid (∀ j : Nat, j < k → nameB (j : Int) ≠ s) := hno
      clear hno
      by_cases he : nameB (k : Int) = s
      · have he' : ((nameB (k : Int)).toList == s.toList) = true := by rw [str_beq, decide_eq_true he]
        have HE : Hid (nameB (k : Int) = s) := he
        clear he
        go_wp2_with (first | (go_at_call 15; refine (rnames_any _ _).mono ?_; rintro e w1 ⟨rfl, hb⟩))
        exact bodyPost_ret (v := .tuple #[.int .i64 (k : Int), .int .i64 0]) (by simp [results, Try.results12, go_sem]) rfl ⟨(k : Int), 0, rfl, ⟨.inl ⟨k, hlt, rfl, rfl, HE.out⟩⟩, below_call hB hb⟩
      · have he' : ((nameB (k : Int)).toList == s.toList) = false := by rw [str_beq, decide_eq_false he]
        have HE : Hid (nameB (k : Int) ≠ s) := he
        clear he
        go_wp2_with (first | (go_at_call 15; refine (rnames_any _ _).mono ?_; rintro e w1 ⟨rfl, hb⟩))
        go_roundw
        case rel =>
          refine ⟨k + 1, by omega, by go_num, fun j hj => ?_, below_call hB hb⟩
          by_cases h : j = k
          · subst h; exact HE.out
          · exact HN.out j (by omega)
        case measure => simp [intOf]; omega
    · obtain rfl : k = 32 := by omega
      have HN : Hid (∀ j : Nat, j < 32 → nameB (j : Int) ≠ s) := hno
      clear hno
      simp only [Int.cast_ofNat_Int]
      go_wp2
      exact bodyPost_ret (v := .tuple #[.int .i64 0, .int .i64 22]) (by simp [results, Try.results12, go_sem]) rfl ⟨0, 22, rfl, ⟨.inr ⟨rfl, rfl, HN.out⟩⟩, hB⟩
end Go.Proofs.Ytcknjglpgfkaiaa
