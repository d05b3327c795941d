import Derived.Test.YtcknjglpgfkaiaaC5
import Derived.Deep.DeepCutAuto
namespace Go.Proofs.Ytcknjglpgfkaiaa
open Go.RowKit

theorem nameB_size : ∀ n, n < 32 → (nameB ((n : Nat) : Int)).size ≤ 5 := by decide +kernel

set_option maxRecDepth 100000 in
set_option maxHeartbeats 2000000 in
theorem texts_walk (a t : Int) (c : Nat) (w : World) (hc : c < 256) :
    Calls Try.prog 4 #[.int .i64 a, .int .i64 t, .int .u8 (c : Int)] w fun e w' => e = .returned (.bool true) ∧ Below w.heap.size w w' := by
  obtain ⟨n, hn, hn32⟩ : ∃ n : Nat, a % 32 = (n : Int) ∧ n < 32 := ⟨(a % 32).toNat, by omega, by omega⟩
  have hand : bits .and .i64 a 31 = (n : Int) := by rw [i64_and31, hn]
  obtain ⟨x, hx⟩ : ∃ x, x = nameB (n : Int) := ⟨_, rfl⟩
  have hsz : x.size ≤ 5 := by rw [hx]; exact nameB_size n hn32
  have hx' : nameB (n : Int) = x := hx.symm
  clear hx hn
  obtain ⟨u, hu⟩ : ∃ u : Int, t.tmod ((x.size : Int) + 1) = u := ⟨_, rfl⟩
  have hu1 : -(x.size : Int) ≤ u ∧ u ≤ (x.size : Int) := by
    rw [← hu]
    have h1 := Int.tmod_lt_of_pos t (show (0 : Int) < (x.size : Int) + 1 by omega)
    have h2 := Int.lt_tmod_of_pos t (show (0 : Int) < (x.size : Int) + 1 by omega)
    omega
  have hcv : ∀ W : World, (convert 30 9 (.slice (some ⟨W.heap.size, 0, none⟩) 1 1)).run Try.prog (W.alloc (Obj.cells #[.int .u8 (c : Int)] 5)).drew = .ok (.string (strB [c])) (W.alloc (Obj.cells #[.int .u8 (c : Int)] 5)).drew := fun W => conv_row ((Row.one W c hc).later (Below.refl _ _).drew) (by omega)
  go_enter Try.func4, Try.ntmps4
  by_cases hu0 : u < 0
  · obtain ⟨m, hm⟩ : ∃ m : Nat, u + (x.size : Int) + 1 = (m : Int) := ⟨(u + (x.size : Int) + 1).toNat, by omega⟩
    have hm1 : (m : Int) ≤ (x.size : Int) := by omega
    have hs1 : (strB [c]).size = 1 := rfl
    have hc1 : ¬ 9223372036854775807 < min m x.size + (strB [c]).size := by omega
    have hc2 : ¬ 9223372036854775807 < min m x.size + (strB [c]).size + (x.size - m) := by omega
    clear hs1
    go_upto_region 7 with (first | (go_at_call 6; refine (head_any _).mono ?_; rintro e w1 ⟨rfl, hb⟩) | (go_at_call 8; refine (names_any _ _).mono ?_; rintro e w2 ⟨rfl, hb2⟩; replace hb := below_call hb hb2; clear hb2))
    go_region
    all_goals
      replace hb := (hb.alloc hb.size (Obj.cells #[.int .u8 (c : Int)] 5)).drew
      generalize x.extract 0 m ++ strB [c] ++ x.extract m x.size = T
      go_upto_region 9 with (first | (go_at_call 7; refine (parse_any _ _).mono ?_; rintro e w3 ⟨v, cc, rfl, hr, hb2⟩; replace hb := below_call hb hb2; clear hb2))
      rcases hr.hit with ⟨k, hk, rfl, rfl, he⟩ | ⟨rfl, rfl, hno⟩
      · have he' : ((nameB (k : Int)).toList == T.toList) = true := by rw [str_beq, decide_eq_true he]
        clear he hr
        go_wp2_with (first | (go_at_call 8; refine (names_any _ _).mono ?_; rintro e w4 ⟨rfl, hb2⟩; replace hb := below_call hb hb2; clear hb2))
        go_ret
        exact ⟨rfl, hb⟩
      · clear hno
        have HR : Hid (Reads T 0 22) := hr
        clear hr
        go_wp2_with (first | (go_at_call 12; refine (rparse_any _ _).mono ?_; rintro e w4 ⟨v2, c2, rfl, hr2, hb2⟩; replace hb := below_call hb hb2; obtain ⟨rfl, rfl⟩ := HR.out.inj hr2; clear hb2 hr2))
        go_ret
        exact ⟨rfl, hb⟩
  · obtain ⟨m, rfl⟩ : ∃ m : Nat, u = (m : Int) := ⟨u.toNat, by omega⟩
    have hm1 : (m : Int) ≤ (x.size : Int) := by omega
    have hs1 : (strB [c]).size = 1 := rfl
    have hc1 : ¬ 9223372036854775807 < min m x.size + (strB [c]).size := by omega
    have hc2 : ¬ 9223372036854775807 < min m x.size + (strB [c]).size + (x.size - m) := by omega
    clear hs1
    go_upto_region 7 with (first | (go_at_call 6; refine (head_any _).mono ?_; rintro e w1 ⟨rfl, hb⟩) | (go_at_call 8; refine (names_any _ _).mono ?_; rintro e w2 ⟨rfl, hb2⟩; replace hb := below_call hb hb2; clear hb2))
    go_region
    all_goals
      replace hb := (hb.alloc hb.size (Obj.cells #[.int .u8 (c : Int)] 5)).drew
      generalize x.extract 0 m ++ strB [c] ++ x.extract m x.size = T
      go_upto_region 9 with (first | (go_at_call 7; refine (parse_any _ _).mono ?_; rintro e w3 ⟨v, cc, rfl, hr, hb2⟩; replace hb := below_call hb hb2; clear hb2))
      rcases hr.hit with ⟨k, hk, rfl, rfl, he⟩ | ⟨rfl, rfl, hno⟩
      · have he' : ((nameB (k : Int)).toList == T.toList) = true := by rw [str_beq, decide_eq_true he]
        clear he hr
        go_wp2_with (first | (go_at_call 8; refine (names_any _ _).mono ?_; rintro e w4 ⟨rfl, hb2⟩; replace hb := below_call hb hb2; clear hb2))
        go_ret
        exact ⟨rfl, hb⟩
      · clear hno
        have HR : Hid (Reads T 0 22) := hr
        clear hr
        go_wp2_with (first | (go_at_call 12; refine (rparse_any _ _).mono ?_; rintro e w4 ⟨v2, c2, rfl, hr2, hb2⟩; replace hb := below_call hb hb2; obtain ⟨rfl, rfl⟩ := HR.out.inj hr2; clear hb2 hr2))
        go_ret
        exact ⟨rfl, hb⟩
end Go.Proofs.Ytcknjglpgfkaiaa
