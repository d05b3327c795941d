import Derived.Test.YtcknjglpgfkaiaaC5
namespace Go.Proofs.Ytcknjglpgfkaiaa
open Go.RowKit

set_option maxRecDepth 100000 in
set_option maxHeartbeats 2000000 in
theorem all_walk (a b : Int) (s : ByteArray) (w : World) :
    Calls Try.prog 5 #[.int .i64 a, .int .i64 b, .string s] w fun e w' => e = .returned (.bool true) ∧ Below w.heap.size w w' := by
  go_enter Try.func5, Try.ntmps5
  go_wp2_with (first | (go_at_call 6; refine (head_any _).mono ?_; rintro e w1 ⟨rfl, hb⟩) | (go_at_call 7; refine (parse_any _ _).mono ?_; rintro e w2 ⟨v, c, rfl, hr, hb2⟩; replace hb := below_call hb hb2; clear hb2) | (go_at_call 12; refine (rparse_any _ _).mono ?_; rintro e w3 ⟨v2, c2, rfl, hr2, hb2⟩; replace hb := below_call hb hb2; obtain ⟨rfl, rfl⟩ := hr.inj hr2; clear hb2 hr hr2) | (go_at_call 10; refine (valid_any _ _).mono ?_; rintro e w4 ⟨rfl, rfl⟩) | (go_at_call 13; refine (rvalid_any _ _).mono ?_; rintro e w4 ⟨rfl, rfl⟩) | (go_at_call 9; refine (part_any _ _ _).mono ?_; rintro e w4 ⟨rfl, rfl⟩) | (go_at_call 14; refine (rpart_any _ _ _).mono ?_; rintro e w4 ⟨rfl, rfl⟩) | (go_at_call 11; refine (has_any _ _ _).mono ?_; rintro e w4 ⟨rfl, rfl⟩) | (go_at_call 8; refine (names_any _ _).mono ?_; rintro e w4 ⟨rfl, hb2⟩; replace hb := below_call hb hb2; clear hb2) | (go_at_call 15; refine (rnames_any _ _).mono ?_; rintro e w5 ⟨rfl, hb2⟩; replace hb := below_call hb hb2; clear hb2))
  go_ret
  exact ⟨rfl, hb⟩
end Go.Proofs.Ytcknjglpgfkaiaa
