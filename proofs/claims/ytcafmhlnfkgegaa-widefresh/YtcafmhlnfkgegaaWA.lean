import Derived.Test.YtcafmhlnfkgegaaW9
namespace Go.Proofs.Ytcafmhlnfkgegaa
open Go.RowKit

theorem cell_bytes {w : World} {g N : Nat} (hg : w.heap[g]? = some (.cells (u8s (bytesOf N)).toArray 5 (0, 0))) (i : Nat) (h : i < 16) : w.cell? ⟨g, i, none⟩ = some (.int .u8 (byteN N i : Int)) := by
  have : (u8s (bytesOf N)).toArray[i]? = some (.int .u8 (byteN N i : Int)) := by rw [u8s_get, bytesOf_get _ _ h]; rfl
  unfold World.cell?
  simp [hg, this]

theorem isv_b : IsV 1 258 18446744073709551874 := ⟨1, 258, rfl, rfl, by decide, by decide, by decide⟩
theorem isv_ff : IsV 0 255 255 := ⟨0, 255, rfl, rfl, by decide, by decide, by decide⟩
theorem isv_top : IsV 0 18446744073709551615 18446744073709551615 := ⟨0, 18446744073709551615, rfl, rfl, by decide, by decide, by decide⟩
theorem isv_one : IsV 1 0 18446744073709551616 := ⟨1, 0, rfl, rfl, by decide, by decide, by decide⟩
theorem ff_E : parseE (natsOf { data := #[102, 102] }) = 0 := by decide
theorem ff_V : parseV (natsOf { data := #[102, 102] }) = 255 := by decide
theorem nx_B : nextB 18446744073709551615 65 = true := by decide
theorem nx_N : nextN 18446744073709551615 65 = 18446744073709551616 := by decide
theorem by0 : (byteN 18446744073709551874 0 : Int) = 2 := by decide
theorem by1 : (byteN 18446744073709551874 1 : Int) = 1 := by decide
theorem by8 : (byteN 18446744073709551874 8 : Int) = 1 := by decide
theorem tx_one : strB (textL 18446744073709551616) = { data := #[49, 48, 48, 48, 48, 48, 48, 48, 48, 48, 48, 48, 48, 48, 48, 48, 48] } := by decide
theorem fits_ff : fitsB 255 8 = true := by decide
theorem cmp_ff : cmpI 255 18446744073709551616 = -1 := by decide

set_option maxHeartbeats 1000000 in
theorem known_any (w : World) : Calls Try.prog 8 #[] w fun e w' => e = .returned (.bool true) ∧ Below w.heap.size w w' := by
  have heq := eqlW
  have hE := ff_E
  have hB := nx_B
  have hT := tx_one
  have hF := fits_ff
  have hM := cmp_ff
  have hq : wEq 1 0 1 0 = true := by decide
  go_enter Try.func8, Try.ntmps8
  go_wp2_with (first | (go_at_call 12; refine (bytes_any _ _ _ _ isv_b).mono ?_; rintro e w1 ⟨g, rfl, hg0, hg, hb1⟩; have b0 := cell_bytes hg 0 (by omega); have b1 := cell_bytes hg 1 (by omega); have b8 := cell_bytes hg 8 (by omega); rw [by0] at b0; rw [by1] at b1; rw [by8] at b8; clear hg) | (go_at_call 14; refine (parse_any _ _).mono ?_; rintro e w2 ⟨c, d, rfl, hcd, hb2⟩; rw [ff_V] at hcd; obtain ⟨rfl, rfl⟩ := hcd.inj isv_ff; clear hcd; replace b0 := cell_later hb2 b0; replace b1 := cell_later hb2 b1; replace b8 := cell_later hb2 b8) | (go_at_call 11; refine (next_any _ _ _ _ _ isv_top).mono ?_; rintro e w3 ⟨c, d, rfl, hcd, hb3⟩; rw [nx_N] at hcd; obtain ⟨rfl, rfl⟩ := hcd.inj isv_one; clear hcd; have c0 := fun o => cell_later (below1 w3 o) (cell_later hb3 (cell_later (below1 w2 _) b0)); have c1 := fun o => cell_later (below1 w3 o) (cell_later hb3 (cell_later (below1 w2 _) b1)); have c8 := fun o => cell_later (below1 w3 o) (cell_later hb3 (cell_later (below1 w2 _) b8)); have p0 := fun o => cell_later (a := ⟨w2.heap.size, 0, none⟩) (v := .int .u64 0) (below1 w3 o) (cell_later hb3 (by simp [go_sem])); have p1 := fun o => cell_later (a := ⟨w2.heap.size, 1, none⟩) (v := .int .u64 255) (below1 w3 o) (cell_later hb3 (by simp [go_sem])); clear b0 b1 b8) | (go_at_call 15; refine (text_any _ _ _ _ isv_one).mono ?_; rintro e w4 ⟨rfl, hb4⟩; have q0 := cell_later hb4 (p0 _); have q1 := cell_later hb4 (p1 _); have r0 : w4.cell? ⟨w3.heap.size, 0, none⟩ = some (.int .u64 1) := cell_later hb4 (by simp [go_sem]); have r1 : w4.cell? ⟨w3.heap.size, 1, none⟩ = some (.int .u64 0) := cell_later hb4 (by simp [go_sem])) | (go_at_call 10; refine (fits_any _ _ _ _ _ isv_ff).mono ?_; rintro e w5 ⟨rfl, hb5⟩; replace q0 := cell_later hb5 q0; replace q1 := cell_later hb5 q1; replace r0 := cell_later hb5 r0; replace r1 := cell_later hb5 r1) | (go_at_call 7; refine (cmp_any _ _ _ _ _ _ _ isv_ff isv_one).mono ?_; rintro e w6 ⟨rfl, hb6⟩))
  go_ret
  exact ⟨rfl, below_call (below_call (below_call (Below.alloc (below_call (Below.alloc (below_call hb1 hb2) (below_call hb1 hb2).size _) hb3) (below_call (Below.alloc (below_call hb1 hb2) (below_call hb1 hb2).size _) hb3).size _) hb4) hb5) hb6⟩
end Go.Proofs.Ytcafmhlnfkgegaa
