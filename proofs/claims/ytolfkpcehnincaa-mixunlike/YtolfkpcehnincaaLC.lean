import Derived.Test.YtolfkpcehnincaaLH
namespace Go.Proofs.Ytolfkpcehnincaa
open Go.RowKit

theorem hash_as (H : Nat) (o : Int) (a b : Nat) (k : Int) (w : World) (ha : a < B64) (hb : b < B64) (hH : Hid (hashN (objN o) a b = H)) :
    Calls Try.prog 6 #[.int .i64 o, .agg #[.int .u64 (a : Int), .int .u64 (b : Int)], .int .i64 k] w fun e w' => e = .returned (.int .u64 (lowN H k : Int)) ∧ Below w.heap.size w w' := by
  have := hash_any o a b k w ha hb
  rw [hH.out] at this
  exact this
set_option maxRecDepth 100000 in
set_option maxHeartbeats 2000000 in
theorem cuts_law (o : Int) (a b : Nat) (k : Int) (w : World) (ha : a < B64) (hb : b < B64) :
    Calls Try.prog 3 #[.int .i64 o, .agg #[.int .u64 (a : Int), .int .u64 (b : Int)], .int .i64 k] w fun e w' => e = .returned (.bool true) ∧ Below w.heap.size w w' := by
  have hC : Hid _ := boxed_cells w a b
  have hB : Below (w.heap.size + 1) (w.alloc (Obj.cells #[.int .u64 (a : Int), .int .u64 (b : Int)] 24)) (w.alloc (Obj.cells #[.int .u64 (a : Int), .int .u64 (b : Int)] 24)) := Below.refl _ _
  obtain ⟨H, hH⟩ : ∃ H, Hid (hashN (objN o) a b = H) := ⟨_, rfl⟩
  have hlt : H < B64 := by rw [← hH.out]; exact hashN_lt _ _ _
  have h64 : lowN H 64 = H := lowN_all (by decide)
  have h70 : lowN H 70 = H := lowN_all (by decide)
  have hm1 : lowN H (-1) = 0 := lowN_none (by decide)
  by_cases k1 : k ≤ 0
  · have hk : lowN H k = 0 := lowN_none k1
    go_enter Try.func3, Try.ntmps3
    go_wp2_with (first | (go_at_call 6; refine (hash_as H _ _ _ _ _ ha hb hH).mono ?_; rintro e w1 ⟨rfl, hx⟩; replace hB := keep_call hx (by simp) ⟨trivial, hB⟩; obtain ⟨⟨x0, x1⟩, -⟩ := hC.out _ hB; clear hx) | (go_at_call 7; refine (alive_any _).mono ?_; rintro e w2 ⟨rfl, hx⟩; replace hB := keep_call hx (by simp) ⟨trivial, hB⟩; clear hx))
    go_ret
    exact ⟨rfl, below_box hB⟩
  · by_cases k2 : 64 ≤ k
    · have hk : lowN H k = H := lowN_all k2
      go_enter Try.func3, Try.ntmps3
      go_wp2_with (first | (go_at_call 6; refine (hash_as H _ _ _ _ _ ha hb hH).mono ?_; rintro e w1 ⟨rfl, hx⟩; replace hB := keep_call hx (by simp) ⟨trivial, hB⟩; obtain ⟨⟨x0, x1⟩, -⟩ := hC.out _ hB; clear hx) | (go_at_call 7; refine (alive_any _).mono ?_; rintro e w2 ⟨rfl, hx⟩; replace hB := keep_call hx (by simp) ⟨trivial, hB⟩; clear hx))
      go_ret
      exact ⟨rfl, below_box hB⟩
    · have HL : Hid (bits .and .u64 (H : Int) (IntKind.u64.wrap (IntKind.u64.wrap (2 ^ k.toNat) - 1)) = (lowN H k : Int)) := by
        unfold Hid; rw [lowN_some k1 k2]; exact u64_low H k.toNat hlt (by omega)
      go_enter Try.func3, Try.ntmps3
      go_wp2_with (first | (go_at_call 6; refine (hash_as H _ _ _ _ _ ha hb hH).mono ?_; rintro e w1 ⟨rfl, hx⟩; replace hB := keep_call hx (by simp) ⟨trivial, hB⟩; obtain ⟨⟨x0, x1⟩, -⟩ := hC.out _ hB; clear hx) | (go_at_call 7; refine (alive_any _).mono ?_; rintro e w2 ⟨rfl, hx⟩; replace hB := keep_call hx (by simp) ⟨trivial, hB⟩; clear hx))
      go_ret
      refine ⟨ret_bool ?_, below_box hB⟩
      rw [HL.out]
      exact beq_self_eq_true _
end Go.Proofs.Ytolfkpcehnincaa
