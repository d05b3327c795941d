import Derived.Test.YtaffgoacbiedlaaXA
import Derived.Test.YtaffgoacbiedlaaXB
import Derived.Test.YtaffgoacbiedlaaXC
import Derived.Test.YtaffgoacbiedlaaXD
namespace Go.Proofs.Ytaffgoacbiedlaa
open Go.RowKit
set_option linter.unusedVariables false
set_option linter.unusedSimpArgs false

theorem replies_law (op cut : Int) (K : List Value) (r : Rp) (w : World) (h : Rr w K r) :
    Calls Try.prog 3 #[.int .i64 op, .agg K.toArray, .int .i64 cut] w fun e w' => e = .returned (.bool true) ∧ Below w.heap.size w w' := by
  obtain ⟨⟨da, dn, dc⟩, rfl, hD, h1, h2⟩ := h.ex
  obtain ⟨code, obj, hi, lo, D, number⟩ := r
  simp only at hD h1 h2
  have hl := hD.len
  have q1 := Int.emod_nonneg op (by decide : (10 : Int) ≠ 0)
  have q2 := Int.emod_lt_of_pos op (by decide : (0 : Int) < 10)
  have hx : IntKind.i64.wrap (1 + op % 10) = 1 + op % 10 := by rw [IntKind.wrap_i64]; omega
  have c1 := Int.emod_nonneg code (by decide : (65536 : Int) ≠ 0)
  have c2 := Int.emod_lt_of_pos code (by decide : (0 : Int) < 65536)
  have hcut : ∀ n : Nat, 0 < n → ∃ k : Nat, cut % (n : Int) = (k : Int) ∧ k < n := fun n hn => by
    have a1 := Int.emod_nonneg cut (by omega : (n : Int) ≠ 0)
    have a2 := Int.emod_lt_of_pos cut (by omega : (0 : Int) < (n : Int))
    exact ⟨(cut % (n : Int)).toNat, by omega, by omega⟩
  by_cases hc : code % 65536 = 0
  · by_cases o1 : 1 + op % 10 = 1
    · obtain ⟨k, hk, hk2⟩ := hcut 26 (by omega)
      have v1 := Int.emod_nonneg obj (by decide : (4611686018427387904 : Int) ≠ 0)
      have v2 := Int.emod_lt_of_pos obj (by decide : (0 : Int) < 4611686018427387904)
      exact rr1 op code obj number cut hi lo da dn dc D w hD h1 h2 (op % 10) _ rfl (by rw [hx, o1]) hc rfl k hk hk2 (by simp [rfm, unt, tnB, wi]; omega) (by rw [rly_len]; rfl)
    by_cases o3 : 1 + op % 10 = 3
    · obtain ⟨k, hk, hk2⟩ := hcut 26 (by omega)
      have v1 := Int.emod_nonneg obj (by decide : (4611686018427387904 : Int) ≠ 0)
      have v2 := Int.emod_lt_of_pos obj (by decide : (0 : Int) < 4611686018427387904)
      exact rr3 op code obj number cut hi lo da dn dc D w hD h1 h2 (op % 10) _ rfl (by rw [hx, o3]) hc rfl k hk hk2 (by simp [rfm, unt, tnB, wi]; omega) (by rw [rly_len]; rfl)
    by_cases o9 : 1 + op % 10 = 9
    · obtain ⟨k, hk, hk2⟩ := hcut 4 (by omega)
      have v1 := Int.emod_nonneg number (by decide : (65536 : Int) ≠ 0)
      have v2 := Int.emod_lt_of_pos number (by decide : (0 : Int) < 65536)
      exact rr9 op code obj number cut hi lo da dn dc D w hD h1 h2 (op % 10) _ rfl (by rw [hx, o9]) hc rfl k hk hk2 (by simp [rfm, unt, tnB, wi]; omega) (by rw [rly_len]; rfl)
    by_cases o5 : 1 + op % 10 = 5
    · obtain ⟨m, hm⟩ : ∃ m : Nat, m = min dn 1024 := ⟨_, rfl⟩
      obtain ⟨k, hk, hk2⟩ := hcut (2 + m) (by omega)
      have hmn : (if (1024 : Int) < (dn : Int) then (1024 : Int) else (dn : Int)) = (m : Int) := by split <;> omega
      have hk' : cut % (2 + (m : Int)) = (k : Int) := by rw [← hk]; congr 1
      have hf : rfm 5 ⟨0, 0, 0, 0, D.take m, 0⟩ = true := rfm5 (by rw [List.length_take]; omega)
      have hz : (rly 5 ⟨0, 0, 0, 0, D.take m, 0⟩).length = 2 + m := by rw [rly_len, if_pos rfl, if_neg (by omega), if_pos rfl, List.length_take]; omega
      by_cases hkk : 2 ≤ k
      · by_cases hml : m < 1024
        · exact rr5kl op code obj number cut hi lo da dn dc D w hD h1 h2 (op % 10) m k rfl (by rw [hx, o5]) hc (by omega) (by omega) hmn hkk hml hk' hk2 hf hz
        · exact rr5km op code obj number cut hi lo da dn dc D w hD h1 h2 (op % 10) m k rfl (by rw [hx, o5]) hc (by omega) (by omega) hmn hkk (by omega) hk' hk2 hf hz
      · by_cases hml : m < 1024
        · exact rr5jl op code obj number cut hi lo da dn dc D w hD h1 h2 (op % 10) m k rfl (by rw [hx, o5]) hc (by omega) (by omega) hmn (by omega) hml hk' hk2 hf hz
        · exact rr5jm op code obj number cut hi lo da dn dc D w hD h1 h2 (op % 10) m k rfl (by rw [hx, o5]) hc (by omega) (by omega) hmn (by omega) (by omega) hk' hk2 hf hz
    · obtain ⟨k, hk, hk2⟩ := hcut 2 (by omega)
      refine rrx op code obj number cut hi lo da dn dc D w hD h1 h2 (1 + op % 10) (op % 10) rfl hx hc (by simpa using o1) (by simpa using o3) (by simpa using o5) (by simpa using o9) k hk hk2 ?_ ?_
      · unfold rfm unt rpz
        rw [if_pos rfl, if_neg (by omega), if_neg o5, if_neg o9]
        simp [tnB, wi]
        omega
      · rw [rly_len]
        unfold rpz
        rw [if_pos rfl, if_neg (by omega), if_neg o5, if_neg o9]
  · obtain ⟨k, hk, hk2⟩ := hcut 2 (by omega)
    by_cases o5 : 1 + op % 10 = 5
    · refine rrNB op code obj number cut hi lo da dn dc D w hD h1 h2 (op % 10) (code % 65536) rfl (by rw [hx, o5]) rfl (by simpa using hc) k hk hk2 ?_ ?_
      · unfold rfm rpz
        rw [if_neg hc]
        simp [tnB, wi]
        omega
      · rw [rly_len]
        unfold rpz
        rw [if_neg hc]
    · refine rrNA op code obj number cut hi lo da dn dc D w hD h1 h2 (1 + op % 10) (op % 10) (code % 65536) rfl hx rfl (by simpa using o5) (by simpa using hc) k hk hk2 ?_ ?_
      · unfold rfm rpz
        rw [if_neg hc]
        simp [tnB, wi]
        omega
      · rw [rly_len]
        unfold rpz
        rw [if_neg hc]
end Go.Proofs.Ytaffgoacbiedlaa
