import Derived.Test.YtcagghfkomodlaaB4
namespace Go.Proofs.Ytcagghfkomodlaa
open Go.RowKit
set_option linter.unusedVariables false
set_option linter.unusedSimpArgs false
variable {w w' : World} {base g : Nat} {m : Int} {pa : Option Addr} {cap : Nat} {K : List Cp}

set_option maxRecDepth 100000 in
set_option maxHeartbeats 1000000 in
theorem cut_zero (h : Dm w base g m pa cap K) (f : Nat) (hf : f ≤ K.length) (hL : K.length ≤ 32) :
    Calls Try.prog 19 #[.pointer (some ⟨g, 0, none⟩), .int .i64 (f : Int), .int .i64 0] w fun e w' => e = .returned (.slice pa 0 0) ∧ w' = w := by
  have c1 := h.c1.1
  have hc := h.capn
  have h1 : (f : Int) ≤ (cap : Int) := by omega
  have hwr : IntKind.i64.wrap (f : Int) = (f : Int) := by rw [IntKind.wrap_i64]; omega
  clear h
  go_enter Try.func19, Try.ntmps19
  go_wp2
  go_ret
  exact ⟨rfl, rfl⟩
set_option maxRecDepth 100000 in
set_option maxHeartbeats 1000000 in
theorem cut_more {gg : Nat} (h : Dm w base g m (some ⟨gg, 0, none⟩) cap K) (f n : Nat) (hf : f + n ≤ K.length) (hn : 0 < n) (hL : K.length ≤ 32) :
    Calls Try.prog 19 #[.pointer (some ⟨g, 0, none⟩), .int .i64 (f : Int), .int .i64 (n : Int)] w fun e w' => e = .returned (.slice (some ⟨gg, f * 3, none⟩) n n) ∧ w' = w := by
  have c1 := h.c1.1
  have hc := h.capn
  have h1 : (f : Int) + (n : Int) ≤ (cap : Int) := by omega
  have h2 : ¬ n = 0 := by omega
  have hwr : IntKind.i64.wrap ((f : Int) + (n : Int)) = (f : Int) + (n : Int) := by rw [IntKind.wrap_i64]; omega
  clear h
  go_enter Try.func19, Try.ntmps19
  go_wp2
  go_ret
  refine ⟨?_, rfl⟩
  show Ending.returned (Value.slice (some ⟨gg, f * 3, none⟩) (f + n - f) (f + n - f)) = _
  rw [Nat.add_sub_cancel_left]
/-- A copy of the whole list into new memory. -/
theorem all_copy {b gg n : Nat} {M : List Cp} (h : Ow w base 35 3 (some ⟨gg, 0, none⟩) n cap (caps K)) (hl : K.length = n) (ho : Ow w b 35 3 (some ⟨b, 0, none⟩) n n (caps M)) (hm : M.length = n) :
    ∃ w', (Builtin.copy_ #[22, 22] 3 #[.slice (some ⟨b, 0, none⟩) n n, .slice (some ⟨gg, 0, none⟩) n n]).run Try.prog w = .ok (.int .i64 (n : Int)) w' ∧ But (· = b) w w' ∧ Ow w' b 35 3 (some ⟨b, 0, none⟩) n n (caps K) := by
  have hmin : Nat.min n n = n := Nat.min_self n
  have hcl : (caps K).length = n * 3 := by rw [caps_length, hl]
  have hrun := run_copy_k (P := Try.prog) w 22 22 3 35 3 b 0 n n ⟨gg, 0, none⟩ n n (caps K) Try.underlying22 size35 (by rw [hcl, hmin]) (fun j v hv => by rw [addr_add0]; exact h.rv gg rfl j v hv) (fun j hj => ho.some_ (by omega)) (fun j _ => ho.fr _) (caps_one _)
  rw [hmin] at hrun
  refine ⟨_, hrun, But.setCells (S := (· = b)) (b := b) (by rfl) _ _ (But.refl _ _), ?_⟩
  have := Ow.setCells (caps K) (0 * 3) w _ ho
  rw [setL_caps _ _ _ (by omega)] at this
  have hd : M.drop K.length = [] := List.drop_eq_nil_of_le (by omega)
  simpa [hd] using this
set_option maxRecDepth 100000 in
set_option maxHeartbeats 1000000 in
theorem all_any (h : Dm w base g m pa cap K) (hL : K.length ≤ 32) :
    Calls Try.prog 13 #[.pointer (some ⟨g, 0, none⟩)] w fun e w' => ∃ p c, e = .returned (.slice p K.length c) ∧ Ow w' w.heap.size 35 3 p K.length c (caps K) ∧ Below w.heap.size w w' := by
  obtain ⟨w1, hmk, hO1, hB1⟩ := make_caps w K.length (by omega)
  have h1 := h.later hB1
  have c0 := h.c1.1
  have c1 := h1.c1.1
  obtain ⟨b, hb⟩ : ∃ b, b = w.heap.size := ⟨_, rfl⟩
  rw [← hb] at hmk hO1
  have HBE := hid hb
  by_cases h0 : K.length = 0
  · have hK : K = [] := List.eq_nil_of_length_eq_zero h0
    subst hK
    simp only [List.length_nil, Int.cast_ofNat_Int] at *
    have hcu := hid (cut_zero h1 0 (Nat.le_refl _) (by simp))
    have hrun := (run_copy_nil_k (P := Try.prog) w1 22 22 3 35 3 (some ⟨b, 0, none⟩) pa 0 0 0 0 Try.underlying22 size35 (by simp))
    have HO1 := hid hO1
    have HB1 := hid hB1
    clear h h1 hO1 hB1 hb
    go_enter Try.func13, Try.ntmps13
    go_wp2_with (first
      | (go_at_call 19; refine hcu.out.mono ?_; rintro e w9 ⟨rfl, hw9⟩; obtain rfl := hw9.symm; clear hw9))
    go_ret
    exact ⟨_, _, rfl, by rw [← HBE.out]; simpa using HO1.out, HB1.out⟩
  · obtain ⟨gg, rfl⟩ : ∃ gg, pa = some ⟨gg, 0, none⟩ := by
      rcases h.own.form with ⟨_, h1, _⟩ | ⟨gg, h1, _⟩
      · omega
      · exact ⟨gg, h1⟩
    have hcu : Hid (Calls Try.prog 19 #[.pointer (some ⟨g, 0, none⟩), .int .i64 0, .int .i64 (K.length : Int)] w1 fun e w' => e = .returned (.slice (some ⟨gg, 0, none⟩) K.length K.length) ∧ w' = w1) := by
      have := cut_more h1 0 K.length (by omega) (by omega) hL
      rw [Nat.zero_mul] at this
      exact this
    obtain ⟨w2, hrun, hb2, hO2⟩ := all_copy (b := b) h1.own rfl hO1 (by simp)
    have HO2 := hid hO2
    have HB2 := hid (But.below hB1 hb2 (fun k e => by omega))
    clear h h1 hO1 hB1 hb hb2 hO2
    go_enter Try.func13, Try.ntmps13
    go_wp2_with (first
      | (go_at_call 19; refine hcu.out.mono ?_; rintro e w9 ⟨rfl, hw9⟩; obtain rfl := hw9.symm; clear hw9))
    go_ret
    exact ⟨_, _, rfl, by rw [← HBE.out]; exact HO2.out, HB2.out⟩
end Go.Proofs.Ytcagghfkomodlaa
