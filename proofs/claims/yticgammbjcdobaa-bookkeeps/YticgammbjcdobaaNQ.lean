import Derived.Test.YticgammbjcdobaaNP
namespace Go.Proofs.Yticgammbjcdobaa
open Go.RowKit
set_option linter.unusedVariables false
set_option linter.unusedSimpArgs false
theorem Kp.later {w w' : World} {m : Bm} {l : List Cp} (h : Kp w m l) (hb : Below w.heap.size w w') : Kp w' m l := by
  refine ⟨h.bw.later hb, h.n, h.lo, h.ok, h.i0, ?_⟩
  rcases h.tk with h' | ⟨g, k0, hz, h1, h2, h3, h4, h5, h6, h7⟩
  · exact .inl h'
  · refine .inr ⟨g, k0, hz, h1, h2, h3, h4, h5, fun i c hc => ?_, h7⟩
    obtain ⟨kt, hm, ht⟩ := h6 i c hc
    exact ⟨kt, hm, ht.but (S := fun _ => False) (But.of hb) (fun h => h)⟩
theorem Kp.way {w : World} {m : Bm} {l : List Cp} (h : Kp w m l) (hl : l.length < 100) {i : Nat} {c : Cp} (hi : l[i]? = some c) :
    Calls Try.prog 10 #[.pointer (some ⟨m.g, 0, none⟩), .int .i64 0, capV c] w fun e w' => ∃ a' c', e = .returned (.tuple #[.slice a' 1 c', .bool true]) ∧ Ow w' w.heap.size 46 7 a' 1 c' (lkL ((i : Int) + 1) 1 0 0 c) ∧ Below w.heap.size w w' := by
  have hil := (List.getElem?_eq_some_iff.1 hi).1
  obtain ⟨ho, hf⟩ := h.ok i c hi
  rcases h.tk with ⟨rfl, _⟩ | ⟨g, k0, hz, h1, h2, h3, h4, h5, h6, h7⟩
  · simp at hil
  · obtain ⟨kt, hm, ht⟩ := h6 i c hi
    exact way1 m 0 c kt _ 1 0 0 w h.bw hf (decide_eq_true ⟨by omega, by omega⟩) (by constructor <;> omega) ⟨g, by rw [h1]; simp, h3, hm⟩ ht.bx
set_option maxRecDepth 100000 in
set_option maxHeartbeats 2000000 in
theorem known_none (m : Bm) (p : Int) (w : World) (h : Bw w m) (hp : I64 p) (hn : ∀ k ∈ m.K, k.p ≠ p) :
    Calls Try.prog 8 #[.pointer (some ⟨m.g, 0, none⟩), .int .i64 p] w fun e w' => e = .returned (.slice none 0 0) ∧ Below w.heap.size w w' := by
  have HL := hid (h.known_new hp hn ⟨0, 0, 0⟩).1
  have q5 := h.bx.cell 5 rfl
  have HC : Hid (Calls Try.prog 26 #[.slice none 0 0] w fun e w' => e = .returned (.slice none 0 0) ∧ w' = w) := by
    have hnil : (binOp .eql 26 (.slice none 0 0) (.slice none 0 0)).run Try.prog w = .ok (.bool true) w := by kernel_rfl
    unfold Hid
    go_enter Try.func26, Try.ntmps26
    go_wp2
    go_ret
    exact ⟨rfl, rfl⟩
  clear h hn
  go_enter Try.func8, Try.ntmps8
  go_wp2_with (first | ((with_reducible refine look_arm HL.out ?_ ?_ ?_); (· rfl); (· rfl)) | (go_at_call 26; refine HC.out.mono ?_; rintro e w' ⟨rfl, rfl⟩))
  go_ret
  exact ⟨rfl, Below.refl _ _⟩
/-- All that process 0 knows, in new memory. -/
theorem Kp.known {w : World} {m : Bm} {l : List Cp} (h : Kp w m l) (hl : l.length < 100) :
    Calls Try.prog 8 #[.pointer (some ⟨m.g, 0, none⟩), .int .i64 0] w fun e w' => ∃ a' c', e = .returned (.slice a' l.length c') ∧ Ow w' w.heap.size 31 3 a' l.length c' (capsL l) ∧ Below w.heap.size w w' := by
  rcases h.tk with ⟨rfl, hT, hK⟩ | ⟨g, k0, hz, h1, h2, h3, h4, h5, h6, h7⟩
  · refine (known_none m 0 w h.bw (by constructor <;> omega) (fun k hk => by rw [hK] at hk; cases hk)).mono ?_
    rintro e w' ⟨rfl, hb⟩
    exact ⟨none, 0, rfl, Ow.nil _ _ _ _, hb⟩
  · have hk : k0 ∈ m.K := by rw [h2]; simp
    have hkn := (h.bw.known.each k0 hk).2
    rw [h5] at hkn
    have hpos : 0 < l.length := List.length_pos_iff.2 hz
    have := known_hit m k0 w h.bw hk (by omega) (by omega)
    rw [h4, h5, ← hkn] at this
    exact this
end Go.Proofs.Yticgammbjcdobaa
