import Derived.Test.YtpkpidhomidjiaaC6
namespace Go.Proofs.Ytpkpidhomidjiaa
open Go.RowKit
set_option linter.unusedVariables false

/-- A call of a script: kind, parent, number. -/
abbrev Op3 := Int × Int × Int
def stpE (m : Nat) (l : Fo) (o : Op3) : Int := if o.1 = 1 then rootE m l o.2.2 else if o.1 = 2 then childE m l o.2.1 o.2.2 else if o.1 = 3 then cutE l o.2.2 else 0
def stpL (m : Nat) (l : Fo) (o : Op3) : Fo := if o.1 = 1 then rootL m l o.2.2 else if o.1 = 2 then childL m l o.2.1 o.2.2 else if o.1 = 3 then cutL l o.2.2 else l
def opV (o : Op3) : Value := .agg #[.int .i64 o.1, .int .i64 o.2.1, .int .i64 o.2.2]
theorem Did.ki {w : World} {g gb m : Nat} {c : Int} {l : Fo} {e : Ending} {w' : World} (h : Did w g gb m c l e w') : Ki w' g gb m l := h.2.1
theorem Did.pre {w w1 : World} {g gb m : Nat} {c : Int} {l : Fo} {e : Ending} {w' : World} (hb : Below w.heap.size w w1) (h : Did w1 g gb m c l e w') : Did w g gb m c l e w' :=
  ⟨h.1, h.2.1, (But.of hb).trans h.2.2⟩
set_option maxRecDepth 100000 in
set_option maxHeartbeats 1000000 in
theorem does_any {w : World} {g gb m : Nat} {l : Fo} (h : Ki w g gb m l) (k p n : Int) :
    Calls Try.prog 9 #[.pointer (some ⟨g, 0, none⟩), .agg #[.int .i64 k, .int .i64 p, .int .i64 n]] w (Did w g gb m (stpE m l (k, p, n)) (stpL m l (k, p, n))) := by
  have HK := hid (h.later (below1 w (Obj.cells #[.int .i64 k, .int .i64 p, .int .i64 n] 31)))
  have HB := hid (below1 w (Obj.cells #[.int .i64 k, .int .i64 p, .int .i64 n] 31))
  clear h
  unfold stpE stpL
  by_cases h1 : k = 1
  · subst h1
    rw [if_pos rfl, if_pos rfl]
    simp only
    have hr := root_any HK.out n
    generalize rootE m l n = c at *
    generalize rootL m l n = l2 at *
    go_enter Try.func9, Try.ntmps9
    go_wp2_with (first | (go_at_call 20; refine hr.mono ?_; rintro e w2 hD; obtain ⟨rfl, hK, hB⟩ := hD; have HK2 := hid hK; have HB2 := hid hB; clear hK hB) | (go_at_call 7; refine (num_any _ _).mono ?_; rintro e w3 ⟨rfl, rfl⟩))
    go_ret
    exact Did.pre HB.out ⟨rfl, HK2.out, HB2.out⟩
  · rw [if_neg h1, if_neg h1]
    by_cases h2 : k = 2
    · subst h2
      rw [if_pos rfl, if_pos rfl]
      simp only
      have hr := child_any HK.out p n
      generalize childE m l p n = c at *
      generalize childL m l p n = l2 at *
      clear h1
      go_enter Try.func9, Try.ntmps9
      go_wp2_with (first | (go_at_call 21; refine hr.mono ?_; rintro e w2 hD; obtain ⟨rfl, hK, hB⟩ := hD; have HK2 := hid hK; have HB2 := hid hB; clear hK hB) | (go_at_call 7; refine (num_any _ _).mono ?_; rintro e w3 ⟨rfl, rfl⟩))
      go_ret
      exact Did.pre HB.out ⟨rfl, HK2.out, HB2.out⟩
    · rw [if_neg h2, if_neg h2]
      by_cases h3 : k = 3
      · subst h3
        rw [if_pos rfl, if_pos rfl]
        simp only
        have hr := cut_any HK.out n
        generalize cutE l n = c at *
        generalize cutL l n = l2 at *
        clear h1 h2
        go_enter Try.func9, Try.ntmps9
        go_wp2_with (first | (go_at_call 22; refine hr.mono ?_; rintro e w2 hD; obtain ⟨rfl, hK, hB⟩ := hD; have HK2 := hid hK; have HB2 := hid hB; clear hK hB) | (go_at_call 7; refine (num_any _ _).mono ?_; rintro e w3 ⟨rfl, rfl⟩))
        go_ret
        exact Did.pre HB.out ⟨rfl, HK2.out, HB2.out⟩
      · rw [if_neg h3, if_neg h3]
        have e1 : (k == 1) = false := by simpa using h1
        have e2 : (k == 2) = false := by simpa using h2
        have e3 : (k == 3) = false := by simpa using h3
        clear h1 h2 h3
        go_enter Try.func9, Try.ntmps9
        go_wp2
        go_ret
        exact Did.pre HB.out ⟨rfl, HK.out, But.refl _ _⟩
theorem al_root {W : World} {g gb : Nat} (h : Ki W g gb 4 []) : Calls Try.prog 20 #[.pointer (some ⟨g, 0, none⟩), .int .i64 2] W (Did W g gb 4 0 [(2, -1)]) := root_any h 2
theorem al_child {W : World} {g gb : Nat} (h : Ki W g gb 4 [(2, -1)]) : Calls Try.prog 21 #[.pointer (some ⟨g, 0, none⟩), .int .i64 2, .int .i64 0] W (Did W g gb 4 0 [(2, -1), (0, 2)]) := child_any h 2 0
theorem al_cut {W : World} {g gb : Nat} (h : Ki W g gb 4 [(2, -1), (0, 2)]) : Calls Try.prog 22 #[.pointer (some ⟨g, 0, none⟩), .int .i64 2] W (Did W g gb 4 19 [(2, -1), (0, 2)]) := cut_any h 2
set_option maxRecDepth 100000 in
set_option maxHeartbeats 1000000 in
theorem alive_any (w : World) : Calls Try.prog 8 #[] w fun e w' => e = .returned (.bool true) ∧ Below w.heap.size w w' := by
  go_enter Try.func8, Try.ntmps8
  go_upto_region 4 with (first | (go_at_call 6; refine (new_ok _ 4 (by omega)).mono ?_; rintro e w1 ⟨g, gb, rfl, hK1, hg, hgb, hB1⟩; have HK1 := hid hK1; have HB1 := hid hB1; clear hK1 hB1) | (go_at_call 7; refine (num_any _ _).mono ?_; rintro e w9 ⟨rfl, rfl⟩) | (go_at_call 20; refine (al_root HK1.out).mono ?_; rintro e w2 ⟨rfl, hK2, hB2⟩; have HK2 := hid hK2; have HB2 := hid (But.below HB1.out hB2 (fun k hk => by rw [hk]; exact hgb)); clear hK2 hB2 HB1 HK1) | (go_at_call 21; refine (al_child HK2.out).mono ?_; rintro e w3 ⟨rfl, hK2, hB2⟩; have HK3 := hid hK2; have HB3 := hid (But.below HB2.out hB2 (fun k hk => by rw [hk]; exact hgb)); clear hK2 hB2 HB2 HK2) | (go_at_call 22; refine (al_cut HK3.out).mono ?_; rintro e w4 ⟨rfl, hK2, hB2⟩; have HK4 := hid hK2; have HB4 := hid (But.below HB3.out hB2 (fun k hk => by rw [hk]; exact hgb)); clear hK2 hB2 HB3 HK3))
  have hp := parent_in HK4.out 0 2 (by decide)
  have hh := has_any HK4.out 0
  rw [decide_eq_true (show (0 : Int) ∈ nums [(2, -1), (0, 2)] by decide)] at hh
  have hc := children_any HK4.out 2
  rw [show kids [(2, -1), (0, 2)] 2 = [0] by decide] at hc
  have HC := hid hc
  clear hc
  go_wp2_with (first | (go_at_call 10; refine hp.mono ?_; rintro e w9 ⟨rfl, rfl⟩) | (go_at_call 11; refine hh.mono ?_; rintro e w9 ⟨rfl, rfl⟩) | (go_at_call 12; refine HC.out.mono ?_; rintro e w5 ⟨a, n, cap, rfl, hO, hB5⟩; have HO := hid hO; have HB5 := hid hB5; have hl := hO.len; rw [ints_length] at hl; clear hO hB5) | (go_at_call 16; refine (numbers_any _ _ _ _ _ _ [0] [0] _ (HO.out.alloc _).read (Row.single _ 3 (.int .i64 0) rfl) (by simp at hl; omega)).mono ?_; rintro e w6 ⟨rfl, q, rfl⟩))
  go_ret
  exact ⟨ret_bool (by simp), below_drewN (below_call (below_call HB4.out HB5.out) (below1 _ _)) _⟩
end Go.Proofs.Ytpkpidhomidjiaa
