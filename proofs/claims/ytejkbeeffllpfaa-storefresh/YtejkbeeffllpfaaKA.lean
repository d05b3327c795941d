import Derived.Test.YtejkbeeffllpfaaK9
namespace Go.Proofs.Ytejkbeeffllpfaa
open Go.RowKit
set_option linter.unusedVariables false

/-- May the next number be this? -/
def nxOk (Os : List Ob) (v : Int) : Prop := 1 ≤ v ∧ v ≤ 4611686018427387905 ∧ ∀ o ∈ Os, o.id < v
theorem Sto.next {w : World} {s g pb m n room : Nat} {nx : Int} {t : Nat → Bool} {B : Nat → Nat → Nat} {Os : List Ob} (h : Sto w s g pb m n room nx t B Os) (v : Int) (hv : nxOk Os v) : Sto (w.setCell ⟨s, 3, none⟩ (.int .i64 v)) s g pb m n room v t B Os := by
  have b4 : But (· = s) w (w.setCell ⟨s, 3, none⟩ (.int .i64 v)) := But.setCell (S := (· = s)) (But.refl _ _) (p := ⟨s, 3, none⟩) (show s = s from rfl) _
  exact { h with
    arn := h.arn.but b4 (Ne.symm h.sg) (Ne.symm h.sp)
    c0 := h.c0.other (by simp)
    c1 := h.c1.other (by simp)
    c2 := h.c2.other (by simp)
    c3 := h.c3.put
    map := h.map.setCell (a := ⟨s, 3, none⟩) (Ne.symm h.sm) _
    rows := fun o ho => (h.rows o ho).but b4 (fun k hk e => (h.off o ho k hk).1 e)
    off := fun o ho k hk => by
      obtain ⟨a1, a2, a3, a4, a5⟩ := h.off o ho k hk
      exact ⟨a1, a2, a3, a4, Nat.lt_of_lt_of_le a5 b4.size⟩
    ids := fun o ho => ⟨(h.ids o ho).1, hv.2.2 o ho⟩
    nx1 := ⟨hv.1, hv.2.1⟩ }
theorem last_most {Os : List Ob} (hr : Os.Pairwise (fun a b => a.id < b.id)) (hl : 0 < Os.length) (v : Int) : (∀ o ∈ Os, o.id < v) ↔ (Os.map Ob.id)[Os.length - 1]'(by simp; omega) < v := by
  rw [List.getElem_map]
  constructor
  · intro h
    exact h _ (List.getElem_mem _)
  · intro h o ho
    obtain ⟨i, hi, rfl⟩ := List.getElem_of_mem ho
    rw [List.pairwise_iff_getElem] at hr
    by_cases e : i = Os.length - 1
    · subst e
      exact h
    · have := hr i (Os.length - 1) hi (by omega) (by omega)
      omega
set_option maxRecDepth 100000 in
set_option maxHeartbeats 1000000 in
theorem setnext_bad (s g pb m n room : Nat) (nx : Int) (t : Nat → Bool) (B : Nat → Nat → Nat) (Os : List Ob) (v : Int) (w : World) (h : Sto w s g pb m n room nx t B Os) (hv : ¬ nxOk Os v) :
    Calls Try.prog 40 #[.pointer (some ⟨s, 0, none⟩), .int .i64 v] w fun e w' => e = .returned (.int .i64 5) ∧ Below w.heap.size w w' := by
  by_cases h1 : v < 1
  · have hd1 : decide (v < 1) = true := decide_eq_true h1
    clear h
    go_enter Try.func40, Try.ntmps40
    go_wp2
    go_ret
    exact ⟨rfl, Below.refl _ _⟩
  have hd1 : decide (v < 1) = false := decide_eq_false h1
  by_cases h2 : v > 4611686018427387905
  · have hd2 : decide (v > 4611686018427387905) = true := decide_eq_true h2
    clear h
    go_enter Try.func40, Try.ntmps40
    go_wp2
    go_ret
    exact ⟨rfl, Below.refl _ _⟩
  have hd2 : decide (v > 4611686018427387905) = false := decide_eq_false h2
  have h3 : ¬ ∀ o ∈ Os, o.id < v := fun h3 => hv ⟨by omega, by omega, h3⟩
  have hl : 0 < Os.length := by
    rcases Nat.eq_zero_or_pos Os.length with e | e
    · exact absurd (fun o ho => by rw [List.eq_nil_of_length_eq_zero e] at ho; cases ho) h3
    · exact e
  rw [last_most h.rise hl v] at h3
  have hrm := h.rm
  have H := hid h
  clear h hv
  obtain ⟨L, hL⟩ : ∃ L, L = Os.length := ⟨_, rfl⟩
  obtain ⟨z, hz⟩ : ∃ z, z = (Os.map Ob.id)[Os.length - 1]'(by simp; omega) := ⟨_, rfl⟩
  rw [← hz] at h3
  have hd3 : decide (v ≤ z) = true := decide_eq_true (by omega)
  go_enter Try.func40, Try.ntmps40
  go_upto_region 4 with (first | (go_at_call 14; refine (ids_any s g pb m n room nx t B Os _ H.out).mono ?_; rintro e w1 ⟨a, cap, rfl, O, hb⟩; have HO := hid O; have HB := hid hb; clear O hb))
  obtain ⟨b, o, rfl, hc⟩ := HO.out.read.plain hl
  have y := hc (Os.length - 1) _ (ints_get _ _ (by simp; omega))
  rw [← hz] at y
  rw [← hL] at y hl hrm ⊢
  clear hc hz hL
  have hd4 : decide ((L : Int) > 0) = true := decide_eq_true (by omega)
  have hwr : IntKind.i64.wrap ((L : Int) - 1) = ((L - 1 : Nat) : Int) := by rw [IntKind.wrap_i64]; omega
  go_wp2
  go_ret
  exact ⟨rfl, HB.out⟩
set_option maxRecDepth 100000 in
set_option maxHeartbeats 1000000 in
theorem setnext_ok (s g pb m n room : Nat) (nx : Int) (t : Nat → Bool) (B : Nat → Nat → Nat) (Os : List Ob) (v : Int) (w : World) (h : Sto w s g pb m n room nx t B Os) (hv : nxOk Os v) :
    Calls Try.prog 40 #[.pointer (some ⟨s, 0, none⟩), .int .i64 v] w fun e w' => e = .returned (.int .i64 0) ∧ Sto w' s g pb m n room v t B Os ∧ But (· = s) w w' := by
  have hd1 : decide (v < 1) = false := decide_eq_false (by have := hv.1; omega)
  have hd2 : decide (v > 4611686018427387905) = false := decide_eq_false (by have := hv.2.1; omega)
  have hrm := h.rm
  have H := hid h
  have HV := hid hv
  have h3 := hv.2.2
  have hrise := h.rise
  clear h hv
  rcases Nat.eq_zero_or_pos Os.length with hl | hl
  · have hO : Os = [] := List.eq_nil_of_length_eq_zero hl
    clear h3 hrise hl hrm
    subst hO
    go_enter Try.func40, Try.ntmps40
    go_upto_region 4 with (first | (go_at_call 14; refine (ids_any s g pb m n room nx t B [] _ H.out).mono ?_; rintro e w1 ⟨a, cap, rfl, O, hb⟩; have HO := hid O; have HB := hid hb; clear O hb))
    have H1 := hid (H.out.later HB.out)
    have y := H1.out.c3.1
    have y2 := H1.out.c3.2
    go_wp2
    go_ret
    exact ⟨rfl, H1.out.next v HV.out, But.setCell (S := (· = s)) (But.of HB.out) (p := ⟨s, 3, none⟩) (show s = s from rfl) _⟩
  · rw [last_most hrise hl v] at h3
    obtain ⟨L, hL⟩ : ∃ L, L = Os.length := ⟨_, rfl⟩
    obtain ⟨z, hz⟩ : ∃ z, z = (Os.map Ob.id)[Os.length - 1]'(by simp; omega) := ⟨_, rfl⟩
    rw [← hz] at h3
    have hd3 : decide (v ≤ z) = false := decide_eq_false (by omega)
    clear hrise
    go_enter Try.func40, Try.ntmps40
    go_upto_region 4 with (first | (go_at_call 14; refine (ids_any s g pb m n room nx t B Os _ H.out).mono ?_; rintro e w1 ⟨a, cap, rfl, O, hb⟩; have HO := hid O; have HB := hid hb; clear O hb))
    obtain ⟨b, o, rfl, hc⟩ := HO.out.read.plain hl
    have y := hc (Os.length - 1) _ (ints_get _ _ (by simp; omega))
    rw [← hz] at y
    rw [← hL] at y hl hrm ⊢
    clear hc hz hL
    have hd4 : decide ((L : Int) > 0) = true := decide_eq_true (by omega)
    have hwr : IntKind.i64.wrap ((L : Int) - 1) = ((L - 1 : Nat) : Int) := by rw [IntKind.wrap_i64]; omega
    have H1 := hid (H.out.later HB.out)
    have y1 := H1.out.c3.1
    have y2 := H1.out.c3.2
    go_wp2
    go_ret
    exact ⟨rfl, H1.out.next v HV.out, But.setCell (S := (· = s)) (But.of HB.out) (p := ⟨s, 3, none⟩) (show s = s from rfl) _⟩
end Go.Proofs.Ytejkbeeffllpfaa
