import Derived.Test.YtgdhdfmgfncdkaaV5
namespace Go.Proofs.Ytgdhdfmgfncdkaa
open Go.RowKit H
set_option linter.unusedVariables false

set_option maxRecDepth 100000 in
set_option maxHeartbeats 1000000 in
theorem at_out {w : World} {A : Ad} {kn mo : Nat} {T : List (Cp × Int)} {X : List Tk} {l : Fo} (h : Cm w A kn mo T X l) (n : Int) (hn : n ∉ nums l) :
    Calls Try.prog 9 #[.pointer (some ⟨A.g, 0, none⟩), .int .i64 n] w fun e w' => e = .returned (.tuple #[tokA (0, 0, 0) 0 0, .bool false]) ∧ Below w.heap.size w w' := by
  obtain ⟨w0, hw0⟩ : ∃ w0, w0 = w.alloc (Obj.cells #[.int .i64 0, .int .u64 0, .int .u64 0, .int .i64 0, .int .i64 0] 35) := ⟨_, rfl⟩
  have hB0 : Below w.heap.size w w0 := by rw [hw0]; exact below1 _ _
  have hh := hid (chas_any (h.later hB0) n)
  rw [decide_eq_false hn] at hh
  obtain ⟨⟨r0, f0⟩, ⟨r1, f1⟩, ⟨r2, f2⟩, ⟨r3, f3⟩, ⟨r4, f4⟩⟩ : Lies w0 ⟨w.heap.size, 0, none⟩ (.int .i64 0) ∧ Lies w0 ⟨w.heap.size, 1, none⟩ (.int .u64 0) ∧ Lies w0 ⟨w.heap.size, 2, none⟩ (.int .u64 0) ∧ Lies w0 ⟨w.heap.size, 3, none⟩ (.int .i64 0) ∧ Lies w0 ⟨w.heap.size, 4, none⟩ (.int .i64 0) := by
    rw [hw0]; exact ⟨⟨by simp [go_sem], by simp [go_sem]⟩, ⟨by simp [go_sem], by simp [go_sem]⟩, ⟨by simp [go_sem], by simp [go_sem]⟩, ⟨by simp [go_sem], by simp [go_sem]⟩, ⟨by simp [go_sem], by simp [go_sem]⟩⟩
  have HB : Hid (∀ W, But (· = w.heap.size) w0 W → Below w.heap.size w W) := fun W hW => But.below hB0 hW (fun k e => by omega)
  clear h hB0 hn
  go_enter Try.func9, Try.ntmps9
  go_upto_region 1 with fail
  rw [← hw0]
  clear hw0
  go_wp2_with (first | (go_at_call 26; refine hh.out.mono ?_; rintro e w9 ⟨rfl, hw9⟩; obtain rfl := hw9.symm; clear hw9))
  exact bodyPost_ret (v := .tuple #[tokA (0, 0, 0) 0 0, .bool false]) (by simp [results, Try.results9, go_sem, r0, r1, r2, r3, r4]) rfl ⟨rfl, HB.out _ (set5_but (S := (· = w.heap.size)) (But.refl _ _) (b := w.heap.size) rfl (0, 0, 0) 0 0)⟩
theorem at_any {w : World} {A : Ad} {kn mo : Nat} {T : List (Cp × Int)} {X : List Tk} {l : Fo} (h : Cm w A kn mo T X l) (n : Int) :
    Calls Try.prog 9 #[.pointer (some ⟨A.g, 0, none⟩), .int .i64 n] w fun e w' => e = .returned (tokV X l n) ∧ Below w.heap.size w w' := by
  unfold tokV
  by_cases hn : n ∈ nums l
  · rw [if_pos hn]
    obtain ⟨p, hp⟩ := mem_nums.1 hn
    rw [par_eq h.kin.ok hp]
    exact at_in h n p hp
  · rw [if_neg hn]
    exact at_out h n hn

/-! ### root -/
def RootRel (w : World) (X : List Tk) (l : Fo) (o : Int) (mo : Nat) (t : Value) (w' : World) : Prop :=
  ∃ i : Nat, t = .int .i64 (i : Int) ∧ i ≤ mo ∧ Hid (∀ j : Nat, j < i → ((j : Int), -1) ∈ l → ob X (j : Int) ≠ o) ∧ Below w.heap.size w w'
set_option maxRecDepth 100000 in
set_option maxHeartbeats 2000000 in
theorem croot_any {w : World} {A : Ad} {kn mo : Nat} {T : List (Cp × Int)} {X : List Tk} {l : Fo} (h : Cm w A kn mo T X l) (o : Int) :
    Calls Try.prog 33 #[.pointer (some ⟨A.g, 0, none⟩), .int .i64 o] w fun e w' => ((∃ r, (r, -1) ∈ l ∧ ob X r = o ∧ e = .returned (.tuple #[.int .i64 r, .bool true])) ∨ ((∀ r, (r, -1) ∈ l → ob X r ≠ o) ∧ e = .returned (.tuple #[.int .i64 0, .bool false]))) ∧ Below w.heap.size w w' := by
  have hmo := h.small
  have x1 := h.c1
  have HH := hid h
  have hok := hid h.kin.ok
  clear h
  go_enter Try.func33, Try.ntmps33
  go_upto_region 2 with fail
  go_loopw [14] (RootRel w X l o mo) (fun k _ => mo - (intOf k).toNat)
  case atStart => exact ⟨0, rfl, Nat.zero_le _, fun j hj => by omega, Below.refl _ _⟩
  case round =>
    obtain ⟨i, rfl, hi, hx, hB⟩ := hrel
    by_cases hlt : i < mo
    · have hM := HH.out.later hB
      obtain ⟨e0, e1, e2, e3⟩ := hM.at_ hlt
      have hobx : (tk X (i : Int)).1.1 = ob X (i : Int) := rfl
      rw [hobx] at e0
      obtain ⟨w1, hw1⟩ : ∃ w1, w1 = wr.alloc (Obj.cells #[.int .i64 (ob X (i : Int)), .int .u64 ((tk X (i : Int)).1.2.1 : Int), .int .u64 ((tk X (i : Int)).1.2.2 : Int), .int .i64 (tk X (i : Int)).2] 81) := ⟨_, rfl⟩
      have hB1 : Below wr.heap.size wr w1 := by rw [hw1]; exact below1 _ _
      have HB1 := hid (below_call hB hB1)
      have z0 : w1.cell? ⟨wr.heap.size, 0, none⟩ = some (.int .i64 (ob X (i : Int))) := by rw [hw1]; simp [go_sem]
      have hh := hid (chas_any (hM.later hB1) (i : Int))
      have hp := hid (fun p (hp : ((i : Int), p) ∈ l) => cpar_any (hM.later hB1) (i : Int) p hp)
      clear hM hB1 hobx hB
      generalize hoo : ob X (i : Int) = oo at *
      generalize ((tk X (i : Int)).1.2.1 : Int) = u1 at *
      generalize ((tk X (i : Int)).1.2.2 : Int) = u2 at *
      generalize (tk X (i : Int)).2 = u3 at *
      have HOO := hid hoo
      clear hoo
      go_upto_region 4 with fail
      rw [← hw1]
      clear hw1 e0 e1 e2 e3
      by_cases hq : oo = o
      · have hb : (oo == o) = true := by simp [hq]
        by_cases hin : (i : Int) ∈ nums l
        · rw [decide_eq_true hin] at hh
          obtain ⟨p, hpl⟩ := mem_nums.1 hin
          have hp1 := hid (hp.out p hpl)
          by_cases hp0 : p = -1
          · subst hp0
            have HPL := hid hpl
            clear hpl hin hp
            go_wp2_with (first | (go_at_call 26; refine hh.out.mono ?_; rintro e w9 ⟨rfl, hw9⟩; obtain rfl := hw9.symm; clear hw9) | (go_at_call 27; refine hp1.out.mono ?_; rintro e w9 ⟨rfl, hw9⟩; obtain rfl := hw9.symm; clear hw9))
            exact bodyPost_ret (v := .tuple #[.int .i64 (i : Int), .bool true]) (by simp [results, Try.results33, go_sem]) rfl ⟨.inl ⟨(i : Int), HPL.out, by rw [HOO.out]; exact hq, rfl⟩, HB1.out⟩
          · have hb2 : (p == (-1 : Int)) = false := by simp [hp0]
            have hx1 : Hid (∀ j : Nat, j < i + 1 → ((j : Int), -1) ∈ l → ob X (j : Int) ≠ o) := fun j hj hjl => by
              by_cases e : j = i
              · subst e; exact absurd (hok.out.uniq hpl hjl) hp0
              · exact hx.out j (by omega) hjl
            clear hpl hin hp
            go_wp2_with (first | (go_at_call 26; refine hh.out.mono ?_; rintro e w9 ⟨rfl, hw9⟩; obtain rfl := hw9.symm; clear hw9) | (go_at_call 27; refine hp1.out.mono ?_; rintro e w9 ⟨rfl, hw9⟩; obtain rfl := hw9.symm; clear hw9))
            refine ⟨⟨i + 1, by go_num, by omega, hx1, HB1.out⟩, by simp [intOf]; omega⟩
        · rw [decide_eq_false hin] at hh
          have hx1 : Hid (∀ j : Nat, j < i + 1 → ((j : Int), -1) ∈ l → ob X (j : Int) ≠ o) := fun j hj hjl => by
            by_cases e : j = i
            · subst e; exact absurd (mem_nums.2 ⟨_, hjl⟩) hin
            · exact hx.out j (by omega) hjl
          clear hin hp
          go_wp2_with (first | (go_at_call 26; refine hh.out.mono ?_; rintro e w9 ⟨rfl, hw9⟩; obtain rfl := hw9.symm; clear hw9))
          refine ⟨⟨i + 1, by go_num, by omega, hx1, HB1.out⟩, by simp [intOf]; omega⟩
      · have hb : (oo == o) = false := by simp [hq]
        have hx1 : Hid (∀ j : Nat, j < i + 1 → ((j : Int), -1) ∈ l → ob X (j : Int) ≠ o) := fun j hj hjl => by
          by_cases e : j = i
          · subst e; rw [HOO.out]; exact hq
          · exact hx.out j (by omega) hjl
        clear hp hh
        go_wp2
        refine ⟨⟨i + 1, by go_num, by omega, hx1, HB1.out⟩, by simp [intOf]; omega⟩
    · obtain rfl : i = mo := by omega
      have HB := hid hB
      clear hB
      go_wp2
      refine bodyPost_ret (v := .tuple #[.int .i64 0, .bool false]) (by simp [results, Try.results33, go_sem]) rfl ⟨.inr ⟨fun r hr => ?_, rfl⟩, HB.out⟩
      have hrn := hok.out.range r (mem_nums.2 ⟨_, hr⟩)
      obtain ⟨k, rfl⟩ : ∃ k : Nat, r = (k : Int) := ⟨r.toNat, by omega⟩
      exact hx.out k (by omega) hr
end Go.Proofs.Ytgdhdfmgfncdkaa
