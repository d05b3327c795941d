import Derived.Test.YticgammbjcdobaaNN
namespace Go.Proofs.Yticgammbjcdobaa
open Go.RowKit
set_option linter.unusedVariables false
set_option linter.unusedSimpArgs false
def ivN : Value → Nat | .int _ q => q.toNat | _ => 0
theorem capsL_at {l : List Cp} {i : Nat} {c : Cp} (h : l[i]? = some c) : (capsL l)[i * 3]? = some (.int .i64 c.o) ∧ (capsL l)[i * 3 + 1]? = some (.int .u64 (c.h : Int)) ∧ (capsL l)[i * 3 + 2]? = some (.int .u64 (c.l : Int)) := by
  induction l generalizing i with
  | nil => simp at h
  | cons x l ih =>
    have e : capsL (x :: l) = encC x ++ capsL l := by simp [capsL]
    rw [e]
    cases i with
    | zero =>
      simp at h
      subst h
      simp [encC]
    | succ i =>
      have := ih (by simpa using h)
      have e3 : (encC x).length = 3 := rfl
      refine ⟨?_, ?_, ?_⟩ <;> rw [List.getElem?_append_right (by rw [e3]; omega), e3]
      · rw [show (i + 1) * 3 - 3 = i * 3 by omega]; exact this.1
      · rw [show (i + 1) * 3 + 1 - 3 = i * 3 + 1 by omega]; exact this.2.1
      · rw [show (i + 1) * 3 + 2 - 3 = i * 3 + 2 by omega]; exact this.2.2
theorem neqC' (a : Int) (b c : Int) (w : World) : (binOp .neq 31 (.agg #[.int .i64 a, .int .u64 b, .int .u64 c]) (.agg #[.int .i64 a, .int .u64 b, .int .u64 c])).run Try.prog w = .ok (.bool false) w := by simp [go_sem]
set_option maxRecDepth 100000 in
set_option maxHeartbeats 2000000 in
/-- Two lists alike. -/
theorem caps_same {w : World} {b1 b2 : Nat} {a a' : Option Addr} {n c c' : Nat} {l : List Cp} (h : Ow w b1 31 3 a n c (capsL l)) (h' : Ow w b2 31 3 a' n c' (capsL l)) (hl : l.length = n) (hn : n ≤ 100000) :
    Calls Try.prog 9 #[.slice a n c, .slice a' n c'] w fun e w' => e = .returned (.bool true) ∧ Below w.heap.size w w' := by
  have HO := hid h
  have HO' := hid h'
  have HL := hid hl
  clear h h' hl
  go_enter Try.func9, Try.ntmps9
  go_wp2
  go_loopw [5] (fun i U => ∃ j : Nat, i = .int .i64 (j : Int) ∧ j ≤ n ∧ Below w.heap.size w U) (fun i _ => n - ivN i)
  case atStart => exact ⟨0, rfl, Nat.zero_le _, Below.refl _ _⟩
  case round =>
    obtain ⟨j, rfl, hj, hB⟩ := hrel
    have HB := hid hB
    by_cases hlt : j < n
    · have hd : decide ((j : Int) < (n : Int)) = true := by simp; omega
      have hjn : (j : Int) < (n : Int) := by omega
      obtain ⟨g, rfl⟩ := HO.out.some_of (by omega)
      obtain ⟨g', rfl⟩ := HO'.out.some_of (by omega)
      have hx : l[j]? = some (l[j]'(by rw [HL.out]; exact hlt)) := List.getElem?_eq_getElem _
      generalize l[j]'(by rw [HL.out]; exact hlt) = x at hx
      obtain ⟨q0, q1, q2⟩ := capsL_at hx
      have r1 := (HO.out.later hB).cells rfl
      have r2 := (HO'.out.later hB).cells rfl
      have x0 := rg_at r1 q0
      have x1 := rg_at r1 q1
      have x2 := rg_at r1 q2
      have y0 := rg_at r2 q0
      have y1 := rg_at r2 q1
      have y2 := rg_at r2 q2
      have hne := neqC' x.o (x.h : Int) (x.l : Int)
      clear r1 r2 q0 q1 q2 hx hB
      go_upto_region 6 with fail
      go_quiet (fail)
      go_wp2
      exact ⟨⟨j + 1, rfl, by omega, below_drewN HB.out _⟩, by simp [ivN]; omega⟩
    · obtain rfl : j = n := by omega
      go_wp2
      go_ret
      exact ⟨rfl, HB.out⟩
end Go.Proofs.Yticgammbjcdobaa
