import Derived.Test.YtciidjhadijhdaaDB
import Derived.Deep.DeepCutAuto
namespace Go.Proofs.Ytciidjhadijhdaa.D
open Go.Proofs.Ytciidjhadijhdaa.H (B64)
open Go.RowKit
set_option linter.unusedVariables false

/-- What the list's words are behind i of them. -/
def upTo (f : Nat → Nat) (width : Int) (i j : Nat) : Nat := if j < i then cutN (f j) width else 0
theorem upTo_zero (f : Nat → Nat) (width : Int) (j : Nat) : upTo f width 0 j = 0 := by unfold upTo; rw [if_neg (by omega)]
theorem upTo_succ (f : Nat → Nat) (width : Int) (i j : Nat) : upTo f width (i + 1) j = if j = i then cutN (f i) width else upTo f width i j := by
  unfold upTo
  by_cases h : j = i
  · subst h; rw [if_pos (by omega), if_pos rfl]
  · rw [if_neg h]
    by_cases h1 : j < i
    · rw [if_pos (by omega), if_pos h1]
    · rw [if_neg (by omega), if_neg h1]
theorem upTo_all (f : Nat → Nat) (width : Int) (n j : Nat) (h : j < n) : upTo f width n j = cutN (f j) width := by unfold upTo; rw [if_pos h]
def CutsRel (w : World) (n : Nat) (f : Nat → Nat) (width : Int) (gb : Nat) (t : Value) (w' : World) : Prop :=
  ∃ i : Nat, i ≤ n ∧ t = .int .i64 (i : Int) ∧ Ar w' gb n (upTo f width i) ∧ Below w.heap.size w w'

set_option maxRecDepth 100000 in
set_option maxHeartbeats 1000000 in
theorem cuts_any (a : Option Addr) (n cap : Nat) (f : Nat → Nat) (width : Int) (w : World) (h : Ws w a n cap f) (hn : n ≤ 4096) :
    Calls Try.prog 30 #[.slice a n cap, .int .i64 width] w fun e w' => e = .returned (.slice (some ⟨w.heap.size, 0, none⟩) n n) ∧ Ar w' w.heap.size n (fun j => cutN (f j) width) ∧ Below w.heap.size w w' := by
  obtain ⟨w1, hrun, ha, hb⟩ := make_run w 69 Try.underlying69 n hn
  have HA : Hid (Ar w1 w.heap.size n (fun _ => 0)) := ha
  have HB : Hid (Below w.heap.size w w1) := hb
  have HH : Hid (Ws w a n cap f) := h
  clear ha hb h
  go_enter Try.func30, Try.ntmps30
  go_upto_region 3 with fail
  go_loopw [13] (CutsRel w n f width w.heap.size) (fun t _ => n - (intOf t).toNat)
  case atStart => exact ⟨0, Nat.zero_le _, rfl, HA.out.congr (fun j _ => (upTo_zero f width j).symm), HB.out⟩
  case round =>
    obtain ⟨i, hi, rfl, hA, hB⟩ := hrel
    by_cases hlt : i < n
    · obtain ⟨b, o, rfl, hw⟩ := (HH.out.later hB).plain (by omega)
      have hsm := HH.out.small i
      obtain ⟨x0, x1⟩ := hw i hlt
      have HAr : Hid (Ar wr w.heap.size n (upTo f width i)) := hA
      clear hA hw
      go_wp2_with (first | (go_at_call 54; refine (cutP _ _ _ hsm).mono ?_; rintro e w2 ⟨rfl, hb2⟩; have A2 := (HAr.out.alloc _).later hb2; obtain ⟨q0, q1⟩ := A2.at_ i hlt; have q2 := A2.fr; have H2 : Hid (Ar w2 w.heap.size n (upTo f width i)) := A2; clear A2))
      refine ⟨⟨i + 1, by omega, by go_num, H2.out.set hlt (fun j _ => upTo_succ f width i j), ?_⟩, by simp [intOf]; omega⟩
      exact ((below_call (below_call hB (below1 _ _)) hb2).setCell (Nat.le_refl _) _).setCell (Nat.le_refl _) _
    · obtain rfl : i = n := by omega
      have HAr : Hid (Ar wr w.heap.size i (upTo f width i)) := hA
      clear hA
      go_wp2
      go_ret
      exact ⟨rfl, HAr.out.congr (fun j hj => upTo_all f width i j hj), hB⟩
end Go.Proofs.Ytciidjhadijhdaa.D
