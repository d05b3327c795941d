import Derived.Test.YtgdhdfmgfncdkaaB2
namespace Go.Proofs.Ytgdhdfmgfncdkaa
open Go.RowKit
set_option linter.unusedVariables false

/-- What an iterator tells: Down's, or Up's. -/
def tells (d : Bool) (l : Fo) (n : Int) : List Int := G true l n
theorem tells_len {m : Nat} {l : Fo} (h : Ok m l) (d : Bool) (n : Int) : (tells d l n).length ≤ m := by
  exact G_len h _ _
def takeF (d : Bool) : Nat := 67
set_option maxRecDepth 100000 in
set_option maxHeartbeats 1000000 in
theorem take_any {w : World} {g gb m : Nat} {l : Fo} (h : Ki w g gb m l) (d : Bool) (n : Int) (b1 b2 : Nat) (h1 : w.cell? ⟨b1, 0, none⟩ = some (.pointer (some ⟨g, 0, none⟩))) (h2 : w.cell? ⟨b2, 0, none⟩ = some (.int .i64 n)) :
    Calls Try.prog (takeF d) #[.pointer (some ⟨b1, 0, none⟩), .pointer (some ⟨b2, 0, none⟩)] w fun r w' => ∃ a k cap, r = .returned (.slice a k cap) ∧ Own w' w.heap.size 3 a k cap (ints (tells d l n)) ∧ Below w.heap.size w w' := by
  have hc := hid (subtree_any h n true)
  show Calls Try.prog 67 _ _ _
  unfold tells
  generalize G true l n = X at hc ⊢
  clear h
  go_enter Try.func67, Try.ntmps67
  go_wp2_with (first | (go_at_call 68; refine hc.out.mono ?_; rintro e w1 ⟨a, k, cap, rfl, hO, hB⟩; have HO := hid hO; have HB := hid hB; clear hO hB))
  go_ret
  exact ⟨a, k, cap, rfl, HO.out, HB.out⟩
set_option maxRecDepth 100000 in
set_option maxHeartbeats 1000000 in
theorem fixed_any (w : World) (f : Fn) (a b : Array Value) : Calls Try.prog 66 #[.func f a b] w fun e w' => e = .returned (.func (.func 77) #[] #[.pointer (some ⟨w.heap.size, 0, none⟩)]) ∧ w' = w.alloc (Obj.cells #[.func f a b] 129) := by
  go_enter Try.func66, Try.ntmps66
  go_wp2
  go_ret
  exact ⟨rfl, rfl⟩
/-- An iterator in memory. -/
def Sq (w : World) (d : Bool) (base b0 g : Nat) (n : Int) : Prop :=
  ∃ b1 b2, w.cell? ⟨b0, 0, none⟩ = some (.func (.func (takeF d)) #[] #[.pointer (some ⟨b1, 0, none⟩), .pointer (some ⟨b2, 0, none⟩)]) ∧ w.cell? ⟨b1, 0, none⟩ = some (.pointer (some ⟨g, 0, none⟩)) ∧ w.cell? ⟨b2, 0, none⟩ = some (.int .i64 n) ∧ base ≤ b0 ∧ base ≤ b1 ∧ base ≤ b2
theorem Sq.but {S : Nat → Prop} {w w' : World} {d : Bool} {base b0 g : Nat} {n : Int} (hb : But S w w') (h : Sq w d base b0 g n) (hS : ∀ k, S k → k < base) : Sq w' d base b0 g n := by
  obtain ⟨b1, b2, h0, h1, h2, h3, h4, h5⟩ := h
  exact ⟨b1, b2, cell_but hb h0 (fun hs => by have := hS _ hs; simp at this; omega), cell_but hb h1 (fun hs => by have := hS _ hs; simp at this; omega), cell_but hb h2 (fun hs => by have := hS _ hs; simp at this; omega), h3, h4, h5⟩
theorem Sq.later {w w' : World} {d : Bool} {base b0 g : Nat} {n : Int} (hb : Below w.heap.size w w') (h : Sq w d base b0 g n) : Sq w' d base b0 g n := h.but (S := fun _ => False) (But.of hb) (fun _ h => h.elim)
theorem Sq.lt {w : World} {d : Bool} {base b0 g : Nat} {n : Int} (h : Sq w d base b0 g n) : b0 < w.heap.size := by
  obtain ⟨b1, b2, h0, _⟩ := h
  exact World.block_lt_of_cell? _ _ h0
def makeF (d : Bool) : Nat := 51
set_option maxRecDepth 100000 in
set_option maxHeartbeats 1000000 in
theorem make_any (d : Bool) (g : Nat) (n : Int) (w : World) : Calls Try.prog (makeF d) #[.pointer (some ⟨g, 0, none⟩), .int .i64 n] w fun e w' => ∃ b0, e = .returned (.func (.func 77) #[] #[.pointer (some ⟨b0, 0, none⟩)]) ∧ Sq w' d w.heap.size b0 g n ∧ Below w.heap.size w w' := by
  show Calls Try.prog 51 _ _ _
  go_enter Try.func51, Try.ntmps51
  go_wp2_with (first | (go_at_call 66; refine (fixed_any _ _ _ _).mono ?_; rintro e w1 ⟨rfl, rfl⟩))
  go_ret
  refine ⟨_, rfl, ⟨w.heap.size, w.heap.size + 1, ?_, ?_, ?_, ?_, ?_, ?_⟩, (below2 _ _ _).alloc (by simp; omega) _⟩
  all_goals try simp [go_sem, takeF]
  all_goals omega
end Go.Proofs.Ytgdhdfmgfncdkaa
