import Derived.Test.YtlelglfdamakaaaMA
import Derived.RangeFuncNested
import Derived.RangeFuncBound
import Derived.RangeFuncCalls
import Derived.RangeFuncLeaves
import Derived.Shelf.Abstract
import Derived.Shelf.RegionOpen
import Derived.OwnWalkIn
import Derived.TacticsInMore
import Derived.LoopNIn
import Derived.LoopIn
namespace Go.Proofs.Ytlelglfdamakaaa
open Go.RowKit
set_option linter.unusedVariables false

/-- What an iterator tells: Down's, or Up's. -/
def tells (d : Bool) (l : Fo) (n : Int) : List Int := G true l n
theorem tells_len {m : Nat} {l : Fo} (h : Ok m l) (d : Bool) (n : Int) : (tells d l n).length ≤ m := by
  exact G_len h _ _
def takeF (d : Bool) : Nat := 79
set_option maxRecDepth 100000 in
set_option maxHeartbeats 1000000 in
theorem take_any {w : World} {g gb m : Nat} {l : Fo} (h : Ki w g gb m l) (d : Bool) (n : Int) (b1 b2 : Nat) (h1 : w.cell? ⟨b1, 0, none⟩ = some (.pointer (some ⟨g, 0, none⟩))) (h2 : w.cell? ⟨b2, 0, none⟩ = some (.int .i64 n)) :
    Calls Try.prog (takeF d) #[.pointer (some ⟨b1, 0, none⟩), .pointer (some ⟨b2, 0, none⟩)] w fun r w' => ∃ a k cap, r = .returned (.slice a k cap) ∧ Own w' w.heap.size 3 a k cap (ints (tells d l n)) ∧ Below w.heap.size w w' := by
  have hc := hid (subtree_any h n true)
  show Calls Try.prog 79 _ _ _
  unfold tells
  generalize G true l n = X at hc ⊢
  clear h
  go_enter Try.func79, Try.ntmps79
  go_wp2_with (first | (go_at_call 80; refine hc.out.mono ?_; rintro e w1 ⟨a, k, cap, rfl, hO, hB⟩; have HO := hid hO; have HB := hid hB; clear hO hB))
  go_ret
  exact ⟨a, k, cap, rfl, HO.out, HB.out⟩
set_option maxRecDepth 100000 in
set_option maxHeartbeats 1000000 in
theorem fixed_any (w : World) (f : Fn) (a b : Array Value) : Calls Try.prog 78 #[.func f a b] w fun e w' => e = .returned (.func (.func 92) #[] #[.pointer (some ⟨w.heap.size, 0, none⟩)]) ∧ w' = w.alloc (Obj.cells #[.func f a b] 157) := by
  go_enter Try.func78, Try.ntmps78
  go_wp2
  go_ret
  exact ⟨rfl, rfl⟩
/-- An iterator in memory. -/
def Sq (w : World) (d : Bool) (base b0 g : Nat) (n : Int) : Prop :=
  ∃ b1 b2, w.cell? ⟨b0, 0, none⟩ = some (.func (.func (takeF d)) #[] #[.pointer (some ⟨b1, 0, none⟩), .pointer (some ⟨b2, 0, none⟩)]) ∧ w.cell? ⟨b1, 0, none⟩ = some (.pointer (some ⟨g, 0, none⟩)) ∧ w.cell? ⟨b2, 0, none⟩ = some (.int .i64 n) ∧ base ≤ b0 ∧ base ≤ b1 ∧ base ≤ b2
theorem Sq.but {S : Nat → Prop} {w w' : World} {d : Bool} {base b0 g : Nat} {n : Int} (hb : But S w w') (h : Sq w d base b0 g n) (hS : ∀ k, S k → k < base) : Sq w' d base b0 g n := by
  obtain ⟨b1, b2, h0, h1, h2, h3, h4, h5⟩ := h
  exact ⟨b1, b2, cell_but hb h0 (fun hs => by have := hS _ hs; simp at this; omega), cell_but hb h1 (fun hs => by have := hS _ hs; simp at this; omega), cell_but hb h2 (fun hs => by have := hS _ hs; simp at this; omega), h3, h4, h5⟩
theorem Sq.later {w w' : World} {d : Bool} {base b0 g : Nat} {n : Int} (hb : Below w.heap.size w w') (h : Sq w d base b0 g n) : Sq w' d base b0 g n := h.but (S := fun _ => False) (But.of hb) (fun _ h => h.elim)
theorem Sq.lt {w : World} {d : Bool} {base b0 g : Nat} {n : Int} (h : Sq w d base b0 g n) : b0 < w.heap.size := by
  obtain ⟨b1, b2, h0, _⟩ := h
  exact World.block_lt_of_cell? _ _ h0
def makeF (d : Bool) : Nat := 60
set_option maxRecDepth 100000 in
set_option maxHeartbeats 1000000 in
theorem make_any (d : Bool) (g : Nat) (n : Int) (w : World) : Calls Try.prog (makeF d) #[.pointer (some ⟨g, 0, none⟩), .int .i64 n] w fun e w' => ∃ b0, e = .returned (.func (.func 92) #[] #[.pointer (some ⟨b0, 0, none⟩)]) ∧ Sq w' d w.heap.size b0 g n ∧ Below w.heap.size w w' := by
  show Calls Try.prog 60 _ _ _
  go_enter Try.func60, Try.ntmps60
  go_wp2_with (first | (go_at_call 78; refine (fixed_any _ _ _ _).mono ?_; rintro e w1 ⟨rfl, rfl⟩))
  go_ret
  refine ⟨_, rfl, ⟨w.heap.size, w.heap.size + 1, ?_, ?_, ?_, ?_, ?_, ?_⟩, (below2 _ _ _).alloc (by simp; omega) _⟩
  all_goals try simp [go_sem, takeF]
  all_goals omega
end Go.Proofs.Ytlelglfdamakaaa
namespace Go.Proofs.Ytlelglfdamakaaa
open Go.RowKit Go.Shelf
set_option linter.unusedVariables false
attribute [local go_sem] Oper.semAt_some

/-- What a round keeps: all cells but for the blocks that the body may write (Fp). -/
structure Kq (Fp : World → Nat → Prop) (W W' : World) : Prop where
  size : W.heap.size ≤ W'.heap.size
  same : ∀ k o, W.heap[k]? = some o → o.isCells = true → ¬ Fp W k → W'.heap[k]? = some o
  fp : ∀ k, Fp W' k → Fp W k ∨ W.heap.size ≤ k
theorem Kq.trans {Fp : World → Nat → Prop} {A B C : World} (h : Kq Fp A B) (k : Kq Fp B C) : Kq Fp A C := by
  refine ⟨Nat.le_trans h.size k.size, fun i o hi ho hn => k.same i o (h.same i o hi ho hn) ho (fun hf => ?_), fun i hi => ?_⟩
  · have hlt : i < A.heap.size := (Array.getElem?_eq_some_iff.1 hi).1
    rcases h.fp i hf with h1 | h1
    · exact hn h1
    · omega
  · rcases k.fp i hi with h1 | h1
    · exact h.fp i h1
    · exact .inr (Nat.le_trans h.size h1)
theorem Own.kq {Fp : World → Nat → Prop} {W W' : World} {base : Nat} {e : TypeId} {a : Option Addr} {n cap : Nat} {L : List Value} (h : Own W base e a n cap L) (hk : Kq Fp W W') (hn : ∀ k, Blk a k → ¬ Fp W k) : Own W' base e a n cap L ∧ ∀ k, Blk a k → ¬ Fp W' k := by
  refine ⟨⟨⟨h.row.1, ?_⟩, h.one⟩, fun k hb hf => ?_⟩
  · rcases h.row.2 with h1 | ⟨g, c, cur, hv, hg, hh, r⟩
    · exact .inl h1
    · refine .inr ⟨g, c, cur, hv, hg, hk.same g _ hh rfl (hn g ?_), r⟩
      rw [← Blk.of (n := n) (cap := cap), hv]
      simp [Value.ownBlock]
  · rcases hk.fp k hf with h1 | h1
    · exact hn k hb h1
    · have := h.lt k hb
      omega
theorem grown_of_below {W W' : World} (h : Below W.heap.size W W') : W.grownBy W' none := ⟨h.os, h.tape, h.output, h.size, fun k hk _ => h.block k hk⟩
theorem kq_put {Fp : World → Nat → Prop} {B : Nat} (hFc : ∀ (W : World) (L : Nat) (o o' : Obj), B ≤ L → W.heap[L]? = some o → o.isCells = false → ∀ k, Fp (W.putObj L o') k → Fp W k) (W : World) (L : Nat) (o o' : Obj) (hL : B ≤ L) (h : W.heap[L]? = some o) (ho : o.isCells = false) : Kq Fp W (W.putObj L o') := by
  refine ⟨(grownBy_putObj' W L o').size, fun k c hk hc _ => ?_, fun k hk => .inl (hFc W L o o' hL h ho k hk)⟩
  have hne : k ≠ L := fun e => by
    subst e
    rw [h] at hk
    cases hk
    rw [ho] at hc
    cases hc
  exact ((grownBy_putObj' W L o').block k (Array.getElem?_eq_some_iff.1 hk).1 (fun e => hne (by cases e; rfl))).trans hk
end Go.Proofs.Ytlelglfdamakaaa
namespace Go.Proofs.Ytlelglfdamakaaa
open Go.RowKit Go.Shelf
set_option linter.unusedVariables false
attribute [local go_sem] Oper.semAt_some

theorem lies_new (w : World) (v : Value) (t : TypeId) : Lies (w.alloc (Obj.cells #[v] t)) ⟨w.heap.size, 0, none⟩ v := ⟨by simp [go_sem], by simp [go_sem]⟩
set_option maxRecDepth 100000 in
set_option maxHeartbeats 1000000 in
theorem fall_any {w : World} {g gb m : Nat} {l : Fo} (h : Ki w g gb m l) (n : Int) :
    Calls Try.prog 62 #[.pointer (some ⟨g, 0, none⟩), .int .i64 n] w fun e w' => ∃ a k cap, e = .returned (.slice a k cap) ∧ Own w' w.heap.size 3 a k cap (ints (Fl l n)) ∧ Below w.heap.size w w' := by
  have hc := hid (subtree_any h n false)
  have hl := Nat.le_trans (G_len h.ok false n) h.big
  unfold Fl
  generalize G false l n = X at hc hl ⊢
  clear h
  go_enter Try.func62, Try.ntmps62
  go_wp2_with (first | (go_at_call 80; refine hc.out.mono ?_; rintro e w1 ⟨a, k, cap, rfl, hO, hB⟩; have hlk := hO.len; rw [ints_length] at hlk; have HO := hid hO; have HB := hid hB; clear hO hB) | (go_at_call 81; refine (rev_any HO.out (by omega)).mono ?_; rintro e w2 ⟨⟨v, rfl⟩, hO2, hB2⟩; have HO2 := hid hO2; have HB2 := hid (But.below HB.out hB2 HO.out.blk); clear hO2 hB2))
  go_ret
  exact ⟨a, k, cap, rfl, HO2.out, HB2.out⟩
end Go.Proofs.Ytlelglfdamakaaa
