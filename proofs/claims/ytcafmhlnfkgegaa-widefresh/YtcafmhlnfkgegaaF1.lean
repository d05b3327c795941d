import Derived.Test.YtcafmhlnfkgegaaR7
namespace Go.Proofs.Ytcafmhlnfkgegaa
open Go.RowKit

/-- Three lists of sixteen bytes each, in blocks of their own, and a list of the three. -/
structure Three (w : World) (B : Nat) (G : Nat → Nat) : Prop where
  row : ∀ k, k < 3 → w.cell? ⟨B, k, none⟩ = some (.slice (some ⟨G k, 0, none⟩) 16 16)
  apart : ∀ k, k < 3 → B ≠ G k
  inj : ∀ j k, j < 3 → k < 3 → G j = G k → j = k
  lies : ∀ k, k < 3 → ∀ t, t < 16 → ∃ v, Lies w ⟨G k, t, none⟩ v
  blk : B < w.heap.size
  lt : ∀ k, k < 3 → G k < w.heap.size

/-- What stays: all blocks that were there, but for the three. -/
structure Stays (w w' : World) (G : Nat → Nat) : Prop where
  os : w'.os = w.os
  tape : w'.tape = w.tape
  output : w'.output = w.output
  size : w.heap.size ≤ w'.heap.size
  block : ∀ b, b < w.heap.size → (∀ j, j < 3 → b ≠ G j) → w'.heap[b]? = w.heap[b]?

def markV (j : Nat) : Value := .int .u8 ((j : Int) + 1)

structure Mk (w w' : World) (B : Nat) (G : Nat → Nat) (k i : Nat) : Prop where
  three : Three w' B G
  stays : Stays w w' G
  done : ∀ j, j < 3 → ∀ t, t < 16 → (j < k ∨ (j = k ∧ t < i)) → w'.cell? ⟨G j, t, none⟩ = some (markV j)

theorem Mk.store {w w' : World} {B : Nat} {G : Nat → Nat} {k i : Nat} (h : Mk w w' B G k i) (hk : k < 3) (hi : i < 16) : Mk w (w'.setCell ⟨G k, i, none⟩ (markV k)) B G k (i + 1) := by
  obtain ⟨h1, h2, h3⟩ := h
  refine ⟨⟨fun j hj => ?_, h1.apart, h1.inj, fun j hj t ht => ?_, by simpa using h1.blk, fun j hj => by simpa using h1.lt j hj⟩, ⟨h2.os, h2.tape, h2.output, by simpa using h2.size, fun b hb hn => ?_⟩, fun j hj t ht hc => ?_⟩
  · rw [World.cell?_setCell_other _ _ _ _ (fun e => h1.apart k hk (by simpa using congrArg Addr.block e.symm))]
    exact h1.row j hj
  · obtain ⟨v, hv⟩ := h1.lies j hj t ht
    exact hv.setCell
  · rw [heap_setCell_other _ _ _ _ (hn k hk)]
    exact h2.block b hb hn
  · by_cases e : j = k ∧ t = i
    · obtain ⟨rfl, rfl⟩ := e
      obtain ⟨v, hv⟩ := h1.lies j hj t ht
      exact World.cell?_setCell_same _ _ _ hv.1
    · rw [World.cell?_setCell_other _ _ _ _ (fun e' => e ⟨h1.inj j k hj hk (by simpa using congrArg Addr.block e'.symm), by simpa using congrArg Addr.off e'.symm⟩)]
      exact h3 j hj t ht (by omega)

def L1o (w : World) (B : Nat) (G : Nat → Nat) (t : Value) (w' : World) : Prop := ∃ k : Nat, k ≤ 3 ∧ t = .int .i64 (k : Int) ∧ Mk w w' B G k 0
def L1i (w : World) (B : Nat) (G : Nat → Nat) (k : Nat) (t : Value) (w' : World) : Prop := ∃ i : Nat, i ≤ 16 ∧ t = .int .i64 (i : Int) ∧ Mk w w' B G k i

theorem Mk.up {w w' : World} {B : Nat} {G : Nat → Nat} {k : Nat} (h : Mk w w' B G k 16) : Mk w w' B G (k + 1) 0 :=
  ⟨h.three, h.stays, fun j hj t ht hc => h.done j hj t ht (by omega)⟩

end Go.Proofs.Ytcafmhlnfkgegaa
