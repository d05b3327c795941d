import Derived.Test.YtjncgpekmilpeaaG2
namespace Go.Proofs.Ytjncgpekmilpeaa
open Go.RowKit
set_option linter.unusedVariables false

/-- Two lists of bytes that lie in unlike blocks. -/
def Apart (r q : R4) : Prop := ∀ k, Blk r.1 k → ¬ Blk q.1 k
theorem Apart.symm {r q : R4} (h : Apart r q) : Apart q r := fun k h1 h2 => h k h2 h1
/-- Lists of bytes in memory of their own, no two in one block. -/
structure Chain (w : World) (z : Nat) (rs : List R4) : Prop where
  own : ∀ r ∈ rs, Own w z r.1 r.2.1 r.2.2.1 r.2.2.2
  apart : rs.Pairwise Apart
theorem Chain.nil (w : World) (z : Nat) : Chain w z [] := ⟨fun r h => (by cases h), List.Pairwise.nil⟩
theorem Chain.but {S : Nat → Prop} {w w' : World} {z : Nat} {rs : List R4} (hb : But S w w') (h : Chain w z rs) (hS : ∀ k, z ≤ k → ¬ S k) : Chain w' z rs := ⟨fun r hr => (h.own r hr).but hb hS, h.apart⟩
theorem Chain.later {w w' : World} {z : Nat} {rs : List R4} (hb : Below w.heap.size w w') (h : Chain w z rs) : Chain w' z rs := ⟨fun r hr => (h.own r hr).later hb, h.apart⟩
theorem Chain.drew {w : World} {z : Nat} {rs : List R4} (h : Chain w z rs) : Chain w.drew z rs := h.later (Below.refl _ _).drew
theorem Chain.perm {w : World} {z : Nat} {rs qs : List R4} (h : Chain w z rs) (hp : rs.Perm qs) : Chain w z qs :=
  ⟨fun r hr => h.own r (hp.mem_iff.2 hr), (hp.pairwise_iff (fun h => Apart.symm h)).1 h.apart⟩
theorem Chain.snoc {w : World} {z z' : Nat} {rs : List R4} {a : Option Addr} {n c : Nat} {L : List Nat} (h : Chain w z rs) (ho : Own w z' a n c L) (hz : z ≤ z') (hlt : ∀ r ∈ rs, ∀ k, Blk r.1 k → k < z') : Chain w z (rs ++ [(a, n, c, L)]) := by
  refine ⟨fun r hr => ?_, ?_⟩
  · rcases List.mem_append.1 hr with h1 | h1
    · exact h.own r h1
    · simp only [List.mem_singleton] at h1
      subst h1
      exact ho.mono hz
  · rw [List.pairwise_append]
    refine ⟨h.apart, List.pairwise_singleton _ _, fun r hr q hq k h1 h2 => ?_⟩
    simp only [List.mem_singleton] at hq
    subst hq
    have := hlt r hr k h1
    have := ho.blk k h2
    omega
/-- One more, made by a call in the world W. -/
theorem Chain.call {W w : World} {z : Nat} {rs : List R4} {a : Option Addr} {n c : Nat} {L : List Nat} (h : Chain W z rs) (hb : Below W.heap.size W w) (ho : Own w W.heap.size a n c L) (hz : z ≤ W.heap.size) : Chain w z (rs ++ [(a, n, c, L)]) :=
  (h.later hb).snoc ho hz (fun r hr k hk => (h.own r hr).lt k hk)
/-- A state that several orders reach, walked once. -/
theorem share {P : Program} {md : Region.Mode} {ops : Array Oper} {Q : Exit → Act → World → Prop} {S : World → Prop} {f0 : Nat} {l0 : Array Bool} {a0 : Act} {u0 : World} (X : Type) (f : Nat) (l : Array Bool) (A : Act → X → Act) (pre : X → World → Prop)
    (key : ∀ (x : X) (u : World), pre x u → wpAnyH P md ops Q S f l (A a0 x) u)
    (h : Hid (∀ (x : X) (u : World), pre x u → wpAnyH P md ops Q S f l (A a0 x) u) → wpAnyH P md ops Q S f0 l0 a0 u0) : wpAnyH P md ops Q S f0 l0 a0 u0 := h key

theorem info22 : (Try.prog.info? 22).map (fun i => (i.zero, i.size, i.bytes)) = some (some (.slice none 0 0), 1, 24) := by kernel_rfl
/-- Appending lists to the list of lists. -/
theorem all_run {w : World} {z : Nat} {al : Value} {m : Nat} {vals : List Value} (h : w.ownsRow z 22 1 al m vals) (b k : Nat) (rs : List R4) (hk : rs.length = k) (hc : ∀ j u, (rs.map val4)[j]? = some u → w.cell? ⟨b, j, none⟩ = some u) (hz : z ≤ w.heap.size) (hm : m + k ≤ 1000) :
    ∃ v' w', (Builtin.append_ #[32, 32] 32 #[al, .slice (some ⟨b, 0, none⟩) k k]).run Try.prog w = .ok v' w' ∧ w'.ownsRow z 22 1 v' (m + k) (vals ++ rs.map val4) ∧ w.grownBy w' al.ownBlock := by
  obtain ⟨i, hi, hz0, hz1, hz2⟩ := info_parts info22
  obtain ⟨v', w', hr, h2, h3, _, _⟩ := run_append_own_at (P := Try.prog) w z 32 32 22 i _ 1 24 Try.underlying32 hi hz0 hz1 hz2 rfl (by decide) _ m _ h ⟨b, 0, none⟩ k k (rs.map val4) (by rw [List.length_map, Nat.mul_one, hk]) (fun j u hu => by rw [addr_add0]; exact hc j u hu) (fun u hu => by
    rw [List.mem_map] at hu
    obtain ⟨r, _, rfl⟩ := hu
    rfl) (by unfold maxLen; omega) (by omega) hz
  exact ⟨v', w', hr, h2, h3⟩
theorem Own.kept {w w' : World} {z : Nat} {a : Option Addr} {n c : Nat} {L : List Nat} {row : Option Nat} (h : Own w z a n c L) (hg : w.grownBy w' row) (hn : ∀ k, Blk a k → some k ≠ row) : Own w' z a n c L := by
  refine ⟨⟨h.row.1, ?_⟩, h.small⟩
  rcases h.row.2 with h0 | ⟨g, cap, cur, hv, hz, hh, r⟩
  · exact .inl h0
  · simp only [Value.slice.injEq] at hv
    refine .inr ⟨g, cap, cur, by simp only [Value.slice.injEq]; exact hv, hz, ?_, r⟩
    rw [hg.block g (Array.getElem?_eq_some_iff.1 hh).1 (hn g ⟨_, hv.1, rfl⟩)]
    exact hh
/-- A list of bytes and the list of lists lie in unlike blocks. -/
theorem own_types {w : World} {z z' : Nat} {a : Option Addr} {n c m : Nat} {L : List Nat} {al : Value} {vals : List Value} (h : Own w z a n c L) (h' : w.ownsRow z' 22 1 al m vals) : ∀ k, Blk a k → some k ≠ al.ownBlock := by
  intro k hk he
  obtain ⟨x, hx, hxk⟩ := hk
  subst hx
  rcases h.row.2 with ⟨h0, _⟩ | ⟨g, cap, cur, hv, _, hh, _⟩
  · simp at h0
  · simp only [Value.slice.injEq, Option.some.injEq] at hv
    obtain ⟨rfl, _, _⟩ := hv
    rcases h'.2 with ⟨rfl, _⟩ | ⟨g', cap', cur', rfl, _, hh', _⟩
    · simp [Value.ownBlock] at he
    · simp [Value.ownBlock] at he
      subst hxk
      simp only at he
      subst he
      rw [hh] at hh'
      simp at hh'
theorem Chain.kept {w w' : World} {z z' m : Nat} {rs : List R4} {al : Value} {vals : List Value} (h : Chain w z rs) (h' : w.ownsRow z' 22 1 al m vals) (hg : w.grownBy w' al.ownBlock) : Chain w' z rs :=
  ⟨fun r hr => (h.own r hr).kept hg (own_types (h.own r hr) h'), h.apart⟩
end Go.Proofs.Ytjncgpekmilpeaa
