import Derived.Test.YtjncgpekmilpeaaH1
namespace Go.Proofs.Ytjncgpekmilpeaa
open Go.RowKit
set_option linter.unusedVariables false

/-- The eighteen lists, each in memory of its own. -/
structure Eight (w : World) (z : Nat) (A : Nat → Option Addr × Nat × Nat) (Lf : Nat → List Nat) : Prop where
  own : ∀ i, i < 18 → Own w z (A i).1 (A i).2.1 (A i).2.2 (Lf i)
  apart : ∀ i j, i < 18 → j < 18 → i ≠ j → ∀ k, Blk (A i).1 k → ¬ Blk (A j).1 k
def valA (A : Nat → Option Addr × Nat × Nat) (i : Nat) : Value := .slice (A i).1 (A i).2.1 (A i).2.2
theorem Eight.of {w : World} {z : Nat} {rs : List R4} (h : Chain w z rs) (hl : rs.length = 18) : ∃ (A : Nat → Option Addr × Nat × Nat) (Lf : Nat → List Nat), Eight w z A Lf ∧ rs.map val4 = (List.range 18).map (valA A) ∧ rs.map (fun r => r.2.2.2) = (List.range 18).map Lf := by
  obtain ⟨f, hf⟩ : ∃ f : Nat → R4, f = fun i => rs.getD i (none, 0, 0, []) := ⟨_, rfl⟩
  have hget : ∀ i (hi : i < rs.length), f i = rs[i] := fun i hi => by rw [hf]; simp [List.getD, hi]
  have hrs : rs = (List.range 18).map f := by
    apply List.ext_getElem
    · simp [hl]
    · intro i h1 h2
      simp [hget i h1]
  refine ⟨fun i => ((f i).1, (f i).2.1, (f i).2.2.1), fun i => (f i).2.2.2, ⟨fun i hi => ?_, fun i j hi hj hne k => ?_⟩, ?_, ?_⟩
  · have := h.own rs[i] (List.getElem_mem (by omega))
    rw [← hget i (by omega)] at this
    exact this
  · have hp := List.pairwise_iff_getElem.1 h.apart
    simp only
    rw [hget i (by omega), hget j (by omega)]
    intro h1 h2
    rcases Nat.lt_or_gt_of_ne hne with hlt | hlt
    · exact hp i j (by omega) (by omega) hlt k h1 h2
    · exact hp j i (by omega) (by omega) hlt k h2 h1
  · conv => lhs; rw [hrs]
    rw [List.map_map]
    rfl
  · conv => lhs; rw [hrs]
    rw [List.map_map]
    rfl
theorem Eight.later {w w' : World} {z : Nat} {A : Nat → Option Addr × Nat × Nat} {Lf : Nat → List Nat} (hb : Below w.heap.size w w') (h : Eight w z A Lf) : Eight w' z A Lf := ⟨fun i hi => (h.own i hi).later hb, h.apart⟩
/-- A byte written into a list of its own. -/
theorem Own.set {w : World} {z g n c : Nat} {L : List Nat} {j b : Nat} (h : Own w z (some ⟨g, 0, none⟩) n c L) (hj : j < n) (hb : b < 256) :
    Own (w.setCell ⟨g, j, none⟩ (.int .u8 (b : Int))) z (some ⟨g, 0, none⟩) n c (L.set j b) ∧ ∃ x : Int, Lies w ⟨g, j, none⟩ (.int .u8 x) := by
  have hl := h.len
  have hcell := h.read.cells _ rfl j _ (u8s_get L j (by omega))
  rw [addr_add0] at hcell
  rcases h.row.2 with ⟨h0, _⟩ | ⟨g', c', cur, hv, hz, hh, hnc, hcm, hcs, htk⟩
  · simp at h0
  · simp only [Value.slice.injEq, Option.some.injEq, Addr.mk.injEq] at hv
    obtain ⟨⟨rfl, _⟩, _, rfl⟩ := hv
    refine ⟨⟨⟨by rw [u8s_length, List.length_set, hl, Nat.mul_one], .inr ⟨g, c, cur.setIfInBounds j (.int .u8 (b : Int)), rfl, hz, ?_, hnc, hcm, by simpa using hcs, ?_⟩⟩, ?_⟩, ⟨_, hcell, by simp [World.frozen?, hh]⟩⟩
    · rw [setCell_eq_setRow w g j cur 5 (0, 0) _ hh]
      exact setRow_heap w g cur _ 5 _ hh
    · rw [Nat.mul_one] at htk ⊢
      rw [Array.toList_setIfInBounds, List.take_set, htk]
      simp [u8s, List.map_set]
    · intro x hx
      rcases List.mem_or_eq_of_mem_set hx with h1 | h1
      · exact h.small x h1
      · omega
/-- Behind j bytes of the mark b. -/
def part (L : List Nat) (b j : Nat) : List Nat := List.replicate j b ++ L.drop j
theorem part_zero (L : List Nat) (b : Nat) : part L b 0 = L := by simp [part]
theorem part_all (L : List Nat) (b n : Nat) (h : L.length = n) : part L b n = List.replicate n b := by simp [part, ← h]
theorem part_set (L : List Nat) (b j : Nat) (h : j < L.length) : (part L b j).set j b = part L b (j + 1) := by
  unfold part
  rw [List.set_append_right _ _ (by simp), List.length_replicate, Nat.sub_self, List.drop_eq_getElem_cons h, List.set_cons_zero, List.replicate_succ']
  simp
theorem own_set_other {w : World} {z g : Nat} {a : Option Addr} {n c j : Nat} {L : List Nat} {u : Value} (h : Own w z a n c L) (hn : ¬ Blk a g) : Own (w.setCell ⟨g, j, none⟩ u) z a n c L := by
  refine ⟨⟨h.row.1, ?_⟩, h.small⟩
  rcases h.row.2 with h0 | ⟨g', cap, cur, hv, hz, hh, r⟩
  · exact .inl h0
  · refine .inr ⟨g', cap, cur, hv, hz, ?_, r⟩
    simp only [Value.slice.injEq] at hv
    rw [Below.heap_setCell _ _ _ _ (fun e => hn ⟨_, hv.1, by simpa using e⟩)]
    exact hh
theorem Eight.set {w : World} {z : Nat} {A : Nat → Option Addr × Nat × Nat} {Lf : Nat → List Nat} {i j b : Nat} (h : Eight w z A Lf) (hi : i < 18) (hj : j < (A i).2.1) (hb : b < 256) :
    ∃ g, (A i).1 = some ⟨g, 0, none⟩ ∧ z ≤ g ∧ Eight (w.setCell ⟨g, j, none⟩ (.int .u8 (b : Int))) z A (fun q => if q = i then (Lf i).set j b else Lf q) ∧ ∃ x : Int, Lies w ⟨g, j, none⟩ (.int .u8 x) := by
  have ho := h.own i hi
  obtain ⟨g, hg⟩ : ∃ g, (A i).1 = some ⟨g, 0, none⟩ := by
    rcases ho.row.2 with ⟨h0, h1⟩ | ⟨g, c', cur, hv, _⟩
    · omega
    · simp only [Value.slice.injEq] at hv; exact ⟨g, hv.1⟩
  have hz := ho.blk g ⟨_, hg, rfl⟩
  rw [hg] at ho
  obtain ⟨o2, hx⟩ := ho.set hj hb
  refine ⟨g, hg, hz, ⟨fun q hq => ?_, h.apart⟩, hx⟩
  by_cases e : q = i
  · subst e
    rw [if_pos rfl, hg]
    exact o2
  · rw [if_neg e]
    refine own_set_other (h.own q hq) (fun hk => h.apart q i hq hi e g hk ⟨_, hg, rfl⟩)
end Go.Proofs.Ytjncgpekmilpeaa
