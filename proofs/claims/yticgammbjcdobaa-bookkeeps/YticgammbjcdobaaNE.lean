import Derived.Test.YticgammbjcdobaaND
namespace Go.Proofs.Yticgammbjcdobaa
open Go.RowKit
set_option linter.unusedVariables false
set_option linter.unusedSimpArgs false
theorem bl_t {m : Bm} (hd : m.blks.Nodup) {j : Nat} (hj : j ∈ m.bt :: m.T.map Im.b) : (∀ i ∈ m.bl :: m.L.map Im.b, i ≠ j) ∧ ∀ i ∈ m.rest, i ≠ j := by
  have h1 := List.nodup_append.1 hd
  have h2 := List.nodup_append.1 h1.2.1
  exact ⟨fun i hi e => h1.2.2 i hi j (List.mem_append.2 (.inl hj)) e, fun i hi e => h2.2.2 j hj i hi e.symm⟩
theorem rest_a {m : Bm} {i : Nat} (hi : i ∈ m.ba :: m.A.map Im.b) : i ∈ m.rest := List.mem_cons_of_mem _ (List.mem_cons_of_mem _ (List.mem_cons_of_mem _ hi))
/-- A process's first telling. -/
theorem Bw.told_new {w w' : World} {m : Bm} (h : Bw w m) {p : Int} {k : Nat} {E : List (Value × Value)} (hk : w.heap.size ≤ k) (hl : Mm w' 95 m.bt (m.T ++ [⟨p, k, E⟩])) (hb : But (· = m.bt) w w') : Bw w' { m with T := m.T ++ [⟨p, k, E⟩] } := by
  have hd := h.dis
  obtain ⟨n1, n2⟩ := bl_t hd (j := m.bt) List.mem_cons_self
  have hkl : k < w'.heap.size := hl.lt k (List.mem_cons_of_mem _ (List.mem_map.2 ⟨⟨p, k, E⟩, List.mem_append.2 (.inr (List.mem_singleton.2 rfl)), rfl⟩))
  refine ⟨h.bx.but hb (n2 _ (by simp)), h.live.but hb n1, h.laid.but hb (fun j hj => n2 j (rest_a hj)), hl, h.lists.map h.told.out hb (n2 _ (by simp)), h.known.map h.told.out hb (n2 _ (by simp)), ?_, ?_, h.ap⟩
  · have hkn : k ∉ m.blks := fun hx => by have := h.lo k hx; omega
    have hp : Bm.blks { m with T := m.T ++ [⟨p, k, E⟩] } |>.Perm (k :: m.blks) := by
      simp only [Bm.blks, List.map_append, List.map_cons, List.map_nil]
      have e : (m.bl :: m.L.map Im.b) ++ ((m.bt :: (m.T.map Im.b ++ [k])) ++ m.rest) = ((m.bl :: m.L.map Im.b) ++ (m.bt :: m.T.map Im.b)) ++ k :: m.rest := by simp
      rw [e]
      refine List.perm_middle.trans ?_
      rw [List.append_assoc]
    exact hp.nodup_iff.2 (List.nodup_cons.2 ⟨hkn, hd⟩)
  · intro j hj
    have hs := hb.size
    simp only [Bm.blks, List.map_append, List.map_cons, List.map_nil] at hj
    have : j = k ∨ j ∈ m.blks := by
      simp only [List.mem_append, List.mem_cons, List.not_mem_nil, or_false, Bm.blks] at hj ⊢
      grind
    rcases this with rfl | hj
    · exact hkl
    · have := h.lo j hj; omega
/-- A telling more to a process that was told something. -/
theorem Bw.told_more {w w' : World} {m : Bm} (h : Bw w m) {T1 T2 : List Im} {g : Im} {E : List (Value × Value)} (hT : m.T = T1 ++ g :: T2) (hl : Mm w' 95 m.bt (T1 ++ ⟨g.p, g.b, E⟩ :: T2)) (hb : But (· = g.b) w w') : Bw w' { m with T := T1 ++ ⟨g.p, g.b, E⟩ :: T2 } := by
  have hd := h.dis
  have hg : g ∈ m.T := by rw [hT]; simp
  obtain ⟨n1, n2⟩ := bl_t hd (j := g.b) (List.mem_cons_of_mem _ (List.mem_map.2 ⟨g, hg, rfl⟩))
  have hmb : (T1 ++ (⟨g.p, g.b, E⟩ : Im) :: T2).map Im.b = m.T.map Im.b := by rw [hT]; simp
  have hbl : Bm.blks { m with T := T1 ++ ⟨g.p, g.b, E⟩ :: T2 } = m.blks := by simp only [Bm.blks]; rw [hmb]
  refine ⟨h.bx.but hb (n2 _ (by simp)), h.live.but hb n1, h.laid.but hb (fun j hj => n2 j (rest_a hj)), hl, h.lists.map (h.told.inn g hg) hb (n2 _ (by simp)), h.known.map (h.told.inn g hg) hb (n2 _ (by simp)), by rw [hbl]; exact hd, by rw [hbl]; exact fun j hj => Nat.lt_of_lt_of_le (h.lo j hj) hb.size, h.ap⟩
end Go.Proofs.Yticgammbjcdobaa
