import Derived.Test.YtcafmhlnfkgegaaF1
namespace Go.Proofs.Ytcafmhlnfkgegaa
open Go.RowKit

theorem info32 : (Try.prog.info? 32).map (fun i => (i.zero, i.size, i.bytes)) = some (some (.slice none 0 0), 1, 24) := by kernel_rfl
theorem own_mono {w : World} {b b' : Nat} {e : TypeId} {size : Nat} {v : Value} {n : Nat} {xs : List Value} (h : w.ownsRow b e size v n xs) (hb : b' ≤ b) : w.ownsRow b' e size v n xs := by
  refine ⟨h.1, ?_⟩
  rcases h.2 with h | ⟨g, cap, cur, hv, hg, r⟩
  · exact .inl h
  · exact .inr ⟨g, cap, cur, hv, Nat.le_trans hb hg, r⟩
theorem own_apart {w : World} {b b' : Nat} {e e' : TypeId} {size size' : Nat} {v v' : Value} {n n' : Nat} {xs xs' : List Value} (h : w.ownsRow b e size v n xs) (h' : w.ownsRow b' e' size' v' n' xs') (hne : e ≠ e') : v.ownBlock = none ∨ v.ownBlock ≠ v'.ownBlock := by
  rcases h.2 with ⟨rfl, _⟩ | ⟨g, cap, cur, rfl, _, hg, _⟩
  · exact .inl rfl
  · right
    rcases h'.2 with ⟨rfl, _⟩ | ⟨g', cap', cur', rfl, _, hg', _⟩
    · simp [Value.ownBlock]
    · intro he
      simp [Value.ownBlock] at he
      subst he
      rw [hg] at hg'
      simp at hg'
      exact hne hg'.2
theorem append_first (w1 : World) (g : Nat) (x : Int) (a : Addr) (hg : ∀ t, t < 16 → w1.cell? ⟨g, t, none⟩ = some (.int .u8 x)) (ha : w1.cell? (a.add 0) = some (.int .u8 x)) :
    ∃ v' w2, (Builtin.append_ #[32, 32] 32 #[.slice (some ⟨g, 0, none⟩) 16 16, .slice (some a) 1 1]).run Try.prog w1 = .ok v' w2 ∧ w2.ownsRow w1.heap.size 5 1 v' 17 (List.replicate 17 (.int .u8 x)) ∧ Below w1.heap.size w1 w2 := by
  obtain ⟨i, hi, hz0, hz1, hz2⟩ := info_parts info5
  have hr := run_append_grow (P := Try.prog) w1 32 32 5 i (.int .u8 0) Try.underlying32 hi hz0 ⟨g, 0, none⟩ 16 16 (List.replicate 16 (.int .u8 x)) (by rw [hz1]; rfl)
    (fun j u hu => by
      rw [List.getElem?_replicate] at hu
      split at hu
      · rw [addr_add0]; cases hu; exact hg j (by assumption)
      · cases hu) a 1 1 [.int .u8 x] (by rw [hz1]; rfl)
    (fun j u hu => by
      cases j with
      | zero => cases hu; exact ha
      | succ j => cases hu) (by omega) (by omega) (growslice_fits (by omega) (by rw [hz2]; omega))
  refine ⟨_, _, hr, ⟨by simp, .inr ⟨w1.heap.size, _, _, rfl, Nat.le_refl _, heap_alloc_new w1.drew _, grownCap_ge _ _ _ _, grownCap_le_maxLen _ _ _ _ (by unfold maxLen; omega), ?_, ?_⟩⟩, ?_⟩
  · have := grownCap_ge w1 17 16 5
    simp only [Array.size_append, List.size_toArray, size_zeroCells]
    simp [Value.cells]
    omega
  · simp
  · exact ((Below.refl _ _).drew).alloc (by simp) _
end Go.Proofs.Ytcafmhlnfkgegaa
