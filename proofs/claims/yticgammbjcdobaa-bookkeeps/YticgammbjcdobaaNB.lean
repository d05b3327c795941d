import Derived.Test.YticgammbjcdobaaMG
namespace Go.Proofs.Yticgammbjcdobaa
open Go.RowKit
set_option linter.unusedVariables false
set_option linter.unusedSimpArgs false
/-- A list of rows of k cells in memory of its own. -/
def Ow (w : World) (base : Nat) (e : TypeId) (k : Nat) (a : Option Addr) (n cap : Nat) (L : List Value) : Prop := w.ownsRow base e k (.slice a n cap) n L
theorem Ow.nil (w : World) (base : Nat) (e : TypeId) (k : Nat) : Ow w base e k none 0 0 [] := ⟨by simp, .inl ⟨rfl, rfl⟩⟩
theorem Ow.blk {w : World} {base : Nat} {e : TypeId} {k : Nat} {a : Option Addr} {n cap : Nat} {L : List Value} (h : Ow w base e k a n cap L) : ∀ j, Blk a j → base ≤ j ∧ j < w.heap.size := by
  intro j ⟨x, hx, hk⟩
  rcases h.2 with ⟨h1, h2⟩ | ⟨g, cp, cur, hv, hg, hh, r⟩
  · simp only [Value.slice.injEq] at h1
    rw [hx] at h1
    exact absurd h1.1 (by simp)
  · simp only [Value.slice.injEq] at hv
    rw [hx] at hv
    have e := Option.some.inj hv.1
    rw [e] at hk
    simp only at hk
    subst hk
    exact ⟨hg, (Array.getElem?_eq_some_iff.1 hh).1⟩
theorem Ow.but {S : Nat → Prop} {w w' : World} {base : Nat} {e : TypeId} {k : Nat} {a : Option Addr} {n cap : Nat} {L : List Value} (h : Ow w base e k a n cap L) (hb : But S w w') (hn : ∀ j, Blk a j → ¬ S j) : Ow w' base e k a n cap L := by
  obtain ⟨h1, h2⟩ := h
  refine ⟨h1, ?_⟩
  rcases h2 with h2 | ⟨g, cp, cur, hv, hg, hh, r⟩
  · exact .inl h2
  · refine .inr ⟨g, cp, cur, hv, hg, ?_, r⟩
    rw [hb.block g (Array.getElem?_eq_some_iff.1 hh).1 (hn g (by simp only [Value.slice.injEq] at hv; exact ⟨_, hv.1, rfl⟩))]
    exact hh
theorem Ow.later {w w' : World} {base : Nat} {e : TypeId} {k : Nat} {a : Option Addr} {n cap : Nat} {L : List Value} (h : Ow w base e k a n cap L) (hb : Below w.heap.size w w') : Ow w' base e k a n cap L := h.but (S := fun _ => False) (But.of hb) (fun _ _ h => h)
theorem ow_snoc (t e : TypeId) (z : Value) (k by_ : Nat) (ht : Try.prog.underlying t = some (.slice e)) (hinf : (Try.prog.info? e).map (fun i => (i.zero, i.size, i.bytes)) = some (some z, k, by_)) (hzs : z.cells.size = k) (hk : 0 < k)
    {w : World} {base : Nat} {a : Option Addr} {n cap : Nat} {L cs : List Value} (h : Ow w base e k a n cap L) (hl : cs.length = k) (h1 : ∀ u ∈ cs, u.oneCell' = true) (hb : base ≤ w.heap.size) (hn : n + 1 ≤ 100000) (hby : by_ ≤ 1000) :
    ∃ a' c' w', (Builtin.append_ #[t, t] t #[.slice a n cap, .slice (some ⟨w.heap.size, 0, none⟩) 1 1]).run Try.prog (w.alloc (Obj.cells cs.toArray e)) = .ok (.slice a' (n + 1) c') w' ∧ Ow w' base e k a' (n + 1) c' (L ++ cs) ∧ But (Blk a) w w' ∧ ∀ j, Blk a' j → Blk a j ∨ w.heap.size ≤ j := by
  obtain ⟨i, hi, hz0, hz1, hz2⟩ := info_parts hinf
  have hb1 := below1 w (Obj.cells cs.toArray e)
  have hbyt : (n + 1) * by_ ≤ 140737488355328 := by
    have := Nat.mul_le_mul hn hby
    omega
  obtain ⟨v', w', hr, h2, h3, _, h5⟩ := run_append_own_at (P := Try.prog) (w.alloc (Obj.cells cs.toArray e)) base t t e i z k by_ ht hi hz0 hz1 hz2 hzs hk _ n _ (h.later hb1) ⟨w.heap.size, 0, none⟩ 1 1 cs (by rw [hl, Nat.one_mul]) (fun j u hu => by
    rw [addr_add0]
    have := rangeAt_new w cs e j u hu
    rw [Nat.zero_add] at this
    exact this) h1 (by unfold maxLen; omega) hbyt (by simp; omega)
  obtain ⟨a', c', rfl⟩ : ∃ a' c', v' = .slice a' (n + 1) c' := by
    rcases h2.2 with ⟨h, h'⟩ | ⟨g', cap', _, h, _⟩
    · exact ⟨.none, 0, by rw [h, h']⟩
    · exact ⟨_, cap', h⟩
  have hbut : But (Blk a) (w.alloc (Obj.cells cs.toArray e)) w' := ⟨h3.os, h3.tape, h3.output, h3.size, fun j hj hn => h3.block j hj (fun e => hn (Blk.of.1 e.symm))⟩
  refine ⟨a', c', w', hr, h2, (But.of hb1).trans hbut, fun j hj => ?_⟩
  rcases h5 with h5 | h5
  · rw [Blk.of.2 hj] at h5
    exact .inl (Blk.of.1 h5.symm)
  · rw [Blk.of.2 hj] at h5
    right
    simp at h5
    omega
theorem Ow.mono {w : World} {base b2 : Nat} {e : TypeId} {k : Nat} {a : Option Addr} {n cap : Nat} {L : List Value} (h : Ow w base e k a n cap L) (hb : b2 ≤ base) : Ow w b2 e k a n cap L := by
  obtain ⟨h1, h2⟩ := h
  refine ⟨h1, ?_⟩
  rcases h2 with h2 | ⟨g, cp, cur, hv, hg, r⟩
  · exact .inl h2
  · exact .inr ⟨g, cp, cur, hv, Nat.le_trans hb hg, r⟩
end Go.Proofs.Yticgammbjcdobaa
