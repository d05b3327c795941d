import Derived.Test.YtgdhdfmgfncdkaaB5
namespace Go.Proofs.Ytgdhdfmgfncdkaa
open Go.RowKit Go.Shelf
set_option linter.unusedVariables false
attribute [local go_sem] Oper.semAt_some

theorem wpListIn_append_known {F : Fence} {n : Nat} {P : Program} {w : World} {ops : Array Oper} {rest : List Oper} {o : Oper} {a : Act} {Q : Exit → Act → World → Prop} (hgd : o.guard = none) (s x : Operand) (t : TypeId)
    (ho : o.op = .call { callee := .builtin .append, args := #[s, x], argTypes := #[t, t] }) (vs vx : Value) (hs : a.eval s = vs) (hx : a.eval x = vx) (v' : Value) (w' : World)
    (hr : (Builtin.append_ #[t, t] o.type #[vs, vx]).run P w = .ok v' w') (h : wpListIn F n P ops Q rest (a.put o.dst v') w') : wpListIn F n P ops Q (o :: rest) a w := by
  refine wpListIn_plain hgd fun K hK => ?_
  unfold Oper.wpIn
  refine ⟨by simp [Oper.about, ho, resolve, Target.leads, Sem.run_pure], ?_⟩
  rw [Oper.semAt_plain F _ _ (by rw [ho]; intro c hc; cases hc)]
  simp [execOp, ho, resolve, invoke, builtin, hs, hx, hr, Result.andThen]
  exact hK _ _ h
theorem own_cells {W : World} {base : Nat} {e : TypeId} {a : Option Addr} {n cap : Nat} {L : List Value} (h : Own W base e a n cap L) {k : Nat} (hk : Blk a k) : ∃ cs t z, W.heap[k]? = some (.cells cs t z) := by
  rcases h.row.2 with ⟨h1, _⟩ | ⟨g, c, cur, hv, hg, hh, r⟩
  · simp only [Value.slice.injEq] at h1
    obtain ⟨x, hx, _⟩ := hk
    rw [h1.1] at hx
    cases hx
  · simp only [Value.slice.injEq] at hv
    obtain ⟨x, hx, rfl⟩ := hk
    rw [hv.1] at hx
    cases hx
    exact ⟨_, _, _, hh⟩
theorem keeps_but {S : Nat → Prop} {B : Nat} {W W' : World} (h : But S W W') (hS : ∀ k o, W.heap[k]? = some o → o.isCells = false → B ≤ k → ¬ S k) : KeepsFrom B W W' :=
  ⟨h.size, fun k o hB hk ho => (h.block k (Array.getElem?_eq_some_iff.1 hk).1 (hS k o hk ho hB)).trans hk⟩
theorem kq_but {S : Nat → Prop} {Fp : World → Nat → Prop} {W W' : World} (h : But S W W') (hS : ∀ k, S k → Fp W k) (hf : ∀ k, Fp W' k → Fp W k ∨ W.heap.size ≤ k) : Kq Fp W W' :=
  ⟨h.size, fun k o hk _ hn => (h.block k (Array.getElem?_eq_some_iff.1 hk).1 (fun hs => hn (hS k hs))).trans hk, hf⟩

end Go.Proofs.Ytgdhdfmgfncdkaa
