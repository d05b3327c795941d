import Derived.Test.YtjncgpekmilpeaaG1
namespace Go.Proofs.Ytjncgpekmilpeaa
open Go.RowKit
set_option linter.unusedVariables false

theorem wpAnyH_norm {P : Program} {md : Region.Mode} {ops : Array Oper} {Q : Exit → Act → World → Prop} {S : World → Prop} {fuel f2 : Nat} {listed l2 : Array Bool} {a : Act} {w : World} (hl : listed = l2) (hf : fuel = f2) (h : wpAnyH P md ops Q S f2 l2 a w) : wpAnyH P md ops Q S fuel listed a w := by
  subst hl hf
  exact h
theorem wp_append_known {P : Program} {w : World} {o : Oper} {a : Act} {K : Act → World → Prop} {Q : Exit → Act → World → Prop} (s x : Operand) (t : TypeId)
    (ho : o.op = .call { callee := .builtin .append, args := #[s, x], argTypes := #[t, t] }) (vs vx : Value) (hs : a.eval s = vs) (hx : a.eval x = vx) (v' : Value) (w' : World)
    (hr : (Builtin.append_ #[t, t] o.type #[vs, vx]).run P w = .ok v' w') (h : K (a.put o.dst v') w') : o.wp P a w K Q := by
  unfold Oper.wp execOp
  simp only [ho, resolve, invoke, builtin, Sem.run_bind, Sem.run_pure, Result.andThen_ok, List.map_toArray, List.map_cons, List.map_nil, hs, hx, hr]
  exact h
theorem row_take {w : World} {a : Option Addr} {n c : Nat} {E : List Nat} (h : Row w a n c E) (hn : 1 ≤ n) : Row w a (n - 1) c (E.take (E.length - 1)) := by
  have hl := h.len
  refine ⟨by simp; omega, by have := h.cap_; omega, fun e => by have := h.none_ e; omega, fun x hx j u hu => ?_, fun x hx => h.small x (List.mem_of_mem_take hx)⟩
  have hj : j < (E.take (E.length - 1)).length := by have := (List.getElem?_eq_some_iff.1 hu).1; rwa [u8s_length] at this
  rw [u8s_get _ j hj] at hu
  cases hu
  have hj' : j < E.length := by simp at hj; omega
  rw [List.getElem_take]
  exact h.cells x hx j _ (u8s_get E j hj')
theorem blk_some {g j : Nat} (h : Blk (some ⟨g, 0, none⟩) j) : j = g := by
  obtain ⟨x, hx, rfl⟩ := h
  simp only [Option.some.injEq] at hx
  rw [← hx]
end Go.Proofs.Ytjncgpekmilpeaa
