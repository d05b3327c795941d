import Derived.Test.YtaffgoacbiedlaaU3
import Derived.Test.YtaffgoacbiedlaaT5
namespace Go.Proofs.Ytaffgoacbiedlaa
open Go.RowKit
set_option linter.unusedVariables false
set_option linter.unusedSimpArgs false

theorem und28' : Try.prog.underlying 28 = some (.slice (Try.prog.elem 28)) := by kernel_rfl
theorem el28 : Try.prog.elem 28 = 5 := by kernel_rfl
theorem sz5' (w : World) : (sizeOf 5).run Try.prog w = .ok 1 w := by
  obtain ⟨i, hi, hz0, hz1, hz2⟩ := info_parts info5
  simp [sizeOf, typeInfo, hi, hz1]
/-- Where a list of bytes goes on behind i of them. -/
def cutB (a : Option Addr) (c i : Nat) : Option Addr := if c = i then a else a.map (·.add i)
theorem slice_lo (w : World) (a : Option Addr) (n c i : Nat) (h : i ≤ n) (hn : n ≤ c) : (Instr.sliceAt 28 (.slice a n c) (some (.int .i64 (i : Int))) none none).run Try.prog w = .ok (.slice (cutB a c i) (n - i) (c - i)) w := by
  rw [run_sliceAt_slice _ _ _ _ _ _ und28', run_slice_l _ _ _ _ _ und28' _ _ (by omega) (by omega), el28, sz5']
  simp [sliced, cutB]
theorem Row.drop {w : World} {a : Option Addr} {n cap : Nat} {L : List Nat} (h : Row w a n cap L) (i : Nat) (hi : i ≤ n) : Row w (cutB a cap i) (n - i) (cap - i) (L.drop i) := by
  have hl := h.len
  have hc := h.cap_
  refine ⟨by rw [List.length_drop, hl], by omega, fun e => ?_, fun x hx j u hu => ?_, fun x hx => h.small x (List.mem_of_mem_drop hx)⟩
  · unfold cutB at e
    split at e
    · omega
    · cases a with
      | none => have := h.none_ rfl; omega
      | some y => cases e
  · have hj : j < n - i := by
      have := (List.getElem?_eq_some_iff.1 hu).1
      simp [u8s, hl] at this
      omega
    unfold cutB at hx
    rw [if_neg (by omega)] at hx
    cases a with
    | none => cases hx
    | some y =>
      cases hx
      have := h.cells y rfl (i + j) u (by simpa [u8s, List.map_drop] using hu)
      rw [← this]
      by_cases h1 : i = 0 <;> by_cases h2 : j = 0 <;> simp [Addr.add, h1, h2, Nat.add_assoc]
theorem wp_append_known {P : Program} {w : World} {o : Oper} {a : Act} {K : Act → World → Prop} {Q : Exit → Act → World → Prop} (s x : Operand) (t : TypeId)
    (ho : o.op = .call { callee := .builtin .append, args := #[s, x], argTypes := #[t, t] }) (vs vx : Value) (hs : a.eval s = vs) (hx : a.eval x = vx) (v' : Value) (w' : World)
    (hr : (Builtin.append_ #[t, t] o.type #[vs, vx]).run P w = .ok v' w') (h : K (a.put o.dst v') w') : o.wp P a w K Q := by
  unfold Oper.wp execOp
  simp only [ho, resolve, invoke, builtin, Sem.run_bind, Sem.run_pure, Result.andThen_ok, List.map_toArray, List.map_cons, List.map_nil, hs, hx, hr]
  exact h
theorem ex_slice {P : Program} {w : World} {o : Oper} {ρ : Operand → Value} {ty : TypeId} {x : Operand} {lo hi mx : Option Operand} {vx v : Value} {vlo vhi vmx : Option Value}
    (ho : o.op = .slice ty x lo hi mx) (hx : ρ x = vx) (h1 : lo.map ρ = vlo) (h2 : hi.map ρ = vhi) (h3 : mx.map ρ = vmx) (hr : (Instr.sliceAt ty vx vlo vhi vmx).run P w = .ok v w) : (execOp ρ o).run P w = .ok (.value v) w := by
  unfold execOp
  simp only [ho, hx, h1, h2, h3, hr, Sem.run_bind, Sem.run_pure, Result.andThen_ok]
end Go.Proofs.Ytaffgoacbiedlaa
