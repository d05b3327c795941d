import Derived.Test.YthfmmfphnimlnaaIL
import Derived.Test.YthfmmfphnimlnaaIP
import Derived.Test.YthfmmfphnimlnaaIQ
import Derived.Test.YthfmmfphnimlnaaIR
namespace Go.Proofs.Ythfmmfphnimlnaa
open Go.RowKit
set_option linter.unusedVariables false
set_option linter.unusedSimpArgs false
/-- What a state that keeps the rules has. -/
structure Good (c : Cf) (s : St) : Prop where
  cf : ∀ n ∈ c.l10, 0 ≤ n ∧ n < 65536
  ol : s.O.length ≤ 64
  oo : ∀ o ∈ s.O, 0 ≤ o.id ∧ o.id ≤ MI ∧ o.b.length ≤ 4096
  nx : 1 ≤ s.nx ∧ s.nx ≤ MI + 1
  tl : s.T.length ≤ 256
  tt : ∀ t ∈ s.T, 0 ≤ t.c.o ∧ t.c.o ≤ MI ∧ 0 ≤ t.r ∧ t.r < 256 ∧ (t.p = -1 ∨ 0 ≤ t.p ∧ t.p < 65535)
  pl : s.P.length ≤ 32
  pp : ∀ p ∈ s.P, 0 ≤ p.n ∧ p.n < 65536 ∧ p.l.length ≤ 32 ∧ ∀ x ∈ p.l, 0 ≤ x.o ∧ x.o ≤ MI
  px : 1 ≤ s.px ∧ s.px ≤ 65536
theorem obS_len : ∀ (O : List Ob) (l p r : Int), obS O l p = some r → ∀ o ∈ O, o.b.length ≤ 4096
  | [], _, _, _, _, o, h => by cases h
  | x :: O, l, p, r, h, o, ho => by
    rw [obS_cons] at h
    by_cases hc : (wi x.id l MI && decide (x.b.length ≤ 4096)) = true
    · rw [if_pos hc] at h
      rw [Bool.and_eq_true, decide_eq_true_eq] at hc
      rcases List.mem_cons.1 ho with rfl | ho
      · exact hc.2
      · exact obS_len O _ _ _ h o ho
    · rw [if_neg hc] at h; cases h
theorem prS_all (c : Cf) : ∀ (P : List Pc) (l r : Int), 0 ≤ l → prS c P l = some r → ∀ p ∈ P, 0 ≤ p.n ∧ p.n ≤ 65535 ∧ lstB c p.l = true
  | [], _, _, _, _, p, h => by cases h
  | x :: P, l, r, h0, h, p, hp => by
    rw [prS_cons] at h
    by_cases hc : (wi x.n l 65535 && lstB c x.l) = true
    · rw [if_pos hc] at h
      rw [Bool.and_eq_true, wi_iff] at hc
      rcases List.mem_cons.1 hp with rfl | hp
      · exact ⟨by omega, by omega, hc.2⟩
      · exact prS_all c P _ _ (by omega) h p hp
    · rw [if_neg hc] at h; cases h
theorem good_of {c : Cf} {s : St} {d : Int} (h : chk c s d = 0) : Good c s ∧ 0 ≤ s.ta ∧ s.ta ≤ d := by
  have hz := chk_zero h
  have h1 : cfgB c = true := hz 1 (by omega)
  have h2 : objB c s.O = true := hz 2 (by omega)
  have h3 : nxtB s = true := hz 3 (by omega)
  have h4 : tokB c s = true := hz 4 (by omega)
  have h5 : kinB s.T = true := hz 5 (by omega)
  have h7 : prcB c s = true := hz 7 (by omega)
  have h8 : wi s.ta 0 d = true := hz 8 (by omega)
  have hc := cfg_o h1
  obtain ⟨r, hr, _, hol⟩ := objB_some h2
  have hid := obS_ids _ _ _ _ hr
  have hMI : MI = 4611686018427387904 := rfl
  unfold tokB at h4
  rw [Bool.and_eq_true, decide_eq_true_eq] at h4
  unfold nxtB at h3
  rw [Bool.and_eq_true, wi_iff] at h3
  unfold prcB at h7
  rw [Bool.and_eq_true, decide_eq_true_eq] at h7
  have hk : ∀ i, i < s.T.length → kAt s.T i = true := fun i hi => by
    unfold kinB at h5
    exact List.all_eq_true.1 h5 i (List.mem_range.2 hi)
  refine ⟨⟨?_, by omega, ?_, h3.1, by omega, ?_, by omega, ?_, ?_⟩, wi_iff.1 h8⟩
  · unfold cfgB at h1
    simp only [Bool.and_eq_true, wi_iff] at h1
    intro n hn
    simp only [Cf.l10, List.mem_cons, List.not_mem_nil, or_false] at hn
    rcases hn with rfl | rfl | rfl | rfl | rfl | rfl | rfl | rfl | rfl | rfl <;> omega
  · intro o ho
    have := hid.1 o ho
    exact ⟨by omega, this.2.1, obS_len _ _ _ _ hr o ho⟩
  · intro t ht
    obtain ⟨o, ho, e⟩ := tkS_mem h4.2 t ht
    have h9 := hid.1 o ho
    obtain ⟨i, hi, rfl⟩ := List.getElem_of_mem ht
    have e2 := tkA_of (List.getElem?_eq_getElem hi)
    have hv := kAt_rights (hk i hi)
    have hp := kAt_par s.T.length (fun j hj => hk j hj) i hi
    rw [e2] at hv hp
    have hv := validB_iff.1 hv
    omega
  · intro p hp
    cases e : prS c s.P 0 with
    | none => rw [e] at h7; simp [oPx] at h7
    | some m =>
      obtain ⟨h9, h10, h11⟩ := prS_all c _ _ _ (by omega) e p hp
      rw [lstB_eq, Bool.and_eq_true, decide_eq_true_eq, List.all_eq_true] at h11
      refine ⟨h9, by omega, by omega, fun x hx => ?_⟩
      have := h11.2 x hx
      unfold lsB at this
      rw [Bool.and_eq_true, wi_iff] at this
      exact this.1
  · cases e : prS c s.P 0 with
    | none => rw [e] at h7; simp [oPx] at h7
    | some m =>
      rw [e] at h7
      have := wi_iff.1 (show wi s.px (max m 1) 65536 = true from h7.2)
      omega
theorem wpAnyH_norm {P : Program} {md : Region.Mode} {ops : Array Oper} {Q : Exit → Act → World → Prop} {S : World → Prop} {fuel f2 : Nat} {listed l2 : Array Bool} {a : Act} {w : World} (hl : listed = l2) (hf : fuel = f2) (h : wpAnyH P md ops Q S f2 l2 a w) : wpAnyH P md ops Q S fuel listed a w := by
  subst hl hf
  exact h
theorem ex_ld {P : Program} {w : World} {o : Oper} {ρ : Operand → Value} {ty : TypeId} {x : Operand} {p v : Value} (ho : o.op = .load ty x) (hx : ρ x = p) (hr : (Instr.loadAt ty p).run P w = .ok v w) : (execOp ρ o).run P w = .ok (.value v) w := by
  unfold execOp
  simp only [ho, hx, hr, Sem.run_bind, Sem.run_pure, Result.andThen_ok]
end Go.Proofs.Ythfmmfphnimlnaa
