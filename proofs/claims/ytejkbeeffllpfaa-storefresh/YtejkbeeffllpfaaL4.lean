import Derived.Test.YtejkbeeffllpfaaL3
namespace Go.Proofs.Ytejkbeeffllpfaa
open Go.RowKit
set_option linter.unusedVariables false
set_option linter.unusedSimpArgs false

theorem wpAnyH_norm {P : Program} {md : Region.Mode} {ops : Array Oper} {Q : Exit → Act → World → Prop} {S : World → Prop} {fuel f2 : Nat} {listed l2 : Array Bool} {a : Act} {w : World} (hl : listed = l2) (hf : fuel = f2) (h : wpAnyH P md ops Q S f2 l2 a w) : wpAnyH P md ops Q S fuel listed a w := by
  subst hl hf
  exact h
theorem share {P : Program} {md : Region.Mode} {ops : Array Oper} {Q : Exit → Act → World → Prop} {S : World → Prop} {f0 : Nat} {l0 : Array Bool} {a0 : Act} {u0 : World} (X : Type) (f : Nat) (l : Array Bool) (A : Act → X → Act) (pre : X → World → Prop)
    (key : ∀ (x : X) (u : World), pre x u → wpAnyH P md ops Q S f l (A a0 x) u)
    (h : Hid (∀ (x : X) (u : World), pre x u → wpAnyH P md ops Q S f l (A a0 x) u) → wpAnyH P md ops Q S f0 l0 a0 u0) : wpAnyH P md ops Q S f0 l0 a0 u0 := h key
theorem wp_append_known {P : Program} {w : World} {o : Oper} {a : Act} {K : Act → World → Prop} {Q : Exit → Act → World → Prop} (s x : Operand) (t : TypeId)
    (ho : o.op = .call { callee := .builtin .append, args := #[s, x], argTypes := #[t, t] }) (vs vx : Value) (hs : a.eval s = vs) (hx : a.eval x = vx) (v' : Value) (w' : World)
    (hr : (Builtin.append_ #[t, t] o.type #[vs, vx]).run P w = .ok v' w') (h : K (a.put o.dst v') w') : o.wp P a w K Q := by
  unfold Oper.wp execOp
  simp only [ho, resolve, invoke, builtin, Sem.run_bind, Sem.run_pure, Result.andThen_ok, List.map_toArray, List.map_cons, List.map_nil, hs, hx, hr]
  exact h
/-- Create, in one. -/
theorem st_create_any (z : Sid) (nx : Int) (Os : List Ob) (k : Nat) (w : World) (h : St w z nx Os) :
    Calls Try.prog 8 #[.pointer (some ⟨z.s, 0, none⟩), .int .i64 (k : Int)] w fun e w' => ∃ id nx' Ps, e = .returned (.tuple #[.int .i64 id, .int .i64 (mayE z.room z.n nx Os (k : Int))]) ∧ (mayE z.room z.n nx Os (k : Int) = 0 → id = nx ∧ nx' = nx + 1 ∧ ∃ P a, Ps = Os ++ [⟨nx, List.replicate k 0, P, a⟩]) ∧ (mayE z.room z.n nx Os (k : Int) ≠ 0 → nx' = nx ∧ Ps = Os) ∧
      (∀ j, Rb Ps j → Rb Os j ∨ (w.heap.size ≤ j ∧ j < w'.heap.size)) ∧ St w' z nx' Ps ∧ But (Zb z) w w' := by
  by_cases hE : mayE z.room z.n nx Os (k : Int) = 0
  · refine (st_create_ok z nx Os k w h hE).mono ?_
    rintro e w' ⟨P, a, rfl, hb, hS, hB⟩
    refine ⟨nx, nx + 1, _, by rw [hE], fun _ => ⟨rfl, rfl, P, a, rfl⟩, fun h => absurd hE h, fun j hj => ?_, hS, hB⟩
    obtain ⟨o, ho, hj⟩ := hj
    rcases List.mem_append.1 ho with h1 | h1
    · exact .inl ⟨o, h1, hj⟩
    · simp only [List.mem_singleton] at h1
      subst h1
      exact .inr (hb j hj)
  · refine (st_create_bad z nx Os (k : Int) _ w h rfl hE).mono ?_
    rintro e w' ⟨rfl, hb⟩
    exact ⟨0, nx, Os, rfl, fun h => absurd h hE, fun _ => ⟨rfl, rfl⟩, fun j hj => .inl hj, h.later hb, But.of hb⟩
/-- What a new one reads. -/
theorem read_new {Os : List Ob} {nx : Int} {k : Nat} {P : List Nat} {a : Option Addr} (hr : ∀ p ∈ Os, p.id < nx) (hk : k ≤ 1023) : rdE (Os ++ [⟨nx, List.replicate k 0, P, a⟩]) nx 0 (k : Int) = 0 ∧ rdL (Os ++ [⟨nx, List.replicate k 0, P, a⟩]) nx 0 (k : Int) = List.replicate k 0 := by
  have h := at_last (Os := Os) (o := ⟨nx, List.replicate k 0, P, a⟩) hr
  simp only at h
  unfold rdE rdL
  rw [h]
  have hc : 0 ≤ (0 : Int) ∧ 0 ≤ (k : Int) ∧ (k : Int) ≤ 1024 ∧ 0 + (k : Int) ≤ ((List.replicate k 0 : List Nat).length : Int) := by simp; omega
  constructor
  · simp only [if_pos hc]
  · simp only [if_pos hc]
    simp
theorem usedN_append (Os : List Ob) (o : Ob) : usedN (Os ++ [o]) = usedN Os + needN o.data.length := by simp [usedN]
theorem make_zeros (k : Nat) (hk : k ≤ 140737488355328) : ∃ Z : Array Value, Z.toList = u8s (List.replicate k 0) ∧ ∀ W : World, (Instr.makeSlice 30 (.int .i64 (k : Int)) (.int .i64 (k : Int))).run Try.prog W = .ok (.slice (some ⟨W.heap.size, 0, none⟩) k k) (W.alloc (.cells Z 5)) := by
  obtain ⟨i, hi, hz0, hz1, hz2⟩ := info_parts info5
  refine ⟨madeCells (Value.int .u8 0).cells k, ?_, fun W => ?_⟩
  · refine List.ext_getElem (by simp [size_madeCells, u8s_length]) fun j h1 h2 => ?_
    have e : (Value.int .u8 0).cells = #[.int .u8 0] := rfl
    simp [madeCells, u8s, e, Nat.mod_one]
  · have hr := run_make (P := Try.prog) W 30 5 i _ Try.underlying30 hi hz0 .i64 .i64 (k : Int) (k : Int) (by omega) (by omega) (by rw [hz2]; omega) (by omega)
    simp only [Int.toNat_natCast, hz1, Nat.mul_one] at hr
    exact hr
theorem row_of_cells (w : World) (L : List Nat) (Z : Array Value) (h : Z.toList = u8s L) : Row (w.alloc (.cells Z 5)) (some ⟨w.heap.size, 0, none⟩) L.length L.length (u8s L) := by
  have : Z = (u8s L).toArray := by rw [← h]
  rw [this]
  exact row_new w L 5
/-- What a write leaves of the law's own row. -/
def wf (L D : List Nat) (off j : Nat) : Nat → Nat := fun x => if off ≤ x ∧ x < off + j then D.getD (x - off) 0 else L.getD x 0
theorem wf_next (L D : List Nat) (off j x : Nat) : wf L D off (j + 1) x = if x = off + j then D.getD j 0 else wf L D off j x := by
  unfold wf
  by_cases e : x = off + j
  · subst e
    rw [if_pos (by omega), if_pos rfl, Nat.add_sub_cancel_left]
  · rw [if_neg e]
    by_cases h : off ≤ x ∧ x < off + j
    · rw [if_pos h, if_pos (by omega)]
    · rw [if_neg h, if_neg (by omega)]
theorem wf_zero (L D : List Nat) (off : Nat) : wf L D off 0 = fun x => L.getD x 0 := by
  funext x
  unfold wf
  rw [if_neg (by omega)]
theorem wf_all {L D : List Nat} {off : Nat} (h : off + D.length ≤ L.length) : wf L D off D.length = fun x => (putL L D off).getD x 0 := by
  funext x
  rw [putL_get h]
  rfl
/-- The lists behind a write. -/
theorem Lv.wrote {w w' : World} {base : Nat} {col : Nat → Nat} {z : Sid} {nx : Int} {Ps Os : List Ob} {G : Int → Nat} {aI : Option Addr} {cI : Nat} {aS : Option Addr} {cS : Nat} {aW : Option Addr} {cW : Nat} {id off : Int} {D : List Nat} (h : Lv w base col z nx Ps Os G aI cI aS cS aW cW)
    (hP : Ps = wrO Os id off D) {o : Ob} (ho : at? Os id = some o) (hr : Os.Pairwise (fun a b => a.id < b.id)) (hpos : ∀ p ∈ Os, 1 ≤ p.id) (hb : But (· = G id) w w') (hC : Cel w' (G id) o.data.length (wf o.data D off.toNat (if rdE Os id off (D.length : Int) = 0 then D.length else 0))) : Lv w' base col z nx Ps Ps G aI cI aS cS aW cW := by
  have hm := at_mem ho
  have hG : col (G id) = 10 + id.toNat := by rw [← hm.2]; exact h.kG o hm.1
  have hne : ∀ k c, col k = c → c < 10 → ¬ k = G id := fun k c hk hc e => by rw [e, hG] at hk; omega
  have hst := h.st.but hb (fun k hk => hne k 5 (h.kZ k hk) (by decide)) (fun k hk => hne k 6 (h.kR k hk) (by decide))
  have h1 := h.rI.but hb (fun k hk => hne k 1 (h.kI k hk) (by decide))
  have h2 := h.rS.but hb (fun k hk => hne k 2 (h.kS k hk) (by decide))
  have h3 := h.rW.but hb (fun k hk => hne k 3 (h.kW k hk) (by decide))
  have hge : ∀ p ∈ Os, p.id ≠ id → ¬ G p.id = G id := fun p hp e he => by
    have e1 := h.kG p hp
    rw [he, hG] at e1
    have e2 := hpos p hp
    have e3 := hpos o hm.1
    have e4 := hm.2
    omega
  by_cases hE : rdE Os id off (D.length : Int) = 0
  · rw [if_pos hE] at hC
    have hcond : 0 ≤ off ∧ off.toNat + D.length ≤ o.data.length := by
      unfold rdE at hE
      rw [ho] at hE
      simp only at hE
      split at hE
      · omega
      · omega
    have hP2 : Ps = Os.map (setO id off.toNat D) := by rw [hP]; unfold wrO; rw [if_pos hE]
    have hall : ∀ p ∈ Os, p.id = id → off.toNat + D.length ≤ p.data.length := fun p hp e => by rw [at_uniq hr ho hp e]; exact hcond.2
    have hdl : ∀ p ∈ Os, (setO id off.toNat D p).data.length = p.data.length := fun p hp => by
      unfold setO
      split
      · exact putL_length (hall p hp (by assumption))
      · rfl
    have hmem : ∀ q ∈ Ps, ∃ p ∈ Os, q = setO id off.toNat D p := fun q hq => by
      rw [hP2] at hq
      obtain ⟨p, hp, e⟩ := List.mem_map.1 hq
      exact ⟨p, hp, e.symm⟩
    have hlen : Ps.length = Os.length := by rw [hP2, List.length_map]
    have m1 : Ps.map Ob.id = Os.map Ob.id := by
      rw [hP2, List.map_map]
      exact List.map_congr_left fun p _ => setO_id _ _ _ p
    have m2 : (Ps.map fun o => (o.data.length : Int)) = Os.map fun o => (o.data.length : Int) := by
      rw [hP2, List.map_map]
      exact List.map_congr_left fun p hp => by simp only [Function.comp]; rw [hdl p hp]
    have m3 : Ps.map (wv G) = Os.map (wv G) := by
      rw [hP2, List.map_map]
      exact List.map_congr_left fun p hp => by simp only [Function.comp, wv, setO_id]; rw [hdl p hp]
    refine ⟨hst, by rw [hlen, m1]; exact h1, by rw [hlen, m2]; exact h2, by rw [hlen, m3]; exact h3, fun q hq => ?_, h.kI, h.kS, h.kW, fun q hq => ?_, h.kZ, h.kR, fun k hk => Nat.lt_of_lt_of_le (h.lt k hk) hb.size, h.ge, Nat.le_trans h.hb hb.size, fun q hq => ?_⟩
    · obtain ⟨p, hp, rfl⟩ := hmem q hq
      rw [setO_id, hdl p hp]
      by_cases e : p.id = id
      · obtain rfl := at_uniq hr ho hp e
        rw [e]
        have e2 : (setO id off.toNat D p).data = putL p.data D off.toNat := by unfold setO; rw [if_pos e]
        rw [e2, ← wf_all hcond.2]
        exact hC
      · have e2 : (setO id off.toNat D p).data = p.data := by unfold setO; rw [if_neg e]
        rw [e2]
        exact (h.cel p hp).but hb (hge p hp e)
    · obtain ⟨p, hp, rfl⟩ := hmem q hq
      rw [setO_id]
      exact h.kG p hp
    · obtain ⟨p, hp, rfl⟩ := hmem q hq
      rw [hdl p hp]
      exact h.sml p hp
  · rw [if_neg hE, wf_zero] at hC
    have hP2 : Ps = Os := by rw [hP]; unfold wrO; rw [if_neg hE]
    rw [hP2] at hst ⊢
    refine ⟨hst, h1, h2, h3, fun q hq => ?_, h.kI, h.kS, h.kW, h.kG, h.kZ, by rw [← hP2]; exact h.kR, fun k hk => Nat.lt_of_lt_of_le (h.lt k hk) hb.size, h.ge, Nat.le_trans h.hb hb.size, h.sml⟩
    by_cases e : q.id = id
    · obtain rfl := at_uniq hr ho hq e
      rw [e]
      exact hC
    · exact (h.cel q hq).but hb (hge q hq e)
/-- The answer of a write as the law asks it. -/
theorem rdE_at {Os : List Ob} {id : Int} {o : Ob} (ho : at? Os id = some o) (off m : Nat) : rdE Os id (off : Int) (m : Int) = if off + m ≤ o.data.length ∧ m ≤ 1024 then 0 else 5 := by
  unfold rdE
  rw [ho]
  simp only
  by_cases h : off + m ≤ o.data.length ∧ m ≤ 1024
  · rw [if_pos h, if_pos (by omega)]
  · rw [if_neg h, if_neg (by omega)]
theorem rdL_all {Os : List Ob} {id : Int} {o : Ob} (ho : at? Os id = some o) (hs : o.data.length ≤ 1023) : rdE Os id 0 (o.data.length : Int) = 0 ∧ rdL Os id 0 (o.data.length : Int) = o.data := by
  unfold rdE rdL
  rw [ho]
  have hc : 0 ≤ (0 : Int) ∧ 0 ≤ (o.data.length : Int) ∧ (o.data.length : Int) ≤ 1024 ∧ 0 + (o.data.length : Int) ≤ (o.data.length : Int) := by omega
  constructor
  · simp only [if_pos hc]
  · simp only [if_pos hc]
    simp
end Go.Proofs.Ytejkbeeffllpfaa
