import Derived.Test.YthfmmfphnimlnaaIC
import Derived.ProofKit
import Derived.Maps.Own
import Derived.MapKept
namespace Go.Proofs.Ythfmmfphnimlnaa
open Go.RowKit
set_option linter.unusedVariables false
set_option linter.unusedSimpArgs false
abbrev capV (c : Cp) : Value := .agg #[.int .i64 c.o, .int .u64 (c.h : Int), .int .u64 (c.l : Int)]
theorem laidOut : laidOutB Try.prog = true := by kernel_rfl
theorem ckey : WideMaps.KeyLaw Try.prog 65 := deep_law_laid laidOut (m := 5) (by omega) (of_decide_eq_true (by kernel_rfl)) (by kernel_rfl) (by kernel_rfl)
def Cp.far (c : Cp) : Prop := c.ok ∧ -9223372036854775808 ≤ c.o ∧ c.o ≤ 9223372036854775807
set_option maxRecDepth 100000 in
theorem kcap {c : Cp} (h : c.far) : ∃ l, keyOf Try.prog 65 (capV c) = some l := by
  obtain ⟨⟨h1, h2⟩, h3, h4⟩ := h
  have w1 : (Lit.int .i64 c.o).wf = true := WalkArith.wf_i64 (by omega)
  have w2 : (Lit.int .u64 (c.h : Int)).wf = true := WalkArith.wf_u64 (by omega)
  have w3 : (Lit.int .u64 (c.l : Int)).wf = true := WalkArith.wf_u64 (by omega)
  have kt : Try.prog.keyType 65 = true := by kernel_rfl
  have c1 : Try.prog.cellsOf 65 = 3 := by kernel_rfl
  have c2 : Try.prog.cellsOf 63 = 2 := by kernel_rfl
  have c3 : Try.prog.cellsOf 3 = 1 := by kernel_rfl
  have c4 : Try.prog.cellsOf 61 = 1 := by kernel_rfl
  have n1 : Try.prog.types.size = 152 + 3 := by kernel_rfl
  have k1 : ∀ m, Try.prog.keyLits (m + 1) 3 [.int .i64 c.o] = some [.int .i64 c.o] := by intro m; simp [Program.keyLits, Try.underlying3, w1]
  have k2 : ∀ m, Try.prog.keyLits (m + 1) 61 [.int .u64 (c.h : Int)] = some [.int .u64 (c.h : Int)] := by intro m; simp [Program.keyLits, Try.underlying61, w2]
  have k3 : ∀ m, Try.prog.keyLits (m + 1) 61 [.int .u64 (c.l : Int)] = some [.int .u64 (c.l : Int)] := by intro m; simp [Program.keyLits, Try.underlying61, w3]
  have k4 : ∀ m, Try.prog.keyLits (m + 2) 63 [.int .u64 (c.h : Int), .int .u64 (c.l : Int)] = some [.int .u64 (c.h : Int), .int .u64 (c.l : Int)] := by
    intro m
    unfold Program.keyLits
    rw [Try.underlying63]
    simp [c2, c4, k2, k3]
  have k5 : ∀ m, Try.prog.keyLits (m + 3) 65 [.int .i64 c.o, .int .u64 (c.h : Int), .int .u64 (c.l : Int)] = some [.int .i64 c.o, .int .u64 (c.h : Int), .int .u64 (c.l : Int)] := by
    intro m
    unfold Program.keyLits
    rw [Try.underlying65]
    simp [c1, c2, c3, k1, k4]
  have hf : (capV c).formed Try.prog 65 = true := by
    simp [Value.formed, Try.underlying65, c1]
  refine ⟨.string (keyBytes [.int .i64 c.o, .int .u64 (c.h : Int), .int .u64 (c.l : Int)]), ?_⟩
  · unfold keyOf
    rw [Try.underlying65]
    simp only
    rw [kt, hf, n1, show (capV c).cells.toList = [.int .i64 c.o, .int .u64 (c.h : Int), .int .u64 (c.l : Int)] from rfl, k5]
    rfl
/-- A set of capabilities. -/
structure Mp (w : World) (b : Nat) (D : List Cp) : Prop where
  ex : ∃ es clk, w.heap[b]? = some (.map es clk) ∧ es.toList.map MapEntry.key = D.map capV
  ok : ∀ c ∈ D, c.far
theorem Mp.new (w : World) : Mp (w.alloc (.map #[] 0)) w.heap.size [] := ⟨⟨#[], 0, (MapKept.heap_alloc w _).1, rfl⟩, fun c h => by cases h⟩
theorem capV_inj {c d : Cp} (h : capV c = capV d) : c = d := by
  obtain ⟨co, ch, cl⟩ := c
  obtain ⟨eo, eh, el⟩ := d
  simp at h
  obtain ⟨rfl, h2, h3⟩ := h
  have : ch = eh := by omega
  have : cl = el := by omega
  subst_vars
  rfl
def insC (D : List Cp) (c : Cp) : List Cp := if c ∈ D then D else D ++ [c]
theorem Mp.put {w : World} {b : Nat} {D : List Cp} (h : Mp w b D) {c : Cp} (hc : c.far) (v : Value) :
    ∃ w', (Instr.mapUpdate 115 (.map (some b)) (capV c) v).run Try.prog w = .ok () w' ∧ Mp w' b (insC D c) ∧ But (· = b) w w' := by
  obtain ⟨es, clk, hb, hk⟩ := h.ex
  obtain ⟨l, hl⟩ := kcap hc
  have hmem : ∀ e ∈ es.toList, ∃ d ∈ D, e.key = capV d := fun e he => by
    have : e.key ∈ D.map capV := by rw [← hk]; exact List.mem_map_of_mem he
    obtain ⟨d, hd, e2⟩ := List.mem_map.1 this
    exact ⟨d, hd, e2.symm⟩
  have hall : ∀ e ∈ es.toList, ∃ l, keyOf Try.prog 65 e.key = some l := fun e he => by
    obtain ⟨d, hd, e2⟩ := hmem e he
    rw [e2]
    exact kcap (h.ok d hd)
  have hck := ckey.check w false hl
  have hbl : b < w.heap.size := (Array.getElem?_eq_some_iff.1 hb).1
  rcases ckey.find w hl es.toList hall with ⟨hf, hn⟩ | ⟨j, e, hf, hj, he⟩
  · refine ⟨_, by simp only [Instr.mapUpdate, Sem.run_bind, run_underlying Try.underlying115, Result.andThen_ok, MapKept.run_getObj_map hb, hck, hf, MapKept.run_setObj_map _ hb]; rfl, ⟨⟨_, _, (MapKept.heap_set hb).1, ?_⟩, ?_⟩, ?_⟩
    · have hcn : c ∉ D := fun hcD => by
        have : capV c ∈ es.toList.map MapEntry.key := by rw [hk]; exact List.mem_map_of_mem hcD
        obtain ⟨e, he, e2⟩ := List.mem_map.1 this
        exact hn e he e2
      unfold insC
      rw [if_neg hcn]
      simp [hk]
    · intro d hd
      unfold insC at hd
      split at hd
      · exact h.ok d hd
      · rcases List.mem_append.1 hd with hd | hd
        · exact h.ok d hd
        · rw [List.mem_singleton.1 hd]; exact hc
    · exact ⟨rfl, rfl, rfl, by simp, fun k hk hn => (MapKept.heap_set hb).2 k hn⟩
  · have hj2 : es[j]? = some e := by simpa using hj
    have hcD : c ∈ D := by
      obtain ⟨d, hd, e2⟩ := hmem e (List.mem_of_getElem? hj)
      rw [he] at e2
      rw [capV_inj e2]; exact hd
    have hst := ckey.stays w hl
    refine ⟨_, by simp only [Instr.mapUpdate, Sem.run_bind, run_underlying Try.underlying115, Result.andThen_ok, MapKept.run_getObj_map hb, hck, hf, hj2, Option.map_some, Option.getD_some, he, hst, MapKept.run_setObj_map _ hb]; rfl, ⟨⟨_, _, (MapKept.heap_set hb).1, ?_⟩, ?_⟩, ?_⟩
    · unfold insC
      rw [if_pos hcD, ← hk]
      apply List.ext_getElem?
      intro i
      simp only [List.getElem?_map, Array.getElem?_toList, Array.getElem?_modify]
      by_cases e3 : j = i
      · subst e3
        rw [if_pos rfl, hj2]
        simp [he]
      · rw [if_neg e3]
    · intro d hd
      unfold insC at hd
      rw [if_pos hcD] at hd
      exact h.ok d hd
    · exact ⟨rfl, rfl, rfl, by simp, fun k hk hn => (MapKept.heap_set hb).2 k hn⟩
theorem Mp.but {S : Nat → Prop} {w w' : World} {b : Nat} {D : List Cp} (h : Mp w b D) (hb : But S w w') (hn : ¬ S b) : Mp w' b D := by
  obtain ⟨es, clk, h1, h2⟩ := h.ex
  exact ⟨⟨es, clk, by rw [hb.block b (Array.getElem?_eq_some_iff.1 h1).1 hn]; exact h1, h2⟩, h.ok⟩
theorem Mp.later {w w' : World} {b : Nat} {D : List Cp} (h : Mp w b D) (hb : Below w.heap.size w w') : Mp w' b D := h.but (S := fun _ => False) (But.of hb) (fun h => h)
theorem Mp.lt {w : World} {b : Nat} {D : List Cp} (h : Mp w b D) : b < w.heap.size := by
  obtain ⟨es, clk, h1, h2⟩ := h.ex
  exact (Array.getElem?_eq_some_iff.1 h1).1
theorem Mp.len {w : World} {b : Nat} {D : List Cp} (h : Mp w b D) (ty : TypeId) : (Builtin.len_ #[115] ty #[.map (some b)]).run Try.prog w = .ok (.int .i64 (D.length : Int)) w := by
  obtain ⟨es, clk, h1, h2⟩ := h.ex
  have : es.size = D.length := by have := congrArg List.length h2; simpa using this
  simp [Builtin.len_, run_underlying Try.underlying115, MapKept.run_getObj_map h1, this, goInt]
theorem upd_arm {P : Program} {w w' : World} {ops : Array Oper} {rest : List Oper} {a : Act} {Q : Exit → Act → World → Prop} {tt : TypeId} {ps : String} {af} {t : TypeId} {x y z : Operand} {p k v : Value}
    (hr : (Instr.mapUpdate t p k v).run P w = .ok () w') (hx : a.eval x = p) (hy : a.eval y = k) (hz : a.eval z = v) (h : wpList P ops Q rest a w') :
    wpList P ops Q ({ dst := none, op := .mapUpdate t x y z, type := tt, pos := ps, after := af, guard := none } :: rest) a w := by
  refine wpList_plain rfl fun K hK => ?_
  unfold Oper.wp
  simp [execOp, hx, hy, hz, hr, Result.andThen]
  exact hK _ _ h
theorem wpList_len_known {P : Program} {w : World} {ops : Array Oper} {rest : List Oper} {o : Oper} {a : Act} {Q : Exit → Act → World → Prop} (hgd : o.guard = none) (x : Operand) (t : TypeId)
    (ho : o.op = .call { callee := .builtin .len, args := #[x], argTypes := #[t] }) (vx : Value) (hx : a.eval x = vx) (v' : Value)
    (hr : (Builtin.len_ #[t] o.type #[vx]).run P w = .ok v' w) (h : wpList P ops Q rest (a.put o.dst v') w) : wpList P ops Q (o :: rest) a w := by
  refine wpList_plain hgd fun K hK => ?_
  unfold Oper.wp execOp
  simp only [ho, resolve, invoke, builtin, Sem.run_bind, Sem.run_pure, Result.andThen_ok, List.map_toArray, List.map_cons, List.map_nil, hx, hr]
  exact hK _ _ h
end Go.Proofs.Ythfmmfphnimlnaa
