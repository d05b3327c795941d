import Derived.Test.YtgihdchgdejkhaaGreatDoorA1
import Derived.LaidEql
import Derived.Stop.Asserts
import Derived.RowKitTokens
namespace Go.Proofs.YtgihdchgdejkhaaGreatDoor.D
open Go.RowKit Go.Extern.Stop Go.Stop Go.Extern
set_option linter.unusedVariables false

/-! ### errors.As, at a refusal around a reason -/
/-- errors.As(nil, target). -/
theorem as_nil (t : Value) (w : World) :
    Calls Tryz.prog 56 #[.nilIface, t] w fun e w' => e = .returned (.bool false) ∧ w' = w := by
  go_enter Tryz.func56, Tryz.ntmps56
  go_wp2
  go_ret
  exact ⟨rfl, rfl⟩
theorem valueOf141 (t : Addr) (w : World) : (ReflectliteValue.unpack (.iface 141 (.pointer (some t)))).run Tryz.prog w
    = .ok (.agg #[.pointer (some ⟨1, 141, none⟩), .pointer (some ⟨w.heap.size, 0, none⟩), .int .u64 150]) (w.alloc (.cells #[.pointer (some t)] 141)) := by kernel_rfl
theorem type141 (a : Addr) (w : World) : (ReflectliteValue.methodAny (ReflectliteValue.valueError "reflectlite.Value.Type" 0) (fun t _ _ _ => ReflectliteType.toType t) #[.agg #[.pointer (some ⟨1, 141, none⟩), .pointer (some a), .int .u64 150]]).run Tryz.prog w
    = .ok (.iface 200 (.agg #[.pointer (some ⟨1, 141, none⟩)])) w := by kernel_rfl
theorem methodKind (h : Value) (w : World) : (Go.method 361 200 (.agg #[h]) "Kind").run Tryz.prog w = .ok (155, h) w := by kernel_rfl
theorem methodElem (h : Value) (w : World) : (Go.method 361 200 (.agg #[h]) "Elem").run Tryz.prog w = .ok (169, .agg #[h]) w := by kernel_rfl
theorem methodImplements (h : Value) (w : World) : (Go.method 361 200 (.agg #[h]) "Implements").run Tryz.prog w = .ok (170, .agg #[h]) w := by kernel_rfl
theorem methodAssignableTo (h : Value) (w : World) : (Go.method 361 200 (.agg #[h]) "AssignableTo").run Tryz.prog w = .ok (167, .agg #[h]) w := by kernel_rfl
theorem methodUnwrap (v : Value) (w : World) : (Go.method 361 171 v "Unwrap").run Tryz.prog w = .ok (162, v) w := by kernel_rfl
theorem kind141 (w : World) : ((ReflectliteType.abiMethod fun t => (fun a : Nat => Value.int IntKind.u8 (a : Int)) <$> Rtype.kind t) #[.pointer (some ⟨1, 141, none⟩)]).run Tryz.prog w = .ok (.int .u8 22) w := by kernel_rfl
theorem kind139 (w : World) : ((ReflectliteType.abiMethod fun t => (fun a : Nat => Value.int IntKind.u8 (a : Int)) <$> Rtype.kind t) #[.pointer (some ⟨1, 139, none⟩)]).run Tryz.prog w = .ok (.int .u8 25) w := by kernel_rfl
theorem rlm (z : Sem Value) (f : TypeId → Addr → Nat → Nat → Sem Value) (v : Value) :
    ReflectliteValue.method z f #[v] = (do match ← ReflectliteValue.parts v with | none => z | some (t, a, fl) => f t a fl (fl % 32)) := rfl
theorem parts141 (a : Addr) (w : World) : (ReflectliteValue.parts (.agg #[.pointer (some ⟨1, 141, none⟩), .pointer (some a), .int .u64 150])).run Tryz.prog w = .ok (some (141, a, 150)) w := by kernel_rfl
theorem isNil141 (a p : Addr) (W : World) (ha : W.cell? a = some (.pointer (some p))) :
    (ReflectliteValue.method (ReflectliteValue.valueError "reflectlite.Value.IsNil" 0) ReflectliteValue.isNil #[.agg #[.pointer (some ⟨1, 141, none⟩), .pointer (some a), .int .u64 150]]).run Tryz.prog W = .ok (.bool false) W := by
  rw [rlm]
  simp only [Sem.run_bind, parts141, Result.andThen]
  simp [ReflectliteValue.isNil, loadVar, isAgg, underlying, Tryz.underlying141, ha, Result.andThen]
theorem elem141 (w : World) : (ReflectliteType.method ReflectliteType.elem #[.agg #[.pointer (some ⟨1, 141, none⟩)]]).run Tryz.prog w = .ok (.iface 200 (.agg #[.pointer (some ⟨1, 139, none⟩)])) w := by kernel_rfl
theorem implements139 (w : World) : (ReflectliteType.relation "Implements" ReflectliteType.implements_ #[.agg #[.pointer (some ⟨1, 139, none⟩)], .iface 200 (.agg #[.pointer (some ⟨1, 78, none⟩)])]).run Tryz.prog w = .ok (.bool true) w := by kernel_rfl
theorem typeOf171 (v : Value) (w : World) : (ReflectliteType.typeOf #[.iface 171 v]).run Tryz.prog w = .ok (.iface 200 (.agg #[.pointer (some ⟨1, 171, none⟩)])) w := by kernel_rfl
theorem typeOf139 (v : Value) (w : World) : (ReflectliteType.typeOf #[.iface 139 v]).run Tryz.prog w = .ok (.iface 200 (.agg #[.pointer (some ⟨1, 139, none⟩)])) w := by kernel_rfl
theorem assignable171 (w : World) : (ReflectliteType.relation "AssignableTo" ReflectliteType.assignableTo #[.agg #[.pointer (some ⟨1, 171, none⟩)], .iface 200 (.agg #[.pointer (some ⟨1, 139, none⟩)])]).run Tryz.prog w = .ok (.bool false) w := by kernel_rfl
theorem assignable139 (w : World) : (ReflectliteType.relation "AssignableTo" ReflectliteType.assignableTo #[.agg #[.pointer (some ⟨1, 139, none⟩)], .iface 200 (.agg #[.pointer (some ⟨1, 139, none⟩)])]).run Tryz.prog w = .ok (.bool true) w := by kernel_rfl
theorem noAs171 (v : Value) (xT : TypeId) (w : World) : (Instr.typeAssert (.iface 171 v) xT 205 true).run Tryz.prog w = .ok (.tuple #[.nilIface, .bool false]) w := run_typeAssert_lacksB Tryz.underlying205 (by kernel_rfl) (by kernel_rfl) v xT w
theorem hasUnwrap171 (v : Value) (xT : TypeId) (w : World) : (Instr.typeAssert (.iface 171 v) xT 208 true).run Tryz.prog w = .ok (.tuple #[.iface 171 v, .bool true]) w := run_typeAssert_hasB Tryz.underlying208 (by kernel_rfl) v xT w
theorem valueOf139 (c : Int) (w : World) : (ReflectliteValue.unpack (.iface 139 (.agg #[.int .i64 c]))).run Tryz.prog w
    = .ok (.agg #[.pointer (some ⟨1, 139, none⟩), .pointer (some ⟨w.heap.size, 0, none⟩), .int .u64 153]) (w.alloc (.cells #[.int .i64 c] 139)) := by kernel_rfl
theorem elemOf141 (w : World) : (Rtype.elem? 141).run Tryz.prog w = .ok (some 139) w := by kernel_rfl
theorem mk139 (p : Addr) (w : World) : (ReflectliteValue.mk 139 p ReflectliteValue.flagAddr).run Tryz.prog w = .ok (.agg #[.pointer (some ⟨1, 139, none⟩), .pointer (some p), .int .u64 409]) w := by kernel_rfl
theorem elemV141 (a p : Addr) (W : World) (ha : W.cell? a = some (.pointer (some p))) :
    (ReflectliteValue.method (ReflectliteValue.valueError "reflectlite.Value.Elem" 0) ReflectliteValue.elem #[.agg #[.pointer (some ⟨1, 141, none⟩), .pointer (some a), .int .u64 150]]).run Tryz.prog W
      = .ok (.agg #[.pointer (some ⟨1, 139, none⟩), .pointer (some p), .int .u64 409]) W := by
  rw [rlm]
  simp only [Sem.run_bind, parts141, Result.andThen]
  simp [ReflectliteValue.elem, loadVar, isAgg, underlying, Tryz.underlying141, ha, Result.andThen, elemOf141, mk139]
theorem rls (v x : Value) : ReflectliteValue.set #[v, x] = (do
    let (some (dst, a, fl), some (src, b, _)) := (← ReflectliteValue.parts v, ← ReflectliteValue.parts x)
      | unsupported (.noEntry "extern/(internal/reflectlite.Value).Set.zeroValue")
    if fl / ReflectliteValue.flagAddr % 2 == 0 then unsupported (.noEntry "extern/(internal/reflectlite.Value).Set.unaddressable")
    let val ← loadVar src b
    if ← Rtype.directlyAssignable dst src then storeVar dst a val
    else if ← Rtype.implements dst src then
      if (← Rtype.kind src) == 20 then
        match val with
        | .nilIface => unsupported (.noEntry "extern/reflectlite: a nil value of one interface type handed on as a value of another")
        | _ => storeVar dst a val
      else storeVar dst a (.iface src val)
    else panicString ("reflectlite.Set: value of type " ++ (← Rtype.spelt src) ++ " is not assignable to type " ++ (← Rtype.spelt dst))
    pure (.tuple #[])) := rfl
theorem parts139a (a : Addr) (w : World) : (ReflectliteValue.parts (.agg #[.pointer (some ⟨1, 139, none⟩), .pointer (some a), .int .u64 409])).run Tryz.prog w = .ok (some (139, a, 409)) w := by kernel_rfl
theorem parts139 (a : Addr) (w : World) : (ReflectliteValue.parts (.agg #[.pointer (some ⟨1, 139, none⟩), .pointer (some a), .int .u64 153])).run Tryz.prog w = .ok (some (139, a, 153)) w := by kernel_rfl
theorem direct139 (w : World) : (Rtype.directlyAssignable 139 139).run Tryz.prog w = .ok true w := by kernel_rfl
theorem set139 (tb bb : Nat) (c : Int) (old : Value) (W : World) (hb : W.cell? ⟨bb, 0, none⟩ = some (.int .i64 c)) (ht : W.cell? ⟨tb, 0, none⟩ = some old) (hf : W.frozen? ⟨tb, 0, none⟩ = false) :
    (ReflectliteValue.set #[.agg #[.pointer (some ⟨1, 139, none⟩), .pointer (some ⟨tb, 0, none⟩), .int .u64 409], .agg #[.pointer (some ⟨1, 139, none⟩), .pointer (some ⟨bb, 0, none⟩), .int .u64 153]]).run Tryz.prog W
      = .ok (.tuple #[]) (W.setCell ⟨tb, 0, none⟩ (.int .i64 c)) := by
  rw [rls]
  simp only [Sem.run_bind, parts139a, parts139, Result.andThen]
  have hl : (loadVar 139 ⟨bb, 0, none⟩).run Tryz.prog W = .ok (.agg #[.int .i64 c]) W := by
    simp [loadVar, isAgg, underlying, Tryz.underlying139, hb, Result.andThen, go_sem]
  simp [ReflectliteValue.flagAddr, hl, Result.andThen, direct139, storeVar, Value.cells, storeCells, Addr.add]
  rw [run_store Tryz.prog W ⟨tb, 0, none⟩ _ _ (by rfl)]
  simp [ht, hf]
end Go.Proofs.YtgihdchgdejkhaaGreatDoor.D
namespace Go.Proofs.YtgihdchgdejkhaaGreatDoor.D
open Go.RowKit Go.Extern.Stop Go.Stop Go.Extern
set_option linter.unusedVariables false

/-- The package-level variable that errors.As reads. -/
def Laid (w : World) : Prop := w.cell? ⟨0, 0, none⟩ = some (.iface 200 (.agg #[.pointer (some ⟨1, 78, none⟩)]))
/-- A refusal: the step, the number. -/
def errV (s : ByteArray) (c : Int) : Value := .iface 171 (.agg #[.string s, .iface 139 (.agg #[.int .i64 c])])
set_option maxRecDepth 100000 in
set_option maxHeartbeats 4000000 in
theorem as_hit (s : ByteArray) (c : Int) (tb : Nat) (old : Value) (w : World) (hg : Laid w) (ht0 : w.cell? ⟨tb, 0, none⟩ = some old) (hf0 : w.frozen? ⟨tb, 0, none⟩ = false) :
    Calls Tryz.prog 56 #[errV s c, .iface 141 (.pointer (some ⟨tb, 0, none⟩))] w fun ev w' => ev = .returned (.bool true) ∧ w' = (((((w.alloc (.cells #[.pointer (some ⟨tb, 0, none⟩)] 141)).alloc (.cells #[.pointer (some ⟨1, 141, none⟩), .pointer (some ⟨w.heap.size, 0, none⟩), .int .u64 150] 176)).alloc (.cells #[.pointer (some ⟨1, 141, none⟩), .pointer (some ⟨w.heap.size, 0, none⟩), .int .u64 150] 176)).alloc (.cells #[.string s, .iface 139 (.agg #[.int .i64 c])] 171)).alloc (.cells #[.int .i64 c] 139)).setCell ⟨tb, 0, none⟩ (.int .i64 c) := by
  have h6 := @run_callFunc_extern Tryz.prog 86 _ (fun args => ReflectliteValue.unpack (args.getD 0 (.tuple #[]))) Tryz.func86 (by kernel_rfl) (by kernel_rfl) (by kernel_rfl) (by kernel_rfl)
  have h7 := @run_callFunc_extern Tryz.prog 87 _ (ReflectliteValue.methodAny (ReflectliteValue.valueError "reflectlite.Value.Type" 0) (fun t _ _ _ => ReflectliteType.toType t)) Tryz.func87 (by kernel_rfl) (by kernel_rfl) (by kernel_rfl) (by kernel_rfl)
  have h8 := @run_callFunc_extern Tryz.prog 88 _ (ReflectliteValue.method (ReflectliteValue.valueError "reflectlite.Value.IsNil" 0) ReflectliteValue.isNil) Tryz.func88 (by kernel_rfl) (by kernel_rfl) (by kernel_rfl) (by kernel_rfl)
  have h27 := @run_callFunc_extern Tryz.prog 155 _ (ReflectliteType.abiMethod fun t => do pure (.int .u8 (← Rtype.kind t))) Tryz.func155 (by kernel_rfl) (by kernel_rfl) (by kernel_rfl) (by kernel_rfl)
  have h37 := @run_callFunc_extern Tryz.prog 169 _ (ReflectliteType.method ReflectliteType.elem) Tryz.func169 (by kernel_rfl) (by kernel_rfl) (by kernel_rfl) (by kernel_rfl)
  have h38 := @run_callFunc_extern Tryz.prog 170 _ (ReflectliteType.relation "Implements" ReflectliteType.implements_) Tryz.func170 (by kernel_rfl) (by kernel_rfl) (by kernel_rfl) (by kernel_rfl)
  have h10 := @run_callFunc_extern Tryz.prog 117 _ ReflectliteType.typeOf Tryz.func117 (by kernel_rfl) (by kernel_rfl) (by kernel_rfl) (by kernel_rfl)
  have h35 := @run_callFunc_extern Tryz.prog 167 _ (ReflectliteType.relation "AssignableTo" ReflectliteType.assignableTo) Tryz.func167 (by kernel_rfl) (by kernel_rfl) (by kernel_rfl) (by kernel_rfl)
  have h11 := @run_callFunc_extern Tryz.prog 118 _ (ReflectliteValue.method (ReflectliteValue.valueError "reflectlite.Value.Elem" 0) ReflectliteValue.elem) Tryz.func118 (by kernel_rfl) (by kernel_rfl) (by kernel_rfl) (by kernel_rfl)
  have h12 := @run_callFunc_extern Tryz.prog 119 _ ReflectliteValue.set Tryz.func119 (by kernel_rfl) (by kernel_rfl) (by kernel_rfl) (by kernel_rfl)
  have tO := typeOf171
  have tP := typeOf139
  have mA := methodAssignableTo
  have a1 := assignable171
  have a2 := assignable139
  have v25 := valueOf139
  have f6 := valueOf141
  have f7 := type141
  have mK := methodKind
  have mE := methodElem
  have mI := methodImplements
  have mU := methodUnwrap
  have k27 := kind141
  have k25 := kind139
  have e27 := elem141
  have i25 := implements139
  have nA := noAs171
  have hU := hasUnwrap171
  have n8 := isNil141 ⟨w.heap.size, 0, none⟩ ⟨tb, 0, none⟩ ((w.alloc (.cells #[.pointer (some ⟨tb, 0, none⟩)] 141)).alloc (.cells #[.pointer (some ⟨1, 141, none⟩), .pointer (some ⟨w.heap.size, 0, none⟩), .int .u64 150] 176)) (by simp)
  have hlt : 0 < w.heap.size := by
    rcases Nat.eq_zero_or_pos w.heap.size with h0 | h
    · unfold Laid at hg; simp [World.cell?, h0] at hg
    · exact h
  have hg2 : ((w.alloc (.cells #[.pointer (some ⟨tb, 0, none⟩)] 141)).alloc (.cells #[.pointer (some ⟨1, 141, none⟩), .pointer (some ⟨w.heap.size, 0, none⟩), .int .u64 150] 176)).cell? ⟨0, 0, none⟩ = some (.iface 200 (.agg #[.pointer (some ⟨1, 78, none⟩)])) := by
    rw [World.cell?_alloc_lt _ _ ⟨0, 0, none⟩ (by simp), World.cell?_alloc_lt _ _ ⟨0, 0, none⟩ hlt]; exact hg
  have htl : tb < w.heap.size := World.block_lt_of_cell? _ _ ht0
  have el := elemV141 ⟨w.heap.size, 0, none⟩ ⟨tb, 0, none⟩ ((((w.alloc (.cells #[.pointer (some ⟨tb, 0, none⟩)] 141)).alloc (.cells #[.pointer (some ⟨1, 141, none⟩), .pointer (some ⟨w.heap.size, 0, none⟩), .int .u64 150] 176)).alloc (.cells #[.pointer (some ⟨1, 141, none⟩), .pointer (some ⟨w.heap.size, 0, none⟩), .int .u64 150] 176)).alloc (.cells #[.string s, .iface 139 (.agg #[.int .i64 c])] 171)) (by rw [World.cell?_alloc_lt _ _ ⟨w.heap.size, 0, none⟩ (by simp; omega), World.cell?_alloc_lt _ _ ⟨w.heap.size, 0, none⟩ (by simp; omega)]; simp)
  have st := set139 tb (w.heap.size + 1 + 1 + 1 + 1) c old (((((w.alloc (.cells #[.pointer (some ⟨tb, 0, none⟩)] 141)).alloc (.cells #[.pointer (some ⟨1, 141, none⟩), .pointer (some ⟨w.heap.size, 0, none⟩), .int .u64 150] 176)).alloc (.cells #[.pointer (some ⟨1, 141, none⟩), .pointer (some ⟨w.heap.size, 0, none⟩), .int .u64 150] 176)).alloc (.cells #[.string s, .iface 139 (.agg #[.int .i64 c])] 171)).alloc (.cells #[.int .i64 c] 139))
    (by rw [World.cell?_alloc_at _ _ _ _ (by simp)]; rfl)
    (by rw [World.cell?_alloc_lt _ _ ⟨tb, 0, none⟩ (by simp; omega), World.cell?_alloc_lt _ _ ⟨tb, 0, none⟩ (by simp; omega), World.cell?_alloc_lt _ _ ⟨tb, 0, none⟩ (by simp; omega), World.cell?_alloc_lt _ _ ⟨tb, 0, none⟩ (by simp; omega), World.cell?_alloc_lt _ _ ⟨tb, 0, none⟩ htl]; exact ht0)
    (by rw [World.frozen?_alloc_old _ _ ⟨tb, 0, none⟩ (by simp; omega), World.frozen?_alloc_old _ _ ⟨tb, 0, none⟩ (by simp; omega), World.frozen?_alloc_old _ _ ⟨tb, 0, none⟩ (by simp; omega), World.frozen?_alloc_old _ _ ⟨tb, 0, none⟩ (by simp; omega), World.frozen?_alloc_old _ _ ⟨tb, 0, none⟩ (Nat.ne_of_lt htl)]; exact hf0)
  unfold errV
  go_enter Tryz.func56, Tryz.ntmps56
  go_wp2
  refine wp_loop_rounds 2 ?_
  rw [rounds_succ]
  go_wp2
  rw [rounds_succ]
  go_wp2
  go_ret
  exact ⟨rfl, rfl⟩
end Go.Proofs.YtgihdchgdejkhaaGreatDoor.D
namespace Go.Proofs.YtgihdchgdejkhaaGreatDoor.D
open Go.RowKit
set_option linter.unusedVariables false

/-- What checked gives. -/
def errO (s : ByteArray) (c : Int) : Value := if c = 0 then .nilIface else errV s c
set_option maxRecDepth 100000 in
theorem checked_any (s : ByteArray) (c : Int) (w : World) : Calls Tryz.prog 51 #[.string s, .int .i64 c] w fun e w' => e = .returned (errO s c) ∧ w' = w := by
  unfold errO
  by_cases hc : c = 0
  · subst hc
    rw [if_pos rfl]
    go_enter Tryz.func51, Tryz.ntmps51
    go_wp2
    go_ret
    exact ⟨rfl, rfl⟩
  · rw [if_neg hc]
    unfold errV
    have hb : (c == 0) = false := by simpa using hc
    go_enter Tryz.func51, Tryz.ntmps51
    go_wp2
    go_ret
    exact ⟨rfl, rfl⟩
theorem Laid.but {S : Nat → Prop} {w w' : World} (h : Laid w) (hb : But S w w') (h0 : ¬ S 0) : Laid w' := cell_but hb h h0
theorem Laid.later {w w' : World} (h : Laid w) (hb : Below w.heap.size w w') : Laid w' := h.but (S := fun _ => False) (But.of hb) (fun h => h)
theorem errO_ne {s : ByteArray} {c : Int} (hc : c ≠ 0) : errO s c = errV s c := if_neg hc
set_option maxRecDepth 100000 in
set_option maxHeartbeats 1000000 in
theorem number_any (s : ByteArray) (c : Int) (w : World) (hg : Laid w) : Calls Tryz.prog 27 #[errO s c] w fun e w' => e = .returned (.int .i64 c) ∧ Below w.heap.size w w' := by
  by_cases hc : c = 0
  · subst hc
    unfold errO
    rw [if_pos rfl]
    go_enter Tryz.func27, Tryz.ntmps27
    go_wp2_with (first | (go_at_call 56; refine (as_nil _ _).mono ?_; rintro e w9 ⟨rfl, hw9⟩; subst hw9))
    go_ret
    exact ⟨rfl, below1 _ _⟩
  · rw [errO_ne hc]
    have ha := hid (as_hit s c w.heap.size (.int .i64 0) (w.alloc (.cells #[.int .i64 0] 139)) (hg.later (below1 _ _)) (by simp) (by simp [go_sem]))
    generalize hv : errV s c = v at *
    clear hv
    have hb : Hid (∀ W, W = ((((((w.alloc (.cells #[.int .i64 0] 139)).alloc (.cells #[.pointer (some ⟨w.heap.size, 0, none⟩)] 141)).alloc (.cells #[.pointer (some ⟨1, 141, none⟩), .pointer (some ⟨(w.alloc (.cells #[.int .i64 0] 139)).heap.size, 0, none⟩), .int .u64 150] 176)).alloc (.cells #[.pointer (some ⟨1, 141, none⟩), .pointer (some ⟨(w.alloc (.cells #[.int .i64 0] 139)).heap.size, 0, none⟩), .int .u64 150] 176)).alloc (.cells #[.string s, .iface 139 (.agg #[.int .i64 c])] 171)).alloc (.cells #[.int .i64 c] 139)).setCell ⟨w.heap.size, 0, none⟩ (.int .i64 c) → W.cell? ⟨w.heap.size, 0, none⟩ = some (.int .i64 c) ∧ Below w.heap.size w W) := by
      intro W hW
      subst hW
      refine ⟨?_, ?_⟩
      · refine World.cell?_setCell_same _ _ _ (?_ : _ = some (Value.int .i64 0))
        rw [World.cell?_alloc_lt _ _ _ (by simp; omega), World.cell?_alloc_lt _ _ _ (by simp; omega), World.cell?_alloc_lt _ _ _ (by simp; omega), World.cell?_alloc_lt _ _ _ (by simp; omega), World.cell?_alloc_lt _ _ _ (by simp)]
        simp
      · have hp := ((((((But.refl (fun k => k = w.heap.size) w).alloc (.cells #[.int .i64 0] 139)).alloc (.cells #[.pointer (some ⟨w.heap.size, 0, none⟩)] 141)).alloc (.cells #[.pointer (some ⟨1, 141, none⟩), .pointer (some ⟨(w.alloc (.cells #[.int .i64 0] 139)).heap.size, 0, none⟩), .int .u64 150] 176)).alloc (.cells #[.pointer (some ⟨1, 141, none⟩), .pointer (some ⟨(w.alloc (.cells #[.int .i64 0] 139)).heap.size, 0, none⟩), .int .u64 150] 176)).alloc (.cells #[.string s, .iface 139 (.agg #[.int .i64 c])] 171)).alloc (.cells #[.int .i64 c] 139)
        exact But.below (Below.refl _ _) (hp.setCell (p := ⟨w.heap.size, 0, none⟩) rfl (.int .i64 c)) (fun k hk => by rw [hk]; exact Nat.le_refl _)
    go_enter Tryz.func27, Tryz.ntmps27
    go_upto_region 3 with (first | (go_at_call 56; refine ha.out.mono ?_; rintro e w9 ⟨rfl, hw9⟩; obtain ⟨x0, hB⟩ := hb.out w9 hw9; clear hw9; have HB := hid hB; clear hB))
    go_wp2
    go_ret
    exact ⟨rfl, HB.out⟩
end Go.Proofs.YtgihdchgdejkhaaGreatDoor.D
