import Derived.Test.YtcagghfkomodlaaA3
namespace Go.Proofs.Ytcagghfkomodlaa
open Go.RowKit
set_option linter.unusedVariables false

theorem below_drewN {w W : World} {n : Nat} (h : Below n w W) (k : Nat) : Below n w (W.drewN k) := ⟨h.os, h.tape, h.output, h.size, h.block⟩
/-- Two cells: the most, and the list, in memory of its own. The program's list and the document's alike. -/
structure Dm (w : World) (base g : Nat) (m : Int) (pa : Option Addr) (cap : Nat) (K : List Cp) : Prop where
  c0 : w.cell? ⟨g, 0, none⟩ = some (.int .i64 m)
  c1 : Lies w ⟨g, 1, none⟩ (.slice pa K.length cap)
  own : Ow w base 35 3 pa K.length cap (caps K)
  ap : ∀ k, Blk pa k → k ≠ g
  lo : base ≤ g
variable {w w' : World} {base g : Nat} {m : Int} {pa : Option Addr} {cap : Nat} {K : List Cp}
theorem Dm.lt (h : Dm w base g m pa cap K) : g < w.heap.size := World.block_lt_of_cell? _ _ h.c0
theorem Dm.but {S : Nat → Prop} (h : Dm w base g m pa cap K) (hb : But S w w') (h1 : ¬ S g) (h2 : ∀ k, Blk pa k → ¬ S k) : Dm w' base g m pa cap K :=
  ⟨cell_but hb h.c0 h1, h.c1.but hb h1, h.own.but hb h2, h.ap, h.lo⟩
theorem Dm.later (h : Dm w base g m pa cap K) (hb : Below w.heap.size w w') : Dm w' base g m pa cap K := h.but (S := fun _ => False) (But.of hb) (fun h => h) (fun _ _ h => h)
theorem Dm.hb (h : Dm w base g m pa cap K) : base ≤ w.heap.size := by have := h.lo; have := h.lt; omega
theorem Dm.rd (h : Dm w base g m pa cap K) : Rd w pa K.length K := h.own.rd rfl
theorem Dm.mono {b : Nat} (h : Dm w base g m pa cap K) (hb : b ≤ base) : Dm w b g m pa cap K := ⟨h.c0, h.c1, h.own.mono hb, h.ap, Nat.le_trans hb h.lo⟩
theorem Dm.capn (h : Dm w base g m pa cap K) : K.length ≤ cap := by
  rcases h.own.form with ⟨_, h1, h2⟩ | ⟨_, _, _, h1⟩
  · omega
  · exact h1
/-- What a call may write: the struct and the list. -/
structure Wr (w w' : World) (g : Nat) (pa pa' : Option Addr) : Prop where
  but : But (fun k => k = g ∨ Blk pa k) w w'
  on : ∀ k, Blk pa' k → Blk pa k ∨ w.heap.size ≤ k
theorem Wr.refl (g : Nat) (pa : Option Addr) (h : Below w.heap.size w w') : Wr w w' g pa pa := ⟨But.of h, fun _ h => .inl h⟩
theorem Wr.below {pa' : Option Addr} {u : World} (h : Wr w w' g pa pa') (ho : Dm w base g m pa cap K) (hb : Below base u w) : Below base u w' :=
  ⟨h.but.os.trans hb.os, h.but.tape.trans hb.tape, h.but.output.trans hb.output, Nat.le_trans hb.size h.but.size, fun k hk => (h.but.block k (by have := ho.hb; omega) (fun e => by
    rcases e with e | e
    · have := ho.lo; omega
    · have := (ho.own.blk k e).1; omega)).trans (hb.block k hk)⟩
theorem Wr.pre {W : World} {pa' : Option Addr} (hb : Below w.heap.size w W) (h : Wr W w' g pa pa') : Wr w w' g pa pa' :=
  ⟨(But.of hb).trans h.but, fun k hk => by
    rcases h.on k hk with e | e
    · exact .inl e
    · exact .inr (Nat.le_trans hb.size e)⟩
theorem Wr.post {W : World} {pa' : Option Addr} (h : Wr w W g pa pa') (hb : Below W.heap.size W w') : Wr w w' g pa pa' := ⟨h.but.call hb, h.on⟩
/-- A list is put into the struct. -/
theorem Dm.put {pb : Option Addr} {c : Nat} {M : List Cp} (h : Dm w base g m pa cap K) (hG : Gr pa pb w w') (ho : Ow w' base 35 3 pb M.length c (caps M)) : Dm (w'.setCell ⟨g, 1, none⟩ (.slice pb M.length c)) base g m pb c M ∧ Wr w (w'.setCell ⟨g, 1, none⟩ (.slice pb M.length c)) g pa pb := by
  have hn : ¬ Blk pa g := fun e => h.ap g e rfl
  have hap : ∀ k, Blk pb k → k ≠ g := fun k hk => by
    rcases hG.on k hk with e | e
    · exact h.ap k e
    · have := h.lt; omega
  exact ⟨⟨by rw [World.cell?_setCell_other _ _ _ _ (by simp)]; exact cell_but hG.but h.c0 hn, (h.c1.but hG.but hn).put, ho.but ((But.refl (fun k => k = g) w').setCell (p := ⟨g, 1, none⟩) rfl _) hap, hap, h.lo⟩,
    (hG.but.mono (fun k hk => .inr hk)).setCell (.inl rfl) _, fun k hk => hG.on k hk⟩
/-! ### arms -/
theorem wpAnyH_norm {P : Program} {md : Region.Mode} {ops : Array Oper} {Q : Exit → Act → World → Prop} {S : World → Prop} {fuel f2 : Nat} {listed l2 : Array Bool} {a : Act} {w : World} (hl : listed = l2) (hf : fuel = f2) (h : wpAnyH P md ops Q S f2 l2 a w) : wpAnyH P md ops Q S fuel listed a w := by
  subst hl hf
  exact h
theorem wp_append_known {P : Program} {w : World} {o : Oper} {a : Act} {K : Act → World → Prop} {Q : Exit → Act → World → Prop} (s x : Operand) (t : TypeId)
    (ho : o.op = .call { callee := .builtin .append, args := #[s, x], argTypes := #[t, t] }) (vs vx : Value) (hs : a.eval s = vs) (hx : a.eval x = vx) (v' : Value) (w' : World)
    (hr : (Builtin.append_ #[t, t] o.type #[vs, vx]).run P w = .ok v' w') (h : K (a.put o.dst v') w') : o.wp P a w K Q := by
  unfold Oper.wp execOp
  simp only [ho, resolve, invoke, builtin, Sem.run_bind, Sem.run_pure, Result.andThen_ok, List.map_toArray, List.map_cons, List.map_nil, hs, hx, hr]
  exact h
theorem wp_copy_known {P : Program} {w : World} {o : Oper} {a : Act} {K : Act → World → Prop} {Q : Exit → Act → World → Prop} (s x : Operand) (t : TypeId)
    (ho : o.op = .call { callee := .builtin .copy, args := #[s, x], argTypes := #[t, t] }) (vs vx : Value) (hs : a.eval s = vs) (hx : a.eval x = vx) (v' : Value) (w' : World)
    (hr : (Builtin.copy_ #[t, t] o.type #[vs, vx]).run P w = .ok v' w') (h : K (a.put o.dst v') w') : o.wp P a w K Q := by
  unfold Oper.wp execOp
  simp only [ho, resolve, invoke, builtin, Sem.run_bind, Sem.run_pure, Result.andThen_ok, List.map_toArray, List.map_cons, List.map_nil, hs, hx, hr]
  exact h
theorem clear_arm {P : Program} {w w' : World} {ops : Array Oper} {rest : List Oper} {a : Act} {Q : Exit → Act → World → Prop} {d : Option Tmp} {tt : TypeId} {ps : String} {af} {t : TypeId} {x : Operand} {vx v : Value}
    (hr : (Builtin.clear_ #[t] tt #[vx]).run P w = .ok v w') (hx : a.eval x = vx) (h : wpList P ops Q rest (a.put d v) w') :
    wpList P ops Q ({ dst := d, op := .call { callee := .builtin .clear, args := #[x], argTypes := #[t] }, type := tt, pos := ps, after := af, guard := none } :: rest) a w := by
  refine wpList_plain rfl fun K hK => ?_
  unfold Oper.wp execOp
  simp only [resolve, invoke, builtin, Sem.run_bind, Sem.run_pure, Result.andThen_ok, List.map_toArray, List.map_cons, List.map_nil, hx, hr]
  exact hK _ _ h
theorem copy_arm {P : Program} {w w' : World} {ops : Array Oper} {rest : List Oper} {a : Act} {Q : Exit → Act → World → Prop} {d : Option Tmp} {tt : TypeId} {ps : String} {af} {t s : TypeId} {x y : Operand} {vx vy v : Value}
    (hr : (Builtin.copy_ #[t, s] tt #[vx, vy]).run P w = .ok v w') (hx : a.eval x = vx) (hy : a.eval y = vy) (h : wpList P ops Q rest (a.put d v) w') :
    wpList P ops Q ({ dst := d, op := .call { callee := .builtin .copy, args := #[x, y], argTypes := #[t, s] }, type := tt, pos := ps, after := af, guard := none } :: rest) a w := by
  refine wpList_plain rfl fun K hK => ?_
  unfold Oper.wp execOp
  simp only [resolve, invoke, builtin, Sem.run_bind, Sem.run_pure, Result.andThen_ok, List.map_toArray, List.map_cons, List.map_nil, hx, hy, hr]
  exact hK _ _ h
/-! ### has, Len, New -/
/-- Is there such a place? -/
def okI (K : List Cp) (i : Int) : Bool := decide (0 ≤ i ∧ i < (K.length : Int))
theorem okI_iff {i : Int} : okI K i = true ↔ 0 ≤ i ∧ i < (K.length : Int) := by unfold okI; exact decide_eq_true_iff
set_option maxRecDepth 100000 in
theorem has_any (h : Dm w base g m pa cap K) (i : Int) : Calls Try.prog 20 #[.pointer (some ⟨g, 0, none⟩), .int .i64 i] w fun e w' => e = .returned (.bool (okI K i)) ∧ w' = w := by
  have c1 := h.c1.1
  clear h
  by_cases h1 : 0 ≤ i
  · have hd1 : decide (i ≥ 0) = true := decide_eq_true h1
    by_cases h2 : i < (K.length : Int)
    · have hd2 : decide (i < (K.length : Int)) = true := decide_eq_true h2
      rw [show okI K i = true from okI_iff.2 ⟨h1, h2⟩]
      go_enter Try.func20, Try.ntmps20
      go_wp2
      go_ret
      exact ⟨rfl, rfl⟩
    · have hd2 : decide (i < (K.length : Int)) = false := decide_eq_false h2
      rw [show okI K i = false from decide_eq_false (fun e => h2 e.2)]
      go_enter Try.func20, Try.ntmps20
      go_wp2
      go_ret
      exact ⟨rfl, rfl⟩
  · have hd1 : decide (i ≥ 0) = false := decide_eq_false h1
    rw [show okI K i = false from decide_eq_false (fun e => h1 e.1)]
    go_enter Try.func20, Try.ntmps20
    go_wp2
    go_ret
    exact ⟨rfl, rfl⟩
set_option maxRecDepth 100000 in
theorem len_any (h : Dm w base g m pa cap K) : Calls Try.prog 11 #[.pointer (some ⟨g, 0, none⟩)] w fun e w' => e = .returned (.int .i64 (K.length : Int)) ∧ w' = w := by
  have c1 := h.c1.1
  clear h
  go_enter Try.func11, Try.ntmps11
  go_wp2
  go_ret
  exact ⟨rfl, rfl⟩
theorem Dm.new (w : World) (m : Int) (t : TypeId) : Dm (w.alloc (.cells #[.int .i64 m, .slice none 0 0] t)) w.heap.size w.heap.size m none 0 [] :=
  ⟨by simp [go_sem], ⟨by simp [go_sem], by simp [go_sem]⟩, Ow.nil _ _ _ _, fun k hk => (by obtain ⟨_, e, _⟩ := hk; cases e), Nat.le_refl _⟩
set_option maxRecDepth 100000 in
theorem new_ok (m : Int) (w : World) (h1 : 1 ≤ m) (h2 : m ≤ 32) :
    Calls Try.prog 7 #[.int .i64 m] w fun e w' => ∃ g, e = .returned (.tuple #[.pointer (some ⟨g, 0, none⟩), .int .i64 0]) ∧ Dm w' w.heap.size g m none 0 [] ∧ Below w.heap.size w w' := by
  have hd1 : decide (m < 1) = false := decide_eq_false (by omega)
  have hd2 : decide (m > 32) = false := decide_eq_false (by omega)
  have HO := hid (Dm.new w m 58)
  clear h1 h2
  go_enter Try.func7, Try.ntmps7
  go_wp2
  exact bodyPost_ret (v := .tuple #[.pointer (some ⟨w.heap.size, 0, none⟩), .int .i64 0]) (by simp [results, Try.results7, go_sem]) rfl ⟨w.heap.size, rfl, HO.out, below1 _ _⟩
set_option maxRecDepth 100000 in
theorem new_bad (m : Int) (w : World) (h : m < 1 ∨ 32 < m) :
    Calls Try.prog 7 #[.int .i64 m] w fun e w' => e = .returned (.tuple #[.pointer none, .int .i64 16]) ∧ w' = w := by
  by_cases h1 : m < 1
  · have hd1 : decide (m < 1) = true := decide_eq_true h1
    go_enter Try.func7, Try.ntmps7
    go_wp2
    exact bodyPost_ret (v := .tuple #[.pointer none, .int .i64 16]) (by simp [results, Try.results7, go_sem]) rfl ⟨rfl, rfl⟩
  · have hd1 : decide (m < 1) = false := decide_eq_false h1
    have hd2 : decide (m > 32) = true := decide_eq_true (by omega)
    go_enter Try.func7, Try.ntmps7
    go_wp2
    exact bodyPost_ret (v := .tuple #[.pointer none, .int .i64 16]) (by simp [results, Try.results7, go_sem]) rfl ⟨rfl, rfl⟩
set_option maxRecDepth 100000 in
theorem rnew_ok (m : Int) (w : World) (h1 : 1 ≤ m) (h2 : m ≤ 32) :
    Calls Try.prog 17 #[.int .i64 m] w fun e w' => ∃ g, e = .returned (.tuple #[.pointer (some ⟨g, 0, none⟩), .int .i64 0]) ∧ Dm w' w.heap.size g m none 0 [] ∧ Below w.heap.size w w' := by
  have hd1 : decide (m < 1) = false := decide_eq_false (by omega)
  have hd2 : decide (m > 32) = false := decide_eq_false (by omega)
  have HO := hid (Dm.new w m 62)
  clear h1 h2
  go_enter Try.func17, Try.ntmps17
  go_wp2
  exact bodyPost_ret (v := .tuple #[.pointer (some ⟨w.heap.size, 0, none⟩), .int .i64 0]) (by simp [results, Try.results17, go_sem]) rfl ⟨w.heap.size, rfl, HO.out, below1 _ _⟩
set_option maxRecDepth 100000 in
theorem rnew_bad (m : Int) (w : World) (h : m < 1 ∨ 32 < m) :
    Calls Try.prog 17 #[.int .i64 m] w fun e w' => e = .returned (.tuple #[.pointer none, .int .i64 16]) ∧ w' = w := by
  by_cases h1 : m < 1
  · have hd1 : decide (m < 1) = true := decide_eq_true h1
    go_enter Try.func17, Try.ntmps17
    go_wp2
    exact bodyPost_ret (v := .tuple #[.pointer none, .int .i64 16]) (by simp [results, Try.results17, go_sem]) rfl ⟨rfl, rfl⟩
  · have hd1 : decide (m < 1) = false := decide_eq_false h1
    have hd2 : decide (m > 32) = true := decide_eq_true (by omega)
    go_enter Try.func17, Try.ntmps17
    go_wp2
    exact bodyPost_ret (v := .tuple #[.pointer none, .int .i64 16]) (by simp [results, Try.results17, go_sem]) rfl ⟨rfl, rfl⟩
end Go.Proofs.Ytcagghfkomodlaa
