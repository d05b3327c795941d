import Derived.Test.YtcagghfkomodlaaB3
namespace Go.Proofs.Ytcagghfkomodlaa
open Go.RowKit
set_option linter.unusedVariables false
set_option linter.unusedSimpArgs false
variable {w w' : World} {base g : Nat} {m : Int} {pa : Option Addr} {cap : Nat} {K : List Cp}

theorem sl_arm {P : Program} {w : World} {ops : Array Oper} {rest : List Oper} {a : Act} {Q : Exit → Act → World → Prop} {d : Option Tmp} {tt : TypeId} {ps : String} {af} {ty : TypeId} {x : Operand} {lo hi mx : Option Operand} {vx v : Value} {vlo vhi vmx : Option Value}
    (hr : (Instr.sliceAt ty vx vlo vhi vmx).run P w = .ok v w) (hx : a.eval x = vx) (h1 : lo.map a.eval = vlo) (h2 : hi.map a.eval = vhi) (h3 : mx.map a.eval = vmx) (h : wpList P ops Q rest (a.put d v) w) :
    wpList P ops Q ({ dst := d, op := .slice ty x lo hi mx, type := tt, pos := ps, after := af, guard := none } :: rest) a w := by
  refine wpList_plain rfl fun K hK => ?_
  unfold Oper.wp execOp
  simp only [hx, h1, h2, h3, hr, Sem.run_bind, Sem.run_pure, Result.andThen_ok]
  exact hK _ _ h
theorem ex_slice {P : Program} {w : World} {o : Oper} {ρ : Operand → Value} {ty : TypeId} {x : Operand} {lo hi mx : Option Operand} {vx v : Value} {vlo vhi vmx : Option Value}
    (ho : o.op = .slice ty x lo hi mx) (hx : ρ x = vx) (h1 : lo.map ρ = vlo) (h2 : hi.map ρ = vhi) (h3 : mx.map ρ = vmx) (hr : (Instr.sliceAt ty vx vlo vhi vmx).run P w = .ok v w) : (execOp ρ o).run P w = .ok (.value v) w := by
  unfold execOp
  simp only [ho, hx, h1, h2, h3, hr, Sem.run_bind, Sem.run_pure, Result.andThen_ok]
theorem cutA_in (gg c l : Nat) (h : c ≠ l) : cutA (some ⟨gg, 0, none⟩) c l = some ⟨gg, l * 3, none⟩ := by
  unfold cutA
  rw [if_neg h, Option.map_some, addr_add0]
theorem caps_cells {e : TypeId} {gg n : Nat} (h : Ow w base e 3 (some ⟨gg, 0, none⟩) n cap (caps K)) (i : Nat) (j : Nat) (v : Value) (hv : (caps (K.drop i))[j]? = some v) : w.cell? ((⟨gg, i * 3, none⟩ : Addr).add j) = some v := by
  rw [addr_add]
  refine h.rv gg rfl _ v ?_
  rw [← caps_drop, List.getElem?_drop] at hv
  exact hv
/-- Those behind place i move up, and what falls free is wiped. -/
theorem rem_copy {gg i r : Nat} (h : Ow w base 35 3 (some ⟨gg, 0, none⟩) (i + r + 1) cap (caps K)) (hl : K.length = i + r + 1) (q : Option Addr) (hq : 0 < r → q = some ⟨gg, (i + 1) * 3, none⟩) (c2 : Nat) :
    ∃ w', (Builtin.copy_ #[22, 22] 3 #[.slice (some ⟨gg, i * 3, none⟩) (r + 1) (cap - i), .slice q r c2]).run Try.prog w = .ok (.int .i64 (r : Int)) w' ∧ But (· = gg) w w' ∧ Ow w' base 35 3 (some ⟨gg, 0, none⟩) (i + r + 1) cap (caps (K.take i ++ K.drop (i + 1) ++ K.drop (i + r))) := by
  by_cases hr : r = 0
  · subst hr
    refine ⟨w, run_copy_nil_k w 22 22 3 35 3 _ _ _ _ _ _ Try.underlying22 size35 (by simp), But.refl _ _, ?_⟩
    rw [List.drop_eq_nil_of_le (show K.length ≤ i + 1 by omega)]
    simpa using h
  · rw [hq (by omega)]
    have hM : (K.drop (i + 1)).length = r := by rw [List.length_drop]; omega
    have hmin : Nat.min r (r + 1) = r := Nat.min_eq_left (by omega)
    have hcl : (caps (K.drop (i + 1))).length = r * 3 := by rw [caps_length, hM]
    have hrun := run_copy_k (P := Try.prog) w 22 22 3 35 3 gg (i * 3) (r + 1) (cap - i) ⟨gg, (i + 1) * 3, none⟩ r c2 (caps (K.drop (i + 1))) Try.underlying22 size35 (by rw [hcl, hmin]) (fun j v hv => caps_cells h (i + 1) j v hv) (fun j hj => h.some_ (by omega)) (fun j _ => h.fr _) (caps_one _)
    rw [hmin] at hrun
    refine ⟨_, hrun, But.setCells (S := (· = gg)) (b := gg) (by rfl) _ _ (But.refl _ _), ?_⟩
    have := Ow.setCells (caps (K.drop (i + 1))) (i * 3) w _ h
    rw [setL_caps _ _ _ (by omega), hM] at this
    exact this
theorem rem_clear {gg i r : Nat} (h : Ow w base 35 3 (some ⟨gg, 0, none⟩) (i + r + 1) cap (caps (K.take i ++ K.drop (i + 1) ++ K.drop (i + r)))) (hl : K.length = i + r + 1) (ty : TypeId) (c2 : Nat) :
    ∃ w', (Builtin.clear_ #[22] ty #[.slice (some ⟨gg, (i + r) * 3, none⟩) 1 c2]).run Try.prog w = .ok (.tuple #[]) w' ∧ But (· = gg) w w' ∧ Ow w' base 35 3 (some ⟨gg, 0, none⟩) (i + r) cap (caps (K.take i ++ K.drop (i + 1))) := by
  refine ⟨_, run_clear_one w ty gg ((i + r) * 3) c2 (fun j hj => h.some_ (by omega)) (fun j _ => h.fr _), But.setCells (S := (· = gg)) (b := gg) (by rfl) _ _ (But.refl _ _), ?_⟩
  have h1 := Ow.setCells (encC (0, 0, 0)) ((i + r) * 3) w _ h
  have e0 : encC (0, 0, 0) = caps [(0, 0, 0)] := by simp [caps]
  have hl1 : (K.take i ++ K.drop (i + 1)).length = i + r := by simp; omega
  rw [e0, setL_caps _ _ _ (by simp; omega)] at h1
  have h2 := h1.shrink (m := i + r) (by omega)
  rw [caps_take, List.append_assoc, List.take_append_of_le_length (by simp; omega), List.take_take, Nat.min_self, List.take_left' hl1] at h2
  rw [e0]
  exact h2
/-- A box with c, behind a result of zeros. -/
theorem boxed {b : Nat} (hz : Bz w b) (hB : Below b w' w) (c : Cp) : Bz (w.alloc (Obj.cells #[.int .i64 c.1, .int .u64 (c.2.1 : Int), .int .u64 (c.2.2 : Int)] 35)) b ∧ Cel (w.alloc (Obj.cells #[.int .i64 c.1, .int .u64 (c.2.1 : Int), .int .u64 (c.2.2 : Int)] 35)) w.heap.size 0 c ∧ Below b w' (w.alloc (Obj.cells #[.int .i64 c.1, .int .u64 (c.2.1 : Int), .int .u64 (c.2.2 : Int)] 35)) := by
  have hb := World.block_lt_of_cell? _ _ hz.c0.1
  exact ⟨hz.later (below1 _ _), ⟨by simp [go_sem], by simp [go_sem], by simp [go_sem]⟩, hB.alloc (by simp at hb; omega) _⟩
set_option maxRecDepth 100000 in
set_option maxHeartbeats 1000000 in
theorem rem_bad (h : Dm w base g m pa cap K) (i : Int) (hb : okI K i = false) :
    Calls Try.prog 10 #[.pointer (some ⟨g, 0, none⟩), .int .i64 i] w fun e w' => e = .returned (.tuple #[.agg #[.int .i64 0, .int .u64 0, .int .u64 0], .int .i64 15]) ∧ Below w.heap.size w w' := by
  obtain ⟨w0, hw0⟩ : ∃ w0, w0 = w.alloc (Obj.cells #[.int .i64 0, .int .u64 0, .int .u64 0] 35) := ⟨_, rfl⟩
  have hB0 : Below w.heap.size w w0 := by rw [hw0]; exact below1 _ _
  have HZ : Hid (Bz w0 w.heap.size) := by rw [hw0]; exact Bz.new w
  have hat := hid (at_bad (h.later hB0) i hb)
  have HQ : Hid (∀ w1, Below w0.heap.size w0 w1 → Bz (w1.alloc (Obj.cells #[.int .i64 0, .int .u64 0, .int .u64 0] 35)) w.heap.size ∧ Below w.heap.size w (w1.alloc (Obj.cells #[.int .i64 0, .int .u64 0, .int .u64 0] 35))) := fun w1 hb1 => by
    obtain ⟨p1, p2, p3⟩ := boxed (HZ.out.later hb1) (below_call hB0 hb1) (0, 0, 0)
    exact ⟨p1, p3⟩
  clear h hB0 HZ
  go_enter Try.func10, Try.ntmps10
  go_upto_region 1 with fail
  rw [← hw0]
  clear hw0
  go_upto_region 2 with (first | (go_at_call 14; refine hat.out.mono ?_; rintro e w1 ⟨rfl, hb1⟩; have HQ1 := hid (HQ.out _ hb1); clear hb1))
  generalize w1.alloc (Obj.cells #[.int .i64 0, .int .u64 0, .int .u64 0] 35) = w3 at *
  obtain ⟨⟨⟨r0, f0⟩, ⟨r1, f1⟩, ⟨r2, f2⟩⟩, HB⟩ := HQ1.out
  have HB3 := hid HB
  clear HB HQ1 HQ hat
  go_wp2
  exact bodyPost_ret (v := .tuple #[.agg #[.int .i64 0, .int .u64 0, .int .u64 0], .int .i64 15]) (by simp [results, Try.results10, go_sem, r0, r1, r2]) rfl ⟨rfl, But.below HB3.out (setC_but (S := (· = w.heap.size)) (But.refl _ _) (b := w.heap.size) rfl 0 (0, 0, 0)) (fun k e => by omega)⟩
set_option maxRecDepth 100000 in
set_option maxHeartbeats 1000000 in
theorem rem_ok (h : Dm w base g m pa cap K) (i : Nat) (c : Cp) (hc : K[i]? = some c) (hL : K.length ≤ 32) :
    Calls Try.prog 10 #[.pointer (some ⟨g, 0, none⟩), .int .i64 (i : Int)] w fun e w' => e = .returned (.tuple #[.agg #[.int .i64 c.1, .int .u64 (c.2.1 : Int), .int .u64 (c.2.2 : Int)], .int .i64 0]) ∧ Dm w' base g m pa cap (K.take i ++ K.drop (i + 1)) ∧ Wr w w' g pa pa := by
  have hi : i < K.length := (List.getElem?_eq_some_iff.1 hc).1
  obtain ⟨r, hr⟩ : ∃ r, K.length = i + r + 1 := ⟨K.length - i - 1, by omega⟩
  have hcap := h.capn
  obtain ⟨gg, rfl⟩ : ∃ gg, pa = some ⟨gg, 0, none⟩ := by
    rcases h.own.form with ⟨_, h1, _⟩ | ⟨gg, h1, _⟩
    · omega
    · exact ⟨gg, h1⟩
  obtain ⟨w0, hw0⟩ : ∃ w0, w0 = w.alloc (Obj.cells #[.int .i64 0, .int .u64 0, .int .u64 0] 35) := ⟨_, rfl⟩
  have hB0 : Below w.heap.size w w0 := by rw [hw0]; exact below1 _ _
  have HZ : Hid (Bz w0 w.heap.size) := by rw [hw0]; exact Bz.new w
  have hat := hid (at_ok (h.later hB0) i c hc)
  have hgl := h.lt
  have hggl := (h.own.blk gg ⟨_, rfl, rfl⟩).2
  have HH := hid h
  have hlt0 : w.heap.size < w0.heap.size := by rw [hw0]; simp
  have HQ : Hid (∀ w1, Below w0.heap.size w0 w1 → w.heap.size < w1.heap.size ∧ Bz (w1.alloc (Obj.cells #[.int .i64 c.1, .int .u64 (c.2.1 : Int), .int .u64 (c.2.2 : Int)] 35)) w.heap.size ∧ Cel (w1.alloc (Obj.cells #[.int .i64 c.1, .int .u64 (c.2.1 : Int), .int .u64 (c.2.2 : Int)] 35)) w1.heap.size 0 c ∧ Below w.heap.size w (w1.alloc (Obj.cells #[.int .i64 c.1, .int .u64 (c.2.1 : Int), .int .u64 (c.2.2 : Int)] 35))) := fun w1 hb1 => ⟨by have := hb1.size; omega, boxed (HZ.out.later hb1) (below_call hB0 hb1) c⟩
  have hs1 := fun W => slice_l W (some ⟨gg, 0, none⟩) (i + r + 1) cap i (by omega) (by omega)
  rw [cutA_in _ _ _ (by omega), show i + r + 1 - i = r + 1 by omega] at hs1
  obtain ⟨q, hq⟩ : ∃ q, q = cutA (some ⟨gg, 0, none⟩) cap (i + 1) := ⟨_, rfl⟩
  have hs2 := fun W => slice_l W (some ⟨gg, 0, none⟩) (i + r + 1) cap (i + 1) (by omega) (by omega)
  rw [← hq, show i + r + 1 - (i + 1) = r by omega] at hs2
  rw [show ((i + 1 : Nat) : Int) = (i : Int) + 1 by omega] at hs2
  have HQQ : Hid (0 < r → q = some ⟨gg, (i + 1) * 3, none⟩) := fun h0 => by rw [hq]; exact cutA_in _ _ _ (by omega)
  have hs3 := fun W => slice_l W (some ⟨gg, 0, none⟩) (i + r + 1) cap (i + r) (by omega) (by omega)
  rw [cutA_in _ _ _ (by omega), show i + r + 1 - (i + r) = 1 by omega] at hs3
  simp only [Int.natCast_add] at hs3
  have hs4 := fun W => slice_h W (some ⟨gg, 0, none⟩) (i + r + 1) cap (i + r) (by omega)
  simp only [Int.natCast_add] at hs4
  have HS1 := hid hs1
  have HS2 := hid hs2
  have HS3 := hid hs3
  have HS4 := hid hs4
  have hir : i + r < 32 := by omega
  have HR := hid hr
  clear h hB0 HZ hlt0 hc hq hs1 hs2 hs3 hs4 hr
  go_enter Try.func10, Try.ntmps10
  go_upto_region 1 with fail
  rw [← hw0]
  clear hw0
  go_upto_region 4 with (first | (go_at_call 14; refine hat.out.mono ?_; rintro e w1 ⟨rfl, hb1⟩; have HQ1 := hid (HQ.out _ hb1); clear hb1))
  generalize w1.alloc (Obj.cells #[.int .i64 c.1, .int .u64 (c.2.1 : Int), .int .u64 (c.2.2 : Int)] 35) = w3 at *
  obtain ⟨b6, hb6⟩ : ∃ b6, b6 = w1.heap.size := ⟨_, rfl⟩
  obtain ⟨b4, hb4⟩ : ∃ b4, b4 = w.heap.size := ⟨_, rfl⟩
  have h3 := HH.out.later HQ1.out.2.2.2
  have HBQ := hid HQ1.out.2.2.2
  rw [← hb6] at HQ1 ⊢
  have hb4e := hid hb4
  rw [← hb4] at HQ1 hgl hggl ⊢
  have HQ3 := hid HQ1.out
  have hb64 := HQ3.out.1
  have hB6 : Hid (b6 < w3.heap.size) := by have := World.block_lt_of_cell? _ _ HQ3.out.2.2.1.c0; exact this
  have HD3 := hid h3
  have HC1 : Hid (∀ U, But (· = gg) w3 U → U.cell? ⟨g, 1, none⟩ = some (.slice (some ⟨gg, 0, none⟩) (i + r + 1) cap)) := fun U hU => by
    have := cell_but hU h3.c1.1 (fun e => h3.ap gg ⟨_, rfl, rfl⟩ e.symm)
    rwa [HR.out] at this
  have HCP : Hid (∃ w5, (Builtin.copy_ #[22, 22] 3 #[.slice (some ⟨gg, i * 3, none⟩) (r + 1) (cap - i), .slice q r (cap - (i + 1))]).run Try.prog w3.drew = .ok (.int .i64 (r : Int)) w5 ∧ But (· = gg) w3.drew w5 ∧ Ow w5 base 35 3 (some ⟨gg, 0, none⟩) (i + r + 1) cap (caps (K.take i ++ K.drop (i + 1) ++ K.drop (i + r)))) := by
    have ho := (h3.later (Below.refl _ _).drew).own
    rw [HR.out] at ho
    exact rem_copy ho HR.out q HQQ.out _
  have hwr : IntKind.i64.wrap ((i : Int) + (r : Int)) = (i : Int) + (r : Int) := by rw [IntKind.wrap_i64]; omega
  have hwr1 : IntKind.i64.wrap ((i : Int) + 1) = (i : Int) + 1 := by rw [IntKind.wrap_i64]; omega
  obtain ⟨w5, hrun, hb5, ho5⟩ := HCP.out
  have HRUN := hid hrun
  have HB5 := hid (show But (· = gg) w3 w5 from (But.of (Below.refl w3.heap.size w3).drew).trans hb5)
  have HO5 := hid ho5
  clear HQ1 h3 hb6 hb4 HQ hat hrun hb5 ho5 HCP HH
  refine wp_region_held_drew (S := (fun U : World => U.cell? ⟨g, 1, none⟩ = some (.slice (some ⟨gg, 0, none⟩) (i + r + 1) cap))) (by kernel_rfl) (HC1.out _ (But.of (Below.refl _ _).drew)) (fun hHeld => ?_)
  refine wpAnyH_norm (l2 := #[false, false, false, false, false, false, false, false, false, false, false, false, false, false, false, false, false]) (f2 := 17) (by kernel_rfl) (by kernel_rfl) ?_
  refine wpAnyH_take (i := 0) (oi := _) (v := ?_) rfl (by kernel_rfl) (by kernel_rfl) (by kernel_rfl) (fun _ _ _ h => h) (Or.inl ⟨by rfl, ?_⟩) (by assumption) ?_
  rotate_left
  · (intro w hSw; (try dsimp only at hSw); go_simp; try with_reducible rfl)
  simp only [List.getElem_toArray, List.getElem_cons_succ, List.getElem_cons_zero, Act.put, List.setIfInBounds_toArray, List.set_cons_zero, List.set_cons_succ]
  refine wpAnyH_norm (l2 := #[true, false, false, false, false, false, false, false, false, false, false, false, false, false, false, false, false]) (f2 := 16) (by kernel_rfl) (by kernel_rfl) ?_
  refine wpAnyH_take (i := 1) (oi := _) (v := ?_) rfl (by kernel_rfl) (by kernel_rfl) (by kernel_rfl) (fun _ _ _ h => h) (Or.inl ⟨by rfl, ?_⟩) (by assumption) ?_
  rotate_left
  · (intro w hSw; (try dsimp only at hSw); go_simp; try with_reducible rfl)
  simp only [List.getElem_toArray, List.getElem_cons_succ, List.getElem_cons_zero, Act.put, List.setIfInBounds_toArray, List.set_cons_zero, List.set_cons_succ]
  refine wpAnyH_norm (l2 := #[true, true, false, false, false, false, false, false, false, false, false, false, false, false, false, false, false]) (f2 := 15) (by kernel_rfl) (by kernel_rfl) ?_
  refine wpAnyH_take (i := 2) (oi := _) (v := ?_) rfl (by kernel_rfl) (by kernel_rfl) (by kernel_rfl) (fun _ _ _ h => h) (Or.inl ⟨by rfl, ?_⟩) (by assumption) ?_
  rotate_left
  · (intro w hSw; (try dsimp only at hSw); go_simp; try with_reducible rfl)
  simp only [List.getElem_toArray, List.getElem_cons_succ, List.getElem_cons_zero, Act.put, List.setIfInBounds_toArray, List.set_cons_zero, List.set_cons_succ]
  refine wpAnyH_norm (l2 := #[true, true, true, false, false, false, false, false, false, false, false, false, false, false, false, false, false]) (f2 := 14) (by kernel_rfl) (by kernel_rfl) ?_
  refine wpAnyH_take (i := 3) (oi := _) (v := ?_) rfl (by kernel_rfl) (by kernel_rfl) (by kernel_rfl) (fun _ _ _ h => h) (Or.inl ⟨by rfl, ?_⟩) (by assumption) ?_
  rotate_left
  · (intro w hSw; (try dsimp only at hSw); go_simp; try with_reducible rfl)
  simp only [List.getElem_toArray, List.getElem_cons_succ, List.getElem_cons_zero, Act.put, List.setIfInBounds_toArray, List.set_cons_zero, List.set_cons_succ]
  refine wpAnyH_norm (l2 := #[true, true, true, true, false, false, false, false, false, false, false, false, false, false, false, false, false]) (f2 := 13) (by kernel_rfl) (by kernel_rfl) ?_
  refine wpAnyH_take (i := 4) (oi := _) (v := ?_) rfl (by kernel_rfl) (by kernel_rfl) (by kernel_rfl) (fun _ _ _ h => h) (Or.inl ⟨by rfl, ?_⟩) (by assumption) ?_
  rotate_left
  · (intro w hSw; (try dsimp only at hSw); go_simp; try with_reducible rfl)
  simp only [List.getElem_toArray, List.getElem_cons_succ, List.getElem_cons_zero, Act.put, List.setIfInBounds_toArray, List.set_cons_zero, List.set_cons_succ]
  refine wpAnyH_norm (l2 := #[true, true, true, true, true, false, false, false, false, false, false, false, false, false, false, false, false]) (f2 := 12) (by kernel_rfl) (by kernel_rfl) ?_
  refine wpAnyH_take (i := 5) (oi := _) (v := ?_) rfl (by kernel_rfl) (by kernel_rfl) (by kernel_rfl) (fun _ _ _ h => h) (Or.inl ⟨by rfl, ?_⟩) (by assumption) ?_
  rotate_left
  · (intro w hSw; (try dsimp only at hSw); go_simp; try with_reducible rfl)
  simp only [List.getElem_toArray, List.getElem_cons_succ, List.getElem_cons_zero, Act.put, List.setIfInBounds_toArray, List.set_cons_zero, List.set_cons_succ]
  refine wpAnyH_norm (l2 := #[true, true, true, true, true, true, false, false, false, false, false, false, false, false, false, false, false]) (f2 := 11) (by kernel_rfl) (by kernel_rfl) ?_
  refine wpAnyH_take (i := 6) (oi := _) (v := .slice (some ⟨gg, i * 3, none⟩) (r + 1) (cap - i)) rfl (by kernel_rfl) (by kernel_rfl) (by kernel_rfl) (fun _ _ _ h => h) (Or.inl ⟨by rfl, ?_⟩) (by assumption) ?_
  · (intro w hSw; (try dsimp only at hSw); exact ex_slice rfl rfl rfl rfl rfl (HS1.out _))
  simp only [List.getElem_toArray, List.getElem_cons_succ, List.getElem_cons_zero, Act.put, List.setIfInBounds_toArray, List.set_cons_zero, List.set_cons_succ]
  refine wpAnyH_norm (l2 := #[true, true, true, true, true, true, true, false, false, false, false, false, false, false, false, false, false]) (f2 := 10) (by kernel_rfl) (by kernel_rfl) ?_
  refine wpAnyH_take (i := 7) (oi := _) (v := ?_) rfl (by kernel_rfl) (by kernel_rfl) (by kernel_rfl) (fun _ _ _ h => h) (Or.inl ⟨by rfl, ?_⟩) (by assumption) ?_
  rotate_left
  · (intro w hSw; (try dsimp only at hSw); go_simp; try with_reducible rfl)
  simp only [List.getElem_toArray, List.getElem_cons_succ, List.getElem_cons_zero, Act.put, List.setIfInBounds_toArray, List.set_cons_zero, List.set_cons_succ]
  refine wpAnyH_norm (l2 := #[true, true, true, true, true, true, true, true, false, false, false, false, false, false, false, false, false]) (f2 := 9) (by kernel_rfl) (by kernel_rfl) ?_
  refine wpAnyH_take (i := 8) (oi := _) (v := ?_) rfl (by kernel_rfl) (by kernel_rfl) (by kernel_rfl) (fun _ _ _ h => h) (Or.inl ⟨by rfl, ?_⟩) (by assumption) ?_
  rotate_left
  · (intro w hSw; (try dsimp only at hSw); go_simp; try with_reducible rfl)
  simp only [List.getElem_toArray, List.getElem_cons_succ, List.getElem_cons_zero, Act.put, List.setIfInBounds_toArray, List.set_cons_zero, List.set_cons_succ]
  refine wpAnyH_norm (l2 := #[true, true, true, true, true, true, true, true, true, false, false, false, false, false, false, false, false]) (f2 := 8) (by kernel_rfl) (by kernel_rfl) ?_
  refine wpAnyH_take (i := 9) (oi := _) (v := ?_) rfl (by kernel_rfl) (by kernel_rfl) (by kernel_rfl) (fun _ _ _ h => h) (Or.inl ⟨by rfl, ?_⟩) (by assumption) ?_
  rotate_left
  · (intro w hSw; (try dsimp only at hSw); go_simp; try with_reducible rfl)
  simp only [List.getElem_toArray, List.getElem_cons_succ, List.getElem_cons_zero, Act.put, List.setIfInBounds_toArray, List.set_cons_zero, List.set_cons_succ]
  refine wpAnyH_norm (l2 := #[true, true, true, true, true, true, true, true, true, true, false, false, false, false, false, false, false]) (f2 := 7) (by kernel_rfl) (by kernel_rfl) ?_
  refine wpAnyH_take (i := 10) (oi := _) (v := ?_) rfl (by kernel_rfl) (by kernel_rfl) (by kernel_rfl) (fun _ _ _ h => h) (Or.inl ⟨by rfl, ?_⟩) (by assumption) ?_
  rotate_left
  · (intro w hSw; (try dsimp only at hSw); go_simp; try with_reducible rfl)
  simp only [List.getElem_toArray, List.getElem_cons_succ, List.getElem_cons_zero, Act.put, List.setIfInBounds_toArray, List.set_cons_zero, List.set_cons_succ]
  refine wpAnyH_norm (l2 := #[true, true, true, true, true, true, true, true, true, true, true, false, false, false, false, false, false]) (f2 := 6) (by kernel_rfl) (by kernel_rfl) ?_
  refine wpAnyH_take (i := 11) (oi := _) (v := ?_) rfl (by kernel_rfl) (by kernel_rfl) (by kernel_rfl) (fun _ _ _ h => h) (Or.inl ⟨by rfl, ?_⟩) (by assumption) ?_
  rotate_left
  · (intro w hSw; (try dsimp only at hSw); go_simp; try with_reducible rfl)
  simp only [List.getElem_toArray, List.getElem_cons_succ, List.getElem_cons_zero, Act.put, List.setIfInBounds_toArray, List.set_cons_zero, List.set_cons_succ]
  refine wpAnyH_norm (l2 := #[true, true, true, true, true, true, true, true, true, true, true, true, false, false, false, false, false]) (f2 := 5) (by kernel_rfl) (by kernel_rfl) ?_
  refine wpAnyH_take (i := 12) (oi := _) (v := ?_) rfl (by kernel_rfl) (by kernel_rfl) (by kernel_rfl) (fun _ _ _ h => h) (Or.inl ⟨by rfl, ?_⟩) (by assumption) ?_
  rotate_left
  · (intro w hSw; (try dsimp only at hSw); go_simp; try with_reducible rfl)
  simp only [List.getElem_toArray, List.getElem_cons_succ, List.getElem_cons_zero, Act.put, List.setIfInBounds_toArray, List.set_cons_zero, List.set_cons_succ]
  refine wpAnyH_norm (l2 := #[true, true, true, true, true, true, true, true, true, true, true, true, true, false, false, false, false]) (f2 := 4) (by kernel_rfl) (by kernel_rfl) ?_
  refine wpAnyH_take (i := 13) (oi := _) (v := .slice q r (cap - (i + 1))) rfl (by kernel_rfl) (by kernel_rfl) (by kernel_rfl) (fun _ _ _ h => h) (Or.inl ⟨by rfl, ?_⟩) (by assumption) ?_
  · (intro w hSw; (try dsimp only at hSw); exact ex_slice rfl rfl rfl rfl rfl (HS2.out _))
  simp only [List.getElem_toArray, List.getElem_cons_succ, List.getElem_cons_zero, Act.put, List.setIfInBounds_toArray, List.set_cons_zero, List.set_cons_succ]
  refine wpAnyH_norm (l2 := #[true, true, true, true, true, true, true, true, true, true, true, true, true, true, false, false, false]) (f2 := 3) (by kernel_rfl) (by kernel_rfl) ?_
  refine wpAnyH_ready (rs := [14]) (by kernel_rfl) (by simp) ?_
  refine AllReadyH.cons rfl (fun K hK => ?_) AllReadyH.nil
  refine wp_copy_known (.tmp 25) (.tmp 32) 22 rfl _ _ rfl rfl _ w5 HRUN.out ?_
  refine hK.out _ _ (HC1.out _ HB5.out) (fun hHeld => ?_)
  clear hK K
  simp only [List.getElem_toArray, List.getElem_cons_succ, List.getElem_cons_zero, Act.put, List.setIfInBounds_toArray, List.set_cons_zero, List.set_cons_succ]
  refine wpAnyH_norm (l2 := #[true, true, true, true, true, true, true, true, true, true, true, true, true, true, true, false, false]) (f2 := 2) (by kernel_rfl) (by kernel_rfl) ?_
  refine wpAnyH_take (i := 15) (oi := _) (v := ?_) rfl (by kernel_rfl) (by kernel_rfl) (by kernel_rfl) (fun _ _ _ h => h) (Or.inl ⟨by rfl, ?_⟩) (by assumption) ?_
  rotate_left
  · (intro w hSw; (try dsimp only at hSw); go_simp; try with_reducible rfl)
  simp only [List.getElem_toArray, List.getElem_cons_succ, List.getElem_cons_zero, Act.put, List.setIfInBounds_toArray, List.set_cons_zero, List.set_cons_succ]
  refine wpAnyH_norm (l2 := #[true, true, true, true, true, true, true, true, true, true, true, true, true, true, true, true, false]) (f2 := 1) (by kernel_rfl) (by kernel_rfl) ?_
  refine wpAnyH_take (i := 16) (oi := _) (v := ?_) rfl (by kernel_rfl) (by kernel_rfl) (by kernel_rfl) (fun _ _ _ h => h) (Or.inl ⟨by rfl, ?_⟩) (by assumption) ?_
  rotate_left
  · (intro w hSw; (try dsimp only at hSw); go_simp; try with_reducible rfl)
  simp only [List.getElem_toArray, List.getElem_cons_succ, List.getElem_cons_zero, Act.put, List.setIfInBounds_toArray, List.set_cons_zero, List.set_cons_succ]
  refine wpAnyH_norm (l2 := #[true, true, true, true, true, true, true, true, true, true, true, true, true, true, true, true, true]) (f2 := 0) (by kernel_rfl) (by kernel_rfl) ?_
  refine wpAnyH_done (by kernel_rfl) ?_ _
  obtain ⟨w6, hcl6, hb6, ho6⟩ := rem_clear HO5.out HR.out 0 (cap - (i + r))
  have HCL := hid hcl6
  have hB56 := HB5.out.trans hb6
  have y5 := hHeld
  have y6 := HC1.out w6 hB56
  have z6 : w6.frozen? ⟨g, 1, none⟩ = false := (HD3.out.c1.but hB56 (fun e => HD3.out.ap gg ⟨_, rfl, rfl⟩ e.symm)).2
  have hG : Gr (some ⟨gg, 0, none⟩) (some ⟨gg, 0, none⟩) w3 w6 := ⟨hB56.mono (fun k hk => ⟨_, rfl, hk.symm⟩), fun k hk => .inl hk⟩
  have hlen : (K.take i ++ K.drop (i + 1)).length = i + r := by have := HR.out; simp; omega
  rw [← hlen] at ho6
  obtain ⟨p1, p2⟩ := HD3.out.put hG ho6
  rw [hlen] at p1 p2
  have hgb : ∀ k, (k = g ∨ Blk (some ⟨gg, 0, none⟩) k) → k < b4 := fun k hk => by
    rcases hk with rfl | ⟨_, e, rfl⟩
    · exact hgl
    · cases e; exact hggl
  obtain ⟨⟨r0, f0⟩, ⟨r1, f1⟩, ⟨r2, f2⟩⟩ := HQ3.out.2.1.but p2.but (fun e => by have := hgb _ e; omega)
  obtain ⟨x0, x1, x2⟩ := HQ3.out.2.2.1.but p2.but (fun e => by have := hgb _ e; omega)
  have HFIN : Hid (∀ W, But (· = b4) (w6.setCell ⟨g, 1, none⟩ (.slice (some ⟨gg, 0, none⟩) (i + r) cap)) W → Dm W base g m (some ⟨gg, 0, none⟩) cap (K.take i ++ K.drop (i + 1)) ∧ Wr w W g (some ⟨gg, 0, none⟩) (some ⟨gg, 0, none⟩)) := fun W hW => by
    refine ⟨p1.but hW (by omega) (fun k hk e => by obtain ⟨_, e1, e2⟩ := hk; cases e1; simp only at e2; omega), ?_, fun k hk => .inl hk⟩
    refine ((But.of HBQ.out).trans p2.but).comp hW (fun k e => .inr ?_)
    have := hb4e.out
    omega
  have hne : ¬ cap = i + r := by have := HR.out; omega
  have hcc : (i : Int) + (r : Int) ≤ (cap : Int) := by have := HR.out; omega
  clear p1 p2 hG hb6 ho6 hB56 hlen hgb hHeld
  go_wp2_with (first | ((with_reducible refine clear_arm HCL.out ?_ ?_); · rfl))
  exact bodyPost_ret (v := .tuple #[.agg #[.int .i64 c.1, .int .u64 (c.2.1 : Int), .int .u64 (c.2.2 : Int)], .int .i64 0]) (by simp [results, Try.results10, go_sem, r0, r1, r2]) rfl ⟨rfl, HFIN.out _ (setC_but (S := (· = b4)) (But.refl _ _) (b := b4) rfl 0 c)⟩
end Go.Proofs.Ytcagghfkomodlaa
