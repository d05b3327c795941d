import Derived.Test.YticgammbjcdobaaNE
namespace Go.Proofs.Yticgammbjcdobaa
open Go.RowKit
set_option linter.unusedVariables false
set_option linter.unusedSimpArgs false
theorem wp_append_known {P : Program} {w : World} {o : Oper} {a : Act} {K : Act → World → Prop} {Q : Exit → Act → World → Prop} (s x : Operand) (t : TypeId)
    (ho : o.op = .call { callee := .builtin .append, args := #[s, x], argTypes := #[t, t] }) (vs vx : Value) (hs : a.eval s = vs) (hx : a.eval x = vx) (v' : Value) (w' : World)
    (hr : (Builtin.append_ #[t, t] o.type #[vs, vx]).run P w = .ok v' w') (h : K (a.put o.dst v') w') : o.wp P a w K Q := by
  unfold Oper.wp execOp
  simp only [ho, resolve, invoke, builtin, Sem.run_bind, Sem.run_pure, Result.andThen_ok, List.map_toArray, List.map_cons, List.map_nil, hs, hx, hr]
  exact h
theorem wp_upd {P : Program} {w w' : World} {o : Oper} {a : Act} {K : Act → World → Prop} {Q : Exit → Act → World → Prop} {t : TypeId} {x y z : Operand} {p k v : Value} (ho : o.op = .mapUpdate t x y z) (hx : a.eval x = p) (hy : a.eval y = k) (hz : a.eval z = v) (hr : (Instr.mapUpdate t p k v).run P w = .ok () w') (h : K (a.put o.dst undef) w') : o.wp P a w K Q := by
  unfold Oper.wp execOp
  simp only [ho, hx, hy, hz, hr, Sem.run_bind, Sem.run_pure, Result.andThen_ok]
  exact h
theorem ex_lk {P : Program} {w : World} {o : Oper} {ρ : Operand → Value} {t : TypeId} {x y : Operand} {c : Bool} {p k v : Value} (ho : o.op = .lookup t x y c) (hx : ρ x = p) (hy : ρ y = k) (hr : (Instr.lookup t p k c).run P w = .ok v w) : (execOp ρ o).run P w = .ok (.value v) w := by
  unfold execOp
  simp only [ho, hx, hy, hr, Sem.run_bind, Sem.run_pure, Result.andThen_ok]
theorem wp_lk {P : Program} {w : World} {o : Oper} {a : Act} {K : Act → World → Prop} {Q : Exit → Act → World → Prop} {t : TypeId} {x y : Operand} {c : Bool} {p k v : Value} (ho : o.op = .lookup t x y c) (hx : a.eval x = p) (hy : a.eval y = k) (hr : (Instr.lookup t p k c).run P w = .ok v w) (h : K (a.put o.dst v) w) : o.wp P a w K Q := by
  unfold Oper.wp execOp
  simp only [ho, hx, hy, hr, Sem.run_bind, Sem.run_pure, Result.andThen_ok]
  exact h
theorem al_drew (w : World) (o : Obj) : (w.alloc o).drew = w.drew.alloc o := rfl
theorem infoLk : (Try.prog.info? 46).map (·.size) = some 7 := by kernel_rfl
theorem ldLk {w : World} {b o : Nat} {L : List Value} (h : w.rangeAt b o L) (hl : L.length = 7) : (Instr.loadAt 46 (.pointer (some ⟨b, o, none⟩))).run Try.prog w = .ok (.agg L.toArray) w :=
  run_loadAt_mid w b o 46 L _ h Try.underlying46 rfl (by rw [infoLk, hl])
theorem Bx.set1 {w : World} {b : Nat} {L : List Value} (h : Bx w b L) (j : Nat) (v : Value) (hj : j < L.length) : Bx (w.setCell ⟨b, j, none⟩ v) b (L.set j v) := by
  refine ⟨fun i u hu => ?_, fun i hi => ?_⟩
  · rw [Nat.zero_add]
    by_cases e : i = j
    · subst e
      rw [List.getElem?_set_self hj] at hu
      cases hu
      have := h.cell i (List.getElem?_eq_getElem hj)
      exact World.cell?_setCell_same _ _ _ this
    · rw [List.getElem?_set_ne (fun h => e h.symm)] at hu
      rw [World.cell?_setCell_other _ _ _ _ (fun e2 => e (by simpa using (congrArg Addr.off e2).symm))]
      exact h.cell i hu
  · have hi' : i < L.length := by simpa using hi
    obtain ⟨h1, h2⟩ := h.there i hi'
    obtain ⟨u, hu⟩ := Option.isSome_iff_exists.1 h1
    obtain ⟨u', hu'⟩ := cell?_setCell_some (w := w) (p := ⟨b, j, none⟩) (x := v) (q := ⟨b, 0 + i, none⟩) (v := u) hu
    exact ⟨by rw [hu']; rfl, by rw [World.frozen?_setCell]; exact h2⟩
set_option maxRecDepth 100000 in
set_option maxHeartbeats 4000000 in
theorem tell_gen (m : Bm) (s0 kd by_ tt o : Int) (ch cl : Nat) (ah : Option Addr) (w : World) (h : Bw w m) (hc : Cp.far ⟨o, ch, cl⟩) (hF : hasF ⟨o, ch, cl⟩ = true) (hp : I64 tt) (hg : Gt m.T tt (fmV (frm ⟨o, ch, cl⟩)) none) (S1 S2 : Nat → Prop) (R : Bm → Nat → Prop) (Q : World → Nat → Prop)
    (hk : ∀ (U : World) (kt : Nat), Below w.heap.size w U → Calls Try.prog 47 #[.map (some m.bt), .int .i64 tt, fmV (frm ⟨o, ch, cl⟩), .pointer (some ⟨kt, 0, none⟩)] U fun e w' => e = .returned (.tuple #[]) ∧ ∃ m1 : Bm, Bw w' m1 ∧ R m1 kt ∧ m1.g = m.g ∧ m1.cells = m.cells ∧ But S1 U w')
    (hS1 : ∀ j, S1 j → j < w.heap.size) (hS2 : ∀ j, S2 j → j < w.heap.size ∧ j ≠ m.g)
    (hn : ∀ (U : World) (m1 : Bm) (kt : Nat), w.heap.size ≤ U.heap.size → Bw U m1 → R m1 kt → m1.cells = m.cells → ∃ v0 v7 w7 w8, (∀ U', Below U.heap.size U U' → (Instr.lookup 61 (.map (some m.bk)) (.int .i64 tt) false).run Try.prog U' = .ok v0 U') ∧ (Builtin.append_ #[26, 26] 26 #[v0, .slice (some ⟨U.heap.size, 0, none⟩) 1 1]).run Try.prog (U.alloc (Obj.cells #[.int .i64 o, .int .u64 (ch : Int), .int .u64 (cl : Int)] 31)) = .ok v7 w7 ∧ (Instr.mapUpdate 61 (.map (some m.bk)) (.int .i64 tt) v7).run Try.prog w7 = .ok () w8 ∧ Q w8 kt ∧ But S2 U w8 ∧ But S2 U w7) :
    Calls Try.prog 34 #[.pointer (some ⟨m.g, 0, none⟩), .agg #[.int .i64 s0, .int .i64 kd, .int .i64 by_, .int .i64 tt, .int .i64 o, .int .u64 (ch : Int), .int .u64 (cl : Int)], .pointer ah] w fun e w' => e = .returned (.tuple #[]) ∧ ∃ kt, w.heap.size ≤ kt ∧ Q w' kt ∧ Bx w' kt [.int .i64 m.n, .int .i64 kd, .int .i64 by_, .int .i64 tt, .int .i64 o, .int .u64 (ch : Int), .int .u64 (cl : Int), .pointer ah] ∧ w'.heap[kt]? = some (Obj.cells #[.int .i64 m.n, .int .i64 kd, .int .i64 by_, .int .i64 tt, .int .i64 o, .int .u64 (ch : Int), .int .u64 (cl : Int), .pointer ah] 92) ∧ But (fun j => S1 j ∨ S2 j) w w' := by
  obtain ⟨W, hW⟩ : ∃ W, W = w.alloc (Obj.cells #[.int .i64 s0, .int .i64 kd, .int .i64 by_, .int .i64 tt, .int .i64 o, .int .u64 (ch : Int), .int .u64 (cl : Int)] 46) := ⟨_, rfl⟩
  have hB : Below w.heap.size w W := by rw [hW]; exact below1 _ _
  have HX0 : Hid (Bx W w.heap.size [.int .i64 s0, .int .i64 kd, .int .i64 by_, .int .i64 tt, .int .i64 o, .int .u64 (ch : Int), .int .u64 (cl : Int)]) := by rw [hW]; exact Bx.new w [.int .i64 s0, .int .i64 kd, .int .i64 by_, .int .i64 tt, .int .i64 o, .int .u64 (ch : Int), .int .u64 (cl : Int)] _
  have c4 := HX0.out.cell 4 rfl
  have c5 := HX0.out.cell 5 rfl
  have c6 := HX0.out.cell 6 rfl
  have HFo := hid (formOf_any ⟨o, ch, cl⟩ hc W)
  have eF : fmR ⟨o, ch, cl⟩ = frm ⟨o, ch, cl⟩ := by unfold fmR; rw [if_pos hF]
  rw [eF, hF] at HFo
  have HLo : Hid (∀ U, Below w.heap.size w U → Calls Try.prog 40 #[.map (some m.bt), .int .i64 tt, fmV (frm ⟨o, ch, cl⟩)] U fun e w' => e = .returned (.tuple #[.pointer none, .bool false]) ∧ Below U.heap.size U w') := fun U hU => lookF_any m.bt m.T tt (frm ⟨o, ch, cl⟩) none U ((h.later hU).told) hp (frm_len _) (frm_sml _) hg
  have HH := hid h
  have HB := hid hB
  have HW := hid hW
  have HKp := hid hk
  have HN := hid hn
  have HS1 := hid hS1
  have HS2 := hid hS2
  have HFl := hid (frm_len ⟨o, ch, cl⟩)
  generalize frm ⟨o, ch, cl⟩ = F at HFo HLo HKp HFl
  clear h hB hW hk hn hS1 hS2 hg eF hF hc
  go_enter Try.func34, Try.ntmps34
  go_upto_region 1 with fail
  rw [← HW.out]
  go_upto_region 2 with (first | (go_at_call 44; refine HFo.out.mono ?_; rintro x w2 ⟨rfl, hb2⟩; have HB2 := hid hb2; (have HZx : Hid (Bx (w2.alloc (Obj.cells #[.int .u8 0, .int .u8 0, .int .u8 0, .int .u8 0, .int .u8 0, .int .u8 0, .int .u8 0, .int .u8 0, .int .u8 0, .int .u8 0, .int .u8 0, .int .u8 0, .int .u8 0, .int .u8 0, .int .u8 0, .int .u8 0, .int .u8 0, .int .u8 0, .int .u8 0, .int .u8 0, .int .u8 0, .int .u8 0, .int .u8 0, .int .u8 0] 95)) w2.heap.size (u8s zF)) := Bx.new w2 (u8s zF) _); (have HSt := hid (stFm (L := u8s F) (w := w2.alloc (Obj.cells #[.int .u8 0, .int .u8 0, .int .u8 0, .int .u8 0, .int .u8 0, .int .u8 0, .int .u8 0, .int .u8 0, .int .u8 0, .int .u8 0, .int .u8 0, .int .u8 0, .int .u8 0, .int .u8 0, .int .u8 0, .int .u8 0, .int .u8 0, .int .u8 0, .int .u8 0, .int .u8 0, .int .u8 0, .int .u8 0, .int .u8 0, .int .u8 0] 95)) (b := w2.heap.size) (o := 0) (by have := HZx.out.there; rwa [u8s_length, show zF.length = 24 from rfl] at this) (by rw [u8s_length]; exact HFl.out) (u8s_one F))); clear hb2) | ((with_reducible refine st_arm HSt.out ?_ ?_ ?_); (· rfl); (· rfl)))
  obtain ⟨V2, hV2⟩ : ∃ V, V = (w2.alloc (Obj.cells #[.int .u8 0, .int .u8 0, .int .u8 0, .int .u8 0, .int .u8 0, .int .u8 0, .int .u8 0, .int .u8 0, .int .u8 0, .int .u8 0, .int .u8 0, .int .u8 0, .int .u8 0, .int .u8 0, .int .u8 0, .int .u8 0, .int .u8 0, .int .u8 0, .int .u8 0, .int .u8 0, .int .u8 0, .int .u8 0, .int .u8 0, .int .u8 0] 95)).setCells w2.heap.size 0 (u8s F) := ⟨_, rfl⟩
  rw [← hV2]
  obtain ⟨kf, hkf⟩ : ∃ k, k = w2.heap.size := ⟨_, rfl⟩
  have HBv : Hid (Below w2.heap.size w2 V2) := by rw [hV2]; exact But.below (below1 _ _) (setCells_but (S := (· = w2.heap.size)) rfl (u8s F) 0 (But.refl _ _)) (fun k hk => by omega)
  have HXf : Hid (Bx V2 kf (u8s F)) := by rw [hkf, hV2]; exact HZx.out.set (by rw [u8s_length, u8s_length, HFl.out]; rfl)
  have HX2 : Hid (Bx V2 w.heap.size [.int .i64 s0, .int .i64 kd, .int .i64 by_, .int .i64 tt, .int .i64 o, .int .u64 (ch : Int), .int .u64 (cl : Int)]) := (HX0.out.later HB2.out).later HBv.out
  have HBw : Hid (Below w.heap.size w V2) := below_call HB.out (below_call HB2.out HBv.out)
  have HKf : Hid (w.heap.size < kf ∧ kf < V2.heap.size) := by
    have h1 := HB2.out.size
    have h2 : w.heap.size < W.heap.size := by rw [HW.out]; simp
    exact ⟨by omega, HXf.out.lt (by rw [u8s_length, HFl.out]; omega)⟩
  rw [← hkf]
  clear c4 c5 c6 hV2 hkf HZx HSt HB2 HBv HX0 HFo HW HB
  have HSA : Hid (∀ U, Below V2.heap.size V2 U → (U.rangeAt m.g 0 m.cells ∧ U.rangeAt w.heap.size 0 [.int .i64 s0, .int .i64 kd, .int .i64 by_, .int .i64 tt, .int .i64 o, .int .u64 (ch : Int), .int .u64 (cl : Int)] ∧ U.rangeAt kf 0 (u8s F))) := fun U hU => ⟨((HH.out.later HBw.out).bx.later hU).range, (HX2.out.later hU).range, (HXf.out.later hU).range⟩
  refine wp_region_held_drew (S := (fun U : World => U.rangeAt m.g 0 m.cells ∧ U.rangeAt w.heap.size 0 [.int .i64 s0, .int .i64 kd, .int .i64 by_, .int .i64 tt, .int .i64 o, .int .u64 (ch : Int), .int .u64 (cl : Int)] ∧ U.rangeAt kf 0 (u8s F))) (by kernel_rfl) (HSA.out _ (Below.refl _ _).drew) (fun hHeld => ?_)
  refine wpAnyH_norm (l2 := #[false, false, false, false, false, false, false, false, false, false, false, false, false]) (f2 := 13) (by kernel_rfl) (by kernel_rfl) ?_
  refine wpAnyH_take (i := 0) (oi := _) (v := ?_) rfl (by kernel_rfl) (by kernel_rfl) (by kernel_rfl) (fun _ _ _ h => h) (Or.inl ⟨by rfl, ?_⟩) (by assumption) ?_
  rotate_left
  · (intro w hSw; (try dsimp only at hSw); go_simp; try with_reducible rfl)
  simp only [List.getElem_toArray, List.getElem_cons_succ, List.getElem_cons_zero, Act.put, List.setIfInBounds_toArray, List.set_cons_zero, List.set_cons_succ]
  refine wpAnyH_norm (l2 := #[true, false, false, false, false, false, false, false, false, false, false, false, false]) (f2 := 12) (by kernel_rfl) (by kernel_rfl) ?_
  refine wpAnyH_take (i := 1) (oi := _) (v := ?_) rfl (by kernel_rfl) (by kernel_rfl) (by kernel_rfl) (fun _ _ _ h => h) (Or.inl ⟨by rfl, ?_⟩) (by assumption) ?_
  rotate_left
  · (intro w hSw; (try dsimp only at hSw); go_simp; try with_reducible rfl)
  simp only [List.getElem_toArray, List.getElem_cons_succ, List.getElem_cons_zero, Act.put, List.setIfInBounds_toArray, List.set_cons_zero, List.set_cons_succ]
  refine wpAnyH_norm (l2 := #[true, true, false, false, false, false, false, false, false, false, false, false, false]) (f2 := 11) (by kernel_rfl) (by kernel_rfl) ?_
  refine wpAnyH_take (i := 2) (oi := _) (v := ?_) rfl (by kernel_rfl) (by kernel_rfl) (by kernel_rfl) (fun _ _ _ h => h) (Or.inl ⟨by rfl, ?_⟩) (by assumption) ?_
  rotate_left
  · (intro w hSw; (try dsimp only at hSw); go_simp; try with_reducible rfl)
  simp only [List.getElem_toArray, List.getElem_cons_succ, List.getElem_cons_zero, Act.put, List.setIfInBounds_toArray, List.set_cons_zero, List.set_cons_succ]
  refine wpAnyH_norm (l2 := #[true, true, true, false, false, false, false, false, false, false, false, false, false]) (f2 := 10) (by kernel_rfl) (by kernel_rfl) ?_
  refine wpAnyH_take (i := 3) (oi := _) (v := ?_) rfl (by kernel_rfl) (by kernel_rfl) (by kernel_rfl) (fun _ _ _ h => h) (Or.inl ⟨by rfl, ?_⟩) (by assumption) ?_
  rotate_left
  · (intro w hSw; have z1 := rg_at (j := 4) hSw.1 rfl; go_simp; try with_reducible rfl)
  simp only [List.getElem_toArray, List.getElem_cons_succ, List.getElem_cons_zero, Act.put, List.setIfInBounds_toArray, List.set_cons_zero, List.set_cons_succ]
  refine wpAnyH_norm (l2 := #[true, true, true, true, false, false, false, false, false, false, false, false, false]) (f2 := 9) (by kernel_rfl) (by kernel_rfl) ?_
  refine wpAnyH_take (i := 4) (oi := _) (v := ?_) rfl (by kernel_rfl) (by kernel_rfl) (by kernel_rfl) (fun _ _ _ h => h) (Or.inl ⟨by rfl, ?_⟩) (by assumption) ?_
  rotate_left
  · (intro w hSw; (try dsimp only at hSw); go_simp; try with_reducible rfl)
  simp only [List.getElem_toArray, List.getElem_cons_succ, List.getElem_cons_zero, Act.put, List.setIfInBounds_toArray, List.set_cons_zero, List.set_cons_succ]
  refine wpAnyH_norm (l2 := #[true, true, true, true, true, false, false, false, false, false, false, false, false]) (f2 := 8) (by kernel_rfl) (by kernel_rfl) ?_
  refine wpAnyH_take (i := 5) (oi := _) (v := ?_) rfl (by kernel_rfl) (by kernel_rfl) (by kernel_rfl) (fun _ _ _ h => h) (Or.inl ⟨by rfl, ?_⟩) (by assumption) ?_
  rotate_left
  · (intro w hSw; have z0 := rg_at (j := 3) hSw.2.1 rfl; go_simp; try with_reducible rfl)
  simp only [List.getElem_toArray, List.getElem_cons_succ, List.getElem_cons_zero, Act.put, List.setIfInBounds_toArray, List.set_cons_zero, List.set_cons_succ]
  refine wpAnyH_norm (l2 := #[true, true, true, true, true, true, false, false, false, false, false, false, false]) (f2 := 7) (by kernel_rfl) (by kernel_rfl) ?_
  refine wpAnyH_take (i := 6) (oi := _) (v := fmV F) rfl (by kernel_rfl) (by kernel_rfl) (by kernel_rfl) (fun _ _ _ h => h) (Or.inl ⟨by rfl, ?_⟩) (by assumption) ?_
  · (intro w hSw; (try dsimp only at hSw); exact ex_ld rfl rfl (ldFm hSw.2.2 (by rw [u8s_length]; exact HFl.out)))
  simp only [List.getElem_toArray, List.getElem_cons_succ, List.getElem_cons_zero, Act.put, List.setIfInBounds_toArray, List.set_cons_zero, List.set_cons_succ]
  refine wpAnyH_norm (l2 := #[true, true, true, true, true, true, true, false, false, false, false, false, false]) (f2 := 6) (by kernel_rfl) (by kernel_rfl) ?_
  refine wpAnyH_ready (rs := [7]) (by kernel_rfl) (by simp) ?_
  refine AllReadyH.cons rfl (fun K hK => ?_) AllReadyH.nil
  go_simp
  go_wp2_with (first | (go_at_call 40; refine (HLo.out _ (below_call HBw.out (Below.refl _ _).drew)).mono ?_; rintro e w3 ⟨rfl, hb3⟩))
  have HB3 : Hid (Below V2.heap.size V2 w3) := below_call (Below.refl _ _).drew hb3
  clear hb3
  refine hK.out _ _ (HSA.out _ HB3.out) (fun hHeld => ?_)
  clear hK K
  simp only [List.getElem_toArray, List.getElem_cons_succ, List.getElem_cons_zero, Act.put, List.setIfInBounds_toArray, List.set_cons_zero, List.set_cons_succ]
  refine wpAnyH_norm (l2 := #[true, true, true, true, true, true, true, true, false, false, false, false, false]) (f2 := 5) (by kernel_rfl) (by kernel_rfl) ?_
  refine wpAnyH_take (i := 8) (oi := _) (v := ?_) rfl (by kernel_rfl) (by kernel_rfl) (by kernel_rfl) (fun _ _ _ h => h) (Or.inl ⟨by rfl, ?_⟩) (by assumption) ?_
  rotate_left
  · (intro w hSw; (try dsimp only at hSw); go_simp; try with_reducible rfl)
  simp only [List.getElem_toArray, List.getElem_cons_succ, List.getElem_cons_zero, Act.put, List.setIfInBounds_toArray, List.set_cons_zero, List.set_cons_succ]
  refine wpAnyH_norm (l2 := #[true, true, true, true, true, true, true, true, true, false, false, false, false]) (f2 := 4) (by kernel_rfl) (by kernel_rfl) ?_
  refine wpAnyH_take (i := 9) (oi := _) (v := ?_) rfl (by kernel_rfl) (by kernel_rfl) (by kernel_rfl) (fun _ _ _ h => h) (Or.inl ⟨by rfl, ?_⟩) (by assumption) ?_
  rotate_left
  · (intro w hSw; (try dsimp only at hSw); go_simp; try with_reducible rfl)
  simp only [List.getElem_toArray, List.getElem_cons_succ, List.getElem_cons_zero, Act.put, List.setIfInBounds_toArray, List.set_cons_zero, List.set_cons_succ]
  refine wpAnyH_norm (l2 := #[true, true, true, true, true, true, true, true, true, true, false, false, false]) (f2 := 3) (by kernel_rfl) (by kernel_rfl) ?_
  refine wpAnyH_take (i := 10) (oi := _) (v := ?_) rfl (by kernel_rfl) (by kernel_rfl) (by kernel_rfl) (fun _ _ _ h => h) (Or.inl ⟨by rfl, ?_⟩) (by assumption) ?_
  rotate_left
  · (intro w hSw; (try dsimp only at hSw); go_simp; try with_reducible rfl)
  simp only [List.getElem_toArray, List.getElem_cons_succ, List.getElem_cons_zero, Act.put, List.setIfInBounds_toArray, List.set_cons_zero, List.set_cons_succ]
  refine wpAnyH_norm (l2 := #[true, true, true, true, true, true, true, true, true, true, true, false, false]) (f2 := 2) (by kernel_rfl) (by kernel_rfl) ?_
  refine wpAnyH_take (i := 11) (oi := _) (v := ?_) rfl (by kernel_rfl) (by kernel_rfl) (by kernel_rfl) (fun _ _ _ h => h) (Or.inl ⟨by rfl, ?_⟩) (by assumption) ?_
  rotate_left
  · (intro w hSw; (try dsimp only at hSw); go_simp; try with_reducible rfl)
  simp only [List.getElem_toArray, List.getElem_cons_succ, List.getElem_cons_zero, Act.put, List.setIfInBounds_toArray, List.set_cons_zero, List.set_cons_succ]
  refine wpAnyH_norm (l2 := #[true, true, true, true, true, true, true, true, true, true, true, true, false]) (f2 := 1) (by kernel_rfl) (by kernel_rfl) ?_
  refine wpAnyH_take (i := 12) (oi := _) (v := ?_) rfl (by kernel_rfl) (by kernel_rfl) (by kernel_rfl) (fun _ _ _ h => h) (Or.inl ⟨by rfl, ?_⟩) (by assumption) ?_
  rotate_left
  · (intro w hSw; (try dsimp only at hSw); go_simp; try with_reducible rfl)
  simp only [List.getElem_toArray, List.getElem_cons_succ, List.getElem_cons_zero, Act.put, List.setIfInBounds_toArray, List.set_cons_zero, List.set_cons_succ]
  refine wpAnyH_norm (l2 := #[true, true, true, true, true, true, true, true, true, true, true, true, true]) (f2 := 0) (by kernel_rfl) (by kernel_rfl) ?_
  refine wpAnyH_done (by kernel_rfl) ?_ _
  have HX3 := hid (HX2.out.later HB3.out)
  have HB3w : Hid (Below w.heap.size w w3) := below_call HBw.out HB3.out
  have q0 := (HH.out.later HB3w.out).bx.cell 0 rfl
  have y0 := HX3.out.cell 0 rfl
  have y0f : w3.frozen? ⟨w.heap.size, 0, none⟩ = false := by have := (HX3.out.there 0 (by simp)).2; rwa [Nat.zero_add] at this
  go_upto_region 5 with fail
  obtain ⟨U4, hU4⟩ : ∃ U, U = w3.setCell ⟨w.heap.size, 0, none⟩ (.int .i64 m.n) := ⟨_, rfl⟩
  rw [← hU4]
  have HBs : Hid (But (· = w.heap.size) w3 U4) := by rw [hU4]; exact (But.refl (· = w.heap.size) w3).setCell (p := ⟨w.heap.size, 0, none⟩) rfl _
  have HX4 : Hid (Bx U4 w.heap.size [.int .i64 m.n, .int .i64 kd, .int .i64 by_, .int .i64 tt, .int .i64 o, .int .u64 (ch : Int), .int .u64 (cl : Int)]) := by rw [hU4]; exact HX3.out.set1 0 _ (by simp)
  have HXf4 : Hid (Bx U4 kf (u8s F)) := (HXf.out.later HB3.out).but HBs.out (by have := HKf.out; omega)
  have HB4 : Hid (Below w.heap.size w U4) := But.below HB3w.out HBs.out (fun k hk => by omega)
  clear q0 y0 y0f hU4 HX3 HBs HX2 HXf HSA HLo
  have HSB : Hid (∀ U, Below U4.heap.size U4 U → (U.rangeAt m.g 0 m.cells ∧ U.rangeAt w.heap.size 0 [.int .i64 m.n, .int .i64 kd, .int .i64 by_, .int .i64 tt, .int .i64 o, .int .u64 (ch : Int), .int .u64 (cl : Int)] ∧ U.rangeAt kf 0 (u8s F))) := fun U hU => ⟨((HH.out.later HB4.out).bx.later hU).range, (HX4.out.later hU).range, (HXf4.out.later hU).range⟩
  obtain ⟨V5, hV5⟩ : ∃ V, V = (U4.alloc (Obj.cells #[.int .i64 m.n, .int .i64 kd, .int .i64 by_, .int .i64 tt, .int .i64 o, .int .u64 (ch : Int), .int .u64 (cl : Int), .pointer ah] 92)).drew := ⟨_, rfl⟩
  have HV5 := hid hV5
  have HB5 : Hid (Below U4.heap.size U4 V5) := by rw [hV5]; exact (below1 _ _).drew
  have HXt : Hid (Bx V5 U4.heap.size [.int .i64 m.n, .int .i64 kd, .int .i64 by_, .int .i64 tt, .int .i64 o, .int .u64 (ch : Int), .int .u64 (cl : Int), .pointer ah]) := by rw [hV5]; exact (Bx.new U4 [.int .i64 m.n, .int .i64 kd, .int .i64 by_, .int .i64 tt, .int .i64 o, .int .u64 (ch : Int), .int .u64 (cl : Int), .pointer ah] _).later (Below.refl _ _).drew
  have HTy : Hid (V5.heap[U4.heap.size]? = some (Obj.cells #[.int .i64 m.n, .int .i64 kd, .int .i64 by_, .int .i64 tt, .int .i64 o, .int .u64 (ch : Int), .int .u64 (cl : Int), .pointer ah] 92)) := by rw [hV5]; exact Array.getElem?_push_size
  clear hV5
  refine wp_region_held_drew (S := (fun U : World => U.rangeAt m.g 0 m.cells ∧ U.rangeAt w.heap.size 0 [.int .i64 m.n, .int .i64 kd, .int .i64 by_, .int .i64 tt, .int .i64 o, .int .u64 (ch : Int), .int .u64 (cl : Int)] ∧ U.rangeAt kf 0 (u8s F))) (by kernel_rfl) (HSB.out _ (Below.refl _ _).drew) (fun hHeld => ?_)
  refine wpAnyH_norm (l2 := #[false, false, false, false, false, false, false, false, false, false, false, false]) (f2 := 12) (by kernel_rfl) (by kernel_rfl) ?_
  refine wpAnyH_take (i := 0) (oi := _) (v := ?_) rfl (by kernel_rfl) (by kernel_rfl) (by kernel_rfl) (fun _ _ _ h => h) (Or.inl ⟨by rfl, ?_⟩) (by assumption) ?_
  rotate_left
  · (intro w hSw; (try dsimp only at hSw); go_simp; try with_reducible rfl)
  simp only [List.getElem_toArray, List.getElem_cons_succ, List.getElem_cons_zero, Act.put, List.setIfInBounds_toArray, List.set_cons_zero, List.set_cons_succ]
  refine wpAnyH_norm (l2 := #[true, false, false, false, false, false, false, false, false, false, false, false]) (f2 := 11) (by kernel_rfl) (by kernel_rfl) ?_
  refine wpAnyH_take (i := 1) (oi := _) (v := ?_) rfl (by kernel_rfl) (by kernel_rfl) (by kernel_rfl) (fun _ _ _ h => h) (Or.inl ⟨by rfl, ?_⟩) (by assumption) ?_
  rotate_left
  · (intro w hSw; (try dsimp only at hSw); go_simp; try with_reducible rfl)
  simp only [List.getElem_toArray, List.getElem_cons_succ, List.getElem_cons_zero, Act.put, List.setIfInBounds_toArray, List.set_cons_zero, List.set_cons_succ]
  refine wpAnyH_norm (l2 := #[true, true, false, false, false, false, false, false, false, false, false, false]) (f2 := 10) (by kernel_rfl) (by kernel_rfl) ?_
  refine wpAnyH_take (i := 2) (oi := _) (v := ?_) rfl (by kernel_rfl) (by kernel_rfl) (by kernel_rfl) (fun _ _ _ h => h) (Or.inl ⟨by rfl, ?_⟩) (by assumption) ?_
  rotate_left
  · (intro w hSw; (try dsimp only at hSw); go_simp; try with_reducible rfl)
  simp only [List.getElem_toArray, List.getElem_cons_succ, List.getElem_cons_zero, Act.put, List.setIfInBounds_toArray, List.set_cons_zero, List.set_cons_succ]
  refine wpAnyH_norm (l2 := #[true, true, true, false, false, false, false, false, false, false, false, false]) (f2 := 9) (by kernel_rfl) (by kernel_rfl) ?_
  refine wpAnyH_take (i := 3) (oi := _) (v := ?_) rfl (by kernel_rfl) (by kernel_rfl) (by kernel_rfl) (fun _ _ _ h => h) (Or.inl ⟨by rfl, ?_⟩) (by assumption) ?_
  rotate_left
  · (intro w hSw; have z1 := rg_at (j := 4) hSw.1 rfl; go_simp; try with_reducible rfl)
  simp only [List.getElem_toArray, List.getElem_cons_succ, List.getElem_cons_zero, Act.put, List.setIfInBounds_toArray, List.set_cons_zero, List.set_cons_succ]
  refine wpAnyH_norm (l2 := #[true, true, true, true, false, false, false, false, false, false, false, false]) (f2 := 8) (by kernel_rfl) (by kernel_rfl) ?_
  refine wpAnyH_take (i := 4) (oi := _) (v := ?_) rfl (by kernel_rfl) (by kernel_rfl) (by kernel_rfl) (fun _ _ _ h => h) (Or.inl ⟨by rfl, ?_⟩) (by assumption) ?_
  rotate_left
  · (intro w hSw; (try dsimp only at hSw); go_simp; try with_reducible rfl)
  simp only [List.getElem_toArray, List.getElem_cons_succ, List.getElem_cons_zero, Act.put, List.setIfInBounds_toArray, List.set_cons_zero, List.set_cons_succ]
  refine wpAnyH_norm (l2 := #[true, true, true, true, true, false, false, false, false, false, false, false]) (f2 := 7) (by kernel_rfl) (by kernel_rfl) ?_
  refine wpAnyH_take (i := 5) (oi := _) (v := ?_) rfl (by kernel_rfl) (by kernel_rfl) (by kernel_rfl) (fun _ _ _ h => h) (Or.inl ⟨by rfl, ?_⟩) (by assumption) ?_
  rotate_left
  · (intro w hSw; have z0 := rg_at (j := 3) hSw.2.1 rfl; go_simp; try with_reducible rfl)
  simp only [List.getElem_toArray, List.getElem_cons_succ, List.getElem_cons_zero, Act.put, List.setIfInBounds_toArray, List.set_cons_zero, List.set_cons_succ]
  refine wpAnyH_norm (l2 := #[true, true, true, true, true, true, false, false, false, false, false, false]) (f2 := 6) (by kernel_rfl) (by kernel_rfl) ?_
  refine wpAnyH_take (i := 6) (oi := _) (v := fmV F) rfl (by kernel_rfl) (by kernel_rfl) (by kernel_rfl) (fun _ _ _ h => h) (Or.inl ⟨by rfl, ?_⟩) (by assumption) ?_
  · (intro w hSw; (try dsimp only at hSw); exact ex_ld rfl rfl (ldFm hSw.2.2 (by rw [u8s_length]; exact HFl.out)))
  simp only [List.getElem_toArray, List.getElem_cons_succ, List.getElem_cons_zero, Act.put, List.setIfInBounds_toArray, List.set_cons_zero, List.set_cons_succ]
  refine wpAnyH_norm (l2 := #[true, true, true, true, true, true, true, false, false, false, false, false]) (f2 := 5) (by kernel_rfl) (by kernel_rfl) ?_
  refine wpAnyH_take (i := 7) (oi := _) (v := .agg #[.int .i64 m.n, .int .i64 kd, .int .i64 by_, .int .i64 tt, .int .i64 o, .int .u64 (ch : Int), .int .u64 (cl : Int)]) rfl (by kernel_rfl) (by kernel_rfl) (by kernel_rfl) (fun _ _ _ h => h) (Or.inl ⟨by rfl, ?_⟩) (by assumption) ?_
  · (intro w hSw; (try dsimp only at hSw); exact ex_ld rfl rfl (ldLk hSw.2.1 rfl))
  simp only [List.getElem_toArray, List.getElem_cons_succ, List.getElem_cons_zero, Act.put, List.setIfInBounds_toArray, List.set_cons_zero, List.set_cons_succ]
  refine wpAnyH_norm (l2 := #[true, true, true, true, true, true, true, true, false, false, false, false]) (f2 := 4) (by kernel_rfl) (by kernel_rfl) ?_
  refine wpAnyH_take (i := 8) (oi := _) (v := ?_) rfl (by kernel_rfl) (by kernel_rfl) (by kernel_rfl) (fun _ _ _ h => h) (Or.inl ⟨by rfl, ?_⟩) (by assumption) ?_
  rotate_left
  · (intro w hSw; (try dsimp only at hSw); go_simp; try with_reducible rfl)
  simp only [List.getElem_toArray, List.getElem_cons_succ, List.getElem_cons_zero, Act.put, List.setIfInBounds_toArray, List.set_cons_zero, List.set_cons_succ]
  refine wpAnyH_norm (l2 := #[true, true, true, true, true, true, true, true, true, false, false, false]) (f2 := 3) (by kernel_rfl) (by kernel_rfl) ?_
  refine wpAnyH_take (i := 9) (oi := _) (v := ?_) rfl (by kernel_rfl) (by kernel_rfl) (by kernel_rfl) (fun _ _ _ h => h) (Or.inl ⟨by rfl, ?_⟩) (by assumption) ?_
  rotate_left
  · (intro w hSw; (try dsimp only at hSw); go_simp; try with_reducible rfl)
  simp only [List.getElem_toArray, List.getElem_cons_succ, List.getElem_cons_zero, Act.put, List.setIfInBounds_toArray, List.set_cons_zero, List.set_cons_succ]
  refine wpAnyH_norm (l2 := #[true, true, true, true, true, true, true, true, true, true, false, false]) (f2 := 2) (by kernel_rfl) (by kernel_rfl) ?_
  refine wpAnyH_ready (rs := [10]) (by kernel_rfl) (by simp) ?_
  refine AllReadyH.cons rfl (fun K hK => ?_) AllReadyH.nil
  go_simp
  rw [← HV5.out]
  refine hK.out _ _ (HSB.out _ HB5.out) (fun hHeld => ?_)
  clear hK K
  simp only [List.getElem_toArray, List.getElem_cons_succ, List.getElem_cons_zero, Act.put, List.setIfInBounds_toArray, List.set_cons_zero, List.set_cons_succ]
  refine wpAnyH_norm (l2 := #[true, true, true, true, true, true, true, true, true, true, true, false]) (f2 := 1) (by kernel_rfl) (by kernel_rfl) ?_
  refine wpAnyH_ready (rs := [11]) (by kernel_rfl) (by simp) ?_
  refine AllReadyH.cons rfl (fun K hK => ?_) AllReadyH.nil
  go_simp
  go_wp2_with (first | (go_at_call 47; refine (HKp.out _ _ (below_call HB4.out HB5.out)).mono ?_; rintro e w6 ⟨rfl, m1, hm1, hr1, hg1, hcl, hb6⟩))
  have HM1 := hid hm1
  have HR1 := hid hr1
  have HG1 := hid (And.intro hg1 hcl)
  have HB6 := hid hb6
  clear hm1 hr1 hg1 hcl hb6
  have HSC : Hid (w6.rangeAt m.g 0 m.cells ∧ w6.rangeAt w.heap.size 0 [.int .i64 m.n, .int .i64 kd, .int .i64 by_, .int .i64 tt, .int .i64 o, .int .u64 (ch : Int), .int .u64 (cl : Int)] ∧ w6.rangeAt kf 0 (u8s F)) := by have h1 := HM1.out.bx.range; rw [HG1.out.1, HG1.out.2] at h1; exact ⟨h1, ((HX4.out.later HB5.out).but HB6.out (fun hj => by have := HS1.out _ hj; omega)).range, ((HXf4.out.later HB5.out).but HB6.out (fun hj => by have := HS1.out _ hj; have := HKf.out; omega)).range⟩
  refine hK.out _ _ (HSC.out) (fun hHeld => ?_)
  clear hK K
  simp only [List.getElem_toArray, List.getElem_cons_succ, List.getElem_cons_zero, Act.put, List.setIfInBounds_toArray, List.set_cons_zero, List.set_cons_succ]
  refine wpAnyH_norm (l2 := #[true, true, true, true, true, true, true, true, true, true, true, true]) (f2 := 0) (by kernel_rfl) (by kernel_rfl) ?_
  refine wpAnyH_done (by kernel_rfl) ?_ _
  have HXt6 : Hid (Bx w6 U4.heap.size [.int .i64 m.n, .int .i64 kd, .int .i64 by_, .int .i64 tt, .int .i64 o, .int .u64 (ch : Int), .int .u64 (cl : Int), .pointer ah]) := HXt.out.but HB6.out (fun hj => by have := HS1.out _ hj; have := HB4.out.size; omega)
  have HTy6 : Hid (w6.heap[U4.heap.size]? = some (Obj.cells #[.int .i64 m.n, .int .i64 kd, .int .i64 by_, .int .i64 tt, .int .i64 o, .int .u64 (ch : Int), .int .u64 (cl : Int), .pointer ah] 92)) := by unfold Hid; rw [HB6.out.block U4.heap.size (HXt.out.lt (by simp)) (fun hj => by have := HS1.out _ hj; have := HB4.out.size; omega)]; exact HTy.out
  have HX6 : Hid (Bx w6 w.heap.size [.int .i64 m.n, .int .i64 kd, .int .i64 by_, .int .i64 tt, .int .i64 o, .int .u64 (ch : Int), .int .u64 (cl : Int)]) := (HX4.out.later HB5.out).but HB6.out (fun hj => by have := HS1.out _ hj; omega)
  have HB06 : Hid (But S1 w w6) := (But.of (below_call HB4.out HB5.out)).trans HB6.out
  have HKt : Hid (w.heap.size < U4.heap.size) := HX4.out.lt (by simp)
  obtain ⟨v0, v7, w7, w8, l0, r7, r8, hQ, b8, b7⟩ := HN.out w6.drew m1 U4.heap.size HB06.out.size (HM1.out.later (Below.refl _ _).drew) HR1.out HG1.out.2
  have HL0 := hid l0
  have HR7 := hid r7
  have HR8 := hid r8
  have HQ := hid hQ
  have HB8 := hid b8
  have HB7 := hid b7
  have HG6 : Hid (Bx w6 m.g m.cells) := by have h1 := HM1.out.bx; rw [HG1.out.1, HG1.out.2] at h1; exact h1
  have HS6 : Hid (∀ U, But S2 w6.drew U → (U.rangeAt m.g 0 m.cells ∧ U.rangeAt w.heap.size 0 [.int .i64 m.n, .int .i64 kd, .int .i64 by_, .int .i64 tt, .int .i64 o, .int .u64 (ch : Int), .int .u64 (cl : Int)])) := fun U hU => ⟨((HG6.out.later (Below.refl _ _).drew).but hU (fun hj => (HS2.out _ hj).2 rfl)).range, ((HX6.out.later (Below.refl _ _).drew).but hU (fun hj => by have := (HS2.out _ hj).1; omega)).range⟩
  clear l0 r7 r8 hQ b8 b7 HN HKp
  go_upto_region 6 with fail
  refine wp_region_held_drew (S := (fun U : World => U.rangeAt m.g 0 m.cells ∧ U.rangeAt w.heap.size 0 [.int .i64 m.n, .int .i64 kd, .int .i64 by_, .int .i64 tt, .int .i64 o, .int .u64 (ch : Int), .int .u64 (cl : Int)])) (by kernel_rfl) (HS6.out _ (But.refl _ _)) (fun hHeld => ?_)
  refine wpAnyH_norm (l2 := #[false, false, false, false, false, false, false, false, false, false, false, false, false, false, false, false, false, false]) (f2 := 18) (by kernel_rfl) (by kernel_rfl) ?_
  refine wpAnyH_take (i := 0) (oi := _) (v := ?_) rfl (by kernel_rfl) (by kernel_rfl) (by kernel_rfl) (fun _ _ _ h => h) (Or.inl ⟨by rfl, ?_⟩) (by assumption) ?_
  rotate_left
  · (intro w hSw; (try dsimp only at hSw); go_simp; try with_reducible rfl)
  simp only [List.getElem_toArray, List.getElem_cons_succ, List.getElem_cons_zero, Act.put, List.setIfInBounds_toArray, List.set_cons_zero, List.set_cons_succ]
  refine wpAnyH_norm (l2 := #[true, false, false, false, false, false, false, false, false, false, false, false, false, false, false, false, false, false]) (f2 := 17) (by kernel_rfl) (by kernel_rfl) ?_
  refine wpAnyH_take (i := 1) (oi := _) (v := ?_) rfl (by kernel_rfl) (by kernel_rfl) (by kernel_rfl) (fun _ _ _ h => h) (Or.inl ⟨by rfl, ?_⟩) (by assumption) ?_
  rotate_left
  · (intro w hSw; (try dsimp only at hSw); go_simp; try with_reducible rfl)
  simp only [List.getElem_toArray, List.getElem_cons_succ, List.getElem_cons_zero, Act.put, List.setIfInBounds_toArray, List.set_cons_zero, List.set_cons_succ]
  refine wpAnyH_norm (l2 := #[true, true, false, false, false, false, false, false, false, false, false, false, false, false, false, false, false, false]) (f2 := 16) (by kernel_rfl) (by kernel_rfl) ?_
  refine wpAnyH_take (i := 2) (oi := _) (v := ?_) rfl (by kernel_rfl) (by kernel_rfl) (by kernel_rfl) (fun _ _ _ h => h) (Or.inl ⟨by rfl, ?_⟩) (by assumption) ?_
  rotate_left
  · (intro w hSw; (try dsimp only at hSw); go_simp; try with_reducible rfl)
  simp only [List.getElem_toArray, List.getElem_cons_succ, List.getElem_cons_zero, Act.put, List.setIfInBounds_toArray, List.set_cons_zero, List.set_cons_succ]
  refine wpAnyH_norm (l2 := #[true, true, true, false, false, false, false, false, false, false, false, false, false, false, false, false, false, false]) (f2 := 15) (by kernel_rfl) (by kernel_rfl) ?_
  refine wpAnyH_take (i := 3) (oi := _) (v := ?_) rfl (by kernel_rfl) (by kernel_rfl) (by kernel_rfl) (fun _ _ _ h => h) (Or.inl ⟨by rfl, ?_⟩) (by assumption) ?_
  rotate_left
  · (intro w hSw; have z1 := rg_at (j := 5) hSw.1 rfl; go_simp; try with_reducible rfl)
  simp only [List.getElem_toArray, List.getElem_cons_succ, List.getElem_cons_zero, Act.put, List.setIfInBounds_toArray, List.set_cons_zero, List.set_cons_succ]
  refine wpAnyH_norm (l2 := #[true, true, true, true, false, false, false, false, false, false, false, false, false, false, false, false, false, false]) (f2 := 14) (by kernel_rfl) (by kernel_rfl) ?_
  refine wpAnyH_take (i := 4) (oi := _) (v := ?_) rfl (by kernel_rfl) (by kernel_rfl) (by kernel_rfl) (fun _ _ _ h => h) (Or.inl ⟨by rfl, ?_⟩) (by assumption) ?_
  rotate_left
  · (intro w hSw; (try dsimp only at hSw); go_simp; try with_reducible rfl)
  simp only [List.getElem_toArray, List.getElem_cons_succ, List.getElem_cons_zero, Act.put, List.setIfInBounds_toArray, List.set_cons_zero, List.set_cons_succ]
  refine wpAnyH_norm (l2 := #[true, true, true, true, true, false, false, false, false, false, false, false, false, false, false, false, false, false]) (f2 := 13) (by kernel_rfl) (by kernel_rfl) ?_
  refine wpAnyH_take (i := 5) (oi := _) (v := ?_) rfl (by kernel_rfl) (by kernel_rfl) (by kernel_rfl) (fun _ _ _ h => h) (Or.inl ⟨by rfl, ?_⟩) (by assumption) ?_
  rotate_left
  · (intro w hSw; have z0 := rg_at (j := 3) hSw.2 rfl; go_simp; try with_reducible rfl)
  simp only [List.getElem_toArray, List.getElem_cons_succ, List.getElem_cons_zero, Act.put, List.setIfInBounds_toArray, List.set_cons_zero, List.set_cons_succ]
  refine wpAnyH_norm (l2 := #[true, true, true, true, true, true, false, false, false, false, false, false, false, false, false, false, false, false]) (f2 := 12) (by kernel_rfl) (by kernel_rfl) ?_
  refine wpAnyH_take (i := 6) (oi := _) (v := ?_) rfl (by kernel_rfl) (by kernel_rfl) (by kernel_rfl) (fun _ _ _ h => h) (Or.inl ⟨by rfl, ?_⟩) (by assumption) ?_
  rotate_left
  · (intro w hSw; (try dsimp only at hSw); go_simp; try with_reducible rfl)
  simp only [List.getElem_toArray, List.getElem_cons_succ, List.getElem_cons_zero, Act.put, List.setIfInBounds_toArray, List.set_cons_zero, List.set_cons_succ]
  refine wpAnyH_norm (l2 := #[true, true, true, true, true, true, true, false, false, false, false, false, false, false, false, false, false, false]) (f2 := 11) (by kernel_rfl) (by kernel_rfl) ?_
  refine wpAnyH_take (i := 7) (oi := _) (v := ?_) rfl (by kernel_rfl) (by kernel_rfl) (by kernel_rfl) (fun _ _ _ h => h) (Or.inl ⟨by rfl, ?_⟩) (by assumption) ?_
  rotate_left
  · (intro w hSw; (try dsimp only at hSw); go_simp; try with_reducible rfl)
  simp only [List.getElem_toArray, List.getElem_cons_succ, List.getElem_cons_zero, Act.put, List.setIfInBounds_toArray, List.set_cons_zero, List.set_cons_succ]
  refine wpAnyH_norm (l2 := #[true, true, true, true, true, true, true, true, false, false, false, false, false, false, false, false, false, false]) (f2 := 10) (by kernel_rfl) (by kernel_rfl) ?_
  refine wpAnyH_take (i := 8) (oi := _) (v := ?_) rfl (by kernel_rfl) (by kernel_rfl) (by kernel_rfl) (fun _ _ _ h => h) (Or.inl ⟨by rfl, ?_⟩) (by assumption) ?_
  rotate_left
  · (intro w hSw; (try dsimp only at hSw); go_simp; try with_reducible rfl)
  simp only [List.getElem_toArray, List.getElem_cons_succ, List.getElem_cons_zero, Act.put, List.setIfInBounds_toArray, List.set_cons_zero, List.set_cons_succ]
  refine wpAnyH_norm (l2 := #[true, true, true, true, true, true, true, true, true, false, false, false, false, false, false, false, false, false]) (f2 := 9) (by kernel_rfl) (by kernel_rfl) ?_
  refine wpAnyH_take (i := 9) (oi := _) (v := ?_) rfl (by kernel_rfl) (by kernel_rfl) (by kernel_rfl) (fun _ _ _ h => h) (Or.inl ⟨by rfl, ?_⟩) (by assumption) ?_
  rotate_left
  · (intro w hSw; have z1 := rg_at (j := 5) hSw.1 rfl; go_simp; try with_reducible rfl)
  simp only [List.getElem_toArray, List.getElem_cons_succ, List.getElem_cons_zero, Act.put, List.setIfInBounds_toArray, List.set_cons_zero, List.set_cons_succ]
  refine wpAnyH_norm (l2 := #[true, true, true, true, true, true, true, true, true, true, false, false, false, false, false, false, false, false]) (f2 := 8) (by kernel_rfl) (by kernel_rfl) ?_
  refine wpAnyH_take (i := 10) (oi := _) (v := ?_) rfl (by kernel_rfl) (by kernel_rfl) (by kernel_rfl) (fun _ _ _ h => h) (Or.inl ⟨by rfl, ?_⟩) (by assumption) ?_
  rotate_left
  · (intro w hSw; (try dsimp only at hSw); go_simp; try with_reducible rfl)
  simp only [List.getElem_toArray, List.getElem_cons_succ, List.getElem_cons_zero, Act.put, List.setIfInBounds_toArray, List.set_cons_zero, List.set_cons_succ]
  refine wpAnyH_norm (l2 := #[true, true, true, true, true, true, true, true, true, true, true, false, false, false, false, false, false, false]) (f2 := 7) (by kernel_rfl) (by kernel_rfl) ?_
  refine wpAnyH_take (i := 11) (oi := _) (v := ?_) rfl (by kernel_rfl) (by kernel_rfl) (by kernel_rfl) (fun _ _ _ h => h) (Or.inl ⟨by rfl, ?_⟩) (by assumption) ?_
  rotate_left
  · (intro w hSw; have z0 := rg_at (j := 3) hSw.2 rfl; go_simp; try with_reducible rfl)
  simp only [List.getElem_toArray, List.getElem_cons_succ, List.getElem_cons_zero, Act.put, List.setIfInBounds_toArray, List.set_cons_zero, List.set_cons_succ]
  refine wpAnyH_norm (l2 := #[true, true, true, true, true, true, true, true, true, true, true, true, false, false, false, false, false, false]) (f2 := 6) (by kernel_rfl) (by kernel_rfl) ?_
  refine wpAnyH_take (i := 13) (oi := _) (v := ?_) rfl (by kernel_rfl) (by kernel_rfl) (by kernel_rfl) (fun _ _ _ h => h) (Or.inl ⟨by rfl, ?_⟩) (by assumption) ?_
  rotate_left
  · (intro w hSw; (try dsimp only at hSw); go_simp; try with_reducible rfl)
  simp only [List.getElem_toArray, List.getElem_cons_succ, List.getElem_cons_zero, Act.put, List.setIfInBounds_toArray, List.set_cons_zero, List.set_cons_succ]
  refine wpAnyH_norm (l2 := #[true, true, true, true, true, true, true, true, true, true, true, true, false, true, false, false, false, false]) (f2 := 5) (by kernel_rfl) (by kernel_rfl) ?_
  refine wpAnyH_take (i := 14) (oi := _) (v := ?_) rfl (by kernel_rfl) (by kernel_rfl) (by kernel_rfl) (fun _ _ _ h => h) (Or.inl ⟨by rfl, ?_⟩) (by assumption) ?_
  rotate_left
  · (intro w hSw; have z4 := rg_at (j := 4) hSw.2 rfl; have z5 := rg_at (j := 5) hSw.2 rfl; have z6 := rg_at (j := 6) hSw.2 rfl; go_simp; try with_reducible rfl)
  simp only [List.getElem_toArray, List.getElem_cons_succ, List.getElem_cons_zero, Act.put, List.setIfInBounds_toArray, List.set_cons_zero, List.set_cons_succ]
  refine wpAnyH_norm (l2 := #[true, true, true, true, true, true, true, true, true, true, true, true, false, true, true, false, false, false]) (f2 := 4) (by kernel_rfl) (by kernel_rfl) ?_
  refine wpAnyH_ready (rs := [12, 15]) (by kernel_rfl) (by simp) ?_
  refine AllReadyH.cons rfl (fun K hK => ?_) ?_
  · refine wp_lk rfl rfl rfl (HL0.out _ (Below.refl _ _)) ?_
    refine hK.out _ _ (HS6.out _ (But.refl _ _)) (fun hHeld => ?_)
    clear hK K
    simp only [List.getElem_toArray, List.getElem_cons_succ, List.getElem_cons_zero, Act.put, List.setIfInBounds_toArray, List.set_cons_zero, List.set_cons_succ]
    refine wpAnyH_norm (l2 := #[true, true, true, true, true, true, true, true, true, true, true, true, true, true, true, false, false, false]) (f2 := 3) (by kernel_rfl) (by kernel_rfl) ?_
    refine wpAnyH_ready (rs := [15]) (by kernel_rfl) (by simp) ?_
    refine AllReadyH.cons rfl (fun K hK => ?_) AllReadyH.nil
    go_simp
    rw [al_drew]
    refine hK.out _ _ (HS6.out _ (But.of (below1 _ _))) (fun hHeld => ?_)
    clear hK K
    simp only [List.getElem_toArray, List.getElem_cons_succ, List.getElem_cons_zero, Act.put, List.setIfInBounds_toArray, List.set_cons_zero, List.set_cons_succ]
    refine wpAnyH_norm (l2 := #[true, true, true, true, true, true, true, true, true, true, true, true, true, true, true, true, false, false]) (f2 := 2) (by kernel_rfl) (by kernel_rfl) ?_
    refine wpAnyH_ready (rs := [16]) (by kernel_rfl) (by simp) ?_
    refine AllReadyH.cons rfl (fun K hK => ?_) AllReadyH.nil
    refine wp_append_known (.tmp 61) (.tmp 64) 26 rfl _ _ rfl rfl _ w7 HR7.out ?_
    refine hK.out _ _ (HS6.out _ HB7.out) (fun hHeld => ?_)
    clear hK K
    simp only [List.getElem_toArray, List.getElem_cons_succ, List.getElem_cons_zero, Act.put, List.setIfInBounds_toArray, List.set_cons_zero, List.set_cons_succ]
    refine wpAnyH_norm (l2 := #[true, true, true, true, true, true, true, true, true, true, true, true, true, true, true, true, true, false]) (f2 := 1) (by kernel_rfl) (by kernel_rfl) ?_
    refine wpAnyH_ready (rs := [17]) (by kernel_rfl) (by simp) ?_
    refine AllReadyH.cons rfl (fun K hK => ?_) AllReadyH.nil
    refine wp_upd rfl rfl rfl rfl HR8.out ?_
    refine hK.out _ _ (HS6.out _ HB8.out) (fun hHeld => ?_)
    clear hK K
    simp only [List.getElem_toArray, List.getElem_cons_succ, List.getElem_cons_zero, Act.put, List.setIfInBounds_toArray, List.set_cons_zero, List.set_cons_succ]
    refine wpAnyH_norm (l2 := #[true, true, true, true, true, true, true, true, true, true, true, true, true, true, true, true, true, true]) (f2 := 0) (by kernel_rfl) (by kernel_rfl) ?_
    refine wpAnyH_done (by kernel_rfl) ?_ _
    exact bodyPost_end (v := .tuple #[]) (by simp [results, Try.results34, go_sem]) rfl ⟨rfl, U4.heap.size, Nat.le_of_lt HKt.out, HQ.out, (HXt6.out.later (Below.refl _ _).drew).but HB8.out (fun hj => by have := (HS2.out _ hj).1; have := HKt.out; omega), (by rw [HB8.out.block U4.heap.size ((HXt6.out.later (Below.refl _ _).drew).lt (by simp)) (fun hj => by have := (HS2.out _ hj).1; have := HKt.out; omega)]; exact HTy6.out), ((HB06.out.mono (fun j hj => .inl hj)).trans (But.of (Below.refl _ _).drew)).trans (HB8.out.mono (fun j hj => .inr hj))⟩
  refine AllReadyH.cons rfl (fun K hK => ?_) AllReadyH.nil
  go_simp
  rw [al_drew]
  refine hK.out _ _ (HS6.out _ (But.of (below1 _ _))) (fun hHeld => ?_)
  clear hK K
  simp only [List.getElem_toArray, List.getElem_cons_succ, List.getElem_cons_zero, Act.put, List.setIfInBounds_toArray, List.set_cons_zero, List.set_cons_succ]
  refine wpAnyH_norm (l2 := #[true, true, true, true, true, true, true, true, true, true, true, true, false, true, true, true, false, false]) (f2 := 3) (by kernel_rfl) (by kernel_rfl) ?_
  refine wpAnyH_ready (rs := [12]) (by kernel_rfl) (by simp) ?_
  refine AllReadyH.cons rfl (fun K hK => ?_) AllReadyH.nil
  refine wp_lk rfl rfl rfl (HL0.out _ (below1 _ _)) ?_
  refine hK.out _ _ (HS6.out _ (But.of (below1 _ _))) (fun hHeld => ?_)
  clear hK K
  simp only [List.getElem_toArray, List.getElem_cons_succ, List.getElem_cons_zero, Act.put, List.setIfInBounds_toArray, List.set_cons_zero, List.set_cons_succ]
  refine wpAnyH_norm (l2 := #[true, true, true, true, true, true, true, true, true, true, true, true, true, true, true, true, false, false]) (f2 := 2) (by kernel_rfl) (by kernel_rfl) ?_
  refine wpAnyH_ready (rs := [16]) (by kernel_rfl) (by simp) ?_
  refine AllReadyH.cons rfl (fun K hK => ?_) AllReadyH.nil
  refine wp_append_known (.tmp 61) (.tmp 64) 26 rfl _ _ rfl rfl _ w7 HR7.out ?_
  refine hK.out _ _ (HS6.out _ HB7.out) (fun hHeld => ?_)
  clear hK K
  simp only [List.getElem_toArray, List.getElem_cons_succ, List.getElem_cons_zero, Act.put, List.setIfInBounds_toArray, List.set_cons_zero, List.set_cons_succ]
  refine wpAnyH_norm (l2 := #[true, true, true, true, true, true, true, true, true, true, true, true, true, true, true, true, true, false]) (f2 := 1) (by kernel_rfl) (by kernel_rfl) ?_
  refine wpAnyH_ready (rs := [17]) (by kernel_rfl) (by simp) ?_
  refine AllReadyH.cons rfl (fun K hK => ?_) AllReadyH.nil
  refine wp_upd rfl rfl rfl rfl HR8.out ?_
  refine hK.out _ _ (HS6.out _ HB8.out) (fun hHeld => ?_)
  clear hK K
  simp only [List.getElem_toArray, List.getElem_cons_succ, List.getElem_cons_zero, Act.put, List.setIfInBounds_toArray, List.set_cons_zero, List.set_cons_succ]
  refine wpAnyH_norm (l2 := #[true, true, true, true, true, true, true, true, true, true, true, true, true, true, true, true, true, true]) (f2 := 0) (by kernel_rfl) (by kernel_rfl) ?_
  refine wpAnyH_done (by kernel_rfl) ?_ _
  exact bodyPost_end (v := .tuple #[]) (by simp [results, Try.results34, go_sem]) rfl ⟨rfl, U4.heap.size, Nat.le_of_lt HKt.out, HQ.out, (HXt6.out.later (Below.refl _ _).drew).but HB8.out (fun hj => by have := (HS2.out _ hj).1; have := HKt.out; omega), (by rw [HB8.out.block U4.heap.size ((HXt6.out.later (Below.refl _ _).drew).lt (by simp)) (fun hj => by have := (HS2.out _ hj).1; have := HKt.out; omega)]; exact HTy6.out), ((HB06.out.mono (fun j hj => .inl hj)).trans (But.of (Below.refl _ _).drew)).trans (HB8.out.mono (fun j hj => .inr hj))⟩
end Go.Proofs.Yticgammbjcdobaa
