import Derived.Test.YtaffgoacbiedlaaY1
import Derived.Deep.DeepCutAuto
namespace Go.Proofs.Ytaffgoacbiedlaa
open Go.RowKit
set_option linter.unusedVariables false
set_option linter.unusedSimpArgs false

theorem wp_append_knownq {P : Program} {w : World} {o : Oper} {a : Act} {K : Act → World → Prop} {Q : Exit → Act → World → Prop} (s x : Operand) (t : TypeId)
    (ho : o.op = .call { callee := .builtin .append, args := #[s, x], argTypes := #[t, t] }) (vs vx : Value) (hs : a.eval s = vs) (hx : a.eval x = vx) (v' : Value) (w' : World)
    (hr : (Builtin.append_ #[t, t] o.type #[vs, vx]).run P w = .ok v' w') (h : K (a.put o.dst v') w') : o.wp P a w K Q := by
  unfold Oper.wp execOp
  simp only [ho, resolve, invoke, builtin, Sem.run_bind, Sem.run_pure, Result.andThen_ok, List.map_toArray, List.map_cons, List.map_nil, hs, hx, hr]
  exact h
theorem Bx.offq {w : World} {b b2 j : Nat} {L : List Value} (h : Bx w b L) (hb : b ≠ b2) (v : Value) : Bx (w.setCell ⟨b2, j, none⟩ v) b L :=
  h.but (S := fun k => k = b2) (setCells_but (S := fun k => k = b2) (b := b2) rfl [v] j (But.refl _ w)) hb
def FoRel (w : World) (KL : List Value) (y : Int) (G : List Int) (t : Value) (w' : World) : Prop :=
  ∃ (i : Nat) (x : Option Addr) (c : Nat), i ≤ min G.length 255 ∧ t = .int .i64 (i : Int) ∧ Bx w' (w.heap.size + 2) [.int .i64 9, .int .i64 y, .int .i64 0, .int .i64 0, .int .u64 0, .int .u64 0, .bool false, .int .i64 0, .int .i64 0, .int .i64 0, .slice none 0 0, .int .i64 0, .slice x i c] ∧ Bx w' (w.heap.size + 1) [.int .i64 0, .int .i64 0, .int .i64 0, .int .i64 0, .int .u64 0, .int .u64 0, .bool false, .int .i64 0, .int .i64 0, .int .i64 0, .slice none 0 0, .int .i64 0, .slice none 0 0] ∧ Bx w' w.heap.size KL ∧ OI w' (w.heap.size + 4) x i c ((G.take i).map (· % 65536)) ∧ Below w.heap.size w w' ∧ w.heap.size + 4 ≤ w'.heap.size
set_option maxRecDepth 100000 in
set_option maxHeartbeats 4000000 in
theorem fo9 (op by_ size obj : Int) (hi lo : Nat) (given : Bool) (rights off n : Int) (da : Option Addr) (dn dc : Nat) (index : Int) (ga : Option Addr) (gn gc : Nat) (w : World) (q y v : Int) (m : Nat) (G : List Int) (hq : op % 10 = q) (hx : IntKind.i64.wrap (1 + q) = 9) (hy : by_ % 65536 = y) (hv : obj % 4611686018427387904 = v) (hm : (if (1025 : Int) < (dn : Int) then (1025 : Int) else (dn : Int)) = (m : Int)) (hcap : dn ≤ dc) (hmd : m ≤ dn) (hG : RI w ga gn gc G) :
    Calls Try.prog 14 #[.agg #[.int .i64 op, .int .i64 by_, .int .i64 size, .int .i64 obj, .int .u64 (hi : Int), .int .u64 (lo : Int), .bool given, .int .i64 rights, .int .i64 off, .int .i64 n, .slice da dn dc, .int .i64 index, .slice ga gn gc]] w fun e w' => ∃ x k c, e = .returned (.agg #[.int .i64 9, .int .i64 y, .int .i64 0, .int .i64 0, .int .u64 0, .int .u64 0, .bool false, .int .i64 0, .int .i64 0, .int .i64 0, .slice none 0 0, .int .i64 0, .slice x k c]) ∧ OI w' w.heap.size x k c ((G.take 255).map (· % 65536)) ∧ Below w.heap.size w w' := by
  have HQ := hid hq
  have HY := hid hy
  have HV := hid hv
  have hsl := slice_hi da dn dc m (by omega)
  clear hq hy hv
  have HGG := hid hG
  clear hG
  have mk0 := hid True.intro
  go_enter Try.func14, Try.ntmps14
  go_upto_region 1 with fail
  go_cut [3] (fun s3 W => s3 = .pointer (some ⟨w.heap.size + 2, 0, none⟩) ∧ W = (((w.alloc (Obj.cells #[.int .i64 op, .int .i64 by_, .int .i64 size, .int .i64 obj, .int .u64 (hi : Int), .int .u64 (lo : Int), .bool given, .int .i64 rights, .int .i64 off, .int .i64 n, .slice da dn dc, .int .i64 index, .slice ga gn gc] 41)).alloc (Obj.cells #[.int .i64 0, .int .i64 0, .int .i64 0, .int .i64 0, .int .u64 0, .int .u64 0, .bool false, .int .i64 0, .int .i64 0, .int .i64 0, .slice none 0 0, .int .i64 0, .slice none 0 0] 41)).alloc (Obj.cells #[.int .i64 9, .int .i64 y, .int .i64 0, .int .i64 0, .int .u64 0, .int .u64 0, .bool false, .int .i64 0, .int .i64 0, .int .i64 0, .slice none 0 0, .int .i64 0, .slice none 0 0] 41)).drew)
  case first =>
    have HSA : Hid ((fun U : World => U.cell? ⟨w.heap.size, 0, none⟩ = some (.int .i64 op) ∧ U.cell? ⟨w.heap.size, 1, none⟩ = some (.int .i64 by_)) ((w.alloc (Obj.cells #[.int .i64 op, .int .i64 by_, .int .i64 size, .int .i64 obj, .int .u64 (hi : Int), .int .u64 (lo : Int), .bool given, .int .i64 rights, .int .i64 off, .int .i64 n, .slice da dn dc, .int .i64 index, .slice ga gn gc] 41)).alloc (Obj.cells #[.int .i64 0, .int .i64 0, .int .i64 0, .int .i64 0, .int .u64 0, .int .u64 0, .bool false, .int .i64 0, .int .i64 0, .int .i64 0, .slice none 0 0, .int .i64 0, .slice none 0 0] 41)).drew) := by
      have := ((Bx.new w [.int .i64 op, .int .i64 by_, .int .i64 size, .int .i64 obj, .int .u64 (hi : Int), .int .u64 (lo : Int), .bool given, .int .i64 rights, .int .i64 off, .int .i64 n, .slice da dn dc, .int .i64 index, .slice ga gn gc] 41).later (below1 _ (Obj.cells #[.int .i64 0, .int .i64 0, .int .i64 0, .int .i64 0, .int .u64 0, .int .u64 0, .bool false, .int .i64 0, .int .i64 0, .int .i64 0, .slice none 0 0, .int .i64 0, .slice none 0 0] 41))).later (Below.refl _ _).drew
      exact ⟨this.cell 0 rfl, this.cell 1 rfl⟩
    have HSB : Hid (∀ N : Obj, (fun U : World => U.cell? ⟨w.heap.size, 0, none⟩ = some (.int .i64 op) ∧ U.cell? ⟨w.heap.size, 1, none⟩ = some (.int .i64 by_)) (((w.alloc (Obj.cells #[.int .i64 op, .int .i64 by_, .int .i64 size, .int .i64 obj, .int .u64 (hi : Int), .int .u64 (lo : Int), .bool given, .int .i64 rights, .int .i64 off, .int .i64 n, .slice da dn dc, .int .i64 index, .slice ga gn gc] 41)).alloc (Obj.cells #[.int .i64 0, .int .i64 0, .int .i64 0, .int .i64 0, .int .u64 0, .int .u64 0, .bool false, .int .i64 0, .int .i64 0, .int .i64 0, .slice none 0 0, .int .i64 0, .slice none 0 0] 41)).alloc N).drew) := fun N => by
      have := (((Bx.new w [.int .i64 op, .int .i64 by_, .int .i64 size, .int .i64 obj, .int .u64 (hi : Int), .int .u64 (lo : Int), .bool given, .int .i64 rights, .int .i64 off, .int .i64 n, .slice da dn dc, .int .i64 index, .slice ga gn gc] 41).later (below1 _ (Obj.cells #[.int .i64 0, .int .i64 0, .int .i64 0, .int .i64 0, .int .u64 0, .int .u64 0, .bool false, .int .i64 0, .int .i64 0, .int .i64 0, .slice none 0 0, .int .i64 0, .slice none 0 0] 41))).later (below1 _ N)).later (Below.refl _ _).drew
      exact ⟨this.cell 0 rfl, this.cell 1 rfl⟩
    refine wp_region_held_drew (S := (fun U : World => U.cell? ⟨w.heap.size, 0, none⟩ = some (.int .i64 op) ∧ U.cell? ⟨w.heap.size, 1, none⟩ = some (.int .i64 by_))) (by kernel_rfl) (HSA.out) (fun hHeld => ?_)
    refine wpAnyH_norm (l2 := #[false, false, false, false, false, false, false, false, false, false]) (f2 := 10) (by kernel_rfl) (by kernel_rfl) ?_
    refine wpAnyH_take (i := 0) (oi := _) (v := ?_) rfl (by kernel_rfl) (by kernel_rfl) (by kernel_rfl) (fun _ _ _ h => h) (Or.inl ⟨by rfl, ?_⟩) (by assumption) ?_
    rotate_left
    · (intro w hSw; (try dsimp only at hSw); go_simp; try with_reducible rfl)
    simp only [List.getElem_toArray, List.getElem_cons_succ, List.getElem_cons_zero, Act.put, List.setIfInBounds_toArray, List.set_cons_zero, List.set_cons_succ]
    refine wpAnyH_norm (l2 := #[true, false, false, false, false, false, false, false, false, false]) (f2 := 9) (by kernel_rfl) (by kernel_rfl) ?_
    refine wpAnyH_take (i := 1) (oi := _) (v := .int .i64 op) rfl (by kernel_rfl) (by kernel_rfl) (by kernel_rfl) (fun _ _ _ h => h) (Or.inl ⟨by rfl, ?_⟩) (by assumption) ?_
    · (intro w hSw; (try dsimp only at hSw); obtain ⟨s1, s2⟩ := hSw; go_simp; try with_reducible rfl)
    simp only [List.getElem_toArray, List.getElem_cons_succ, List.getElem_cons_zero, Act.put, List.setIfInBounds_toArray, List.set_cons_zero, List.set_cons_succ]
    refine wpAnyH_norm (l2 := #[true, true, false, false, false, false, false, false, false, false]) (f2 := 8) (by kernel_rfl) (by kernel_rfl) ?_
    refine wpAnyH_take (i := 4) (oi := _) (v := ?_) rfl (by kernel_rfl) (by kernel_rfl) (by kernel_rfl) (fun _ _ _ h => h) (Or.inl ⟨by rfl, ?_⟩) (by assumption) ?_
    rotate_left
    · (intro w hSw; (try dsimp only at hSw); go_simp; try with_reducible rfl)
    simp only [List.getElem_toArray, List.getElem_cons_succ, List.getElem_cons_zero, Act.put, List.setIfInBounds_toArray, List.set_cons_zero, List.set_cons_succ]
    refine wpAnyH_norm (l2 := #[true, true, false, false, true, false, false, false, false, false]) (f2 := 7) (by kernel_rfl) (by kernel_rfl) ?_
    refine wpAnyH_take (i := 5) (oi := _) (v := .int .i64 by_) rfl (by kernel_rfl) (by kernel_rfl) (by kernel_rfl) (fun _ _ _ h => h) (Or.inl ⟨by rfl, ?_⟩) (by assumption) ?_
    · (intro w hSw; (try dsimp only at hSw); obtain ⟨s1, s2⟩ := hSw; go_simp; try with_reducible rfl)
    simp only [List.getElem_toArray, List.getElem_cons_succ, List.getElem_cons_zero, Act.put, List.setIfInBounds_toArray, List.set_cons_zero, List.set_cons_succ]
    refine wpAnyH_norm (l2 := #[true, true, false, false, true, true, false, false, false, false]) (f2 := 6) (by kernel_rfl) (by kernel_rfl) ?_
    refine wpAnyH_ready (rs := [2, 8]) (by kernel_rfl) (by simp) ?_
    refine AllReadyH.cons rfl (fun K hK => ?_) ?_
    · go_simp
      go_wp2_with (first | (go_at_call 9; refine (into_is op 10 _ (by omega) (by omega) HQ.out).mono ?_; rintro e w9 ⟨rfl, hw9⟩; obtain rfl := hw9.symm))
      refine hK.out _ _ (HSA.out) (fun hHeld => ?_)
      clear hK K
      simp only [List.getElem_toArray, List.getElem_cons_succ, List.getElem_cons_zero, Act.put, List.setIfInBounds_toArray, List.set_cons_zero, List.set_cons_succ]
      refine wpAnyH_norm (l2 := #[true, true, true, false, true, true, false, false, false, false]) (f2 := 5) (by kernel_rfl) (by kernel_rfl) ?_
      refine wpAnyH_take (i := 3) (oi := _) (v := ?_) rfl (by kernel_rfl) (by kernel_rfl) (by kernel_rfl) (fun _ _ _ h => h) (Or.inl ⟨by rfl, ?_⟩) (by assumption) ?_
      rotate_left
      · (intro w hSw; (try dsimp only at hSw); go_simp; try with_reducible rfl)
      simp only [List.getElem_toArray, List.getElem_cons_succ, List.getElem_cons_zero, Act.put, List.setIfInBounds_toArray, List.set_cons_zero, List.set_cons_succ]
      refine wpAnyH_norm (l2 := #[true, true, true, true, true, true, false, false, false, false]) (f2 := 4) (by kernel_rfl) (by kernel_rfl) ?_
      refine wpAnyH_ready (rs := [6, 8]) (by kernel_rfl) (by simp) ?_
      refine AllReadyH.cons rfl (fun K hK => ?_) ?_
      · go_simp
        go_wp2_with (first | (go_at_call 9; refine (into_is by_ 65536 _ (by omega) (by omega) HY.out).mono ?_; rintro e w9 ⟨rfl, hw9⟩; obtain rfl := hw9.symm))
        refine hK.out _ _ (HSA.out) (fun hHeld => ?_)
        clear hK K
        simp only [List.getElem_toArray, List.getElem_cons_succ, List.getElem_cons_zero, Act.put, List.setIfInBounds_toArray, List.set_cons_zero, List.set_cons_succ]
        refine wpAnyH_norm (l2 := #[true, true, true, true, true, true, true, false, false, false]) (f2 := 3) (by kernel_rfl) (by kernel_rfl) ?_
        refine wpAnyH_take (i := 7) (oi := _) (v := ?_) rfl (by kernel_rfl) (by kernel_rfl) (by kernel_rfl) (fun _ _ _ h => h) (Or.inl ⟨by rfl, ?_⟩) (by assumption) ?_
        rotate_left
        · (intro w hSw; (try dsimp only at hSw); go_simp; try with_reducible rfl)
        simp only [List.getElem_toArray, List.getElem_cons_succ, List.getElem_cons_zero, Act.put, List.setIfInBounds_toArray, List.set_cons_zero, List.set_cons_succ]
        refine wpAnyH_norm (l2 := #[true, true, true, true, true, true, true, true, false, false]) (f2 := 2) (by kernel_rfl) (by kernel_rfl) ?_
        refine wpAnyH_ready (rs := [8]) (by kernel_rfl) (by simp) ?_
        refine AllReadyH.cons rfl (fun K hK => ?_) AllReadyH.nil
        go_simp
        refine hK.out _ _ (HSB.out _) (fun hHeld => ?_)
        clear hK K
        simp only [List.getElem_toArray, List.getElem_cons_succ, List.getElem_cons_zero, Act.put, List.setIfInBounds_toArray, List.set_cons_zero, List.set_cons_succ]
        refine wpAnyH_norm (l2 := #[true, true, true, true, true, true, true, true, true, false]) (f2 := 1) (by kernel_rfl) (by kernel_rfl) ?_
        refine wpAnyH_ready (rs := [9]) (by kernel_rfl) (by simp) ?_
        refine AllReadyH.cons rfl (fun K hK => ?_) AllReadyH.nil
        go_simp
        refine hK.out _ _ (HSB.out _) (fun hHeld => ?_)
        clear hK K
        simp only [List.getElem_toArray, List.getElem_cons_succ, List.getElem_cons_zero, Act.put, List.setIfInBounds_toArray, List.set_cons_zero, List.set_cons_succ]
        refine wpAnyH_norm (l2 := #[true, true, true, true, true, true, true, true, true, true]) (f2 := 0) (by kernel_rfl) (by kernel_rfl) ?_
        refine wpAnyH_done (by kernel_rfl) ?_ _
        go_wp2
        go_meet
        exact ⟨rfl, rfl⟩
      refine AllReadyH.cons rfl (fun K hK => ?_) AllReadyH.nil
      go_simp
      refine hK.out _ _ (HSB.out _) (fun hHeld => ?_)
      clear hK K
      simp only [List.getElem_toArray, List.getElem_cons_succ, List.getElem_cons_zero, Act.put, List.setIfInBounds_toArray, List.set_cons_zero, List.set_cons_succ]
      refine wpAnyH_norm (l2 := #[true, true, true, true, true, true, false, false, true, false]) (f2 := 3) (by kernel_rfl) (by kernel_rfl) ?_
      refine wpAnyH_ready (rs := [6]) (by kernel_rfl) (by simp) ?_
      refine AllReadyH.cons rfl (fun K hK => ?_) AllReadyH.nil
      go_simp
      go_wp2_with (first | (go_at_call 9; refine (into_is by_ 65536 _ (by omega) (by omega) HY.out).mono ?_; rintro e w9 ⟨rfl, hw9⟩; obtain rfl := hw9.symm))
      refine hK.out _ _ (HSB.out _) (fun hHeld => ?_)
      clear hK K
      simp only [List.getElem_toArray, List.getElem_cons_succ, List.getElem_cons_zero, Act.put, List.setIfInBounds_toArray, List.set_cons_zero, List.set_cons_succ]
      refine wpAnyH_norm (l2 := #[true, true, true, true, true, true, true, false, true, false]) (f2 := 2) (by kernel_rfl) (by kernel_rfl) ?_
      refine wpAnyH_take (i := 7) (oi := _) (v := ?_) rfl (by kernel_rfl) (by kernel_rfl) (by kernel_rfl) (fun _ _ _ h => h) (Or.inl ⟨by rfl, ?_⟩) (by assumption) ?_
      rotate_left
      · (intro w hSw; (try dsimp only at hSw); go_simp; try with_reducible rfl)
      simp only [List.getElem_toArray, List.getElem_cons_succ, List.getElem_cons_zero, Act.put, List.setIfInBounds_toArray, List.set_cons_zero, List.set_cons_succ]
      refine wpAnyH_norm (l2 := #[true, true, true, true, true, true, true, true, true, false]) (f2 := 1) (by kernel_rfl) (by kernel_rfl) ?_
      refine wpAnyH_ready (rs := [9]) (by kernel_rfl) (by simp) ?_
      refine AllReadyH.cons rfl (fun K hK => ?_) AllReadyH.nil
      go_simp
      refine hK.out _ _ (HSB.out _) (fun hHeld => ?_)
      clear hK K
      simp only [List.getElem_toArray, List.getElem_cons_succ, List.getElem_cons_zero, Act.put, List.setIfInBounds_toArray, List.set_cons_zero, List.set_cons_succ]
      refine wpAnyH_norm (l2 := #[true, true, true, true, true, true, true, true, true, true]) (f2 := 0) (by kernel_rfl) (by kernel_rfl) ?_
      refine wpAnyH_done (by kernel_rfl) ?_ _
      go_wp2
      go_meet
      exact ⟨rfl, rfl⟩
    refine AllReadyH.cons rfl (fun K hK => ?_) AllReadyH.nil
    go_simp
    refine hK.out _ _ (HSB.out _) (fun hHeld => ?_)
    clear hK K
    simp only [List.getElem_toArray, List.getElem_cons_succ, List.getElem_cons_zero, Act.put, List.setIfInBounds_toArray, List.set_cons_zero, List.set_cons_succ]
    refine wpAnyH_norm (l2 := #[true, true, false, false, true, true, false, false, true, false]) (f2 := 5) (by kernel_rfl) (by kernel_rfl) ?_
    refine wpAnyH_ready (rs := [2]) (by kernel_rfl) (by simp) ?_
    refine AllReadyH.cons rfl (fun K hK => ?_) AllReadyH.nil
    go_simp
    go_wp2_with (first | (go_at_call 9; refine (into_is op 10 _ (by omega) (by omega) HQ.out).mono ?_; rintro e w9 ⟨rfl, hw9⟩; obtain rfl := hw9.symm))
    refine hK.out _ _ (HSB.out _) (fun hHeld => ?_)
    clear hK K
    simp only [List.getElem_toArray, List.getElem_cons_succ, List.getElem_cons_zero, Act.put, List.setIfInBounds_toArray, List.set_cons_zero, List.set_cons_succ]
    refine wpAnyH_norm (l2 := #[true, true, true, false, true, true, false, false, true, false]) (f2 := 4) (by kernel_rfl) (by kernel_rfl) ?_
    refine wpAnyH_take (i := 3) (oi := _) (v := ?_) rfl (by kernel_rfl) (by kernel_rfl) (by kernel_rfl) (fun _ _ _ h => h) (Or.inl ⟨by rfl, ?_⟩) (by assumption) ?_
    rotate_left
    · (intro w hSw; (try dsimp only at hSw); go_simp; try with_reducible rfl)
    simp only [List.getElem_toArray, List.getElem_cons_succ, List.getElem_cons_zero, Act.put, List.setIfInBounds_toArray, List.set_cons_zero, List.set_cons_succ]
    refine wpAnyH_norm (l2 := #[true, true, true, true, true, true, false, false, true, false]) (f2 := 3) (by kernel_rfl) (by kernel_rfl) ?_
    refine wpAnyH_ready (rs := [6]) (by kernel_rfl) (by simp) ?_
    refine AllReadyH.cons rfl (fun K hK => ?_) AllReadyH.nil
    go_simp
    go_wp2_with (first | (go_at_call 9; refine (into_is by_ 65536 _ (by omega) (by omega) HY.out).mono ?_; rintro e w9 ⟨rfl, hw9⟩; obtain rfl := hw9.symm))
    refine hK.out _ _ (HSB.out _) (fun hHeld => ?_)
    clear hK K
    simp only [List.getElem_toArray, List.getElem_cons_succ, List.getElem_cons_zero, Act.put, List.setIfInBounds_toArray, List.set_cons_zero, List.set_cons_succ]
    refine wpAnyH_norm (l2 := #[true, true, true, true, true, true, true, false, true, false]) (f2 := 2) (by kernel_rfl) (by kernel_rfl) ?_
    refine wpAnyH_take (i := 7) (oi := _) (v := ?_) rfl (by kernel_rfl) (by kernel_rfl) (by kernel_rfl) (fun _ _ _ h => h) (Or.inl ⟨by rfl, ?_⟩) (by assumption) ?_
    rotate_left
    · (intro w hSw; (try dsimp only at hSw); go_simp; try with_reducible rfl)
    simp only [List.getElem_toArray, List.getElem_cons_succ, List.getElem_cons_zero, Act.put, List.setIfInBounds_toArray, List.set_cons_zero, List.set_cons_succ]
    refine wpAnyH_norm (l2 := #[true, true, true, true, true, true, true, true, true, false]) (f2 := 1) (by kernel_rfl) (by kernel_rfl) ?_
    refine wpAnyH_ready (rs := [9]) (by kernel_rfl) (by simp) ?_
    refine AllReadyH.cons rfl (fun K hK => ?_) AllReadyH.nil
    go_simp
    refine hK.out _ _ (HSB.out _) (fun hHeld => ?_)
    clear hK K
    simp only [List.getElem_toArray, List.getElem_cons_succ, List.getElem_cons_zero, Act.put, List.setIfInBounds_toArray, List.set_cons_zero, List.set_cons_succ]
    refine wpAnyH_norm (l2 := #[true, true, true, true, true, true, true, true, true, true]) (f2 := 0) (by kernel_rfl) (by kernel_rfl) ?_
    refine wpAnyH_done (by kernel_rfl) ?_ _
    go_wp2
    go_meet
    exact ⟨rfl, rfl⟩
  case rest =>
    obtain ⟨rfl, rfl⟩ := hcut
    go_upto_region 2 with fail
    go_cut [4] (fun s4 W => s4 = .pointer (some ⟨w.heap.size + 3, 0, none⟩) ∧ W = ((((w.alloc (Obj.cells #[.int .i64 op, .int .i64 by_, .int .i64 size, .int .i64 obj, .int .u64 (hi : Int), .int .u64 (lo : Int), .bool given, .int .i64 rights, .int .i64 off, .int .i64 n, .slice da dn dc, .int .i64 index, .slice ga gn gc] 41)).alloc (Obj.cells #[.int .i64 0, .int .i64 0, .int .i64 0, .int .i64 0, .int .u64 0, .int .u64 0, .bool false, .int .i64 0, .int .i64 0, .int .i64 0, .slice none 0 0, .int .i64 0, .slice none 0 0] 41)).alloc (Obj.cells #[.int .i64 9, .int .i64 y, .int .i64 0, .int .i64 0, .int .u64 0, .int .u64 0, .bool false, .int .i64 0, .int .i64 0, .int .i64 0, .slice none 0 0, .int .i64 0, .slice none 0 0] 41)).alloc (Obj.cells #[.int .i64 v, .int .u64 (hi : Int), .int .u64 (lo : Int)] 27)).drew.drew)
    case first =>
      have HSC : Hid ((fun U : World => U.cell? ⟨w.heap.size, 3, none⟩ = some (.int .i64 obj) ∧ U.cell? ⟨w.heap.size, 4, none⟩ = some (.int .u64 (hi : Int)) ∧ U.cell? ⟨w.heap.size, 5, none⟩ = some (.int .u64 (lo : Int))) (((w.alloc (Obj.cells #[.int .i64 op, .int .i64 by_, .int .i64 size, .int .i64 obj, .int .u64 (hi : Int), .int .u64 (lo : Int), .bool given, .int .i64 rights, .int .i64 off, .int .i64 n, .slice da dn dc, .int .i64 index, .slice ga gn gc] 41)).alloc (Obj.cells #[.int .i64 0, .int .i64 0, .int .i64 0, .int .i64 0, .int .u64 0, .int .u64 0, .bool false, .int .i64 0, .int .i64 0, .int .i64 0, .slice none 0 0, .int .i64 0, .slice none 0 0] 41)).alloc (Obj.cells #[.int .i64 9, .int .i64 y, .int .i64 0, .int .i64 0, .int .u64 0, .int .u64 0, .bool false, .int .i64 0, .int .i64 0, .int .i64 0, .slice none 0 0, .int .i64 0, .slice none 0 0] 41)).drew.drew) := by
        have := ((((Bx.new w [.int .i64 op, .int .i64 by_, .int .i64 size, .int .i64 obj, .int .u64 (hi : Int), .int .u64 (lo : Int), .bool given, .int .i64 rights, .int .i64 off, .int .i64 n, .slice da dn dc, .int .i64 index, .slice ga gn gc] 41).later (below1 _ (Obj.cells #[.int .i64 0, .int .i64 0, .int .i64 0, .int .i64 0, .int .u64 0, .int .u64 0, .bool false, .int .i64 0, .int .i64 0, .int .i64 0, .slice none 0 0, .int .i64 0, .slice none 0 0] 41))).later (below1 _ (Obj.cells #[.int .i64 9, .int .i64 y, .int .i64 0, .int .i64 0, .int .u64 0, .int .u64 0, .bool false, .int .i64 0, .int .i64 0, .int .i64 0, .slice none 0 0, .int .i64 0, .slice none 0 0] 41))).later (Below.refl _ _).drew).later (Below.refl _ _).drew
        exact ⟨this.cell 3 rfl, this.cell 4 rfl, this.cell 5 rfl⟩
      have HSD : Hid (∀ N : Obj, (fun U : World => U.cell? ⟨w.heap.size, 3, none⟩ = some (.int .i64 obj) ∧ U.cell? ⟨w.heap.size, 4, none⟩ = some (.int .u64 (hi : Int)) ∧ U.cell? ⟨w.heap.size, 5, none⟩ = some (.int .u64 (lo : Int))) ((((w.alloc (Obj.cells #[.int .i64 op, .int .i64 by_, .int .i64 size, .int .i64 obj, .int .u64 (hi : Int), .int .u64 (lo : Int), .bool given, .int .i64 rights, .int .i64 off, .int .i64 n, .slice da dn dc, .int .i64 index, .slice ga gn gc] 41)).alloc (Obj.cells #[.int .i64 0, .int .i64 0, .int .i64 0, .int .i64 0, .int .u64 0, .int .u64 0, .bool false, .int .i64 0, .int .i64 0, .int .i64 0, .slice none 0 0, .int .i64 0, .slice none 0 0] 41)).alloc (Obj.cells #[.int .i64 9, .int .i64 y, .int .i64 0, .int .i64 0, .int .u64 0, .int .u64 0, .bool false, .int .i64 0, .int .i64 0, .int .i64 0, .slice none 0 0, .int .i64 0, .slice none 0 0] 41)).alloc N).drew.drew) := fun N => by
        have := (((((Bx.new w [.int .i64 op, .int .i64 by_, .int .i64 size, .int .i64 obj, .int .u64 (hi : Int), .int .u64 (lo : Int), .bool given, .int .i64 rights, .int .i64 off, .int .i64 n, .slice da dn dc, .int .i64 index, .slice ga gn gc] 41).later (below1 _ (Obj.cells #[.int .i64 0, .int .i64 0, .int .i64 0, .int .i64 0, .int .u64 0, .int .u64 0, .bool false, .int .i64 0, .int .i64 0, .int .i64 0, .slice none 0 0, .int .i64 0, .slice none 0 0] 41))).later (below1 _ (Obj.cells #[.int .i64 9, .int .i64 y, .int .i64 0, .int .i64 0, .int .u64 0, .int .u64 0, .bool false, .int .i64 0, .int .i64 0, .int .i64 0, .slice none 0 0, .int .i64 0, .slice none 0 0] 41))).later (below1 _ N)).later (Below.refl _ _).drew).later (Below.refl _ _).drew
        exact ⟨this.cell 3 rfl, this.cell 4 rfl, this.cell 5 rfl⟩
      refine wp_region_held_drew (S := (fun U : World => U.cell? ⟨w.heap.size, 3, none⟩ = some (.int .i64 obj) ∧ U.cell? ⟨w.heap.size, 4, none⟩ = some (.int .u64 (hi : Int)) ∧ U.cell? ⟨w.heap.size, 5, none⟩ = some (.int .u64 (lo : Int)))) (by kernel_rfl) (HSC.out) (fun hHeld => ?_)
      refine wpAnyH_norm (l2 := #[false, false, false, false, false, false, false, false, false, false]) (f2 := 10) (by kernel_rfl) (by kernel_rfl) ?_
      refine wpAnyH_take (i := 0) (oi := _) (v := ?_) rfl (by kernel_rfl) (by kernel_rfl) (by kernel_rfl) (fun _ _ _ h => h) (Or.inl ⟨by rfl, ?_⟩) (by assumption) ?_
      rotate_left
      · (intro w hSw; (try dsimp only at hSw); go_simp; try with_reducible rfl)
      simp only [List.getElem_toArray, List.getElem_cons_succ, List.getElem_cons_zero, Act.put, List.setIfInBounds_toArray, List.set_cons_zero, List.set_cons_succ]
      refine wpAnyH_norm (l2 := #[true, false, false, false, false, false, false, false, false, false]) (f2 := 9) (by kernel_rfl) (by kernel_rfl) ?_
      refine wpAnyH_take (i := 1) (oi := _) (v := ?_) rfl (by kernel_rfl) (by kernel_rfl) (by kernel_rfl) (fun _ _ _ h => h) (Or.inl ⟨by rfl, ?_⟩) (by assumption) ?_
      rotate_left
      · (intro w hSw; (try dsimp only at hSw); go_simp; try with_reducible rfl)
      simp only [List.getElem_toArray, List.getElem_cons_succ, List.getElem_cons_zero, Act.put, List.setIfInBounds_toArray, List.set_cons_zero, List.set_cons_succ]
      refine wpAnyH_norm (l2 := #[true, true, false, false, false, false, false, false, false, false]) (f2 := 8) (by kernel_rfl) (by kernel_rfl) ?_
      refine wpAnyH_take (i := 2) (oi := _) (v := .int .i64 obj) rfl (by kernel_rfl) (by kernel_rfl) (by kernel_rfl) (fun _ _ _ h => h) (Or.inl ⟨by rfl, ?_⟩) (by assumption) ?_
      · (intro w hSw; (try dsimp only at hSw); obtain ⟨s1, s2, s3⟩ := hSw; go_simp; try with_reducible rfl)
      simp only [List.getElem_toArray, List.getElem_cons_succ, List.getElem_cons_zero, Act.put, List.setIfInBounds_toArray, List.set_cons_zero, List.set_cons_succ]
      refine wpAnyH_norm (l2 := #[true, true, true, false, false, false, false, false, false, false]) (f2 := 7) (by kernel_rfl) (by kernel_rfl) ?_
      refine wpAnyH_take (i := 4) (oi := _) (v := ?_) rfl (by kernel_rfl) (by kernel_rfl) (by kernel_rfl) (fun _ _ _ h => h) (Or.inl ⟨by rfl, ?_⟩) (by assumption) ?_
      rotate_left
      · (intro w hSw; (try dsimp only at hSw); go_simp; try with_reducible rfl)
      simp only [List.getElem_toArray, List.getElem_cons_succ, List.getElem_cons_zero, Act.put, List.setIfInBounds_toArray, List.set_cons_zero, List.set_cons_succ]
      refine wpAnyH_norm (l2 := #[true, true, true, false, true, false, false, false, false, false]) (f2 := 6) (by kernel_rfl) (by kernel_rfl) ?_
      refine wpAnyH_take (i := 5) (oi := _) (v := ?_) rfl (by kernel_rfl) (by kernel_rfl) (by kernel_rfl) (fun _ _ _ h => h) (Or.inl ⟨by rfl, ?_⟩) (by assumption) ?_
      rotate_left
      · (intro w hSw; (try dsimp only at hSw); go_simp; try with_reducible rfl)
      simp only [List.getElem_toArray, List.getElem_cons_succ, List.getElem_cons_zero, Act.put, List.setIfInBounds_toArray, List.set_cons_zero, List.set_cons_succ]
      refine wpAnyH_norm (l2 := #[true, true, true, false, true, true, false, false, false, false]) (f2 := 5) (by kernel_rfl) (by kernel_rfl) ?_
      refine wpAnyH_take (i := 6) (oi := _) (v := .agg #[.int .u64 (hi : Int), .int .u64 (lo : Int)]) rfl (by kernel_rfl) (by kernel_rfl) (by kernel_rfl) (fun _ _ _ h => h) (Or.inl ⟨by rfl, ?_⟩) (by assumption) ?_
      · (intro w hSw; (try dsimp only at hSw); obtain ⟨s1, s2, s3⟩ := hSw; go_simp; try with_reducible rfl)
      simp only [List.getElem_toArray, List.getElem_cons_succ, List.getElem_cons_zero, Act.put, List.setIfInBounds_toArray, List.set_cons_zero, List.set_cons_succ]
      refine wpAnyH_norm (l2 := #[true, true, true, false, true, true, true, false, false, false]) (f2 := 4) (by kernel_rfl) (by kernel_rfl) ?_
      refine wpAnyH_ready (rs := [3, 8]) (by kernel_rfl) (by simp) ?_
      refine AllReadyH.cons rfl (fun K hK => ?_) ?_
      · go_simp
        go_wp2_with (first | (go_at_call 9; refine (into_is obj 4611686018427387904 _ (by omega) (by omega) HV.out).mono ?_; rintro e w9 ⟨rfl, hw9⟩; obtain rfl := hw9.symm))
        refine hK.out _ _ (HSC.out) (fun hHeld => ?_)
        clear hK K
        simp only [List.getElem_toArray, List.getElem_cons_succ, List.getElem_cons_zero, Act.put, List.setIfInBounds_toArray, List.set_cons_zero, List.set_cons_succ]
        refine wpAnyH_norm (l2 := #[true, true, true, true, true, true, true, false, false, false]) (f2 := 3) (by kernel_rfl) (by kernel_rfl) ?_
        refine wpAnyH_take (i := 7) (oi := _) (v := ?_) rfl (by kernel_rfl) (by kernel_rfl) (by kernel_rfl) (fun _ _ _ h => h) (Or.inl ⟨by rfl, ?_⟩) (by assumption) ?_
        rotate_left
        · (intro w hSw; (try dsimp only at hSw); go_simp; try with_reducible rfl)
        simp only [List.getElem_toArray, List.getElem_cons_succ, List.getElem_cons_zero, Act.put, List.setIfInBounds_toArray, List.set_cons_zero, List.set_cons_succ]
        refine wpAnyH_norm (l2 := #[true, true, true, true, true, true, true, true, false, false]) (f2 := 2) (by kernel_rfl) (by kernel_rfl) ?_
        refine wpAnyH_ready (rs := [8]) (by kernel_rfl) (by simp) ?_
        refine AllReadyH.cons rfl (fun K hK => ?_) AllReadyH.nil
        go_simp
        refine hK.out _ _ (HSD.out _) (fun hHeld => ?_)
        clear hK K
        simp only [List.getElem_toArray, List.getElem_cons_succ, List.getElem_cons_zero, Act.put, List.setIfInBounds_toArray, List.set_cons_zero, List.set_cons_succ]
        refine wpAnyH_norm (l2 := #[true, true, true, true, true, true, true, true, true, false]) (f2 := 1) (by kernel_rfl) (by kernel_rfl) ?_
        refine wpAnyH_ready (rs := [9]) (by kernel_rfl) (by simp) ?_
        refine AllReadyH.cons rfl (fun K hK => ?_) AllReadyH.nil
        go_simp
        refine hK.out _ _ (HSD.out _) (fun hHeld => ?_)
        clear hK K
        simp only [List.getElem_toArray, List.getElem_cons_succ, List.getElem_cons_zero, Act.put, List.setIfInBounds_toArray, List.set_cons_zero, List.set_cons_succ]
        refine wpAnyH_norm (l2 := #[true, true, true, true, true, true, true, true, true, true]) (f2 := 0) (by kernel_rfl) (by kernel_rfl) ?_
        refine wpAnyH_done (by kernel_rfl) ?_ _
        go_wp2
        go_meet
        exact ⟨rfl, rfl⟩
      refine AllReadyH.cons rfl (fun K hK => ?_) AllReadyH.nil
      go_simp
      refine hK.out _ _ (HSD.out _) (fun hHeld => ?_)
      clear hK K
      simp only [List.getElem_toArray, List.getElem_cons_succ, List.getElem_cons_zero, Act.put, List.setIfInBounds_toArray, List.set_cons_zero, List.set_cons_succ]
      refine wpAnyH_norm (l2 := #[true, true, true, false, true, true, true, false, true, false]) (f2 := 3) (by kernel_rfl) (by kernel_rfl) ?_
      refine wpAnyH_ready (rs := [3]) (by kernel_rfl) (by simp) ?_
      refine AllReadyH.cons rfl (fun K hK => ?_) AllReadyH.nil
      go_simp
      go_wp2_with (first | (go_at_call 9; refine (into_is obj 4611686018427387904 _ (by omega) (by omega) HV.out).mono ?_; rintro e w9 ⟨rfl, hw9⟩; obtain rfl := hw9.symm))
      refine hK.out _ _ (HSD.out _) (fun hHeld => ?_)
      clear hK K
      simp only [List.getElem_toArray, List.getElem_cons_succ, List.getElem_cons_zero, Act.put, List.setIfInBounds_toArray, List.set_cons_zero, List.set_cons_succ]
      refine wpAnyH_norm (l2 := #[true, true, true, true, true, true, true, false, true, false]) (f2 := 2) (by kernel_rfl) (by kernel_rfl) ?_
      refine wpAnyH_take (i := 7) (oi := _) (v := ?_) rfl (by kernel_rfl) (by kernel_rfl) (by kernel_rfl) (fun _ _ _ h => h) (Or.inl ⟨by rfl, ?_⟩) (by assumption) ?_
      rotate_left
      · (intro w hSw; (try dsimp only at hSw); go_simp; try with_reducible rfl)
      simp only [List.getElem_toArray, List.getElem_cons_succ, List.getElem_cons_zero, Act.put, List.setIfInBounds_toArray, List.set_cons_zero, List.set_cons_succ]
      refine wpAnyH_norm (l2 := #[true, true, true, true, true, true, true, true, true, false]) (f2 := 1) (by kernel_rfl) (by kernel_rfl) ?_
      refine wpAnyH_ready (rs := [9]) (by kernel_rfl) (by simp) ?_
      refine AllReadyH.cons rfl (fun K hK => ?_) AllReadyH.nil
      go_simp
      refine hK.out _ _ (HSD.out _) (fun hHeld => ?_)
      clear hK K
      simp only [List.getElem_toArray, List.getElem_cons_succ, List.getElem_cons_zero, Act.put, List.setIfInBounds_toArray, List.set_cons_zero, List.set_cons_succ]
      refine wpAnyH_norm (l2 := #[true, true, true, true, true, true, true, true, true, true]) (f2 := 0) (by kernel_rfl) (by kernel_rfl) ?_
      refine wpAnyH_done (by kernel_rfl) ?_ _
      go_wp2
      go_meet
      exact ⟨rfl, rfl⟩
    case rest =>
      obtain ⟨rfl, rfl⟩ := hcut
      have HG0 : Hid (FoRel w [.int .i64 op, .int .i64 by_, .int .i64 size, .int .i64 obj, .int .u64 (hi : Int), .int .u64 (lo : Int), .bool given, .int .i64 rights, .int .i64 off, .int .i64 n, .slice da dn dc, .int .i64 index, .slice ga gn gc] y G (.int .i64 0) ((((w.alloc (Obj.cells #[.int .i64 op, .int .i64 by_, .int .i64 size, .int .i64 obj, .int .u64 (hi : Int), .int .u64 (lo : Int), .bool given, .int .i64 rights, .int .i64 off, .int .i64 n, .slice da dn dc, .int .i64 index, .slice ga gn gc] 41)).alloc (Obj.cells #[.int .i64 0, .int .i64 0, .int .i64 0, .int .i64 0, .int .u64 0, .int .u64 0, .bool false, .int .i64 0, .int .i64 0, .int .i64 0, .slice none 0 0, .int .i64 0, .slice none 0 0] 41)).alloc (Obj.cells #[.int .i64 9, .int .i64 y, .int .i64 0, .int .i64 0, .int .u64 0, .int .u64 0, .bool false, .int .i64 0, .int .i64 0, .int .i64 0, .slice none 0 0, .int .i64 0, .slice none 0 0] 41)).alloc (Obj.cells #[.int .i64 v, .int .u64 (hi : Int), .int .u64 (lo : Int)] 27)).drew.drew) := by
        have a0 := Bx.new w [.int .i64 op, .int .i64 by_, .int .i64 size, .int .i64 obj, .int .u64 (hi : Int), .int .u64 (lo : Int), .bool given, .int .i64 rights, .int .i64 off, .int .i64 n, .slice da dn dc, .int .i64 index, .slice ga gn gc] 41
        have a1 := Bx.new (w.alloc (Obj.cells #[.int .i64 op, .int .i64 by_, .int .i64 size, .int .i64 obj, .int .u64 (hi : Int), .int .u64 (lo : Int), .bool given, .int .i64 rights, .int .i64 off, .int .i64 n, .slice da dn dc, .int .i64 index, .slice ga gn gc] 41)) [.int .i64 0, .int .i64 0, .int .i64 0, .int .i64 0, .int .u64 0, .int .u64 0, .bool false, .int .i64 0, .int .i64 0, .int .i64 0, .slice none 0 0, .int .i64 0, .slice none 0 0] 41
        have a2 := Bx.new ((w.alloc (Obj.cells #[.int .i64 op, .int .i64 by_, .int .i64 size, .int .i64 obj, .int .u64 (hi : Int), .int .u64 (lo : Int), .bool given, .int .i64 rights, .int .i64 off, .int .i64 n, .slice da dn dc, .int .i64 index, .slice ga gn gc] 41)).alloc (Obj.cells #[.int .i64 0, .int .i64 0, .int .i64 0, .int .i64 0, .int .u64 0, .int .u64 0, .bool false, .int .i64 0, .int .i64 0, .int .i64 0, .slice none 0 0, .int .i64 0, .slice none 0 0] 41)) [.int .i64 9, .int .i64 y, .int .i64 0, .int .i64 0, .int .u64 0, .int .u64 0, .bool false, .int .i64 0, .int .i64 0, .int .i64 0, .slice none 0 0, .int .i64 0, .slice none 0 0] 41
        have d : ∀ W : World, Below W.heap.size W W.drew.drew := fun W => (Below.refl _ _).drew.drew
        have b2 := (a2.later (below1 _ (Obj.cells #[.int .i64 v, .int .u64 (hi : Int), .int .u64 (lo : Int)] 27))).later (d _)
        have b1 := ((a1.later (below1 _ (Obj.cells #[.int .i64 9, .int .i64 y, .int .i64 0, .int .i64 0, .int .u64 0, .int .u64 0, .bool false, .int .i64 0, .int .i64 0, .int .i64 0, .slice none 0 0, .int .i64 0, .slice none 0 0] 41))).later (below1 _ (Obj.cells #[.int .i64 v, .int .u64 (hi : Int), .int .u64 (lo : Int)] 27))).later (d _)
        have b0 := (((a0.later (below1 _ (Obj.cells #[.int .i64 0, .int .i64 0, .int .i64 0, .int .i64 0, .int .u64 0, .int .u64 0, .bool false, .int .i64 0, .int .i64 0, .int .i64 0, .slice none 0 0, .int .i64 0, .slice none 0 0] 41))).later (below1 _ (Obj.cells #[.int .i64 9, .int .i64 y, .int .i64 0, .int .i64 0, .int .u64 0, .int .u64 0, .bool false, .int .i64 0, .int .i64 0, .int .i64 0, .slice none 0 0, .int .i64 0, .slice none 0 0] 41))).later (below1 _ (Obj.cells #[.int .i64 v, .int .u64 (hi : Int), .int .u64 (lo : Int)] 27))).later (d _)
        simp at b1 b2
        exact ⟨0, none, 0, by omega, rfl, b2, b1, b0, OI.nil _ _, belF _ _ _ _ _, by simp⟩
      have HGL := hid HGG.out.len
      go_wp2
      go_loopw [6] (FoRel w [.int .i64 op, .int .i64 by_, .int .i64 size, .int .i64 obj, .int .u64 (hi : Int), .int .u64 (lo : Int), .bool given, .int .i64 rights, .int .i64 off, .int .i64 n, .slice da dn dc, .int .i64 index, .slice ga gn gc] y G) (fun t _ => 255 - (intOf t).toNat)
      case atStart => exact HG0.out
      case round =>
        clear HG0
        obtain ⟨i, x, c, hi9, rfl, hX, hY, hP, hO, hB, hS4⟩ := hrel
        have ei : IntKind.i64.wrap ((i : Int) + 1) = (i : Int) + 1 := by rw [IntKind.wrap_i64]; omega
        have hgl := HGL.out
        by_cases hlt : i < G.length ∧ i < 255
        · have hd1 : decide ((i : Int) < (gn : Int)) = true := by simp; omega
          have hd2 : decide ((i : Int) < 255) = true := by simp; omega
          have hin : (i : Int) < (gn : Int) := by omega
          obtain ⟨gb, go, rfl, hgc⟩ := (HGG.out.later hB).plain (by omega)
          have hgc := hgc i hlt.1
          have HGS : Hid ((G.take (i + 1)).map (· % 65536) = (G.take i).map (· % 65536) ++ [G[i] % 65536]) := by
            unfold Hid
            rw [List.take_succ_eq_append_getElem hlt.1, List.map_append]
            rfl
          have hgb : gb < w.heap.size := by
            obtain ⟨b', o', e1, e2⟩ := HGG.out.plain (by omega)
            have e3 := World.block_lt_of_cell? _ _ (e2 i hlt.1)
            cases e1
            exact e3
          generalize G[i] = x0 at hgc HGS
          obtain ⟨qv, hqv⟩ : ∃ qv, x0 % 65536 = qv := ⟨_, rfl⟩
          rw [hqv] at HGS
          have HQX := hid hqv
          have p12 := hP.cell 12 rfl
          have hX1 := hX.later (Below.refl _ wr).drew
          have hY1 := hY.later (Below.refl _ wr).drew
          have hP1 := hP.later (Below.refl _ wr).drew
          have hO1 := hO.later (Below.refl _ wr).drew
          have hsz : w.heap.size + 4 ≤ wr.drew.heap.size := hS4
          obtain ⟨x2, c2, w4, hrun, hO2, hgr⟩ := append_int (b := qv) hO1 hsz (by omega)
          have nbk : ∀ k, k < w.heap.size + 4 → ¬ Blk x k := fun k hk hb => by have := hO1.blk _ hb; omega
          have hX2 := hX1.but hgr.but (nbk _ (by omega))
          have hY2 := hY1.but hgr.but (nbk _ (by omega))
          have hP2 := hP1.but hgr.but (nbk _ (by omega))
          have hB2 : Below w.heap.size w w4 := But.below hB.drew hgr.but (fun j hj => by have := hO1.blk _ hj; omega)
          have hg2 : w4.cell? ⟨gb, go + i, none⟩ = some (.int .i64 x0) := by
            rw [World.cell?_of_block (w := wr.drew) (hgr.but.block gb (by have := hB.size; show gb < wr.heap.size; omega) (nbk gb (by omega)))]
            exact hgc
          have z12 : wr.drew.cell? ⟨w.heap.size + 2, 12, none⟩ = some (.slice x i c) := hX1.cell 12 rfl
          have z12a : (wr.drew.alloc (Obj.cells #[Value.int .i64 qv] 3)).cell? ⟨w.heap.size + 2, 12, none⟩ = some (.slice x i c) := (hX1.later (below1 _ _)).cell 12 rfl
          have z12c : (wr.alloc (Obj.cells #[Value.int .i64 qv] 3)).cell? ⟨w.heap.size + 2, 12, none⟩ = some (.slice x i c) := (hX.later (below1 _ _)).cell 12 rfl
          have z12b : w4.cell? ⟨w.heap.size + 2, 12, none⟩ = some (.slice x i c) := hX2.cell 12 rfl
          have f12 : w4.frozen? ⟨w.heap.size + 2, 12, none⟩ = false := (hX2.there 12 (by simp)).2
          have hbs : But (· = w.heap.size + 2) w4 (w4.setCell ⟨w.heap.size + 2, 12, none⟩ (.slice x2 (i + 1) c2)) := setCells_but (S := (· = w.heap.size + 2)) (b := w.heap.size + 2) rfl [.slice x2 (i + 1) c2] 12 (But.refl _ w4)
          have hP3 : Bx (w4.setCell ⟨w.heap.size + 2, 12, none⟩ (.slice x2 (i + 1) c2)) w.heap.size [.int .i64 op, .int .i64 by_, .int .i64 size, .int .i64 obj, .int .u64 (hi : Int), .int .u64 (lo : Int), .bool given, .int .i64 rights, .int .i64 off, .int .i64 n, .slice da dn dc, .int .i64 index, .slice (some ⟨gb, go, none⟩) gn gc] := Bx.offq hP2 (by omega) _
          have HREL : Hid (FoRel w [.int .i64 op, .int .i64 by_, .int .i64 size, .int .i64 obj, .int .u64 (hi : Int), .int .u64 (lo : Int), .bool given, .int .i64 rights, .int .i64 off, .int .i64 n, .slice da dn dc, .int .i64 index, .slice (some ⟨gb, go, none⟩) gn gc] y G (.int .i64 ((i : Int) + 1)) (w4.setCell ⟨w.heap.size + 2, 12, none⟩ (.slice x2 (i + 1) c2))) := ⟨i + 1, x2, c2, by omega, by go_num, Bx.putq hX2 (j := 12) (by simp) _, Bx.offq hY2 (by omega) _, hP3, by rw [HGS.out]; exact hO2.but hbs (fun j hj e => by have := hO2.blk j hj; omega), Below.setCell hB2 (by show w.heap.size ≤ w.heap.size + 2; omega) _, Nat.le_trans hsz (Nat.le_trans hgr.but.size hbs.size)⟩
          have HSa : Hid ((fun U : World => U.cell? ⟨w.heap.size, 12, none⟩ = some (.slice (some ⟨gb, go, none⟩) gn gc) ∧ U.cell? ⟨gb, go + i, none⟩ = some (.int .i64 x0)) wr.drew) := ⟨hP1.cell 12 rfl, hgc⟩
          have HSb : Hid ((fun U : World => U.cell? ⟨w.heap.size, 12, none⟩ = some (.slice (some ⟨gb, go, none⟩) gn gc) ∧ U.cell? ⟨gb, go + i, none⟩ = some (.int .i64 x0)) (wr.alloc (Obj.cells #[Value.int .i64 qv] 3)).drew) := ⟨((hP.later (below1 _ (Obj.cells #[Value.int .i64 qv] 3))).later (Below.refl _ _).drew).cell 12 rfl, cell_later (Below.refl _ _).drew (cell_later (below1 _ (Obj.cells #[Value.int .i64 qv] 3)) hgc)⟩
          have HSc : Hid ((fun U : World => U.cell? ⟨w.heap.size, 12, none⟩ = some (.slice (some ⟨gb, go, none⟩) gn gc) ∧ U.cell? ⟨gb, go + i, none⟩ = some (.int .i64 x0)) w4) := ⟨hP2.cell 12 rfl, hg2⟩
          have HSd : Hid ((fun U : World => U.cell? ⟨w.heap.size, 12, none⟩ = some (.slice (some ⟨gb, go, none⟩) gn gc) ∧ U.cell? ⟨gb, go + i, none⟩ = some (.int .i64 x0)) (w4.setCell ⟨w.heap.size + 2, 12, none⟩ (.slice x2 (i + 1) c2))) := ⟨hP3.cell 12 rfl, by rw [World.cell?_setCell_far _ _ _ _ (by show w.heap.size + 2 ≠ gb; omega)]; exact hg2⟩
          have HRUN := hid hrun
          clear hX hY hP hO hB hS4 hX1 hY1 hP1 hO1 hX2 hY2 hP2 hP3 hB2 hO2 hgr hrun hbs hqv hsz nbk
          go_upto_region 30 with fail
          refine wp_region_held_drew (S := (fun U : World => U.cell? ⟨w.heap.size, 12, none⟩ = some (.slice (some ⟨gb, go, none⟩) gn gc) ∧ U.cell? ⟨gb, go + i, none⟩ = some (.int .i64 x0))) (by kernel_rfl) (HSa.out) (fun hHeld => ?_)
          refine wpAnyH_norm (l2 := #[false, false, false, false, false, false, false, false, false, false, false, false]) (f2 := 12) (by kernel_rfl) (by kernel_rfl) ?_
          refine wpAnyH_take (i := 0) (oi := _) (v := ?_) rfl (by kernel_rfl) (by kernel_rfl) (by kernel_rfl) (fun _ _ _ h => h) (Or.inl ⟨by rfl, ?_⟩) (by assumption) ?_
          rotate_left
          · (intro w hSw; (try dsimp only at hSw); go_simp; try with_reducible rfl)
          simp only [List.getElem_toArray, List.getElem_cons_succ, List.getElem_cons_zero, Act.put, List.setIfInBounds_toArray, List.set_cons_zero, List.set_cons_succ]
          refine wpAnyH_norm (l2 := #[true, false, false, false, false, false, false, false, false, false, false, false]) (f2 := 11) (by kernel_rfl) (by kernel_rfl) ?_
          refine wpAnyH_take (i := 2) (oi := _) (v := ?_) rfl (by kernel_rfl) (by kernel_rfl) (by kernel_rfl) (fun _ _ _ h => h) (Or.inl ⟨by rfl, ?_⟩) (by assumption) ?_
          rotate_left
          · (intro w hSw; (try dsimp only at hSw); go_simp; try with_reducible rfl)
          simp only [List.getElem_toArray, List.getElem_cons_succ, List.getElem_cons_zero, Act.put, List.setIfInBounds_toArray, List.set_cons_zero, List.set_cons_succ]
          refine wpAnyH_norm (l2 := #[true, false, true, false, false, false, false, false, false, false, false, false]) (f2 := 10) (by kernel_rfl) (by kernel_rfl) ?_
          refine wpAnyH_take (i := 3) (oi := _) (v := .slice (some ⟨gb, go, none⟩) gn gc) rfl (by kernel_rfl) (by kernel_rfl) (by kernel_rfl) (fun _ _ _ h => h) (Or.inl ⟨by rfl, ?_⟩) (by assumption) ?_
          · (intro w hSw; (try dsimp only at hSw); obtain ⟨s1, s2⟩ := hSw; go_simp; try with_reducible rfl)
          simp only [List.getElem_toArray, List.getElem_cons_succ, List.getElem_cons_zero, Act.put, List.setIfInBounds_toArray, List.set_cons_zero, List.set_cons_succ]
          refine wpAnyH_norm (l2 := #[true, false, true, true, false, false, false, false, false, false, false, false]) (f2 := 9) (by kernel_rfl) (by kernel_rfl) ?_
          refine wpAnyH_take (i := 4) (oi := _) (v := ?_) rfl (by kernel_rfl) (by kernel_rfl) (by kernel_rfl) (fun _ _ _ h => h) (Or.inl ⟨by rfl, ?_⟩) (by assumption) ?_
          rotate_left
          · (intro w hSw; (try dsimp only at hSw); go_simp; try with_reducible rfl)
          simp only [List.getElem_toArray, List.getElem_cons_succ, List.getElem_cons_zero, Act.put, List.setIfInBounds_toArray, List.set_cons_zero, List.set_cons_succ]
          refine wpAnyH_norm (l2 := #[true, false, true, true, true, false, false, false, false, false, false, false]) (f2 := 8) (by kernel_rfl) (by kernel_rfl) ?_
          refine wpAnyH_take (i := 5) (oi := _) (v := ?_) rfl (by kernel_rfl) (by kernel_rfl) (by kernel_rfl) (fun _ _ _ h => h) (Or.inl ⟨by rfl, ?_⟩) (by assumption) ?_
          rotate_left
          · (intro w hSw; (try dsimp only at hSw); go_simp; try with_reducible rfl)
          simp only [List.getElem_toArray, List.getElem_cons_succ, List.getElem_cons_zero, Act.put, List.setIfInBounds_toArray, List.set_cons_zero, List.set_cons_succ]
          refine wpAnyH_norm (l2 := #[true, false, true, true, true, true, false, false, false, false, false, false]) (f2 := 7) (by kernel_rfl) (by kernel_rfl) ?_
          refine wpAnyH_take (i := 6) (oi := _) (v := .int .i64 x0) rfl (by kernel_rfl) (by kernel_rfl) (by kernel_rfl) (fun _ _ _ h => h) (Or.inl ⟨by rfl, ?_⟩) (by assumption) ?_
          · (intro w hSw; (try dsimp only at hSw); obtain ⟨s1, s2⟩ := hSw; go_simp; try with_reducible rfl)
          simp only [List.getElem_toArray, List.getElem_cons_succ, List.getElem_cons_zero, Act.put, List.setIfInBounds_toArray, List.set_cons_zero, List.set_cons_succ]
          refine wpAnyH_norm (l2 := #[true, false, true, true, true, true, true, false, false, false, false, false]) (f2 := 6) (by kernel_rfl) (by kernel_rfl) ?_
          refine wpAnyH_ready (rs := [1, 7]) (by kernel_rfl) (by simp) ?_
          refine AllReadyH.cons rfl (fun K hK => ?_) (AllReadyH.cons rfl (fun K hK => ?_) AllReadyH.nil)
          · go_simp
            refine hK.out _ _ (by first | exact HSa.out | exact HSb.out | exact HSc.out | exact HSd.out) (fun hHeld => ?_)
            clear hK K
            simp only [List.getElem_toArray, List.getElem_cons_succ, List.getElem_cons_zero, Act.put, List.setIfInBounds_toArray, List.set_cons_zero, List.set_cons_succ]
            refine wpAnyH_norm (l2 := #[true, true, true, true, true, true, true, false, false, false, false, false]) (f2 := 5) (by kernel_rfl) (by kernel_rfl) ?_
            refine wpAnyH_ready (rs := [7]) (by kernel_rfl) (by simp) ?_
            refine AllReadyH.cons rfl (fun K hK => ?_) AllReadyH.nil
            go_simp
            go_wp2_with (first | (go_at_call 9; refine (into_is x0 65536 _ (by omega) (by omega) HQX.out).mono ?_; rintro e w9 ⟨rfl, hw9⟩; obtain rfl := hw9.symm))
            refine hK.out _ _ (by first | exact HSa.out | exact HSb.out | exact HSc.out | exact HSd.out) (fun hHeld => ?_)
            clear hK K
            simp only [List.getElem_toArray, List.getElem_cons_succ, List.getElem_cons_zero, Act.put, List.setIfInBounds_toArray, List.set_cons_zero, List.set_cons_succ]
            refine wpAnyH_norm (l2 := #[true, true, true, true, true, true, true, true, false, false, false, false]) (f2 := 4) (by kernel_rfl) (by kernel_rfl) ?_
            refine wpAnyH_ready (rs := [8]) (by kernel_rfl) (by simp) ?_
            refine AllReadyH.cons rfl (fun K hK => ?_) AllReadyH.nil
            go_simp
            refine hK.out _ _ (by first | exact HSa.out | exact HSb.out | exact HSc.out | exact HSd.out) (fun hHeld => ?_)
            clear hK K
            simp only [List.getElem_toArray, List.getElem_cons_succ, List.getElem_cons_zero, Act.put, List.setIfInBounds_toArray, List.set_cons_zero, List.set_cons_succ]
            refine wpAnyH_norm (l2 := #[true, true, true, true, true, true, true, true, true, false, false, false]) (f2 := 3) (by kernel_rfl) (by kernel_rfl) ?_
            refine wpAnyH_ready (rs := [9]) (by kernel_rfl) (by simp) ?_
            refine AllReadyH.cons rfl (fun K hK => ?_) AllReadyH.nil
            refine wp_append_knownq (.tmp 104) (.tmp 111) 39 rfl _ _ rfl rfl _ w4 HRUN.out ?_
            refine hK.out _ _ (by first | exact HSa.out | exact HSb.out | exact HSc.out | exact HSd.out) (fun hHeld => ?_)
            clear hK K
            simp only [List.getElem_toArray, List.getElem_cons_succ, List.getElem_cons_zero, Act.put, List.setIfInBounds_toArray, List.set_cons_zero, List.set_cons_succ]
            refine wpAnyH_norm (l2 := #[true, true, true, true, true, true, true, true, true, true, false, false]) (f2 := 2) (by kernel_rfl) (by kernel_rfl) ?_
            refine wpAnyH_take (i := 10) (oi := _) (v := ?_) rfl (by kernel_rfl) (by kernel_rfl) (by kernel_rfl) (fun _ _ _ h => h) (Or.inl ⟨by rfl, ?_⟩) (by assumption) ?_
            rotate_left
            · (intro w hSw; (try dsimp only at hSw); go_simp; try with_reducible rfl)
            simp only [List.getElem_toArray, List.getElem_cons_succ, List.getElem_cons_zero, Act.put, List.setIfInBounds_toArray, List.set_cons_zero, List.set_cons_succ]
            refine wpAnyH_norm (l2 := #[true, true, true, true, true, true, true, true, true, true, true, false]) (f2 := 1) (by kernel_rfl) (by kernel_rfl) ?_
            refine wpAnyH_ready (rs := [11]) (by kernel_rfl) (by simp) ?_
            refine AllReadyH.cons rfl (fun K hK => ?_) AllReadyH.nil
            go_simp
            refine hK.out _ _ (by first | exact HSa.out | exact HSb.out | exact HSc.out | exact HSd.out) (fun hHeld => ?_)
            clear hK K
            simp only [List.getElem_toArray, List.getElem_cons_succ, List.getElem_cons_zero, Act.put, List.setIfInBounds_toArray, List.set_cons_zero, List.set_cons_succ]
            refine wpAnyH_norm (l2 := #[true, true, true, true, true, true, true, true, true, true, true, true]) (f2 := 0) (by kernel_rfl) (by kernel_rfl) ?_
            refine wpAnyH_done (by kernel_rfl) ?_ _
            go_wp2
            go_roundw
            case rel => exact HREL.out
            case measure => simp [intOf]; omega
          · go_simp
            go_wp2_with (first | (go_at_call 9; refine (into_is x0 65536 _ (by omega) (by omega) HQX.out).mono ?_; rintro e w9 ⟨rfl, hw9⟩; obtain rfl := hw9.symm))
            refine hK.out _ _ (by first | exact HSa.out | exact HSb.out | exact HSc.out | exact HSd.out) (fun hHeld => ?_)
            clear hK K
            simp only [List.getElem_toArray, List.getElem_cons_succ, List.getElem_cons_zero, Act.put, List.setIfInBounds_toArray, List.set_cons_zero, List.set_cons_succ]
            refine wpAnyH_norm (l2 := #[true, false, true, true, true, true, true, true, false, false, false, false]) (f2 := 5) (by kernel_rfl) (by kernel_rfl) ?_
            refine wpAnyH_ready (rs := [1, 8]) (by kernel_rfl) (by simp) ?_
            refine AllReadyH.cons rfl (fun K hK => ?_) (AllReadyH.cons rfl (fun K hK => ?_) AllReadyH.nil)
            · go_simp
              refine hK.out _ _ (by first | exact HSa.out | exact HSb.out | exact HSc.out | exact HSd.out) (fun hHeld => ?_)
              clear hK K
              simp only [List.getElem_toArray, List.getElem_cons_succ, List.getElem_cons_zero, Act.put, List.setIfInBounds_toArray, List.set_cons_zero, List.set_cons_succ]
              refine wpAnyH_norm (l2 := #[true, true, true, true, true, true, true, true, false, false, false, false]) (f2 := 4) (by kernel_rfl) (by kernel_rfl) ?_
              refine wpAnyH_ready (rs := [8]) (by kernel_rfl) (by simp) ?_
              refine AllReadyH.cons rfl (fun K hK => ?_) AllReadyH.nil
              go_simp
              refine hK.out _ _ (by first | exact HSa.out | exact HSb.out | exact HSc.out | exact HSd.out) (fun hHeld => ?_)
              clear hK K
              simp only [List.getElem_toArray, List.getElem_cons_succ, List.getElem_cons_zero, Act.put, List.setIfInBounds_toArray, List.set_cons_zero, List.set_cons_succ]
              refine wpAnyH_norm (l2 := #[true, true, true, true, true, true, true, true, true, false, false, false]) (f2 := 3) (by kernel_rfl) (by kernel_rfl) ?_
              refine wpAnyH_ready (rs := [9]) (by kernel_rfl) (by simp) ?_
              refine AllReadyH.cons rfl (fun K hK => ?_) AllReadyH.nil
              refine wp_append_knownq (.tmp 104) (.tmp 111) 39 rfl _ _ rfl rfl _ w4 HRUN.out ?_
              refine hK.out _ _ (by first | exact HSa.out | exact HSb.out | exact HSc.out | exact HSd.out) (fun hHeld => ?_)
              clear hK K
              simp only [List.getElem_toArray, List.getElem_cons_succ, List.getElem_cons_zero, Act.put, List.setIfInBounds_toArray, List.set_cons_zero, List.set_cons_succ]
              refine wpAnyH_norm (l2 := #[true, true, true, true, true, true, true, true, true, true, false, false]) (f2 := 2) (by kernel_rfl) (by kernel_rfl) ?_
              refine wpAnyH_take (i := 10) (oi := _) (v := ?_) rfl (by kernel_rfl) (by kernel_rfl) (by kernel_rfl) (fun _ _ _ h => h) (Or.inl ⟨by rfl, ?_⟩) (by assumption) ?_
              rotate_left
              · (intro w hSw; (try dsimp only at hSw); go_simp; try with_reducible rfl)
              simp only [List.getElem_toArray, List.getElem_cons_succ, List.getElem_cons_zero, Act.put, List.setIfInBounds_toArray, List.set_cons_zero, List.set_cons_succ]
              refine wpAnyH_norm (l2 := #[true, true, true, true, true, true, true, true, true, true, true, false]) (f2 := 1) (by kernel_rfl) (by kernel_rfl) ?_
              refine wpAnyH_ready (rs := [11]) (by kernel_rfl) (by simp) ?_
              refine AllReadyH.cons rfl (fun K hK => ?_) AllReadyH.nil
              go_simp
              refine hK.out _ _ (by first | exact HSa.out | exact HSb.out | exact HSc.out | exact HSd.out) (fun hHeld => ?_)
              clear hK K
              simp only [List.getElem_toArray, List.getElem_cons_succ, List.getElem_cons_zero, Act.put, List.setIfInBounds_toArray, List.set_cons_zero, List.set_cons_succ]
              refine wpAnyH_norm (l2 := #[true, true, true, true, true, true, true, true, true, true, true, true]) (f2 := 0) (by kernel_rfl) (by kernel_rfl) ?_
              refine wpAnyH_done (by kernel_rfl) ?_ _
              go_wp2
              go_roundw
              case rel => exact HREL.out
              case measure => simp [intOf]; omega
            · go_simp
              refine hK.out _ _ (by first | exact HSa.out | exact HSb.out | exact HSc.out | exact HSd.out) (fun hHeld => ?_)
              clear hK K
              simp only [List.getElem_toArray, List.getElem_cons_succ, List.getElem_cons_zero, Act.put, List.setIfInBounds_toArray, List.set_cons_zero, List.set_cons_succ]
              refine wpAnyH_norm (l2 := #[true, false, true, true, true, true, true, true, true, false, false, false]) (f2 := 4) (by kernel_rfl) (by kernel_rfl) ?_
              refine wpAnyH_ready (rs := [1]) (by kernel_rfl) (by simp) ?_
              refine AllReadyH.cons rfl (fun K hK => ?_) AllReadyH.nil
              go_simp
              refine hK.out _ _ (by first | exact HSa.out | exact HSb.out | exact HSc.out | exact HSd.out) (fun hHeld => ?_)
              clear hK K
              simp only [List.getElem_toArray, List.getElem_cons_succ, List.getElem_cons_zero, Act.put, List.setIfInBounds_toArray, List.set_cons_zero, List.set_cons_succ]
              refine wpAnyH_norm (l2 := #[true, true, true, true, true, true, true, true, true, false, false, false]) (f2 := 3) (by kernel_rfl) (by kernel_rfl) ?_
              refine wpAnyH_ready (rs := [9]) (by kernel_rfl) (by simp) ?_
              refine AllReadyH.cons rfl (fun K hK => ?_) AllReadyH.nil
              refine wp_append_knownq (.tmp 104) (.tmp 111) 39 rfl _ _ rfl rfl _ w4 HRUN.out ?_
              refine hK.out _ _ (by first | exact HSa.out | exact HSb.out | exact HSc.out | exact HSd.out) (fun hHeld => ?_)
              clear hK K
              simp only [List.getElem_toArray, List.getElem_cons_succ, List.getElem_cons_zero, Act.put, List.setIfInBounds_toArray, List.set_cons_zero, List.set_cons_succ]
              refine wpAnyH_norm (l2 := #[true, true, true, true, true, true, true, true, true, true, false, false]) (f2 := 2) (by kernel_rfl) (by kernel_rfl) ?_
              refine wpAnyH_take (i := 10) (oi := _) (v := ?_) rfl (by kernel_rfl) (by kernel_rfl) (by kernel_rfl) (fun _ _ _ h => h) (Or.inl ⟨by rfl, ?_⟩) (by assumption) ?_
              rotate_left
              · (intro w hSw; (try dsimp only at hSw); go_simp; try with_reducible rfl)
              simp only [List.getElem_toArray, List.getElem_cons_succ, List.getElem_cons_zero, Act.put, List.setIfInBounds_toArray, List.set_cons_zero, List.set_cons_succ]
              refine wpAnyH_norm (l2 := #[true, true, true, true, true, true, true, true, true, true, true, false]) (f2 := 1) (by kernel_rfl) (by kernel_rfl) ?_
              refine wpAnyH_ready (rs := [11]) (by kernel_rfl) (by simp) ?_
              refine AllReadyH.cons rfl (fun K hK => ?_) AllReadyH.nil
              go_simp
              refine hK.out _ _ (by first | exact HSa.out | exact HSb.out | exact HSc.out | exact HSd.out) (fun hHeld => ?_)
              clear hK K
              simp only [List.getElem_toArray, List.getElem_cons_succ, List.getElem_cons_zero, Act.put, List.setIfInBounds_toArray, List.set_cons_zero, List.set_cons_succ]
              refine wpAnyH_norm (l2 := #[true, true, true, true, true, true, true, true, true, true, true, true]) (f2 := 0) (by kernel_rfl) (by kernel_rfl) ?_
              refine wpAnyH_done (by kernel_rfl) ?_ _
              go_wp2
              go_roundw
              case rel => exact HREL.out
              case measure => simp [intOf]; omega
        · have hsz := hX.lt (by simp)
          have p12 : wr.cell? ⟨w.heap.size, 12, none⟩ = some (.slice ga gn gc) := hP.cell 12 rfl
          have z0 : wr.cell? ⟨w.heap.size + 2, 0, none⟩ = some (.int .i64 9) := hX.cell 0 rfl
          have hdx : (decide ((i : Int) < (gn : Int)) && decide ((i : Int) < 255)) = false := by
            rw [Bool.and_eq_false_iff]
            by_cases hh : i < G.length
            · right; simp; omega
            · left; simp; omega
          have hi255 : (G.take i).map (· % 65536) = (G.take 255).map (· % 65536) := by
            congr 1
            by_cases hh : i < G.length
            · congr 1; omega
            · rw [List.take_of_length_le (by omega), List.take_of_length_le (by omega)]
          rw [hi255] at hO
          obtain ⟨M, hM⟩ : ∃ M : List Value, M = [.int .i64 9, .int .i64 y, .int .i64 0, .int .i64 0, .int .u64 0, .int .u64 0, .bool false, .int .i64 0, .int .i64 0, .int .i64 0, .slice none 0 0, .int .i64 0, .slice x i c] := ⟨_, rfl⟩
          rw [← hM] at hX
          have hml : M.length = 13 := by rw [hM]; rfl
          have hmo : ∀ v ∈ M, v.oneCell' = true := by rw [hM]; simp [Value.oneCell']
          have HLD := hid (ld41 hX.range hml)
          have hst := stc (n := 13) hY.there hml hmo
          have HLV := hid (lv41 (hY.set (M := M) hml).range hml)
          have hbs : But (· = w.heap.size + 1) wr (wr.setCells (w.heap.size + 1) 0 M) := setCells_but (S := (· = w.heap.size + 1)) rfl M 0 (But.refl _ _)
          have HB4 : Hid (Below w.heap.size w (wr.setCells (w.heap.size + 1) 0 M)) := But.below hB hbs (fun k hk => by omega)
          have HOI : Hid (OI (wr.setCells (w.heap.size + 1) 0 M) w.heap.size x i c ((G.take 255).map (· % 65536))) := (hO.but hbs (fun j hj e => by have := hO.blk j hj; omega)).mono (by omega)
          have HM := hid hM
          clear hX hY hP hO hB hmo hM hbs hS4 hi255
          by_cases hh : i < gn
          · have hd1 : decide ((i : Int) < (gn : Int)) = true := by simp; omega
            have hd2 : decide ((i : Int) < 255) = false := by simp; omega
            clear hdx
            go_wp2_with (first | ((with_reducible refine ld_arm HLD.out ?_ ?_); (· rfl)))
            refine bodyPost_ret (v := .agg M.toArray) ?_ rfl ⟨x, i, c, by rw [HM.out], HOI.out, HB4.out⟩
            have hlv := HLV.out
            simp [results, Try.results14, asAddr, hlv]
          · have hd1 : decide ((i : Int) < (gn : Int)) = false := by simp; omega
            clear hdx
            go_wp2_with (first | ((with_reducible refine ld_arm HLD.out ?_ ?_); (· rfl)))
            refine bodyPost_ret (v := .agg M.toArray) ?_ rfl ⟨x, i, c, by rw [HM.out], HOI.out, HB4.out⟩
            have hlv := HLV.out
            simp [results, Try.results14, asAddr, hlv]
end Go.Proofs.Ytaffgoacbiedlaa
