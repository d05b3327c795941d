import Derived.Test.YtlelglfdamakaaaMX
namespace Go.Proofs.Ytlelglfdamakaaa.K
open Go.RowKit
set_option linter.unusedVariables false
set_option linter.unusedSimpArgs false
variable {w w' : World} {g s n k : Nat} {R : Nat → List Pl} {e hi mi : Int}

theorem wpAnyH_norm {P : Program} {md : Region.Mode} {ops : Array Oper} {Q : Exit → Act → World → Prop} {S : World → Prop} {fuel f2 : Nat} {listed l2 : Array Bool} {a : Act} {w : World} (hl : listed = l2) (hf : fuel = f2) (h : wpAnyH P md ops Q S f2 l2 a w) : wpAnyH P md ops Q S fuel listed a w := by
  subst hl hf
  exact h
theorem ex_load {P : Program} {w : World} {o : Oper} {ρ : Operand → Value} {ty : TypeId} {x : Operand} {p v : Value}
    (ho : o.op = .load ty x) (hx : ρ x = p) (hr : (Instr.loadAt ty p).run P w = .ok v w) : (execOp ρ o).run P w = .ok (.value v) w := by
  unfold execOp
  simp only [ho, hx, hr, Sem.run_bind, Sem.run_pure, Result.andThen_ok]
theorem set_new {w1 U : World} (h : Below w1.heap.size w1 U) {b : Nat} (hb : w1.heap.size ≤ b) (o : Nat) (L : List Value) : Below w1.heap.size w1 (U.setCells b o L) :=
  But.below h (But.setCells (S := fun x => x = b) rfl L o (But.refl _ _)) (fun k hk => by omega)
theorem ce_one {w : World} {b : Nat} {p : Pl} (h : w.rangeAt b 0 (encP p)) : Ce w b 0 p := ⟨h 0 _ rfl, h 1 _ rfl, h 2 _ rfl, h 3 _ rfl, h 4 _ rfl⟩
theorem zinfo56 : (Try.prog.info? 116).map (fun i => (i.zero, i.size, i.bytes)) = some (some (.agg (encP fr).toArray), 5, 40) := by kernel_rfl
theorem info116 : (Try.prog.info? 116).map (·.size) = some 5 := by kernel_rfl
/-- What is told of a capability: its rights, if the place is known with it. -/
def tell (c : Cp) (p : Pl) : Value := .tuple #[.int .i64 (if hasP c p then p.2.2 else 0), .bool (hasP c p)]
set_option maxRecDepth 100000 in
set_option maxHeartbeats 1000000 in
theorem look_ok (h : Ca w g s n k R e hi mi) (c : Cp) (hc : okC c) (hs : 0 < s) {r : Nat} (hr : r = rowN k s c) {i : Nat} (hi_ : i = spotP (R r) c n) {p : Pl} (hp : (R r)[i]? = some p) :
    Calls Try.prog 116 #[.pointer (some ⟨g, 0, none⟩), .agg #[.int .i64 c.1, .int .u64 (c.2.1 : Int), .int .u64 (c.2.2 : Int)]] w fun e w' => e = .returned (tell c p) ∧ Below w.heap.size w w' := by
  obtain ⟨w1, hw1⟩ : ∃ w1, w1 = w.alloc (Obj.cells #[.int .i64 c.1, .int .u64 (c.2.1 : Int), .int .u64 (c.2.2 : Int)] 32) := ⟨_, rfl⟩
  have hB1 : Below w.heap.size w w1 := by rw [hw1]; exact below1 _ _
  have HH := hid (h.later hB1)
  have c0 := HH.out.c0
  rw [hw1] at c0
  have hz0 : ((s : Int) == 0) = false := by simp; omega
  have hr16 : (r : Int) < 16 := by have := h.ls; have := rowN_lt (k := k) c hs; omega
  have hrn : r < 16 := by omega
  have hi4 : (i : Int) < 4 := by
    have := (List.getElem?_eq_some_iff.1 hp).1
    rw [h.len] at this
    omega
  have HRow : Hid (∀ U : World, Below w1.heap.size w1 U → Calls Try.prog 89 #[.pointer (some ⟨g, 0, none⟩), .agg #[.int .i64 c.1, .int .u64 (c.2.1 : Int), .int .u64 (c.2.2 : Int)]] U fun e w' => e = .returned (.int .i64 (r : Int)) ∧ Below U.heap.size U w') := fun U hU => by
    rw [hr]; exact row_any (HH.out.later hU) c hc hs
  obtain ⟨A, hA⟩ : ∃ A, A = plc (R r) := ⟨_, rfl⟩
  have HAl : Hid (A.length = 20) := by rw [hA, plc_length, h.len]; rfl
  have HAs : Hid (A.toArray.size = 20) := by rw [List.size_toArray]; exact HAl.out
  have HA1 : Hid (∀ v ∈ A, v.oneCell' = true) := by rw [hA]; exact plc_one _
  have HLD : Hid (∀ U : World, Below w1.heap.size w1 U → (Instr.loadAt 118 (.pointer (some ⟨g, 3 + r * 20, none⟩))).run Try.prog U = .ok (.agg A.toArray) U) := fun U hU => load58 (by rw [hA]; exact (HH.out.later hU).at_ r hrn) HAl.out
  have HSp : Hid (∀ U : World, Calls Try.prog 91 #[.agg A.toArray, .agg #[.int .i64 c.1, .int .u64 (c.2.1 : Int), .int .u64 (c.2.2 : Int)], .int .i64 (n : Int)] U fun e w' => e = .returned (.int .i64 (i : Int)) ∧ Below U.heap.size U w') := fun U => by
    rw [hi_, hA]; exact spot_any (R r) c n U (h.len r) h.n1 h.n4
  have hz := fun W => zero_of zinfo58 W
  obtain ⟨Z, hZ⟩ : ∃ Z, Z = (plc (List.replicate 4 fr)).toArray := ⟨_, rfl⟩
  rw [← hZ] at hz
  have HZs : Hid (Z.size = 20) := by rw [hZ, List.size_toArray, plc_length]; rfl
  have HA := hid hA
  have HP := hid hp
  have HI := hid hi_
  have HC1 : Hid (∀ U : World, Below w1.heap.size w1 U → U.cell? ⟨w.heap.size, 0, none⟩ = some (.int .i64 c.1) ∧ U.cell? ⟨w.heap.size, 1, none⟩ = some (.int .u64 (c.2.1 : Int)) ∧ U.cell? ⟨w.heap.size, 2, none⟩ = some (.int .u64 (c.2.2 : Int)) ∧ U.cell? ⟨g, 1, none⟩ = some (.int .i64 (n : Int))) := fun U hU =>
    ⟨cell_later hU (by rw [hw1]; simp [go_sem]), cell_later hU (by rw [hw1]; simp [go_sem]), cell_later hU (by rw [hw1]; simp [go_sem]), (HH.out.later hU).c1⟩
  have hC := fun (U : World) (hU : Below w1.heap.size w1 U) => And.intro (HC1.out U hU) hU
  have HC := hid hC
  clear hA hZ hp hi_ hr h hC
  go_enter Try.func116, Try.ntmps116
  go_upto_region 3 with fail
  rw [← hw1]
  have HB1 := hid hB1
  clear hw1 hB1 c0 hz0
  go_cut [6] (fun v W => ∃ b, v = .pointer (some ⟨b, 0, none⟩) ∧ W.rangeAt b 0 A ∧ Below w1.heap.size w1 W)
  case first =>
    refine wp_region_held_drew (S := (fun U : World => (U.cell? ⟨w.heap.size, 0, none⟩ = some (.int .i64 c.1) ∧ U.cell? ⟨w.heap.size, 1, none⟩ = some (.int .u64 (c.2.1 : Int)) ∧ U.cell? ⟨w.heap.size, 2, none⟩ = some (.int .u64 (c.2.2 : Int)) ∧ U.cell? ⟨g, 1, none⟩ = some (.int .i64 (n : Int))) ∧ Below w1.heap.size w1 U)) (by kernel_rfl) (HC.out _ (Below.refl w1.heap.size w1).drew) (fun hHeld => ?_)
    refine wpAnyH_norm (l2 := #[false, false, false, false, false, false, false, false, false, false]) (f2 := 10) (by kernel_rfl) (by kernel_rfl) ?_
    refine wpAnyH_take (i := 0) (oi := _) (v := ?_) rfl (by kernel_rfl) (by kernel_rfl) (by kernel_rfl) (fun _ _ _ h => h) (Or.inl ⟨by rfl, ?_⟩) (by assumption) ?_
    rotate_left
    · (intro w hSw; (try dsimp only at hSw); go_simp; try with_reducible rfl)
    simp only [List.getElem_toArray, List.getElem_cons_succ, List.getElem_cons_zero, Act.put, List.setIfInBounds_toArray, List.set_cons_zero, List.set_cons_succ]
    refine wpAnyH_norm (l2 := #[true, false, false, false, false, false, false, false, false, false]) (f2 := 9) (by kernel_rfl) (by kernel_rfl) ?_
    refine wpAnyH_take (i := 1) (oi := _) (v := ?_) rfl (by kernel_rfl) (by kernel_rfl) (by kernel_rfl) (fun _ _ _ h => h) (Or.inl ⟨by rfl, ?_⟩) (by assumption) ?_
    rotate_left
    · (intro w hSw; (try dsimp only at hSw); go_simp; try with_reducible rfl)
    simp only [List.getElem_toArray, List.getElem_cons_succ, List.getElem_cons_zero, Act.put, List.setIfInBounds_toArray, List.set_cons_zero, List.set_cons_succ]
    refine wpAnyH_norm (l2 := #[true, true, false, false, false, false, false, false, false, false]) (f2 := 8) (by kernel_rfl) (by kernel_rfl) ?_
    refine wpAnyH_take (i := 2) (oi := _) (v := ?_) rfl (by kernel_rfl) (by kernel_rfl) (by kernel_rfl) (fun _ _ _ h => h) (Or.inl ⟨by rfl, ?_⟩) (by assumption) ?_
    rotate_left
    · (intro w hSw; (try dsimp only at hSw); go_simp; try with_reducible rfl)
    simp only [List.getElem_toArray, List.getElem_cons_succ, List.getElem_cons_zero, Act.put, List.setIfInBounds_toArray, List.set_cons_zero, List.set_cons_succ]
    refine wpAnyH_norm (l2 := #[true, true, true, false, false, false, false, false, false, false]) (f2 := 7) (by kernel_rfl) (by kernel_rfl) ?_
    refine wpAnyH_take (i := 4) (oi := _) (v := ?_) rfl (by kernel_rfl) (by kernel_rfl) (by kernel_rfl) (fun _ _ _ h => h) (Or.inl ⟨by rfl, ?_⟩) (by assumption) ?_
    rotate_left
    · (intro w hSw; (try dsimp only at hSw); go_simp; try with_reducible rfl)
    simp only [List.getElem_toArray, List.getElem_cons_succ, List.getElem_cons_zero, Act.put, List.setIfInBounds_toArray, List.set_cons_zero, List.set_cons_succ]
    refine wpAnyH_norm (l2 := #[true, true, true, false, true, false, false, false, false, false]) (f2 := 6) (by kernel_rfl) (by kernel_rfl) ?_
    refine wpAnyH_take (i := 5) (oi := _) (v := ?_) rfl (by kernel_rfl) (by kernel_rfl) (by kernel_rfl) (fun _ _ _ h => h) (Or.inl ⟨by rfl, ?_⟩) (by assumption) ?_
    rotate_left
    · (intro w hSw; (try dsimp only at hSw); go_simp; try with_reducible rfl)
    simp only [List.getElem_toArray, List.getElem_cons_succ, List.getElem_cons_zero, Act.put, List.setIfInBounds_toArray, List.set_cons_zero, List.set_cons_succ]
    refine wpAnyH_norm (l2 := #[true, true, true, false, true, true, false, false, false, false]) (f2 := 5) (by kernel_rfl) (by kernel_rfl) ?_
    refine wpAnyH_ready (rs := [3, 8]) (by kernel_rfl) (by simp) ?_
    refine AllReadyH.cons rfl (fun K hK => ?_) ?_
    · go_simp
      go_wp2_with (first | (go_at_call 89; refine (HRow.out _ ((Below.refl w1.heap.size w1).drew)).mono ?_; rintro e w2 ⟨rfl, hb2⟩; have HB2 := hid hb2; clear hb2))
      refine hK.out _ _ (HC.out _ (below_call (Below.refl w1.heap.size w1).drew HB2.out)) (fun hHeld => ?_)
      clear hK K
      simp only [List.getElem_toArray, List.getElem_cons_succ, List.getElem_cons_zero, Act.put, List.setIfInBounds_toArray, List.set_cons_zero, List.set_cons_succ]
      refine wpAnyH_norm (l2 := #[true, true, true, true, true, true, false, false, false, false]) (f2 := 4) (by kernel_rfl) (by kernel_rfl) ?_
      refine wpAnyH_take (i := 6) (oi := _) (v := ?_) rfl (by kernel_rfl) (by kernel_rfl) (by kernel_rfl) (fun _ _ _ h => h) (Or.inl ⟨by rfl, ?_⟩) (by assumption) ?_
      rotate_left
      · (intro w hSw; (try dsimp only at hSw); go_simp; try with_reducible rfl)
      simp only [List.getElem_toArray, List.getElem_cons_succ, List.getElem_cons_zero, Act.put, List.setIfInBounds_toArray, List.set_cons_zero, List.set_cons_succ]
      refine wpAnyH_norm (l2 := #[true, true, true, true, true, true, true, false, false, false]) (f2 := 3) (by kernel_rfl) (by kernel_rfl) ?_
      refine wpAnyH_take (i := 7) (oi := _) (v := .agg A.toArray) rfl (by kernel_rfl) (by kernel_rfl) (by kernel_rfl) (fun _ _ _ h => h) (Or.inl ⟨by rfl, ?_⟩) (by assumption) ?_
      · (intro w hSw; (try dsimp only at hSw); exact ex_load rfl rfl (HLD.out _ hSw.2))
      simp only [List.getElem_toArray, List.getElem_cons_succ, List.getElem_cons_zero, Act.put, List.setIfInBounds_toArray, List.set_cons_zero, List.set_cons_succ]
      refine wpAnyH_norm (l2 := #[true, true, true, true, true, true, true, true, false, false]) (f2 := 2) (by kernel_rfl) (by kernel_rfl) ?_
      refine wpAnyH_ready (rs := [8]) (by kernel_rfl) (by simp) ?_
      refine AllReadyH.cons rfl (fun K hK => ?_) AllReadyH.nil
      go_simp
      refine hK.out _ _ (HC.out _ (below_call (below_call (Below.refl w1.heap.size w1).drew HB2.out) (below1 _ _))) (fun hHeld => ?_)
      clear hK K
      simp only [List.getElem_toArray, List.getElem_cons_succ, List.getElem_cons_zero, Act.put, List.setIfInBounds_toArray, List.set_cons_zero, List.set_cons_succ]
      refine wpAnyH_norm (l2 := #[true, true, true, true, true, true, true, true, true, false]) (f2 := 1) (by kernel_rfl) (by kernel_rfl) ?_
      refine wpAnyH_ready (rs := [9]) (by kernel_rfl) (by simp) ?_
      refine AllReadyH.cons rfl (fun K hK => ?_) AllReadyH.nil
      refine wp_store_mid 118 (.tmp 6) (.tmp 20) rfl _ 0 A.toArray rfl rfl (by rw [HAs.out]; exact (there_new w2 Z 118 20 HZs.out)) (by rw [info118, HAs.out]) (all_oneCell_toArray HA1.out) ?_
      refine hK.out _ _ (HC.out _ (set_new (below_call (below_call (Below.refl w1.heap.size w1).drew HB2.out) (below1 _ _)) ((below_call (Below.refl w1.heap.size w1).drew HB2.out)).size 0 _)) (fun hHeld => ?_)
      clear hK K
      simp only [List.getElem_toArray, List.getElem_cons_succ, List.getElem_cons_zero, Act.put, List.setIfInBounds_toArray, List.set_cons_zero, List.set_cons_succ]
      refine wpAnyH_norm (l2 := #[true, true, true, true, true, true, true, true, true, true]) (f2 := 0) (by kernel_rfl) (by kernel_rfl) ?_
      refine wpAnyH_done (by kernel_rfl) ?_ _
      go_wp2
      go_meet
      case rel => exact ⟨_, rfl, World.rangeAt_setCells_same _ _ _ _ (by rw [HAl.out]; first | exact there_new w2 Z 118 20 HZs.out | exact there_later (there_new w1.drew Z 118 20 HZs.out) HB2.out), hHeld.2⟩
    refine AllReadyH.cons rfl (fun K hK => ?_) AllReadyH.nil
    go_simp
    refine hK.out _ _ (HC.out _ (below_call (Below.refl w1.heap.size w1).drew (below1 w1.drew _))) (fun hHeld => ?_)
    clear hK K
    simp only [List.getElem_toArray, List.getElem_cons_succ, List.getElem_cons_zero, Act.put, List.setIfInBounds_toArray, List.set_cons_zero, List.set_cons_succ]
    refine wpAnyH_norm (l2 := #[true, true, true, false, true, true, false, false, true, false]) (f2 := 4) (by kernel_rfl) (by kernel_rfl) ?_
    refine wpAnyH_ready (rs := [3]) (by kernel_rfl) (by simp) ?_
    refine AllReadyH.cons rfl (fun K hK => ?_) AllReadyH.nil
    go_simp
    go_wp2_with (first | (go_at_call 89; refine (HRow.out _ (below_call (Below.refl w1.heap.size w1).drew (below1 w1.drew _))).mono ?_; rintro e w2 ⟨rfl, hb2⟩; have HB2 := hid hb2; clear hb2))
    refine hK.out _ _ (HC.out _ (below_call (below_call (Below.refl w1.heap.size w1).drew (below1 w1.drew _)) HB2.out)) (fun hHeld => ?_)
    clear hK K
    simp only [List.getElem_toArray, List.getElem_cons_succ, List.getElem_cons_zero, Act.put, List.setIfInBounds_toArray, List.set_cons_zero, List.set_cons_succ]
    refine wpAnyH_norm (l2 := #[true, true, true, true, true, true, false, false, true, false]) (f2 := 3) (by kernel_rfl) (by kernel_rfl) ?_
    refine wpAnyH_take (i := 6) (oi := _) (v := ?_) rfl (by kernel_rfl) (by kernel_rfl) (by kernel_rfl) (fun _ _ _ h => h) (Or.inl ⟨by rfl, ?_⟩) (by assumption) ?_
    rotate_left
    · (intro w hSw; (try dsimp only at hSw); go_simp; try with_reducible rfl)
    simp only [List.getElem_toArray, List.getElem_cons_succ, List.getElem_cons_zero, Act.put, List.setIfInBounds_toArray, List.set_cons_zero, List.set_cons_succ]
    refine wpAnyH_norm (l2 := #[true, true, true, true, true, true, true, false, true, false]) (f2 := 2) (by kernel_rfl) (by kernel_rfl) ?_
    refine wpAnyH_take (i := 7) (oi := _) (v := .agg A.toArray) rfl (by kernel_rfl) (by kernel_rfl) (by kernel_rfl) (fun _ _ _ h => h) (Or.inl ⟨by rfl, ?_⟩) (by assumption) ?_
    · (intro w hSw; (try dsimp only at hSw); exact ex_load rfl rfl (HLD.out _ hSw.2))
    simp only [List.getElem_toArray, List.getElem_cons_succ, List.getElem_cons_zero, Act.put, List.setIfInBounds_toArray, List.set_cons_zero, List.set_cons_succ]
    refine wpAnyH_norm (l2 := #[true, true, true, true, true, true, true, true, true, false]) (f2 := 1) (by kernel_rfl) (by kernel_rfl) ?_
    refine wpAnyH_ready (rs := [9]) (by kernel_rfl) (by simp) ?_
    refine AllReadyH.cons rfl (fun K hK => ?_) AllReadyH.nil
    refine wp_store_mid 118 (.tmp 6) (.tmp 20) rfl _ 0 A.toArray rfl rfl (by rw [HAs.out]; exact (there_later (there_new w1.drew Z 118 20 HZs.out) HB2.out)) (by rw [info118, HAs.out]) (all_oneCell_toArray HA1.out) ?_
    refine hK.out _ _ (HC.out _ (set_new (below_call (below_call (Below.refl w1.heap.size w1).drew (below1 w1.drew _)) HB2.out) (Nat.le_refl _) 0 _)) (fun hHeld => ?_)
    clear hK K
    simp only [List.getElem_toArray, List.getElem_cons_succ, List.getElem_cons_zero, Act.put, List.setIfInBounds_toArray, List.set_cons_zero, List.set_cons_succ]
    refine wpAnyH_norm (l2 := #[true, true, true, true, true, true, true, true, true, true]) (f2 := 0) (by kernel_rfl) (by kernel_rfl) ?_
    refine wpAnyH_done (by kernel_rfl) ?_ _
    go_wp2
    go_meet
    case rel => exact ⟨_, rfl, World.rangeAt_setCells_same _ _ _ _ (by rw [HAl.out]; first | exact there_new w2 Z 118 20 HZs.out | exact there_later (there_new w1.drew Z 118 20 HZs.out) HB2.out), hHeld.2⟩
  case rest =>
    obtain ⟨b, rfl, hR, hB⟩ := hcut
    have HB := hid hB
    have HLD4 : Hid (∀ U : World, Below wc.heap.size wc U → (Instr.loadAt 118 (.pointer (some ⟨b, 0, none⟩))).run Try.prog U = .ok (.agg A.toArray) U) := fun U hU => load58 (range_later hR hU) HAl.out
    have hX := ce_of (by rw [← HA.out]; exact hR) HP.out
    rw [Nat.zero_add] at hX
    have HC4 : Hid (∀ U : World, Below wc.heap.size wc U → (U.cell? ⟨w.heap.size, 0, none⟩ = some (.int .i64 c.1) ∧ U.cell? ⟨w.heap.size, 1, none⟩ = some (.int .u64 (c.2.1 : Int)) ∧ U.cell? ⟨w.heap.size, 2, none⟩ = some (.int .u64 (c.2.2 : Int)) ∧ U.cell? ⟨g, 1, none⟩ = some (.int .i64 (n : Int)) ∧ U.cell? ⟨b, i * 5, none⟩ = some (.bool p.1) ∧ U.cell? ⟨b, i * 5 + 1, none⟩ = some (.int .i64 p.2.1.1) ∧ U.cell? ⟨b, i * 5 + 2, none⟩ = some (.int .u64 (p.2.1.2.1 : Int)) ∧ U.cell? ⟨b, i * 5 + 3, none⟩ = some (.int .u64 (p.2.1.2.2 : Int)) ∧ U.cell? ⟨b, i * 5 + 4, none⟩ = some (.int .i64 p.2.2)) ∧ Below wc.heap.size wc U) := fun U hU => by
      obtain ⟨a1, a2, a3, a4⟩ := HC1.out U (below_call HB.out hU)
      have hx := hX.later hU
      exact ⟨⟨a1, a2, a3, a4, hx.c0, hx.c1, hx.c2, hx.c3, hx.c4⟩, hU⟩
    have hz5 := fun W => zero_of zinfo56 W
    obtain ⟨Z5, hZ5⟩ : ∃ Z, Z = (encP fr).toArray := ⟨_, rfl⟩
    rw [← hZ5] at hz5
    have HZ5s : Hid (Z5.size = 5) := by rw [hZ5]; rfl
    clear hR hB hX hZ5 hz
    go_upto_region 4 with fail
    go_cut [7] (fun v W => ∃ b', v = .pointer (some ⟨b', 0, none⟩) ∧ Ce W b' 0 p ∧ Below wc.heap.size wc W)
    case first =>
      refine wp_region_held_drew (S := (fun U : World => (U.cell? ⟨w.heap.size, 0, none⟩ = some (.int .i64 c.1) ∧ U.cell? ⟨w.heap.size, 1, none⟩ = some (.int .u64 (c.2.1 : Int)) ∧ U.cell? ⟨w.heap.size, 2, none⟩ = some (.int .u64 (c.2.2 : Int)) ∧ U.cell? ⟨g, 1, none⟩ = some (.int .i64 (n : Int)) ∧ U.cell? ⟨b, i * 5, none⟩ = some (.bool p.1) ∧ U.cell? ⟨b, i * 5 + 1, none⟩ = some (.int .i64 p.2.1.1) ∧ U.cell? ⟨b, i * 5 + 2, none⟩ = some (.int .u64 (p.2.1.2.1 : Int)) ∧ U.cell? ⟨b, i * 5 + 3, none⟩ = some (.int .u64 (p.2.1.2.2 : Int)) ∧ U.cell? ⟨b, i * 5 + 4, none⟩ = some (.int .i64 p.2.2)) ∧ Below wc.heap.size wc U)) (by kernel_rfl) (HC4.out _ (Below.refl wc.heap.size wc).drew) (fun hHeld => ?_)
      refine wpAnyH_norm (l2 := #[false, false, false, false, false, false, false, false, false, false, false]) (f2 := 11) (by kernel_rfl) (by kernel_rfl) ?_
      refine wpAnyH_take (i := 0) (oi := _) (v := .agg A.toArray) rfl (by kernel_rfl) (by kernel_rfl) (by kernel_rfl) (fun _ _ _ h => h) (Or.inl ⟨by rfl, ?_⟩) (by assumption) ?_
      · (intro w hSw; (try dsimp only at hSw); exact ex_load rfl rfl (HLD4.out _ hSw.2))
      simp only [List.getElem_toArray, List.getElem_cons_succ, List.getElem_cons_zero, Act.put, List.setIfInBounds_toArray, List.set_cons_zero, List.set_cons_succ]
      refine wpAnyH_norm (l2 := #[true, false, false, false, false, false, false, false, false, false, false]) (f2 := 10) (by kernel_rfl) (by kernel_rfl) ?_
      refine wpAnyH_take (i := 1) (oi := _) (v := ?_) rfl (by kernel_rfl) (by kernel_rfl) (by kernel_rfl) (fun _ _ _ h => h) (Or.inl ⟨by rfl, ?_⟩) (by assumption) ?_
      rotate_left
      · (intro w hSw; (try dsimp only at hSw); go_simp; try with_reducible rfl)
      simp only [List.getElem_toArray, List.getElem_cons_succ, List.getElem_cons_zero, Act.put, List.setIfInBounds_toArray, List.set_cons_zero, List.set_cons_succ]
      refine wpAnyH_norm (l2 := #[true, true, false, false, false, false, false, false, false, false, false]) (f2 := 9) (by kernel_rfl) (by kernel_rfl) ?_
      refine wpAnyH_take (i := 2) (oi := _) (v := ?_) rfl (by kernel_rfl) (by kernel_rfl) (by kernel_rfl) (fun _ _ _ h => h) (Or.inl ⟨by rfl, ?_⟩) (by assumption) ?_
      rotate_left
      · (intro w hSw; (try dsimp only at hSw); go_simp; try with_reducible rfl)
      simp only [List.getElem_toArray, List.getElem_cons_succ, List.getElem_cons_zero, Act.put, List.setIfInBounds_toArray, List.set_cons_zero, List.set_cons_succ]
      refine wpAnyH_norm (l2 := #[true, true, true, false, false, false, false, false, false, false, false]) (f2 := 8) (by kernel_rfl) (by kernel_rfl) ?_
      refine wpAnyH_take (i := 3) (oi := _) (v := ?_) rfl (by kernel_rfl) (by kernel_rfl) (by kernel_rfl) (fun _ _ _ h => h) (Or.inl ⟨by rfl, ?_⟩) (by assumption) ?_
      rotate_left
      · (intro w hSw; (try dsimp only at hSw); go_simp; try with_reducible rfl)
      simp only [List.getElem_toArray, List.getElem_cons_succ, List.getElem_cons_zero, Act.put, List.setIfInBounds_toArray, List.set_cons_zero, List.set_cons_succ]
      refine wpAnyH_norm (l2 := #[true, true, true, true, false, false, false, false, false, false, false]) (f2 := 7) (by kernel_rfl) (by kernel_rfl) ?_
      refine wpAnyH_take (i := 4) (oi := _) (v := ?_) rfl (by kernel_rfl) (by kernel_rfl) (by kernel_rfl) (fun _ _ _ h => h) (Or.inl ⟨by rfl, ?_⟩) (by assumption) ?_
      rotate_left
      · (intro w hSw; (try dsimp only at hSw); go_simp; try with_reducible rfl)
      simp only [List.getElem_toArray, List.getElem_cons_succ, List.getElem_cons_zero, Act.put, List.setIfInBounds_toArray, List.set_cons_zero, List.set_cons_succ]
      refine wpAnyH_norm (l2 := #[true, true, true, true, true, false, false, false, false, false, false]) (f2 := 6) (by kernel_rfl) (by kernel_rfl) ?_
      refine wpAnyH_take (i := 5) (oi := _) (v := ?_) rfl (by kernel_rfl) (by kernel_rfl) (by kernel_rfl) (fun _ _ _ h => h) (Or.inl ⟨by rfl, ?_⟩) (by assumption) ?_
      rotate_left
      · (intro w hSw; (try dsimp only at hSw); go_simp; try with_reducible rfl)
      simp only [List.getElem_toArray, List.getElem_cons_succ, List.getElem_cons_zero, Act.put, List.setIfInBounds_toArray, List.set_cons_zero, List.set_cons_succ]
      refine wpAnyH_norm (l2 := #[true, true, true, true, true, true, false, false, false, false, false]) (f2 := 5) (by kernel_rfl) (by kernel_rfl) ?_
      refine wpAnyH_ready (rs := [6, 9]) (by kernel_rfl) (by simp) ?_
      refine AllReadyH.cons rfl (fun K hK => ?_) ?_
      · go_simp
        go_wp2_with (first | (go_at_call 91; refine (HSp.out _).mono ?_; rintro e w2 ⟨rfl, hb2⟩; have HB2 := hid hb2; clear hb2))
        refine hK.out _ _ (HC4.out _ (below_call (Below.refl wc.heap.size wc).drew HB2.out)) (fun hHeld => ?_)
        clear hK K
        simp only [List.getElem_toArray, List.getElem_cons_succ, List.getElem_cons_zero, Act.put, List.setIfInBounds_toArray, List.set_cons_zero, List.set_cons_succ]
        refine wpAnyH_norm (l2 := #[true, true, true, true, true, true, true, false, false, false, false]) (f2 := 4) (by kernel_rfl) (by kernel_rfl) ?_
        refine wpAnyH_take (i := 7) (oi := _) (v := ?_) rfl (by kernel_rfl) (by kernel_rfl) (by kernel_rfl) (fun _ _ _ h => h) (Or.inl ⟨by rfl, ?_⟩) (by assumption) ?_
        rotate_left
        · (intro w hSw; (try dsimp only at hSw); go_simp; try with_reducible rfl)
        simp only [List.getElem_toArray, List.getElem_cons_succ, List.getElem_cons_zero, Act.put, List.setIfInBounds_toArray, List.set_cons_zero, List.set_cons_succ]
        refine wpAnyH_norm (l2 := #[true, true, true, true, true, true, true, true, false, false, false]) (f2 := 3) (by kernel_rfl) (by kernel_rfl) ?_
        refine wpAnyH_take (i := 8) (oi := _) (v := ?_) rfl (by kernel_rfl) (by kernel_rfl) (by kernel_rfl) (fun _ _ _ h => h) (Or.inl ⟨by rfl, ?_⟩) (by assumption) ?_
        rotate_left
        · (intro w hSw; (try dsimp only at hSw); go_simp; try with_reducible rfl)
        simp only [List.getElem_toArray, List.getElem_cons_succ, List.getElem_cons_zero, Act.put, List.setIfInBounds_toArray, List.set_cons_zero, List.set_cons_succ]
        refine wpAnyH_norm (l2 := #[true, true, true, true, true, true, true, true, true, false, false]) (f2 := 2) (by kernel_rfl) (by kernel_rfl) ?_
        refine wpAnyH_ready (rs := [9]) (by kernel_rfl) (by simp) ?_
        refine AllReadyH.cons rfl (fun K hK => ?_) AllReadyH.nil
        go_simp
        refine hK.out _ _ (HC4.out _ (below_call (below_call (Below.refl wc.heap.size wc).drew HB2.out) (below1 _ _))) (fun hHeld => ?_)
        clear hK K
        simp only [List.getElem_toArray, List.getElem_cons_succ, List.getElem_cons_zero, Act.put, List.setIfInBounds_toArray, List.set_cons_zero, List.set_cons_succ]
        refine wpAnyH_norm (l2 := #[true, true, true, true, true, true, true, true, true, true, false]) (f2 := 1) (by kernel_rfl) (by kernel_rfl) ?_
        refine wpAnyH_ready (rs := [10]) (by kernel_rfl) (by simp) ?_
        refine AllReadyH.cons rfl (fun K hK => ?_) AllReadyH.nil
        refine wp_store_mid 116 (.tmp 7) (.tmp 29) rfl _ 0 (encP p).toArray rfl rfl (there_new w2 Z5 116 5 HZ5s.out) info116 (all_oneCell_toArray (encP_one p)) ?_
        refine hK.out _ _ (HC4.out _ (set_new (below_call (below_call (Below.refl wc.heap.size wc).drew HB2.out) (below1 _ _)) ((below_call (Below.refl wc.heap.size wc).drew HB2.out)).size 0 _)) (fun hHeld => ?_)
        clear hK K
        simp only [List.getElem_toArray, List.getElem_cons_succ, List.getElem_cons_zero, Act.put, List.setIfInBounds_toArray, List.set_cons_zero, List.set_cons_succ]
        refine wpAnyH_norm (l2 := #[true, true, true, true, true, true, true, true, true, true, true]) (f2 := 0) (by kernel_rfl) (by kernel_rfl) ?_
        refine wpAnyH_done (by kernel_rfl) ?_ _
        go_wp2
        go_meet
        case rel => exact ⟨_, rfl, ce_one (World.rangeAt_setCells_same _ _ _ _ (by first | exact there_new w2 Z5 116 5 HZ5s.out | exact there_later (there_new wc.drew Z5 116 5 HZ5s.out) HB2.out)), hHeld.2⟩
      refine AllReadyH.cons rfl (fun K hK => ?_) AllReadyH.nil
      go_simp
      refine hK.out _ _ (HC4.out _ (below_call (Below.refl wc.heap.size wc).drew (below1 wc.drew _))) (fun hHeld => ?_)
      clear hK K
      simp only [List.getElem_toArray, List.getElem_cons_succ, List.getElem_cons_zero, Act.put, List.setIfInBounds_toArray, List.set_cons_zero, List.set_cons_succ]
      refine wpAnyH_norm (l2 := #[true, true, true, true, true, true, false, false, false, true, false]) (f2 := 4) (by kernel_rfl) (by kernel_rfl) ?_
      refine wpAnyH_ready (rs := [6]) (by kernel_rfl) (by simp) ?_
      refine AllReadyH.cons rfl (fun K hK => ?_) AllReadyH.nil
      go_simp
      go_wp2_with (first | (go_at_call 91; refine (HSp.out _).mono ?_; rintro e w2 ⟨rfl, hb2⟩; have HB2 := hid hb2; clear hb2))
      refine hK.out _ _ (HC4.out _ (below_call (below_call (Below.refl wc.heap.size wc).drew (below1 wc.drew _)) HB2.out)) (fun hHeld => ?_)
      clear hK K
      simp only [List.getElem_toArray, List.getElem_cons_succ, List.getElem_cons_zero, Act.put, List.setIfInBounds_toArray, List.set_cons_zero, List.set_cons_succ]
      refine wpAnyH_norm (l2 := #[true, true, true, true, true, true, true, false, false, true, false]) (f2 := 3) (by kernel_rfl) (by kernel_rfl) ?_
      refine wpAnyH_take (i := 7) (oi := _) (v := ?_) rfl (by kernel_rfl) (by kernel_rfl) (by kernel_rfl) (fun _ _ _ h => h) (Or.inl ⟨by rfl, ?_⟩) (by assumption) ?_
      rotate_left
      · (intro w hSw; (try dsimp only at hSw); go_simp; try with_reducible rfl)
      simp only [List.getElem_toArray, List.getElem_cons_succ, List.getElem_cons_zero, Act.put, List.setIfInBounds_toArray, List.set_cons_zero, List.set_cons_succ]
      refine wpAnyH_norm (l2 := #[true, true, true, true, true, true, true, true, false, true, false]) (f2 := 2) (by kernel_rfl) (by kernel_rfl) ?_
      refine wpAnyH_take (i := 8) (oi := _) (v := ?_) rfl (by kernel_rfl) (by kernel_rfl) (by kernel_rfl) (fun _ _ _ h => h) (Or.inl ⟨by rfl, ?_⟩) (by assumption) ?_
      rotate_left
      · (intro w hSw; (try dsimp only at hSw); go_simp; try with_reducible rfl)
      simp only [List.getElem_toArray, List.getElem_cons_succ, List.getElem_cons_zero, Act.put, List.setIfInBounds_toArray, List.set_cons_zero, List.set_cons_succ]
      refine wpAnyH_norm (l2 := #[true, true, true, true, true, true, true, true, true, true, false]) (f2 := 1) (by kernel_rfl) (by kernel_rfl) ?_
      refine wpAnyH_ready (rs := [10]) (by kernel_rfl) (by simp) ?_
      refine AllReadyH.cons rfl (fun K hK => ?_) AllReadyH.nil
      refine wp_store_mid 116 (.tmp 7) (.tmp 29) rfl _ 0 (encP p).toArray rfl rfl (there_later (there_new wc.drew Z5 116 5 HZ5s.out) HB2.out) info116 (all_oneCell_toArray (encP_one p)) ?_
      refine hK.out _ _ (HC4.out _ (set_new (below_call (below_call (Below.refl wc.heap.size wc).drew (below1 wc.drew _)) HB2.out) (Nat.le_refl _) 0 _)) (fun hHeld => ?_)
      clear hK K
      simp only [List.getElem_toArray, List.getElem_cons_succ, List.getElem_cons_zero, Act.put, List.setIfInBounds_toArray, List.set_cons_zero, List.set_cons_succ]
      refine wpAnyH_norm (l2 := #[true, true, true, true, true, true, true, true, true, true, true]) (f2 := 0) (by kernel_rfl) (by kernel_rfl) ?_
      refine wpAnyH_done (by kernel_rfl) ?_ _
      go_wp2
      go_meet
      case rel => exact ⟨_, rfl, ce_one (World.rangeAt_setCells_same _ _ _ _ (by first | exact there_new w2 Z5 116 5 HZ5s.out | exact there_later (there_new wc.drew Z5 116 5 HZ5s.out) HB2.out)), hHeld.2⟩
    case rest =>
      rename_i wd
      obtain ⟨b', rfl, hX, hB⟩ := hcut
      have HB3 := hid (below_call HB.out hB)
      obtain ⟨a1, a2, a3, _⟩ := HC1.out _ HB3.out
      obtain ⟨x0, x1, x2, x3, x4⟩ := hX
      simp only [Nat.zero_add] at x1 x2 x3 x4
      have hHas := fun W => has_any p c W
      have HT : Hid (tell c p = .tuple #[.int .i64 (if hasP c p then p.2.2 else 0), .bool (hasP c p)]) := rfl
      generalize hasP c p = q at hHas HT
      have HX4 := hid x4
      clear x4 hB
      have x4 := HX4.out
      cases q with
      | true =>
        go_wp2_with (first | (go_at_call 96; refine (hHas _).mono ?_; rintro e w5 ⟨rfl, hb5⟩; have y4 := cell_later hb5 x4; have HB5 := hid hb5; clear hb5))
        exact bodyPost_ret (v := .tuple #[.int .i64 p.2.2, .bool true]) (by simp [results, Try.results116, go_sem]) rfl ⟨by rw [HT.out]; rfl, below_call HB1.out (below_call HB3.out HB5.out)⟩
      | false =>
        go_wp2_with (first | (go_at_call 96; refine (hHas _).mono ?_; rintro e w5 ⟨rfl, hb5⟩; have HB5 := hid hb5; clear hb5))
        exact bodyPost_ret (v := .tuple #[.int .i64 0, .bool false]) (by simp [results, Try.results116, go_sem]) rfl ⟨by rw [HT.out]; rfl, below_call HB1.out (below_call HB3.out HB5.out)⟩
set_option maxRecDepth 100000 in
theorem look_none (h : Ca w g s n k R e hi mi) (c : Cp) (hs : s = 0) :
    Calls Try.prog 116 #[.pointer (some ⟨g, 0, none⟩), .agg #[.int .i64 c.1, .int .u64 (c.2.1 : Int), .int .u64 (c.2.2 : Int)]] w fun e w' => e = .returned (.tuple #[.int .i64 0, .bool false]) ∧ Below w.heap.size w w' := by
  subst hs
  have c0 := (h.later (below1 w (Obj.cells #[.int .i64 c.1, .int .u64 (c.2.1 : Int), .int .u64 (c.2.2 : Int)] 32))).c0
  clear h
  go_enter Try.func116, Try.ntmps116
  go_wp2
  exact bodyPost_ret (v := .tuple #[.int .i64 0, .bool false]) (by simp [results, Try.results116, go_sem]) rfl ⟨rfl, below1 _ _⟩
end Go.Proofs.Ytlelglfdamakaaa.K
namespace Go.Proofs.Ytlelglfdamakaaa.K
open Go.RowKit
set_option linter.unusedVariables false
set_option linter.unusedSimpArgs false
variable {w w' : World} {g s n k : Nat} {R : Nat → List Pl} {e hi mi : Int}

/-- What is known of c: its rights, and whether it is known. -/
def see (s n k : Nat) (R : Nat → List Pl) (c : Cp) : Int × Bool :=
  if s = 0 then (0, false) else
    match (R (rowN k s c))[spotP (R (rowN k s c)) c n]? with
    | some p => (if hasP c p then p.2.2 else 0, hasP c p)
    | none => (0, false)
theorem spot_lt {P : List Pl} {c : Cp} (h : P.length = 4) (h1 : 1 ≤ n) (h4 : n ≤ 4) : spotP P c n < 4 := by unfold spotP; omega
theorem look_any (h : Ca w g s n k R e hi mi) (c : Cp) (hc : okC c) :
    Calls Try.prog 116 #[.pointer (some ⟨g, 0, none⟩), .agg #[.int .i64 c.1, .int .u64 (c.2.1 : Int), .int .u64 (c.2.2 : Int)]] w fun e w' => e = .returned (.tuple #[.int .i64 (see s n k R c).1, .bool (see s n k R c).2]) ∧ Below w.heap.size w w' := by
  unfold see
  by_cases hs : s = 0
  · rw [if_pos hs]
    exact look_none h c hs
  · rw [if_neg hs]
    have hl := h.len (rowN k s c)
    have hlt : spotP (R (rowN k s c)) c n < (R (rowN k s c)).length := by rw [hl]; exact spot_lt hl h.n1 h.n4
    have hp := List.getElem?_eq_getElem hlt
    rw [hp]
    exact look_ok h c hc (by omega) rfl rfl hp
theorem Ca.hit (h : Ca w g s n k R e hi mi) (x : Int) : Ca (w.setCell ⟨g, 324, none⟩ (.int .i64 x)) g s n k R e x mi := by
  have hn : ∀ j, j ≠ 324 → (w.setCell ⟨g, 324, none⟩ (.int .i64 x)).cell? ⟨g, j, none⟩ = w.cell? ⟨g, j, none⟩ := fun j hj => World.cell?_setCell_other _ _ _ _ (fun e => hj (by cases e; rfl))
  exact ⟨by rw [hn _ (by omega)]; exact h.c0, by rw [hn _ (by omega)]; exact h.c1, by rw [hn _ (by omega)]; exact h.c2, fun r hr => World.rangeAt_setCells_apart (h.at_ r hr) g 324 [.int .i64 x] (.inr (.inl (by rw [plc_length, h.len]; omega))), World.there_setCells h.th g 324 [.int .i64 x], h.len, h.ce.other (by simp), h.ch.put, h.cm.other (by simp), h.ls, h.n1, h.n4, h.lk⟩
theorem Ca.miss (h : Ca w g s n k R e hi mi) (x : Int) : Ca (w.setCell ⟨g, 325, none⟩ (.int .i64 x)) g s n k R e hi x := by
  have hn : ∀ j, j ≠ 325 → (w.setCell ⟨g, 325, none⟩ (.int .i64 x)).cell? ⟨g, j, none⟩ = w.cell? ⟨g, j, none⟩ := fun j hj => World.cell?_setCell_other _ _ _ _ (fun e => hj (by cases e; rfl))
  exact ⟨by rw [hn _ (by omega)]; exact h.c0, by rw [hn _ (by omega)]; exact h.c1, by rw [hn _ (by omega)]; exact h.c2, fun r hr => World.rangeAt_setCells_apart (h.at_ r hr) g 325 [.int .i64 x] (.inr (.inl (by rw [plc_length, h.len]; omega))), World.there_setCells h.th g 325 [.int .i64 x], h.len, h.ce.other (by simp), h.ch.other (by simp), h.cm.put, h.ls, h.n1, h.n4, h.lk⟩
set_option maxRecDepth 100000 in
set_option maxHeartbeats 1000000 in
theorem get_any (h : Ca w g s n k R e hi mi) (c : Cp) (hc : okC c) :
    Calls Try.prog 115 #[.pointer (some ⟨g, 0, none⟩), .agg #[.int .i64 c.1, .int .u64 (c.2.1 : Int), .int .u64 (c.2.2 : Int)]] w fun x w' => x = .returned (.tuple #[.int .i64 (see s n k R c).1, .bool (see s n k R c).2]) ∧ Ca w' g s n k R e (if (see s n k R c).2 then wrap64 (hi + 1) else hi) (if (see s n k R c).2 then mi else wrap64 (mi + 1)) ∧ But (fun k => k = g) w w' := by
  have HH := hid h
  have HL := hid (fun (U : World) (hU : Below w.heap.size w U) => look_any (h.later hU) c hc)
  clear h
  generalize see s n k R c = x at HL
  obtain ⟨x1, q⟩ := x
  cases q with
  | true =>
    go_enter Try.func115, Try.ntmps115
    go_upto_region 2 with (first | (go_at_call 116; refine (HL.out _ (below1 _ _)).mono ?_; rintro e w2 ⟨rfl, hb2⟩; have HB2 := hid (below_call (below1 _ _) hb2); clear hb2))
    have HH2 := hid (HH.out.later HB2.out)
    have d := HH2.out.ch.1
    have f := HH2.out.ch.2
    have HF := hid (HH2.out.hit (wrap64 (hi + 1)))
    go_wp2
    exact bodyPost_ret (v := .tuple #[.int .i64 x1, .bool true]) (by simp [results, Try.results115, go_sem]) rfl ⟨rfl, HF.out, (But.of (S := fun k => k = g) HB2.out).setCell (p := ⟨g, 324, none⟩) rfl _⟩
  | false =>
    go_enter Try.func115, Try.ntmps115
    go_upto_region 2 with (first | (go_at_call 116; refine (HL.out _ (below1 _ _)).mono ?_; rintro e w2 ⟨rfl, hb2⟩; have HB2 := hid (below_call (below1 _ _) hb2); clear hb2))
    have HH2 := hid (HH.out.later HB2.out)
    have d := HH2.out.cm.1
    have f := HH2.out.cm.2
    have HF := hid (HH2.out.miss (wrap64 (mi + 1)))
    go_wp2
    exact bodyPost_ret (v := .tuple #[.int .i64 x1, .bool false]) (by simp [results, Try.results115, go_sem]) rfl ⟨rfl, HF.out, (But.of (S := fun k => k = g) HB2.out).setCell (p := ⟨g, 325, none⟩) rfl _⟩
end Go.Proofs.Ytlelglfdamakaaa.K
namespace Go.Proofs.Ytlelglfdamakaaa.K
open Go.RowKit
set_option linter.unusedVariables false
set_option linter.unusedSimpArgs false
variable {w w' : World} {g s n k : Nat} {R : Nat → List Pl} {e hi mi : Int}

/-- One set is laid anew. -/
def upd (R : Nat → List Pl) (r : Nat) (Q : List Pl) : Nat → List Pl := fun x => if x = r then Q else R x
/-- What a Put leaves. -/
def putR (s n k : Nat) (R : Nat → List Pl) (c : Cp) (m : Int) : Nat → List Pl :=
  if s = 0 then R else upd R (rowN k s c) ((true, c, m) :: (R (rowN k s c)).eraseIdx (spotP (R (rowN k s c)) c n))
theorem Ca.laid (h : Ca w g s n k R e hi mi) {r : Nat} (hr : r < 16) {Q : List Pl} (hQ : Q.length = 4) : Ca (w.setCells g (3 + r * 20) (plc Q)) g s n k (upd R r Q) e hi mi := by
  have hl : (plc Q).length = 20 := by rw [plc_length, hQ]
  have hn : ∀ j, j < 3 + r * 20 ∨ 3 + r * 20 + 20 ≤ j → (w.setCells g (3 + r * 20) (plc Q)).cell? ⟨g, j, none⟩ = w.cell? ⟨g, j, none⟩ := fun j hj => World.cell?_setCells_out g _ _ _ ⟨g, j, none⟩ (fun _ _ => by rw [hl]; exact hj)
  have hf : ∀ j, (w.setCells g (3 + r * 20) (plc Q)).frozen? ⟨g, j, none⟩ = w.frozen? ⟨g, j, none⟩ := fun j => World.frozen?_setCells _ _ _ _ _
  refine ⟨by rw [hn _ (by omega)]; exact h.c0, by rw [hn _ (by omega)]; exact h.c1, by rw [hn _ (by omega)]; exact h.c2, fun x hx => ?_, World.there_setCells h.th _ _ _, fun x => ?_, ⟨by rw [hn _ (by omega)]; exact h.ce.1, by rw [hf]; exact h.ce.2⟩, ⟨by rw [hn _ (by omega)]; exact h.ch.1, by rw [hf]; exact h.ch.2⟩, ⟨by rw [hn _ (by omega)]; exact h.cm.1, by rw [hf]; exact h.cm.2⟩, h.ls, h.n1, h.n4, h.lk⟩
  · unfold upd
    by_cases e : x = r
    · subst e
      rw [if_pos rfl]
      refine World.rangeAt_setCells_same _ _ _ _ (fun j hj => ?_)
      rw [hl] at hj
      have := h.th (x * 20 + j) (by omega)
      rw [← Nat.add_assoc] at this
      exact this
    · rw [if_neg e]
      refine World.rangeAt_setCells_apart (h.at_ x hx) _ _ _ (.inr ?_)
      rw [plc_length, h.len, hl]
      omega
  · unfold upd
    split
    · exact hQ
    · exact h.len x
set_option maxRecDepth 100000 in
theorem put_none (h : Ca w g s n k R e hi mi) (c : Cp) (m : Int) (hs : s = 0) :
    Calls Try.prog 76 #[.pointer (some ⟨g, 0, none⟩), .agg #[.int .i64 c.1, .int .u64 (c.2.1 : Int), .int .u64 (c.2.2 : Int)], .int .i64 m] w fun e w' => e = .returned (.tuple #[]) ∧ Below w.heap.size w w' := by
  subst hs
  have c0 := (h.later (below1 w (Obj.cells #[.int .i64 c.1, .int .u64 (c.2.1 : Int), .int .u64 (c.2.2 : Int)] 32))).c0
  clear h
  go_enter Try.func76, Try.ntmps76
  go_wp2
  exact bodyPost_ret (by simp [results, Try.results76, go_sem]) rfl ⟨rfl, below1 _ _⟩
set_option maxRecDepth 100000 in
set_option maxHeartbeats 1000000 in
theorem put_ok (h : Ca w g s n k R e hi mi) (c : Cp) (m : Int) (hc : okC c) (hs : 0 < s) {r : Nat} (hr : r = rowN k s c) {i : Nat} (hi_ : i = spotP (R r) c n) :
    Calls Try.prog 76 #[.pointer (some ⟨g, 0, none⟩), .agg #[.int .i64 c.1, .int .u64 (c.2.1 : Int), .int .u64 (c.2.2 : Int)], .int .i64 m] w fun x w' => x = .returned (.tuple #[]) ∧ Ca w' g s n k (upd R r ((true, c, m) :: (R r).eraseIdx i)) e hi mi ∧ But (fun k => k = g) w w' := by
  obtain ⟨w1, hw1⟩ : ∃ w1, w1 = w.alloc (Obj.cells #[.int .i64 c.1, .int .u64 (c.2.1 : Int), .int .u64 (c.2.2 : Int)] 32) := ⟨_, rfl⟩
  have hB1 : Below w.heap.size w w1 := by rw [hw1]; exact below1 _ _
  have HH := hid (h.later hB1)
  have c0 := HH.out.c0
  rw [hw1] at c0
  have hz0 : ((s : Int) == 0) = false := by simp; omega
  have hr16 : (r : Int) < 16 := by have := h.ls; have := rowN_lt (k := k) c hs; omega
  have hrn : r < 16 := by omega
  have hi4 : i < 4 := by rw [hi_]; exact spot_lt (h.len r) h.n1 h.n4
  have HRow : Hid (∀ U : World, Below w1.heap.size w1 U → Calls Try.prog 89 #[.pointer (some ⟨g, 0, none⟩), .agg #[.int .i64 c.1, .int .u64 (c.2.1 : Int), .int .u64 (c.2.2 : Int)]] U fun e w' => e = .returned (.int .i64 (r : Int)) ∧ Below U.heap.size U w') := fun U hU => by
    rw [hr]; exact row_any (HH.out.later hU) c hc hs
  obtain ⟨A, hA⟩ : ∃ A, A = plc (R r) := ⟨_, rfl⟩
  have HAl : Hid (A.length = 20) := by rw [hA, plc_length, h.len]; rfl
  have HA1 : Hid (∀ v ∈ A, v.oneCell' = true) := by rw [hA]; exact plc_one _
  have HLD : Hid (∀ U : World, Below w1.heap.size w1 U → (Instr.loadAt 118 (.pointer (some ⟨g, 3 + r * 20, none⟩))).run Try.prog U = .ok (.agg A.toArray) U) := fun U hU => load58 (by rw [hA]; exact (HH.out.later hU).at_ r hrn) HAl.out
  have HSp : Hid (∀ U : World, Calls Try.prog 91 #[.agg A.toArray, .agg #[.int .i64 c.1, .int .u64 (c.2.1 : Int), .int .u64 (c.2.2 : Int)], .int .i64 (n : Int)] U fun e w' => e = .returned (.int .i64 (i : Int)) ∧ Below U.heap.size U w') := fun U => by
    rw [hi_, hA]; exact spot_any (R r) c n U (h.len r) h.n1 h.n4
  obtain ⟨N, hN⟩ : ∃ N, N = plc ((true, c, m) :: (R r).eraseIdx i) := ⟨_, rfl⟩
  have hQ : ((true, c, m) :: (R r).eraseIdx i).length = 4 := by rw [List.length_cons, List.length_eraseIdx, h.len, if_pos hi4]
  have HNl : Hid (N.length = 20) := by rw [hN, plc_length, hQ]; rfl
  have HNs : Hid (N.toArray.size = 20) := by rw [List.size_toArray]; exact HNl.out
  have HN1 : Hid (∀ v ∈ N, v.oneCell' = true) := by rw [hN]; exact plc_one _
  have HLe : Hid (∀ U : World, Calls Try.prog 90 #[.agg A.toArray, .agg #[.bool true, .int .i64 c.1, .int .u64 (c.2.1 : Int), .int .u64 (c.2.2 : Int), .int .i64 m], .int .i64 (i : Int)] U fun e w' => e = .returned (.agg N.toArray) ∧ Below U.heap.size U w') := fun U => by
    rw [hN, hA]; exact lead_any (R r) (true, c, m) i U (h.len r) hi4
  have HLaid : Hid (∀ U : World, Below w1.heap.size w1 U → Ca (U.setCells g (3 + r * 20) N) g s n k (upd R r ((true, c, m) :: (R r).eraseIdx i)) e hi mi ∧ U.there g (3 + r * 20) 20) := fun U hU => by
    have hU2 := HH.out.later hU
    refine ⟨by rw [hN]; exact hU2.laid hrn hQ, fun j hj => ?_⟩
    have := hU2.th (r * 20 + j) (by omega)
    rw [← Nat.add_assoc] at this
    exact this
  have hz := fun W => zero_of zinfo58 W
  obtain ⟨Z, hZ⟩ : ∃ Z, Z = (plc (List.replicate 4 fr)).toArray := ⟨_, rfl⟩
  rw [← hZ] at hz
  have HZs : Hid (Z.size = 20) := by rw [hZ, List.size_toArray, plc_length]; rfl
  have HG : Hid (g < w.heap.size) := h.lt
  have HC1 : Hid (∀ U : World, Below w1.heap.size w1 U → U.cell? ⟨w.heap.size, 0, none⟩ = some (.int .i64 c.1) ∧ U.cell? ⟨w.heap.size, 1, none⟩ = some (.int .u64 (c.2.1 : Int)) ∧ U.cell? ⟨w.heap.size, 2, none⟩ = some (.int .u64 (c.2.2 : Int)) ∧ U.cell? ⟨g, 1, none⟩ = some (.int .i64 (n : Int))) := fun U hU =>
    ⟨cell_later hU (by rw [hw1]; simp [go_sem]), cell_later hU (by rw [hw1]; simp [go_sem]), cell_later hU (by rw [hw1]; simp [go_sem]), (HH.out.later hU).c1⟩
  clear hA hZ hi_ hr h hN hQ hi4
  go_enter Try.func76, Try.ntmps76
  go_upto_region 2 with fail
  rw [← hw1]
  have HB1 := hid hB1
  clear hw1 hB1 c0 hz0
  obtain ⟨c1, c2, c3, _⟩ := HC1.out w1 (Below.refl _ _)
  go_upto_region 3 with (first | (go_at_call 89; refine (HRow.out _ (Below.refl _ _)).mono ?_; rintro e w2 ⟨rfl, hb2⟩; have HB2 := hid hb2; clear hb2))
  clear c1 c2 c3
  have HLD2 := hid (HLD.out w2 HB2.out)
  have hAl := HAl.out
  have HTN := hid (there_new w2 Z 118 20 HZs.out)
  have HST := stc (L := A) (n := 20) HTN.out HAl.out HA1.out
  have HB3 : Hid (Below w1.heap.size w1 ((w2.alloc (Obj.cells Z 118)).setCells w2.heap.size 0 A)) := set_new (below_call HB2.out (below1 _ _)) HB2.out.size 0 A
  have HR3 : Hid (((w2.alloc (Obj.cells Z 118)).setCells w2.heap.size 0 A).rangeAt w2.heap.size 0 A) := World.rangeAt_setCells_same _ _ _ _ (by rw [hAl]; exact HTN.out)
  generalize (w2.alloc (Obj.cells Z 118)).setCells w2.heap.size 0 A = w3 at HST HB3 HR3
  clear HTN
  go_upto_region 4 with (first | ((with_reducible refine ld_arm HLD2.out ?_ ?_); · rfl))
  clear HST HLD2 hz
  have HLD3 : Hid (∀ U : World, But (fun x => x = g) w3 U → (Instr.loadAt 118 (.pointer (some ⟨w2.heap.size, 0, none⟩))).run Try.prog U = .ok (.agg A.toArray) U) := fun U hU => load58 (range_but HR3.out hU (by have := HG.out; have := HB1.out.size; have := HB2.out.size; omega)) HAl.out
  have HC : Hid (∀ U : World, Below w3.heap.size w3 U → (U.cell? ⟨w.heap.size, 0, none⟩ = some (.int .i64 c.1) ∧ U.cell? ⟨w.heap.size, 1, none⟩ = some (.int .u64 (c.2.1 : Int)) ∧ U.cell? ⟨w.heap.size, 2, none⟩ = some (.int .u64 (c.2.2 : Int)) ∧ U.cell? ⟨g, 1, none⟩ = some (.int .i64 (n : Int))) ∧ But (fun x => x = g) w3 U) := fun U hU => ⟨HC1.out U (below_call HB3.out hU), But.of hU⟩
  have HD : Hid (∀ U : World, Below w3.heap.size w3 U → (((U.setCells g (3 + r * 20) N).cell? ⟨w.heap.size, 0, none⟩ = some (.int .i64 c.1) ∧ (U.setCells g (3 + r * 20) N).cell? ⟨w.heap.size, 1, none⟩ = some (.int .u64 (c.2.1 : Int)) ∧ (U.setCells g (3 + r * 20) N).cell? ⟨w.heap.size, 2, none⟩ = some (.int .u64 (c.2.2 : Int)) ∧ (U.setCells g (3 + r * 20) N).cell? ⟨g, 1, none⟩ = some (.int .i64 (n : Int))) ∧ But (fun x => x = g) w3 (U.setCells g (3 + r * 20) N))) := fun U hU => by
    obtain ⟨a1, a2, a3, _⟩ := HC1.out U (below_call HB3.out hU)
    have hb : But (fun x => x = g) U (U.setCells g (3 + r * 20) N) := But.setCells (S := fun x => x = g) rfl N _ (But.refl _ _)
    have hne : ¬ w.heap.size = g := by have := HG.out; omega
    exact ⟨⟨cell_but hb a1 hne, cell_but hb a2 hne, cell_but hb a3 hne, (HLaid.out U (below_call HB3.out hU)).1.c1⟩, (But.of hU).trans hb⟩
  refine wp_region_held_drew (S := (fun U : World => (U.cell? ⟨w.heap.size, 0, none⟩ = some (.int .i64 c.1) ∧ U.cell? ⟨w.heap.size, 1, none⟩ = some (.int .u64 (c.2.1 : Int)) ∧ U.cell? ⟨w.heap.size, 2, none⟩ = some (.int .u64 (c.2.2 : Int)) ∧ U.cell? ⟨g, 1, none⟩ = some (.int .i64 (n : Int))) ∧ But (fun x => x = g) w3 U)) (by kernel_rfl) (HC.out _ (Below.refl w3.heap.size w3).drew) (fun hHeld => ?_)
  refine wpAnyH_norm (l2 := #[false, false, false, false, false, false, false, false, false, false, false, false, false, false, false, false, false, false]) (f2 := 18) (by kernel_rfl) (by kernel_rfl) ?_
  refine wpAnyH_take (i := 0) (oi := _) (v := ?_) rfl (by kernel_rfl) (by kernel_rfl) (by kernel_rfl) (fun _ _ _ h => h) (Or.inl ⟨by rfl, ?_⟩) (by assumption) ?_
  rotate_left
  · (intro w hSw; (try dsimp only at hSw); go_simp; try with_reducible rfl)
  simp only [List.getElem_toArray, List.getElem_cons_succ, List.getElem_cons_zero, Act.put, List.setIfInBounds_toArray, List.set_cons_zero, List.set_cons_succ]
  refine wpAnyH_norm (l2 := #[true, false, false, false, false, false, false, false, false, false, false, false, false, false, false, false, false, false]) (f2 := 17) (by kernel_rfl) (by kernel_rfl) ?_
  refine wpAnyH_take (i := 1) (oi := _) (v := ?_) rfl (by kernel_rfl) (by kernel_rfl) (by kernel_rfl) (fun _ _ _ h => h) (Or.inl ⟨by rfl, ?_⟩) (by assumption) ?_
  rotate_left
  · (intro w hSw; (try dsimp only at hSw); go_simp; try with_reducible rfl)
  simp only [List.getElem_toArray, List.getElem_cons_succ, List.getElem_cons_zero, Act.put, List.setIfInBounds_toArray, List.set_cons_zero, List.set_cons_succ]
  refine wpAnyH_norm (l2 := #[true, true, false, false, false, false, false, false, false, false, false, false, false, false, false, false, false, false]) (f2 := 16) (by kernel_rfl) (by kernel_rfl) ?_
  refine wpAnyH_take (i := 2) (oi := _) (v := .agg A.toArray) rfl (by kernel_rfl) (by kernel_rfl) (by kernel_rfl) (fun _ _ _ h => h) (Or.inl ⟨by rfl, ?_⟩) (by assumption) ?_
  · (intro w hSw; (try dsimp only at hSw); exact ex_load rfl rfl (HLD3.out _ hSw.2))
  simp only [List.getElem_toArray, List.getElem_cons_succ, List.getElem_cons_zero, Act.put, List.setIfInBounds_toArray, List.set_cons_zero, List.set_cons_succ]
  refine wpAnyH_norm (l2 := #[true, true, true, false, false, false, false, false, false, false, false, false, false, false, false, false, false, false]) (f2 := 15) (by kernel_rfl) (by kernel_rfl) ?_
  refine wpAnyH_take (i := 3) (oi := _) (v := ?_) rfl (by kernel_rfl) (by kernel_rfl) (by kernel_rfl) (fun _ _ _ h => h) (Or.inl ⟨by rfl, ?_⟩) (by assumption) ?_
  rotate_left
  · (intro w hSw; (try dsimp only at hSw); go_simp; try with_reducible rfl)
  simp only [List.getElem_toArray, List.getElem_cons_succ, List.getElem_cons_zero, Act.put, List.setIfInBounds_toArray, List.set_cons_zero, List.set_cons_succ]
  refine wpAnyH_norm (l2 := #[true, true, true, true, false, false, false, false, false, false, false, false, false, false, false, false, false, false]) (f2 := 14) (by kernel_rfl) (by kernel_rfl) ?_
  refine wpAnyH_take (i := 4) (oi := _) (v := ?_) rfl (by kernel_rfl) (by kernel_rfl) (by kernel_rfl) (fun _ _ _ h => h) (Or.inl ⟨by rfl, ?_⟩) (by assumption) ?_
  rotate_left
  · (intro w hSw; (try dsimp only at hSw); go_simp; try with_reducible rfl)
  simp only [List.getElem_toArray, List.getElem_cons_succ, List.getElem_cons_zero, Act.put, List.setIfInBounds_toArray, List.set_cons_zero, List.set_cons_succ]
  refine wpAnyH_norm (l2 := #[true, true, true, true, true, false, false, false, false, false, false, false, false, false, false, false, false, false]) (f2 := 13) (by kernel_rfl) (by kernel_rfl) ?_
  refine wpAnyH_take (i := 5) (oi := _) (v := ?_) rfl (by kernel_rfl) (by kernel_rfl) (by kernel_rfl) (fun _ _ _ h => h) (Or.inl ⟨by rfl, ?_⟩) (by assumption) ?_
  rotate_left
  · (intro w hSw; (try dsimp only at hSw); go_simp; try with_reducible rfl)
  simp only [List.getElem_toArray, List.getElem_cons_succ, List.getElem_cons_zero, Act.put, List.setIfInBounds_toArray, List.set_cons_zero, List.set_cons_succ]
  refine wpAnyH_norm (l2 := #[true, true, true, true, true, true, false, false, false, false, false, false, false, false, false, false, false, false]) (f2 := 12) (by kernel_rfl) (by kernel_rfl) ?_
  refine wpAnyH_take (i := 6) (oi := _) (v := .agg A.toArray) rfl (by kernel_rfl) (by kernel_rfl) (by kernel_rfl) (fun _ _ _ h => h) (Or.inl ⟨by rfl, ?_⟩) (by assumption) ?_
  · (intro w hSw; (try dsimp only at hSw); exact ex_load rfl rfl (HLD3.out _ hSw.2))
  simp only [List.getElem_toArray, List.getElem_cons_succ, List.getElem_cons_zero, Act.put, List.setIfInBounds_toArray, List.set_cons_zero, List.set_cons_succ]
  refine wpAnyH_norm (l2 := #[true, true, true, true, true, true, true, false, false, false, false, false, false, false, false, false, false, false]) (f2 := 11) (by kernel_rfl) (by kernel_rfl) ?_
  refine wpAnyH_take (i := 7) (oi := _) (v := ?_) rfl (by kernel_rfl) (by kernel_rfl) (by kernel_rfl) (fun _ _ _ h => h) (Or.inl ⟨by rfl, ?_⟩) (by assumption) ?_
  rotate_left
  · (intro w hSw; (try dsimp only at hSw); go_simp; try with_reducible rfl)
  simp only [List.getElem_toArray, List.getElem_cons_succ, List.getElem_cons_zero, Act.put, List.setIfInBounds_toArray, List.set_cons_zero, List.set_cons_succ]
  refine wpAnyH_norm (l2 := #[true, true, true, true, true, true, true, true, false, false, false, false, false, false, false, false, false, false]) (f2 := 10) (by kernel_rfl) (by kernel_rfl) ?_
  refine wpAnyH_take (i := 8) (oi := _) (v := ?_) rfl (by kernel_rfl) (by kernel_rfl) (by kernel_rfl) (fun _ _ _ h => h) (Or.inl ⟨by rfl, ?_⟩) (by assumption) ?_
  rotate_left
  · (intro w hSw; (try dsimp only at hSw); go_simp; try with_reducible rfl)
  simp only [List.getElem_toArray, List.getElem_cons_succ, List.getElem_cons_zero, Act.put, List.setIfInBounds_toArray, List.set_cons_zero, List.set_cons_succ]
  refine wpAnyH_norm (l2 := #[true, true, true, true, true, true, true, true, true, false, false, false, false, false, false, false, false, false]) (f2 := 9) (by kernel_rfl) (by kernel_rfl) ?_
  refine wpAnyH_take (i := 9) (oi := _) (v := ?_) rfl (by kernel_rfl) (by kernel_rfl) (by kernel_rfl) (fun _ _ _ h => h) (Or.inl ⟨by rfl, ?_⟩) (by assumption) ?_
  rotate_left
  · (intro w hSw; (try dsimp only at hSw); go_simp; try with_reducible rfl)
  simp only [List.getElem_toArray, List.getElem_cons_succ, List.getElem_cons_zero, Act.put, List.setIfInBounds_toArray, List.set_cons_zero, List.set_cons_succ]
  refine wpAnyH_norm (l2 := #[true, true, true, true, true, true, true, true, true, true, false, false, false, false, false, false, false, false]) (f2 := 8) (by kernel_rfl) (by kernel_rfl) ?_
  refine wpAnyH_take (i := 10) (oi := _) (v := ?_) rfl (by kernel_rfl) (by kernel_rfl) (by kernel_rfl) (fun _ _ _ h => h) (Or.inl ⟨by rfl, ?_⟩) (by assumption) ?_
  rotate_left
  · (intro w hSw; (try dsimp only at hSw); go_simp; try with_reducible rfl)
  simp only [List.getElem_toArray, List.getElem_cons_succ, List.getElem_cons_zero, Act.put, List.setIfInBounds_toArray, List.set_cons_zero, List.set_cons_succ]
  refine wpAnyH_norm (l2 := #[true, true, true, true, true, true, true, true, true, true, true, false, false, false, false, false, false, false]) (f2 := 7) (by kernel_rfl) (by kernel_rfl) ?_
  refine wpAnyH_take (i := 11) (oi := _) (v := ?_) rfl (by kernel_rfl) (by kernel_rfl) (by kernel_rfl) (fun _ _ _ h => h) (Or.inl ⟨by rfl, ?_⟩) (by assumption) ?_
  rotate_left
  · (intro w hSw; (try dsimp only at hSw); go_simp; try with_reducible rfl)
  simp only [List.getElem_toArray, List.getElem_cons_succ, List.getElem_cons_zero, Act.put, List.setIfInBounds_toArray, List.set_cons_zero, List.set_cons_succ]
  refine wpAnyH_norm (l2 := #[true, true, true, true, true, true, true, true, true, true, true, true, false, false, false, false, false, false]) (f2 := 6) (by kernel_rfl) (by kernel_rfl) ?_
  refine wpAnyH_take (i := 14) (oi := _) (v := ?_) rfl (by kernel_rfl) (by kernel_rfl) (by kernel_rfl) (fun _ _ _ h => h) (Or.inl ⟨by rfl, ?_⟩) (by assumption) ?_
  rotate_left
  · (intro w hSw; (try dsimp only at hSw); go_simp; try with_reducible rfl)
  simp only [List.getElem_toArray, List.getElem_cons_succ, List.getElem_cons_zero, Act.put, List.setIfInBounds_toArray, List.set_cons_zero, List.set_cons_succ]
  refine wpAnyH_norm (l2 := #[true, true, true, true, true, true, true, true, true, true, true, true, false, false, true, false, false, false]) (f2 := 5) (by kernel_rfl) (by kernel_rfl) ?_
  refine wpAnyH_take (i := 15) (oi := _) (v := ?_) rfl (by kernel_rfl) (by kernel_rfl) (by kernel_rfl) (fun _ _ _ h => h) (Or.inl ⟨by rfl, ?_⟩) (by assumption) ?_
  rotate_left
  · (intro w hSw; (try dsimp only at hSw); go_simp; try with_reducible rfl)
  simp only [List.getElem_toArray, List.getElem_cons_succ, List.getElem_cons_zero, Act.put, List.setIfInBounds_toArray, List.set_cons_zero, List.set_cons_succ]
  refine wpAnyH_norm (l2 := #[true, true, true, true, true, true, true, true, true, true, true, true, false, false, true, true, false, false]) (f2 := 4) (by kernel_rfl) (by kernel_rfl) ?_
  refine wpAnyH_ready (rs := [12]) (by kernel_rfl) (by simp) ?_
  refine AllReadyH.cons rfl (fun K hK => ?_) AllReadyH.nil
  go_simp
  go_wp2_with (first | (go_at_call 91; refine (HSp.out _).mono ?_; rintro e w4 ⟨rfl, hb4⟩; have HB4 := hid (below_call (Below.refl w3.heap.size w3).drew hb4); clear hb4))
  refine hK.out _ _ (HC.out _ HB4.out) (fun hHeld => ?_)
  clear hK K
  simp only [List.getElem_toArray, List.getElem_cons_succ, List.getElem_cons_zero, Act.put, List.setIfInBounds_toArray, List.set_cons_zero, List.set_cons_succ]
  refine wpAnyH_norm (l2 := #[true, true, true, true, true, true, true, true, true, true, true, true, true, false, true, true, false, false]) (f2 := 3) (by kernel_rfl) (by kernel_rfl) ?_
  refine wpAnyH_ready (rs := [13]) (by kernel_rfl) (by simp) ?_
  refine AllReadyH.cons rfl (fun K hK => ?_) AllReadyH.nil
  go_simp
  go_wp2_with (first | (go_at_call 90; refine (HLe.out _).mono ?_; rintro e w5 ⟨rfl, hb5⟩; have HB5 := hid (below_call HB4.out hb5); clear hb5))
  refine hK.out _ _ (HC.out _ HB5.out) (fun hHeld => ?_)
  clear hK K
  simp only [List.getElem_toArray, List.getElem_cons_succ, List.getElem_cons_zero, Act.put, List.setIfInBounds_toArray, List.set_cons_zero, List.set_cons_succ]
  refine wpAnyH_norm (l2 := #[true, true, true, true, true, true, true, true, true, true, true, true, true, true, true, true, false, false]) (f2 := 2) (by kernel_rfl) (by kernel_rfl) ?_
  refine wpAnyH_take (i := 16) (oi := _) (v := ?_) rfl (by kernel_rfl) (by kernel_rfl) (by kernel_rfl) (fun _ _ _ h => h) (Or.inl ⟨by rfl, ?_⟩) (by assumption) ?_
  rotate_left
  · (intro w hSw; (try dsimp only at hSw); go_simp; try with_reducible rfl)
  simp only [List.getElem_toArray, List.getElem_cons_succ, List.getElem_cons_zero, Act.put, List.setIfInBounds_toArray, List.set_cons_zero, List.set_cons_succ]
  refine wpAnyH_norm (l2 := #[true, true, true, true, true, true, true, true, true, true, true, true, true, true, true, true, true, false]) (f2 := 1) (by kernel_rfl) (by kernel_rfl) ?_
  refine wpAnyH_ready (rs := [17]) (by kernel_rfl) (by simp) ?_
  refine AllReadyH.cons rfl (fun K hK => ?_) AllReadyH.nil
  refine wp_store_mid 118 (.tmp 38) (.tmp 35) rfl _ _ N.toArray rfl rfl (by rw [HNs.out]; exact (HLaid.out _ (below_call HB3.out HB5.out)).2) (by rw [info118, HNs.out]) (all_oneCell_toArray HN1.out) ?_
  refine hK.out _ _ (HD.out _ HB5.out) (fun hHeld => ?_)
  clear hK K
  simp only [List.getElem_toArray, List.getElem_cons_succ, List.getElem_cons_zero, Act.put, List.setIfInBounds_toArray, List.set_cons_zero, List.set_cons_succ]
  refine wpAnyH_norm (l2 := #[true, true, true, true, true, true, true, true, true, true, true, true, true, true, true, true, true, true]) (f2 := 0) (by kernel_rfl) (by kernel_rfl) ?_
  refine wpAnyH_done (by kernel_rfl) ?_ _
  go_wp2
  exact bodyPost_end (by simp [results, Try.results76, go_sem]) rfl ⟨rfl, (HLaid.out _ (below_call HB3.out HB5.out)).1, (But.of (S := fun k => k = g) (below_call HB1.out HB3.out)).trans hHeld.2⟩
theorem put_any (h : Ca w g s n k R e hi mi) (c : Cp) (m : Int) (hc : okC c) :
    Calls Try.prog 76 #[.pointer (some ⟨g, 0, none⟩), .agg #[.int .i64 c.1, .int .u64 (c.2.1 : Int), .int .u64 (c.2.2 : Int)], .int .i64 m] w fun x w' => x = .returned (.tuple #[]) ∧ Ca w' g s n k (putR s n k R c m) e hi mi ∧ But (fun k => k = g) w w' := by
  unfold putR
  by_cases hs : s = 0
  · rw [if_pos hs]
    refine (put_none h c m hs).mono ?_
    rintro x w' ⟨rfl, hb⟩
    exact ⟨rfl, h.later hb, But.of hb⟩
  · rw [if_neg hs]
    exact put_ok h c m hc (by omega) rfl rfl
end Go.Proofs.Ytlelglfdamakaaa.K
