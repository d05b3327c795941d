import Derived.Test.YthlojdclncikiaaB4
namespace Go.Proofs.Ythlojdclncikiaa
open Go.RowKit
set_option linter.unusedVariables false
set_option linter.unusedSimpArgs false
variable {w w' : World} {g s n k : Nat} {R : Nat → List Pl} {e hi mi : Int}

theorem wpAnyH_norm {P : Program} {md : Region.Mode} {ops : Array Oper} {Q : Exit → Act → World → Prop} {S : World → Prop} {fuel f2 : Nat} {listed l2 : Array Bool} {a : Act} {w : World} (hl : listed = l2) (hf : fuel = f2) (h : wpAnyH P md ops Q S f2 l2 a w) : wpAnyH P md ops Q S fuel listed a w := by
  subst hl hf
  exact h
theorem ex_load {P : Program} {w : World} {o : Oper} {ρ : Operand → Value} {ty : TypeId} {x : Operand} {p v : Value}
    (ho : o.op = .load ty x) (hx : ρ x = p) (hr : (Instr.loadAt ty p).run P w = .ok v w) : (execOp ρ o).run P w = .ok (.value v) w := by
  unfold execOp
  simp only [ho, hx, hr, Sem.run_bind, Sem.run_pure, Result.andThen_ok]
theorem set_new {w1 U : World} (h : Below w1.heap.size w1 U) {b : Nat} (hb : w1.heap.size ≤ b) (o : Nat) (L : List Value) : Below w1.heap.size w1 (U.setCells b o L) :=
  But.below h (But.setCells (S := fun x => x = b) rfl L o (But.refl _ _)) (fun k hk => by omega)
theorem ce_one {w : World} {b : Nat} {p : Pl} (h : w.rangeAt b 0 (encP p)) : Ce w b 0 p := ⟨h 0 _ rfl, h 1 _ rfl, h 2 _ rfl, h 3 _ rfl, h 4 _ rfl⟩
theorem zinfo56 : (Try.prog.info? 56).map (fun i => (i.zero, i.size, i.bytes)) = some (some (.agg (encP fr).toArray), 5, 40) := by kernel_rfl
theorem info56 : (Try.prog.info? 56).map (·.size) = some 5 := by kernel_rfl
/-- What is told of a capability: its rights, if the place is known with it. -/
def tell (c : Cp) (p : Pl) : Value := .tuple #[.int .i64 (if hasP c p then p.2.2 else 0), .bool (hasP c p)]
set_option maxRecDepth 100000 in
set_option maxHeartbeats 1000000 in
theorem look_ok (h : Ca w g s n k R e hi mi) (c : Cp) (hc : okC c) (hs : 0 < s) {r : Nat} (hr : r = rowN k s c) {i : Nat} (hi_ : i = spotP (R r) c n) {p : Pl} (hp : (R r)[i]? = some p) :
    Calls Try.prog 23 #[.pointer (some ⟨g, 0, none⟩), .agg #[.int .i64 c.1, .int .u64 (c.2.1 : Int), .int .u64 (c.2.2 : Int)]] w fun e w' => e = .returned (tell c p) ∧ Below w.heap.size w w' := by
  obtain ⟨w1, hw1⟩ : ∃ w1, w1 = w.alloc (Obj.cells #[.int .i64 c.1, .int .u64 (c.2.1 : Int), .int .u64 (c.2.2 : Int)] 34) := ⟨_, rfl⟩
  have hB1 : Below w.heap.size w w1 := by rw [hw1]; exact below1 _ _
  have HH := hid (h.later hB1)
  have c0 := HH.out.c0
  rw [hw1] at c0
  have hz0 : ((s : Int) == 0) = false := by simp; omega
  have hr16 : (r : Int) < 16 := by have := h.ls; have := rowN_lt (k := k) c hs; omega
  have hrn : r < 16 := by omega
  have hi4 : (i : Int) < 4 := by
    have := (List.getElem?_eq_some_iff.1 hp).1
    rw [h.len] at this
    omega
  have HRow : Hid (∀ U : World, Below w1.heap.size w1 U → Calls Try.prog 20 #[.pointer (some ⟨g, 0, none⟩), .agg #[.int .i64 c.1, .int .u64 (c.2.1 : Int), .int .u64 (c.2.2 : Int)]] U fun e w' => e = .returned (.int .i64 (r : Int)) ∧ Below U.heap.size U w') := fun U hU => by
    rw [hr]; exact row_any (HH.out.later hU) c hc hs
  obtain ⟨A, hA⟩ : ∃ A, A = plc (R r) := ⟨_, rfl⟩
  have HAl : Hid (A.length = 20) := by rw [hA, plc_length, h.len]; rfl
  have HAs : Hid (A.toArray.size = 20) := by rw [List.size_toArray]; exact HAl.out
  have HA1 : Hid (∀ v ∈ A, v.oneCell' = true) := by rw [hA]; exact plc_one _
  have HLD : Hid (∀ U : World, Below w1.heap.size w1 U → (Instr.loadAt 58 (.pointer (some ⟨g, 3 + r * 20, none⟩))).run Try.prog U = .ok (.agg A.toArray) U) := fun U hU => load58 (by rw [hA]; exact (HH.out.later hU).at_ r hrn) HAl.out
  have HSp : Hid (∀ U : World, Calls Try.prog 22 #[.agg A.toArray, .agg #[.int .i64 c.1, .int .u64 (c.2.1 : Int), .int .u64 (c.2.2 : Int)], .int .i64 (n : Int)] U fun e w' => e = .returned (.int .i64 (i : Int)) ∧ Below U.heap.size U w') := fun U => by
    rw [hi_, hA]; exact spot_any (R r) c n U (h.len r) h.n1 h.n4
  have hz := fun W => zero_of zinfo58 W
  obtain ⟨Z, hZ⟩ : ∃ Z, Z = (plc (List.replicate 4 fr)).toArray := ⟨_, rfl⟩
  rw [← hZ] at hz
  have HZs : Hid (Z.size = 20) := by rw [hZ, List.size_toArray, plc_length]; rfl
  have HA := hid hA
  have HP := hid hp
  have HI := hid hi_
  have HC1 : Hid (∀ U : World, Below w1.heap.size w1 U → U.cell? ⟨w.heap.size, 0, none⟩ = some (.int .i64 c.1) ∧ U.cell? ⟨w.heap.size, 1, none⟩ = some (.int .u64 (c.2.1 : Int)) ∧ U.cell? ⟨w.heap.size, 2, none⟩ = some (.int .u64 (c.2.2 : Int)) ∧ U.cell? ⟨g, 1, none⟩ = some (.int .i64 (n : Int))) := fun U hU =>
    ⟨cell_later hU (by rw [hw1]; simp [go_sem]), cell_later hU (by rw [hw1]; simp [go_sem]), cell_later hU (by rw [hw1]; simp [go_sem]), (HH.out.later hU).c1⟩
  have hC := fun (U : World) (hU : Below w1.heap.size w1 U) => And.intro (HC1.out U hU) hU
  have HC := hid hC
  clear hA hZ hp hi_ hr h hC
  go_enter Try.func23, Try.ntmps23
  go_upto_region 3 with fail
  rw [← hw1]
  have HB1 := hid hB1
  clear hw1 hB1 c0 hz0
  go_cut [6] (fun v W => ∃ b, v = .pointer (some ⟨b, 0, none⟩) ∧ W.rangeAt b 0 A ∧ Below w1.heap.size w1 W)
  case first =>
    refine wp_region_held_drew (S := (fun U : World => (U.cell? ⟨w.heap.size, 0, none⟩ = some (.int .i64 c.1) ∧ U.cell? ⟨w.heap.size, 1, none⟩ = some (.int .u64 (c.2.1 : Int)) ∧ U.cell? ⟨w.heap.size, 2, none⟩ = some (.int .u64 (c.2.2 : Int)) ∧ U.cell? ⟨g, 1, none⟩ = some (.int .i64 (n : Int))) ∧ Below w1.heap.size w1 U)) (by kernel_rfl) (HC.out _ (Below.refl w1.heap.size w1).drew) (fun hHeld => ?_)
    refine wpAnyH_norm (l2 := #[false, false, false, false, false, false, false, false, false, false]) (f2 := 10) (by kernel_rfl) (by kernel_rfl) ?_
    refine wpAnyH_take (i := 0) (oi := _) (v := ?_) rfl (by kernel_rfl) (by kernel_rfl) (by kernel_rfl) (fun _ _ _ h => h) (Or.inl ⟨by rfl, ?_⟩) (by assumption) ?_
    rotate_left
    · (intro w hSw; (try dsimp only at hSw); go_simp; try with_reducible rfl)
    simp only [List.getElem_toArray, List.getElem_cons_succ, List.getElem_cons_zero, Act.put, List.setIfInBounds_toArray, List.set_cons_zero, List.set_cons_succ]
    refine wpAnyH_norm (l2 := #[true, false, false, false, false, false, false, false, false, false]) (f2 := 9) (by kernel_rfl) (by kernel_rfl) ?_
    refine wpAnyH_take (i := 1) (oi := _) (v := ?_) rfl (by kernel_rfl) (by kernel_rfl) (by kernel_rfl) (fun _ _ _ h => h) (Or.inl ⟨by rfl, ?_⟩) (by assumption) ?_
    rotate_left
    · (intro w hSw; (try dsimp only at hSw); go_simp; try with_reducible rfl)
    simp only [List.getElem_toArray, List.getElem_cons_succ, List.getElem_cons_zero, Act.put, List.setIfInBounds_toArray, List.set_cons_zero, List.set_cons_succ]
    refine wpAnyH_norm (l2 := #[true, true, false, false, false, false, false, false, false, false]) (f2 := 8) (by kernel_rfl) (by kernel_rfl) ?_
    refine wpAnyH_take (i := 2) (oi := _) (v := ?_) rfl (by kernel_rfl) (by kernel_rfl) (by kernel_rfl) (fun _ _ _ h => h) (Or.inl ⟨by rfl, ?_⟩) (by assumption) ?_
    rotate_left
    · (intro w hSw; (try dsimp only at hSw); go_simp; try with_reducible rfl)
    simp only [List.getElem_toArray, List.getElem_cons_succ, List.getElem_cons_zero, Act.put, List.setIfInBounds_toArray, List.set_cons_zero, List.set_cons_succ]
    refine wpAnyH_norm (l2 := #[true, true, true, false, false, false, false, false, false, false]) (f2 := 7) (by kernel_rfl) (by kernel_rfl) ?_
    refine wpAnyH_take (i := 4) (oi := _) (v := ?_) rfl (by kernel_rfl) (by kernel_rfl) (by kernel_rfl) (fun _ _ _ h => h) (Or.inl ⟨by rfl, ?_⟩) (by assumption) ?_
    rotate_left
    · (intro w hSw; (try dsimp only at hSw); go_simp; try with_reducible rfl)
    simp only [List.getElem_toArray, List.getElem_cons_succ, List.getElem_cons_zero, Act.put, List.setIfInBounds_toArray, List.set_cons_zero, List.set_cons_succ]
    refine wpAnyH_norm (l2 := #[true, true, true, false, true, false, false, false, false, false]) (f2 := 6) (by kernel_rfl) (by kernel_rfl) ?_
    refine wpAnyH_take (i := 5) (oi := _) (v := ?_) rfl (by kernel_rfl) (by kernel_rfl) (by kernel_rfl) (fun _ _ _ h => h) (Or.inl ⟨by rfl, ?_⟩) (by assumption) ?_
    rotate_left
    · (intro w hSw; (try dsimp only at hSw); go_simp; try with_reducible rfl)
    simp only [List.getElem_toArray, List.getElem_cons_succ, List.getElem_cons_zero, Act.put, List.setIfInBounds_toArray, List.set_cons_zero, List.set_cons_succ]
    refine wpAnyH_norm (l2 := #[true, true, true, false, true, true, false, false, false, false]) (f2 := 5) (by kernel_rfl) (by kernel_rfl) ?_
    refine wpAnyH_ready (rs := [3, 8]) (by kernel_rfl) (by simp) ?_
    refine AllReadyH.cons rfl (fun K hK => ?_) ?_
    · go_simp
      go_wp2_with (first | (go_at_call 20; refine (HRow.out _ ((Below.refl w1.heap.size w1).drew)).mono ?_; rintro e w2 ⟨rfl, hb2⟩; have HB2 := hid hb2; clear hb2))
      refine hK.out _ _ (HC.out _ (below_call (Below.refl w1.heap.size w1).drew HB2.out)) (fun hHeld => ?_)
      clear hK K
      simp only [List.getElem_toArray, List.getElem_cons_succ, List.getElem_cons_zero, Act.put, List.setIfInBounds_toArray, List.set_cons_zero, List.set_cons_succ]
      refine wpAnyH_norm (l2 := #[true, true, true, true, true, true, false, false, false, false]) (f2 := 4) (by kernel_rfl) (by kernel_rfl) ?_
      refine wpAnyH_take (i := 6) (oi := _) (v := ?_) rfl (by kernel_rfl) (by kernel_rfl) (by kernel_rfl) (fun _ _ _ h => h) (Or.inl ⟨by rfl, ?_⟩) (by assumption) ?_
      rotate_left
      · (intro w hSw; (try dsimp only at hSw); go_simp; try with_reducible rfl)
      simp only [List.getElem_toArray, List.getElem_cons_succ, List.getElem_cons_zero, Act.put, List.setIfInBounds_toArray, List.set_cons_zero, List.set_cons_succ]
      refine wpAnyH_norm (l2 := #[true, true, true, true, true, true, true, false, false, false]) (f2 := 3) (by kernel_rfl) (by kernel_rfl) ?_
      refine wpAnyH_take (i := 7) (oi := _) (v := .agg A.toArray) rfl (by kernel_rfl) (by kernel_rfl) (by kernel_rfl) (fun _ _ _ h => h) (Or.inl ⟨by rfl, ?_⟩) (by assumption) ?_
      · (intro w hSw; (try dsimp only at hSw); exact ex_load rfl rfl (HLD.out _ hSw.2))
      simp only [List.getElem_toArray, List.getElem_cons_succ, List.getElem_cons_zero, Act.put, List.setIfInBounds_toArray, List.set_cons_zero, List.set_cons_succ]
      refine wpAnyH_norm (l2 := #[true, true, true, true, true, true, true, true, false, false]) (f2 := 2) (by kernel_rfl) (by kernel_rfl) ?_
      refine wpAnyH_ready (rs := [8]) (by kernel_rfl) (by simp) ?_
      refine AllReadyH.cons rfl (fun K hK => ?_) AllReadyH.nil
      go_simp
      refine hK.out _ _ (HC.out _ (below_call (below_call (Below.refl w1.heap.size w1).drew HB2.out) (below1 _ _))) (fun hHeld => ?_)
      clear hK K
      simp only [List.getElem_toArray, List.getElem_cons_succ, List.getElem_cons_zero, Act.put, List.setIfInBounds_toArray, List.set_cons_zero, List.set_cons_succ]
      refine wpAnyH_norm (l2 := #[true, true, true, true, true, true, true, true, true, false]) (f2 := 1) (by kernel_rfl) (by kernel_rfl) ?_
      refine wpAnyH_ready (rs := [9]) (by kernel_rfl) (by simp) ?_
      refine AllReadyH.cons rfl (fun K hK => ?_) AllReadyH.nil
      refine wp_store_mid 58 (.tmp 6) (.tmp 20) rfl _ 0 A.toArray rfl rfl (by rw [HAs.out]; exact (there_new w2 Z 58 20 HZs.out)) (by rw [info58, HAs.out]) (all_oneCell_toArray HA1.out) ?_
      refine hK.out _ _ (HC.out _ (set_new (below_call (below_call (Below.refl w1.heap.size w1).drew HB2.out) (below1 _ _)) ((below_call (Below.refl w1.heap.size w1).drew HB2.out)).size 0 _)) (fun hHeld => ?_)
      clear hK K
      simp only [List.getElem_toArray, List.getElem_cons_succ, List.getElem_cons_zero, Act.put, List.setIfInBounds_toArray, List.set_cons_zero, List.set_cons_succ]
      refine wpAnyH_norm (l2 := #[true, true, true, true, true, true, true, true, true, true]) (f2 := 0) (by kernel_rfl) (by kernel_rfl) ?_
      refine wpAnyH_done (by kernel_rfl) ?_ _
      go_wp2
      go_meet
      case rel => exact ⟨_, rfl, World.rangeAt_setCells_same _ _ _ _ (by rw [HAl.out]; first | exact there_new w2 Z 58 20 HZs.out | exact there_later (there_new w1.drew Z 58 20 HZs.out) HB2.out), hHeld.2⟩
    refine AllReadyH.cons rfl (fun K hK => ?_) AllReadyH.nil
    go_simp
    refine hK.out _ _ (HC.out _ (below_call (Below.refl w1.heap.size w1).drew (below1 w1.drew _))) (fun hHeld => ?_)
    clear hK K
    simp only [List.getElem_toArray, List.getElem_cons_succ, List.getElem_cons_zero, Act.put, List.setIfInBounds_toArray, List.set_cons_zero, List.set_cons_succ]
    refine wpAnyH_norm (l2 := #[true, true, true, false, true, true, false, false, true, false]) (f2 := 4) (by kernel_rfl) (by kernel_rfl) ?_
    refine wpAnyH_ready (rs := [3]) (by kernel_rfl) (by simp) ?_
    refine AllReadyH.cons rfl (fun K hK => ?_) AllReadyH.nil
    go_simp
    go_wp2_with (first | (go_at_call 20; refine (HRow.out _ (below_call (Below.refl w1.heap.size w1).drew (below1 w1.drew _))).mono ?_; rintro e w2 ⟨rfl, hb2⟩; have HB2 := hid hb2; clear hb2))
    refine hK.out _ _ (HC.out _ (below_call (below_call (Below.refl w1.heap.size w1).drew (below1 w1.drew _)) HB2.out)) (fun hHeld => ?_)
    clear hK K
    simp only [List.getElem_toArray, List.getElem_cons_succ, List.getElem_cons_zero, Act.put, List.setIfInBounds_toArray, List.set_cons_zero, List.set_cons_succ]
    refine wpAnyH_norm (l2 := #[true, true, true, true, true, true, false, false, true, false]) (f2 := 3) (by kernel_rfl) (by kernel_rfl) ?_
    refine wpAnyH_take (i := 6) (oi := _) (v := ?_) rfl (by kernel_rfl) (by kernel_rfl) (by kernel_rfl) (fun _ _ _ h => h) (Or.inl ⟨by rfl, ?_⟩) (by assumption) ?_
    rotate_left
    · (intro w hSw; (try dsimp only at hSw); go_simp; try with_reducible rfl)
    simp only [List.getElem_toArray, List.getElem_cons_succ, List.getElem_cons_zero, Act.put, List.setIfInBounds_toArray, List.set_cons_zero, List.set_cons_succ]
    refine wpAnyH_norm (l2 := #[true, true, true, true, true, true, true, false, true, false]) (f2 := 2) (by kernel_rfl) (by kernel_rfl) ?_
    refine wpAnyH_take (i := 7) (oi := _) (v := .agg A.toArray) rfl (by kernel_rfl) (by kernel_rfl) (by kernel_rfl) (fun _ _ _ h => h) (Or.inl ⟨by rfl, ?_⟩) (by assumption) ?_
    · (intro w hSw; (try dsimp only at hSw); exact ex_load rfl rfl (HLD.out _ hSw.2))
    simp only [List.getElem_toArray, List.getElem_cons_succ, List.getElem_cons_zero, Act.put, List.setIfInBounds_toArray, List.set_cons_zero, List.set_cons_succ]
    refine wpAnyH_norm (l2 := #[true, true, true, true, true, true, true, true, true, false]) (f2 := 1) (by kernel_rfl) (by kernel_rfl) ?_
    refine wpAnyH_ready (rs := [9]) (by kernel_rfl) (by simp) ?_
    refine AllReadyH.cons rfl (fun K hK => ?_) AllReadyH.nil
    refine wp_store_mid 58 (.tmp 6) (.tmp 20) rfl _ 0 A.toArray rfl rfl (by rw [HAs.out]; exact (there_later (there_new w1.drew Z 58 20 HZs.out) HB2.out)) (by rw [info58, HAs.out]) (all_oneCell_toArray HA1.out) ?_
    refine hK.out _ _ (HC.out _ (set_new (below_call (below_call (Below.refl w1.heap.size w1).drew (below1 w1.drew _)) HB2.out) (Nat.le_refl _) 0 _)) (fun hHeld => ?_)
    clear hK K
    simp only [List.getElem_toArray, List.getElem_cons_succ, List.getElem_cons_zero, Act.put, List.setIfInBounds_toArray, List.set_cons_zero, List.set_cons_succ]
    refine wpAnyH_norm (l2 := #[true, true, true, true, true, true, true, true, true, true]) (f2 := 0) (by kernel_rfl) (by kernel_rfl) ?_
    refine wpAnyH_done (by kernel_rfl) ?_ _
    go_wp2
    go_meet
    case rel => exact ⟨_, rfl, World.rangeAt_setCells_same _ _ _ _ (by rw [HAl.out]; first | exact there_new w2 Z 58 20 HZs.out | exact there_later (there_new w1.drew Z 58 20 HZs.out) HB2.out), hHeld.2⟩
  case rest =>
    obtain ⟨b, rfl, hR, hB⟩ := hcut
    have HB := hid hB
    have HLD4 : Hid (∀ U : World, Below wc.heap.size wc U → (Instr.loadAt 58 (.pointer (some ⟨b, 0, none⟩))).run Try.prog U = .ok (.agg A.toArray) U) := fun U hU => load58 (range_later hR hU) HAl.out
    have hX := ce_of (by rw [← HA.out]; exact hR) HP.out
    rw [Nat.zero_add] at hX
    have HC4 : Hid (∀ U : World, Below wc.heap.size wc U → (U.cell? ⟨w.heap.size, 0, none⟩ = some (.int .i64 c.1) ∧ U.cell? ⟨w.heap.size, 1, none⟩ = some (.int .u64 (c.2.1 : Int)) ∧ U.cell? ⟨w.heap.size, 2, none⟩ = some (.int .u64 (c.2.2 : Int)) ∧ U.cell? ⟨g, 1, none⟩ = some (.int .i64 (n : Int)) ∧ U.cell? ⟨b, i * 5, none⟩ = some (.bool p.1) ∧ U.cell? ⟨b, i * 5 + 1, none⟩ = some (.int .i64 p.2.1.1) ∧ U.cell? ⟨b, i * 5 + 2, none⟩ = some (.int .u64 (p.2.1.2.1 : Int)) ∧ U.cell? ⟨b, i * 5 + 3, none⟩ = some (.int .u64 (p.2.1.2.2 : Int)) ∧ U.cell? ⟨b, i * 5 + 4, none⟩ = some (.int .i64 p.2.2)) ∧ Below wc.heap.size wc U) := fun U hU => by
      obtain ⟨a1, a2, a3, a4⟩ := HC1.out U (below_call HB.out hU)
      have hx := hX.later hU
      exact ⟨⟨a1, a2, a3, a4, hx.c0, hx.c1, hx.c2, hx.c3, hx.c4⟩, hU⟩
    have hz5 := fun W => zero_of zinfo56 W
    obtain ⟨Z5, hZ5⟩ : ∃ Z, Z = (encP fr).toArray := ⟨_, rfl⟩
    rw [← hZ5] at hz5
    have HZ5s : Hid (Z5.size = 5) := by rw [hZ5]; rfl
    clear hR hB hX hZ5 hz
    go_upto_region 4 with fail
    go_cut [7] (fun v W => ∃ b', v = .pointer (some ⟨b', 0, none⟩) ∧ Ce W b' 0 p ∧ Below wc.heap.size wc W)
    case first =>
      refine wp_region_held_drew (S := (fun U : World => (U.cell? ⟨w.heap.size, 0, none⟩ = some (.int .i64 c.1) ∧ U.cell? ⟨w.heap.size, 1, none⟩ = some (.int .u64 (c.2.1 : Int)) ∧ U.cell? ⟨w.heap.size, 2, none⟩ = some (.int .u64 (c.2.2 : Int)) ∧ U.cell? ⟨g, 1, none⟩ = some (.int .i64 (n : Int)) ∧ U.cell? ⟨b, i * 5, none⟩ = some (.bool p.1) ∧ U.cell? ⟨b, i * 5 + 1, none⟩ = some (.int .i64 p.2.1.1) ∧ U.cell? ⟨b, i * 5 + 2, none⟩ = some (.int .u64 (p.2.1.2.1 : Int)) ∧ U.cell? ⟨b, i * 5 + 3, none⟩ = some (.int .u64 (p.2.1.2.2 : Int)) ∧ U.cell? ⟨b, i * 5 + 4, none⟩ = some (.int .i64 p.2.2)) ∧ Below wc.heap.size wc U)) (by kernel_rfl) (HC4.out _ (Below.refl wc.heap.size wc).drew) (fun hHeld => ?_)
      refine wpAnyH_norm (l2 := #[false, false, false, false, false, false, false, false, false, false, false]) (f2 := 11) (by kernel_rfl) (by kernel_rfl) ?_
      refine wpAnyH_take (i := 0) (oi := _) (v := .agg A.toArray) rfl (by kernel_rfl) (by kernel_rfl) (by kernel_rfl) (fun _ _ _ h => h) (Or.inl ⟨by rfl, ?_⟩) (by assumption) ?_
      · (intro w hSw; (try dsimp only at hSw); exact ex_load rfl rfl (HLD4.out _ hSw.2))
      simp only [List.getElem_toArray, List.getElem_cons_succ, List.getElem_cons_zero, Act.put, List.setIfInBounds_toArray, List.set_cons_zero, List.set_cons_succ]
      refine wpAnyH_norm (l2 := #[true, false, false, false, false, false, false, false, false, false, false]) (f2 := 10) (by kernel_rfl) (by kernel_rfl) ?_
      refine wpAnyH_take (i := 1) (oi := _) (v := ?_) rfl (by kernel_rfl) (by kernel_rfl) (by kernel_rfl) (fun _ _ _ h => h) (Or.inl ⟨by rfl, ?_⟩) (by assumption) ?_
      rotate_left
      · (intro w hSw; (try dsimp only at hSw); go_simp; try with_reducible rfl)
      simp only [List.getElem_toArray, List.getElem_cons_succ, List.getElem_cons_zero, Act.put, List.setIfInBounds_toArray, List.set_cons_zero, List.set_cons_succ]
      refine wpAnyH_norm (l2 := #[true, true, false, false, false, false, false, false, false, false, false]) (f2 := 9) (by kernel_rfl) (by kernel_rfl) ?_
      refine wpAnyH_take (i := 2) (oi := _) (v := ?_) rfl (by kernel_rfl) (by kernel_rfl) (by kernel_rfl) (fun _ _ _ h => h) (Or.inl ⟨by rfl, ?_⟩) (by assumption) ?_
      rotate_left
      · (intro w hSw; (try dsimp only at hSw); go_simp; try with_reducible rfl)
      simp only [List.getElem_toArray, List.getElem_cons_succ, List.getElem_cons_zero, Act.put, List.setIfInBounds_toArray, List.set_cons_zero, List.set_cons_succ]
      refine wpAnyH_norm (l2 := #[true, true, true, false, false, false, false, false, false, false, false]) (f2 := 8) (by kernel_rfl) (by kernel_rfl) ?_
      refine wpAnyH_take (i := 3) (oi := _) (v := ?_) rfl (by kernel_rfl) (by kernel_rfl) (by kernel_rfl) (fun _ _ _ h => h) (Or.inl ⟨by rfl, ?_⟩) (by assumption) ?_
      rotate_left
      · (intro w hSw; (try dsimp only at hSw); go_simp; try with_reducible rfl)
      simp only [List.getElem_toArray, List.getElem_cons_succ, List.getElem_cons_zero, Act.put, List.setIfInBounds_toArray, List.set_cons_zero, List.set_cons_succ]
      refine wpAnyH_norm (l2 := #[true, true, true, true, false, false, false, false, false, false, false]) (f2 := 7) (by kernel_rfl) (by kernel_rfl) ?_
      refine wpAnyH_take (i := 4) (oi := _) (v := ?_) rfl (by kernel_rfl) (by kernel_rfl) (by kernel_rfl) (fun _ _ _ h => h) (Or.inl ⟨by rfl, ?_⟩) (by assumption) ?_
      rotate_left
      · (intro w hSw; (try dsimp only at hSw); go_simp; try with_reducible rfl)
      simp only [List.getElem_toArray, List.getElem_cons_succ, List.getElem_cons_zero, Act.put, List.setIfInBounds_toArray, List.set_cons_zero, List.set_cons_succ]
      refine wpAnyH_norm (l2 := #[true, true, true, true, true, false, false, false, false, false, false]) (f2 := 6) (by kernel_rfl) (by kernel_rfl) ?_
      refine wpAnyH_take (i := 5) (oi := _) (v := ?_) rfl (by kernel_rfl) (by kernel_rfl) (by kernel_rfl) (fun _ _ _ h => h) (Or.inl ⟨by rfl, ?_⟩) (by assumption) ?_
      rotate_left
      · (intro w hSw; (try dsimp only at hSw); go_simp; try with_reducible rfl)
      simp only [List.getElem_toArray, List.getElem_cons_succ, List.getElem_cons_zero, Act.put, List.setIfInBounds_toArray, List.set_cons_zero, List.set_cons_succ]
      refine wpAnyH_norm (l2 := #[true, true, true, true, true, true, false, false, false, false, false]) (f2 := 5) (by kernel_rfl) (by kernel_rfl) ?_
      refine wpAnyH_ready (rs := [6, 9]) (by kernel_rfl) (by simp) ?_
      refine AllReadyH.cons rfl (fun K hK => ?_) ?_
      · go_simp
        go_wp2_with (first | (go_at_call 22; refine (HSp.out _).mono ?_; rintro e w2 ⟨rfl, hb2⟩; have HB2 := hid hb2; clear hb2))
        refine hK.out _ _ (HC4.out _ (below_call (Below.refl wc.heap.size wc).drew HB2.out)) (fun hHeld => ?_)
        clear hK K
        simp only [List.getElem_toArray, List.getElem_cons_succ, List.getElem_cons_zero, Act.put, List.setIfInBounds_toArray, List.set_cons_zero, List.set_cons_succ]
        refine wpAnyH_norm (l2 := #[true, true, true, true, true, true, true, false, false, false, false]) (f2 := 4) (by kernel_rfl) (by kernel_rfl) ?_
        refine wpAnyH_take (i := 7) (oi := _) (v := ?_) rfl (by kernel_rfl) (by kernel_rfl) (by kernel_rfl) (fun _ _ _ h => h) (Or.inl ⟨by rfl, ?_⟩) (by assumption) ?_
        rotate_left
        · (intro w hSw; (try dsimp only at hSw); go_simp; try with_reducible rfl)
        simp only [List.getElem_toArray, List.getElem_cons_succ, List.getElem_cons_zero, Act.put, List.setIfInBounds_toArray, List.set_cons_zero, List.set_cons_succ]
        refine wpAnyH_norm (l2 := #[true, true, true, true, true, true, true, true, false, false, false]) (f2 := 3) (by kernel_rfl) (by kernel_rfl) ?_
        refine wpAnyH_take (i := 8) (oi := _) (v := ?_) rfl (by kernel_rfl) (by kernel_rfl) (by kernel_rfl) (fun _ _ _ h => h) (Or.inl ⟨by rfl, ?_⟩) (by assumption) ?_
        rotate_left
        · (intro w hSw; (try dsimp only at hSw); go_simp; try with_reducible rfl)
        simp only [List.getElem_toArray, List.getElem_cons_succ, List.getElem_cons_zero, Act.put, List.setIfInBounds_toArray, List.set_cons_zero, List.set_cons_succ]
        refine wpAnyH_norm (l2 := #[true, true, true, true, true, true, true, true, true, false, false]) (f2 := 2) (by kernel_rfl) (by kernel_rfl) ?_
        refine wpAnyH_ready (rs := [9]) (by kernel_rfl) (by simp) ?_
        refine AllReadyH.cons rfl (fun K hK => ?_) AllReadyH.nil
        go_simp
        refine hK.out _ _ (HC4.out _ (below_call (below_call (Below.refl wc.heap.size wc).drew HB2.out) (below1 _ _))) (fun hHeld => ?_)
        clear hK K
        simp only [List.getElem_toArray, List.getElem_cons_succ, List.getElem_cons_zero, Act.put, List.setIfInBounds_toArray, List.set_cons_zero, List.set_cons_succ]
        refine wpAnyH_norm (l2 := #[true, true, true, true, true, true, true, true, true, true, false]) (f2 := 1) (by kernel_rfl) (by kernel_rfl) ?_
        refine wpAnyH_ready (rs := [10]) (by kernel_rfl) (by simp) ?_
        refine AllReadyH.cons rfl (fun K hK => ?_) AllReadyH.nil
        refine wp_store_mid 56 (.tmp 7) (.tmp 29) rfl _ 0 (encP p).toArray rfl rfl (there_new w2 Z5 56 5 HZ5s.out) info56 (all_oneCell_toArray (encP_one p)) ?_
        refine hK.out _ _ (HC4.out _ (set_new (below_call (below_call (Below.refl wc.heap.size wc).drew HB2.out) (below1 _ _)) ((below_call (Below.refl wc.heap.size wc).drew HB2.out)).size 0 _)) (fun hHeld => ?_)
        clear hK K
        simp only [List.getElem_toArray, List.getElem_cons_succ, List.getElem_cons_zero, Act.put, List.setIfInBounds_toArray, List.set_cons_zero, List.set_cons_succ]
        refine wpAnyH_norm (l2 := #[true, true, true, true, true, true, true, true, true, true, true]) (f2 := 0) (by kernel_rfl) (by kernel_rfl) ?_
        refine wpAnyH_done (by kernel_rfl) ?_ _
        go_wp2
        go_meet
        case rel => exact ⟨_, rfl, ce_one (World.rangeAt_setCells_same _ _ _ _ (by first | exact there_new w2 Z5 56 5 HZ5s.out | exact there_later (there_new wc.drew Z5 56 5 HZ5s.out) HB2.out)), hHeld.2⟩
      refine AllReadyH.cons rfl (fun K hK => ?_) AllReadyH.nil
      go_simp
      refine hK.out _ _ (HC4.out _ (below_call (Below.refl wc.heap.size wc).drew (below1 wc.drew _))) (fun hHeld => ?_)
      clear hK K
      simp only [List.getElem_toArray, List.getElem_cons_succ, List.getElem_cons_zero, Act.put, List.setIfInBounds_toArray, List.set_cons_zero, List.set_cons_succ]
      refine wpAnyH_norm (l2 := #[true, true, true, true, true, true, false, false, false, true, false]) (f2 := 4) (by kernel_rfl) (by kernel_rfl) ?_
      refine wpAnyH_ready (rs := [6]) (by kernel_rfl) (by simp) ?_
      refine AllReadyH.cons rfl (fun K hK => ?_) AllReadyH.nil
      go_simp
      go_wp2_with (first | (go_at_call 22; refine (HSp.out _).mono ?_; rintro e w2 ⟨rfl, hb2⟩; have HB2 := hid hb2; clear hb2))
      refine hK.out _ _ (HC4.out _ (below_call (below_call (Below.refl wc.heap.size wc).drew (below1 wc.drew _)) HB2.out)) (fun hHeld => ?_)
      clear hK K
      simp only [List.getElem_toArray, List.getElem_cons_succ, List.getElem_cons_zero, Act.put, List.setIfInBounds_toArray, List.set_cons_zero, List.set_cons_succ]
      refine wpAnyH_norm (l2 := #[true, true, true, true, true, true, true, false, false, true, false]) (f2 := 3) (by kernel_rfl) (by kernel_rfl) ?_
      refine wpAnyH_take (i := 7) (oi := _) (v := ?_) rfl (by kernel_rfl) (by kernel_rfl) (by kernel_rfl) (fun _ _ _ h => h) (Or.inl ⟨by rfl, ?_⟩) (by assumption) ?_
      rotate_left
      · (intro w hSw; (try dsimp only at hSw); go_simp; try with_reducible rfl)
      simp only [List.getElem_toArray, List.getElem_cons_succ, List.getElem_cons_zero, Act.put, List.setIfInBounds_toArray, List.set_cons_zero, List.set_cons_succ]
      refine wpAnyH_norm (l2 := #[true, true, true, true, true, true, true, true, false, true, false]) (f2 := 2) (by kernel_rfl) (by kernel_rfl) ?_
      refine wpAnyH_take (i := 8) (oi := _) (v := ?_) rfl (by kernel_rfl) (by kernel_rfl) (by kernel_rfl) (fun _ _ _ h => h) (Or.inl ⟨by rfl, ?_⟩) (by assumption) ?_
      rotate_left
      · (intro w hSw; (try dsimp only at hSw); go_simp; try with_reducible rfl)
      simp only [List.getElem_toArray, List.getElem_cons_succ, List.getElem_cons_zero, Act.put, List.setIfInBounds_toArray, List.set_cons_zero, List.set_cons_succ]
      refine wpAnyH_norm (l2 := #[true, true, true, true, true, true, true, true, true, true, false]) (f2 := 1) (by kernel_rfl) (by kernel_rfl) ?_
      refine wpAnyH_ready (rs := [10]) (by kernel_rfl) (by simp) ?_
      refine AllReadyH.cons rfl (fun K hK => ?_) AllReadyH.nil
      refine wp_store_mid 56 (.tmp 7) (.tmp 29) rfl _ 0 (encP p).toArray rfl rfl (there_later (there_new wc.drew Z5 56 5 HZ5s.out) HB2.out) info56 (all_oneCell_toArray (encP_one p)) ?_
      refine hK.out _ _ (HC4.out _ (set_new (below_call (below_call (Below.refl wc.heap.size wc).drew (below1 wc.drew _)) HB2.out) (Nat.le_refl _) 0 _)) (fun hHeld => ?_)
      clear hK K
      simp only [List.getElem_toArray, List.getElem_cons_succ, List.getElem_cons_zero, Act.put, List.setIfInBounds_toArray, List.set_cons_zero, List.set_cons_succ]
      refine wpAnyH_norm (l2 := #[true, true, true, true, true, true, true, true, true, true, true]) (f2 := 0) (by kernel_rfl) (by kernel_rfl) ?_
      refine wpAnyH_done (by kernel_rfl) ?_ _
      go_wp2
      go_meet
      case rel => exact ⟨_, rfl, ce_one (World.rangeAt_setCells_same _ _ _ _ (by first | exact there_new w2 Z5 56 5 HZ5s.out | exact there_later (there_new wc.drew Z5 56 5 HZ5s.out) HB2.out)), hHeld.2⟩
    case rest =>
      rename_i wd
      obtain ⟨b', rfl, hX, hB⟩ := hcut
      have HB3 := hid (below_call HB.out hB)
      obtain ⟨a1, a2, a3, _⟩ := HC1.out _ HB3.out
      obtain ⟨x0, x1, x2, x3, x4⟩ := hX
      simp only [Nat.zero_add] at x1 x2 x3 x4
      have hHas := fun W => has_any p c W
      have HT : Hid (tell c p = .tuple #[.int .i64 (if hasP c p then p.2.2 else 0), .bool (hasP c p)]) := rfl
      generalize hasP c p = q at hHas HT
      have HX4 := hid x4
      clear x4 hB
      have x4 := HX4.out
      cases q with
      | true =>
        go_wp2_with (first | (go_at_call 27; refine (hHas _).mono ?_; rintro e w5 ⟨rfl, hb5⟩; have y4 := cell_later hb5 x4; have HB5 := hid hb5; clear hb5))
        exact bodyPost_ret (v := .tuple #[.int .i64 p.2.2, .bool true]) (by simp [results, Try.results23, go_sem]) rfl ⟨by rw [HT.out]; rfl, below_call HB1.out (below_call HB3.out HB5.out)⟩
      | false =>
        go_wp2_with (first | (go_at_call 27; refine (hHas _).mono ?_; rintro e w5 ⟨rfl, hb5⟩; have HB5 := hid hb5; clear hb5))
        exact bodyPost_ret (v := .tuple #[.int .i64 0, .bool false]) (by simp [results, Try.results23, go_sem]) rfl ⟨by rw [HT.out]; rfl, below_call HB1.out (below_call HB3.out HB5.out)⟩
set_option maxRecDepth 100000 in
theorem look_none (h : Ca w g s n k R e hi mi) (c : Cp) (hs : s = 0) :
    Calls Try.prog 23 #[.pointer (some ⟨g, 0, none⟩), .agg #[.int .i64 c.1, .int .u64 (c.2.1 : Int), .int .u64 (c.2.2 : Int)]] w fun e w' => e = .returned (.tuple #[.int .i64 0, .bool false]) ∧ Below w.heap.size w w' := by
  subst hs
  have c0 := (h.later (below1 w (Obj.cells #[.int .i64 c.1, .int .u64 (c.2.1 : Int), .int .u64 (c.2.2 : Int)] 34))).c0
  clear h
  go_enter Try.func23, Try.ntmps23
  go_wp2
  exact bodyPost_ret (v := .tuple #[.int .i64 0, .bool false]) (by simp [results, Try.results23, go_sem]) rfl ⟨rfl, below1 _ _⟩
end Go.Proofs.Ythlojdclncikiaa
