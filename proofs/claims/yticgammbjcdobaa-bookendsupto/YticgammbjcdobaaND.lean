import Derived.Test.YticgammbjcdobaaNB
namespace Go.Proofs.Yticgammbjcdobaa
open Go.RowKit
set_option linter.unusedVariables false
set_option linter.unusedSimpArgs false
theorem rangeAt_later {w w' : World} {b o : Nat} {L : List Value} (hb : Below w.heap.size w w') (h : w.rangeAt b o L) : w'.rangeAt b o L := fun j v hv => by
  have hk := h j v hv
  rw [hb.cell (World.block_lt_of_cell? _ _ hk)]; exact hk
theorem wpAnyH_norm {P : Program} {md : Region.Mode} {ops : Array Oper} {Q : Exit → Act → World → Prop} {S : World → Prop} {fuel f2 : Nat} {listed l2 : Array Bool} {a : Act} {w : World} (hl : listed = l2) (hf : fuel = f2) (h : wpAnyH P md ops Q S f2 l2 a w) : wpAnyH P md ops Q S fuel listed a w := by
  subst hl; subst hf; exact h
theorem ex_ld {P : Program} {w : World} {o : Oper} {ρ : Operand → Value} {ty : TypeId} {x : Operand} {p v : Value} (ho : o.op = .load ty x) (hx : ρ x = p) (hr : (Instr.loadAt ty p).run P w = .ok v w) : (execOp ρ o).run P w = .ok (.value v) w := by
  unfold execOp
  simp only [ho, hx, hr, Sem.run_bind, Sem.run_pure, Result.andThen_ok]
theorem rg_at {w : World} {b : Nat} {L : List Value} (h : w.rangeAt b 0 L) {j : Nat} {v : Value} (hv : L[j]? = some v) : w.cell? ⟨b, j, none⟩ = some v := by
  have := h j v hv
  rwa [Nat.zero_add] at this
set_option maxRecDepth 100000 in
set_option maxHeartbeats 4000000 in
theorem issue_new (m : Bm) (c : Cp) (hc : c.far) (ph pl : Nat) (r : Int) (w : World) (h : Bw w m) (hn : ∀ g ∈ m.L, g.p ≠ c.o) :
    Calls Try.prog 33 #[.pointer (some ⟨m.g, 0, none⟩), capV c, wdV ph pl, .int .i64 r] w fun e w' => e = .returned (.tuple #[]) ∧ ∃ k, w.heap.size ≤ k ∧ Bw w' { m with L := m.L ++ [⟨c.o, k, [(wdV c.h c.l, Tn.v ⟨c.h, c.l, ph, pl, r, m.n⟩)]⟩] } ∧ But (· = m.bl) w w' := by
  obtain ⟨o, ch, cl⟩ := c
  obtain ⟨W, hW⟩ : ∃ W, W = (w.alloc (Obj.cells #[.int .i64 o, .int .u64 (ch : Int), .int .u64 (cl : Int)] 31)).alloc (Obj.cells #[.int .u64 (ph : Int), .int .u64 (pl : Int)] 29) := ⟨_, rfl⟩
  have hB : Below w.heap.size w W := by rw [hW]; exact below2 _ _ _
  have hBW := h.later hB
  have HX0 : Hid (W.rangeAt w.heap.size 0 [.int .i64 o, .int .u64 (ch : Int), .int .u64 (cl : Int)]) := by rw [hW]; exact ((Bx.new w [.int .i64 o, .int .u64 (ch : Int), .int .u64 (cl : Int)] _).later (below1 _ _)).range
  have HX1 : Hid (W.rangeAt (w.heap.size + 1) 0 [.int .u64 (ph : Int), .int .u64 (pl : Int)]) := by rw [hW]; have := (Bx.new (w.alloc (Obj.cells #[.int .i64 o, .int .u64 (ch : Int), .int .u64 (cl : Int)] 31)) [.int .u64 (ph : Int), .int .u64 (pl : Int)] 29).range; simp at this; exact this
  have HK : Hid (∀ U, Below W.heap.size W U → Calls Try.prog 46 #[.map (some m.bl), .int .i64 o, wdV ch cl, Tn.v ⟨ch, cl, ph, pl, r, m.n⟩] U fun e w' => e = .returned (.tuple #[]) ∧ ∃ k, U.heap.size ≤ k ∧ Mm w' 29 m.bl (m.L ++ [⟨o, k, [(wdV ch cl, Tn.v ⟨ch, cl, ph, pl, r, m.n⟩)]⟩]) ∧ But (· = m.bl) U w') := fun U hU => keepW_fresh m.bl m.L o ch cl ⟨ch, cl, ph, pl, r, m.n⟩ U (hBW.live.later hU) hc.1 hc.2.1 hc.2.2 hn
  have HBW := hid hBW
  have HB := hid hB
  have HW := hid hW
  have HH := hid h
  have HS : Hid (∀ U, Below W.heap.size W U → (U.rangeAt m.g 0 m.cells ∧ U.rangeAt w.heap.size 0 [.int .i64 o, .int .u64 (ch : Int), .int .u64 (cl : Int)] ∧ U.rangeAt (w.heap.size + 1) 0 [.int .u64 (ph : Int), .int .u64 (pl : Int)])) := fun U hU => ⟨rangeAt_later hU HBW.out.bx.range, rangeAt_later hU HX0.out, rangeAt_later hU HX1.out⟩
  have HSb : Hid (∀ U, But (· = m.bl) W U → (U.rangeAt m.g 0 m.cells ∧ U.rangeAt w.heap.size 0 [.int .i64 o, .int .u64 (ch : Int), .int .u64 (cl : Int)] ∧ U.rangeAt (w.heap.size + 1) 0 [.int .u64 (ph : Int), .int .u64 (pl : Int)])) := fun U hU => by
    have hl := h.live.out.lt
    have hg : m.g ≠ m.bl := fun e => (List.nodup_append.1 h.dis).2.2 m.bl List.mem_cons_self m.g (by simp) e.symm
    refine ⟨(HBW.out.bx.but hU hg).range, ?_, ?_⟩
    · intro j v hv
      have hk := HX0.out j v hv
      rw [World.cell?_of_block (w := W) (hU.block w.heap.size (World.block_lt_of_cell? _ _ hk) (by omega))]
      exact hk
    · intro j v hv
      have hk := HX1.out j v hv
      rw [World.cell?_of_block (w := W) (hU.block (w.heap.size + 1) (World.block_lt_of_cell? _ _ hk) (by omega))]
      exact hk
  clear hBW hB hW h hn
  go_enter Try.func33, Try.ntmps33
  go_upto_region 1 with fail
  rw [← HW.out]
  refine wp_region_held_drew (S := (fun U : World => U.rangeAt m.g 0 m.cells ∧ U.rangeAt w.heap.size 0 [.int .i64 o, .int .u64 (ch : Int), .int .u64 (cl : Int)] ∧ U.rangeAt (w.heap.size + 1) 0 [.int .u64 (ph : Int), .int .u64 (pl : Int)])) (by kernel_rfl) (HS.out _ (Below.refl _ _).drew) (fun hHeld => ?_)
  refine wpAnyH_norm (l2 := #[false, false, false, false, false, false, false, false, false, false, false, false, false, false, false, false, false, false]) (f2 := 18) (by kernel_rfl) (by kernel_rfl) ?_
  refine wpAnyH_take (i := 0) (oi := _) (v := ?_) rfl (by kernel_rfl) (by kernel_rfl) (by kernel_rfl) (fun _ _ _ h => h) (Or.inl ⟨by rfl, ?_⟩) (by assumption) ?_
  rotate_left
  · (intro w hSw; (try dsimp only at hSw); go_simp; try with_reducible rfl)
  simp only [List.getElem_toArray, List.getElem_cons_succ, List.getElem_cons_zero, Act.put, List.setIfInBounds_toArray, List.set_cons_zero, List.set_cons_succ]
  refine wpAnyH_norm (l2 := #[true, false, false, false, false, false, false, false, false, false, false, false, false, false, false, false, false, false]) (f2 := 17) (by kernel_rfl) (by kernel_rfl) ?_
  refine wpAnyH_take (i := 1) (oi := _) (v := ?_) rfl (by kernel_rfl) (by kernel_rfl) (by kernel_rfl) (fun _ _ _ h => h) (Or.inl ⟨by rfl, ?_⟩) (by assumption) ?_
  rotate_left
  · (intro w hSw; (try dsimp only at hSw); go_simp; try with_reducible rfl)
  simp only [List.getElem_toArray, List.getElem_cons_succ, List.getElem_cons_zero, Act.put, List.setIfInBounds_toArray, List.set_cons_zero, List.set_cons_succ]
  refine wpAnyH_norm (l2 := #[true, true, false, false, false, false, false, false, false, false, false, false, false, false, false, false, false, false]) (f2 := 16) (by kernel_rfl) (by kernel_rfl) ?_
  refine wpAnyH_take (i := 2) (oi := _) (v := ?_) rfl (by kernel_rfl) (by kernel_rfl) (by kernel_rfl) (fun _ _ _ h => h) (Or.inl ⟨by rfl, ?_⟩) (by assumption) ?_
  rotate_left
  · (intro w hSw; (try dsimp only at hSw); go_simp; try with_reducible rfl)
  simp only [List.getElem_toArray, List.getElem_cons_succ, List.getElem_cons_zero, Act.put, List.setIfInBounds_toArray, List.set_cons_zero, List.set_cons_succ]
  refine wpAnyH_norm (l2 := #[true, true, true, false, false, false, false, false, false, false, false, false, false, false, false, false, false, false]) (f2 := 15) (by kernel_rfl) (by kernel_rfl) ?_
  refine wpAnyH_take (i := 3) (oi := _) (v := ?_) rfl (by kernel_rfl) (by kernel_rfl) (by kernel_rfl) (fun _ _ _ h => h) (Or.inl ⟨by rfl, ?_⟩) (by assumption) ?_
  rotate_left
  · (intro w hSw; have z1 := rg_at (j := 1) hSw.1 rfl; go_simp; try with_reducible rfl)
  simp only [List.getElem_toArray, List.getElem_cons_succ, List.getElem_cons_zero, Act.put, List.setIfInBounds_toArray, List.set_cons_zero, List.set_cons_succ]
  refine wpAnyH_norm (l2 := #[true, true, true, true, false, false, false, false, false, false, false, false, false, false, false, false, false, false]) (f2 := 14) (by kernel_rfl) (by kernel_rfl) ?_
  refine wpAnyH_take (i := 4) (oi := _) (v := ?_) rfl (by kernel_rfl) (by kernel_rfl) (by kernel_rfl) (fun _ _ _ h => h) (Or.inl ⟨by rfl, ?_⟩) (by assumption) ?_
  rotate_left
  · (intro w hSw; (try dsimp only at hSw); go_simp; try with_reducible rfl)
  simp only [List.getElem_toArray, List.getElem_cons_succ, List.getElem_cons_zero, Act.put, List.setIfInBounds_toArray, List.set_cons_zero, List.set_cons_succ]
  refine wpAnyH_norm (l2 := #[true, true, true, true, true, false, false, false, false, false, false, false, false, false, false, false, false, false]) (f2 := 13) (by kernel_rfl) (by kernel_rfl) ?_
  refine wpAnyH_take (i := 5) (oi := _) (v := ?_) rfl (by kernel_rfl) (by kernel_rfl) (by kernel_rfl) (fun _ _ _ h => h) (Or.inl ⟨by rfl, ?_⟩) (by assumption) ?_
  rotate_left
  · (intro w hSw; have z0 := rg_at (j := 0) hSw.2.1 rfl; go_simp; try with_reducible rfl)
  simp only [List.getElem_toArray, List.getElem_cons_succ, List.getElem_cons_zero, Act.put, List.setIfInBounds_toArray, List.set_cons_zero, List.set_cons_succ]
  refine wpAnyH_norm (l2 := #[true, true, true, true, true, true, false, false, false, false, false, false, false, false, false, false, false, false]) (f2 := 12) (by kernel_rfl) (by kernel_rfl) ?_
  refine wpAnyH_take (i := 6) (oi := _) (v := ?_) rfl (by kernel_rfl) (by kernel_rfl) (by kernel_rfl) (fun _ _ _ h => h) (Or.inl ⟨by rfl, ?_⟩) (by assumption) ?_
  rotate_left
  · (intro w hSw; (try dsimp only at hSw); go_simp; try with_reducible rfl)
  simp only [List.getElem_toArray, List.getElem_cons_succ, List.getElem_cons_zero, Act.put, List.setIfInBounds_toArray, List.set_cons_zero, List.set_cons_succ]
  refine wpAnyH_norm (l2 := #[true, true, true, true, true, true, true, false, false, false, false, false, false, false, false, false, false, false]) (f2 := 11) (by kernel_rfl) (by kernel_rfl) ?_
  refine wpAnyH_take (i := 7) (oi := _) (v := ?_) rfl (by kernel_rfl) (by kernel_rfl) (by kernel_rfl) (fun _ _ _ h => h) (Or.inl ⟨by rfl, ?_⟩) (by assumption) ?_
  rotate_left
  · (intro w hSw; have z1 := rg_at (j := 1) hSw.2.1 rfl; have z2 := rg_at (j := 2) hSw.2.1 rfl; go_simp; try with_reducible rfl)
  simp only [List.getElem_toArray, List.getElem_cons_succ, List.getElem_cons_zero, Act.put, List.setIfInBounds_toArray, List.set_cons_zero, List.set_cons_succ]
  refine wpAnyH_norm (l2 := #[true, true, true, true, true, true, true, true, false, false, false, false, false, false, false, false, false, false]) (f2 := 10) (by kernel_rfl) (by kernel_rfl) ?_
  refine wpAnyH_take (i := 8) (oi := _) (v := ?_) rfl (by kernel_rfl) (by kernel_rfl) (by kernel_rfl) (fun _ _ _ h => h) (Or.inl ⟨by rfl, ?_⟩) (by assumption) ?_
  rotate_left
  · (intro w hSw; (try dsimp only at hSw); go_simp; try with_reducible rfl)
  simp only [List.getElem_toArray, List.getElem_cons_succ, List.getElem_cons_zero, Act.put, List.setIfInBounds_toArray, List.set_cons_zero, List.set_cons_succ]
  refine wpAnyH_norm (l2 := #[true, true, true, true, true, true, true, true, true, false, false, false, false, false, false, false, false, false]) (f2 := 9) (by kernel_rfl) (by kernel_rfl) ?_
  refine wpAnyH_take (i := 9) (oi := _) (v := ?_) rfl (by kernel_rfl) (by kernel_rfl) (by kernel_rfl) (fun _ _ _ h => h) (Or.inl ⟨by rfl, ?_⟩) (by assumption) ?_
  rotate_left
  · (intro w hSw; have z1 := rg_at (j := 1) hSw.2.1 rfl; have z2 := rg_at (j := 2) hSw.2.1 rfl; go_simp; try with_reducible rfl)
  simp only [List.getElem_toArray, List.getElem_cons_succ, List.getElem_cons_zero, Act.put, List.setIfInBounds_toArray, List.set_cons_zero, List.set_cons_succ]
  refine wpAnyH_norm (l2 := #[true, true, true, true, true, true, true, true, true, true, false, false, false, false, false, false, false, false]) (f2 := 8) (by kernel_rfl) (by kernel_rfl) ?_
  refine wpAnyH_take (i := 10) (oi := _) (v := ?_) rfl (by kernel_rfl) (by kernel_rfl) (by kernel_rfl) (fun _ _ _ h => h) (Or.inl ⟨by rfl, ?_⟩) (by assumption) ?_
  rotate_left
  · (intro w hSw; have z0 := rg_at (j := 0) hSw.2.2 rfl; have z1 := rg_at (j := 1) hSw.2.2 rfl; go_simp; try with_reducible rfl)
  simp only [List.getElem_toArray, List.getElem_cons_succ, List.getElem_cons_zero, Act.put, List.setIfInBounds_toArray, List.set_cons_zero, List.set_cons_succ]
  refine wpAnyH_norm (l2 := #[true, true, true, true, true, true, true, true, true, true, true, false, false, false, false, false, false, false]) (f2 := 7) (by kernel_rfl) (by kernel_rfl) ?_
  refine wpAnyH_take (i := 11) (oi := _) (v := ?_) rfl (by kernel_rfl) (by kernel_rfl) (by kernel_rfl) (fun _ _ _ h => h) (Or.inl ⟨by rfl, ?_⟩) (by assumption) ?_
  rotate_left
  · (intro w hSw; (try dsimp only at hSw); go_simp; try with_reducible rfl)
  simp only [List.getElem_toArray, List.getElem_cons_succ, List.getElem_cons_zero, Act.put, List.setIfInBounds_toArray, List.set_cons_zero, List.set_cons_succ]
  refine wpAnyH_norm (l2 := #[true, true, true, true, true, true, true, true, true, true, true, true, false, false, false, false, false, false]) (f2 := 6) (by kernel_rfl) (by kernel_rfl) ?_
  refine wpAnyH_take (i := 12) (oi := _) (v := ?_) rfl (by kernel_rfl) (by kernel_rfl) (by kernel_rfl) (fun _ _ _ h => h) (Or.inl ⟨by rfl, ?_⟩) (by assumption) ?_
  rotate_left
  · (intro w hSw; (try dsimp only at hSw); go_simp; try with_reducible rfl)
  simp only [List.getElem_toArray, List.getElem_cons_succ, List.getElem_cons_zero, Act.put, List.setIfInBounds_toArray, List.set_cons_zero, List.set_cons_succ]
  refine wpAnyH_norm (l2 := #[true, true, true, true, true, true, true, true, true, true, true, true, true, false, false, false, false, false]) (f2 := 5) (by kernel_rfl) (by kernel_rfl) ?_
  refine wpAnyH_take (i := 13) (oi := _) (v := ?_) rfl (by kernel_rfl) (by kernel_rfl) (by kernel_rfl) (fun _ _ _ h => h) (Or.inl ⟨by rfl, ?_⟩) (by assumption) ?_
  rotate_left
  · (intro w hSw; (try dsimp only at hSw); go_simp; try with_reducible rfl)
  simp only [List.getElem_toArray, List.getElem_cons_succ, List.getElem_cons_zero, Act.put, List.setIfInBounds_toArray, List.set_cons_zero, List.set_cons_succ]
  refine wpAnyH_norm (l2 := #[true, true, true, true, true, true, true, true, true, true, true, true, true, true, false, false, false, false]) (f2 := 4) (by kernel_rfl) (by kernel_rfl) ?_
  refine wpAnyH_take (i := 14) (oi := _) (v := ?_) rfl (by kernel_rfl) (by kernel_rfl) (by kernel_rfl) (fun _ _ _ h => h) (Or.inl ⟨by rfl, ?_⟩) (by assumption) ?_
  rotate_left
  · (intro w hSw; (try dsimp only at hSw); go_simp; try with_reducible rfl)
  simp only [List.getElem_toArray, List.getElem_cons_succ, List.getElem_cons_zero, Act.put, List.setIfInBounds_toArray, List.set_cons_zero, List.set_cons_succ]
  refine wpAnyH_norm (l2 := #[true, true, true, true, true, true, true, true, true, true, true, true, true, true, true, false, false, false]) (f2 := 3) (by kernel_rfl) (by kernel_rfl) ?_
  refine wpAnyH_take (i := 15) (oi := _) (v := ?_) rfl (by kernel_rfl) (by kernel_rfl) (by kernel_rfl) (fun _ _ _ h => h) (Or.inl ⟨by rfl, ?_⟩) (by assumption) ?_
  rotate_left
  · (intro w hSw; have z0 := rg_at (j := 0) hSw.1 rfl; go_simp; try with_reducible rfl)
  simp only [List.getElem_toArray, List.getElem_cons_succ, List.getElem_cons_zero, Act.put, List.setIfInBounds_toArray, List.set_cons_zero, List.set_cons_succ]
  refine wpAnyH_norm (l2 := #[true, true, true, true, true, true, true, true, true, true, true, true, true, true, true, true, false, false]) (f2 := 2) (by kernel_rfl) (by kernel_rfl) ?_
  refine wpAnyH_take (i := 16) (oi := _) (v := ?_) rfl (by kernel_rfl) (by kernel_rfl) (by kernel_rfl) (fun _ _ _ h => h) (Or.inl ⟨by rfl, ?_⟩) (by assumption) ?_
  rotate_left
  · (intro w hSw; (try dsimp only at hSw); go_simp; try with_reducible rfl)
  simp only [List.getElem_toArray, List.getElem_cons_succ, List.getElem_cons_zero, Act.put, List.setIfInBounds_toArray, List.set_cons_zero, List.set_cons_succ]
  refine wpAnyH_norm (l2 := #[true, true, true, true, true, true, true, true, true, true, true, true, true, true, true, true, true, false]) (f2 := 1) (by kernel_rfl) (by kernel_rfl) ?_
  refine wpAnyH_ready (rs := [17]) (by kernel_rfl) (by simp) ?_
  refine AllReadyH.cons rfl (fun K hK => ?_) AllReadyH.nil
  go_simp
  go_wp2_with (first | (go_at_call 46; refine (HK.out _ (Below.refl _ _).drew).mono ?_; rintro e w1 ⟨rfl, k, hk, hm, hb⟩))
  have HKk := hid hk
  have HM := hid hm
  have HBb : Hid (But (· = m.bl) W w1) := (But.of (Below.refl _ _).drew).trans hb
  clear hk hm hb
  refine hK.out _ _ (HSb.out _ HBb.out) (fun hHeld => ?_)
  clear hK K
  simp only [List.getElem_toArray, List.getElem_cons_succ, List.getElem_cons_zero, Act.put, List.setIfInBounds_toArray, List.set_cons_zero, List.set_cons_succ]
  refine wpAnyH_norm (l2 := #[true, true, true, true, true, true, true, true, true, true, true, true, true, true, true, true, true, true]) (f2 := 0) (by kernel_rfl) (by kernel_rfl) ?_
  refine wpAnyH_done (by kernel_rfl) ?_ _
  go_wp2
  have hkk : w.heap.size ≤ k := Nat.le_trans HB.out.size HKk.out
  have hbw : But (· = m.bl) w w1 := (But.of HB.out).trans HBb.out
  exact bodyPost_end (v := .tuple #[]) (by simp [results, Try.results33, go_sem]) rfl ⟨rfl, k, hkk, HH.out.issued hkk HM.out hbw, hbw⟩
end Go.Proofs.Yticgammbjcdobaa
