import Derived.Test.YticgammbjcdobaaQL
namespace Go.Proofs.Yticgammbjcdobaa
open Go.RowKit
set_option linter.unusedVariables false
set_option linter.unusedSimpArgs false
theorem Ow.shrink {w : World} {base : Nat} {e : TypeId} {k g n cap m : Nat} {L : List Value} (h : Ow w base e k (some ⟨g, 0, none⟩) n cap L) (hm : m ≤ n) : Ow w base e k (some ⟨g, 0, none⟩) m cap (L.take (m * k)) := by
  have hmk : m * k ≤ n * k := Nat.mul_le_mul_right k hm
  refine ⟨by rw [List.length_take, h.1]; omega, ?_⟩
  rcases h.2 with ⟨h1, _⟩ | ⟨g', c, cur, hv, hb, hh, h2, h3, h4, h5⟩
  · simp at h1
  · simp only [Value.slice.injEq, Option.some.injEq, Addr.mk.injEq] at hv
    obtain ⟨⟨rfl, _⟩, _, rfl⟩ := hv
    refine .inr ⟨g, cap, cur, rfl, hb, hh, by omega, h3, h4, ?_⟩
    rw [← h5, List.take_take]
    congr 1
    omega
/-- One capability is wiped. -/
theorem run_clear_one (w : World) (ty : TypeId) (b o c : Nat) (hc : ∀ j, j < 3 → (w.cell? ⟨b, o + j, none⟩).isSome = true) (hf : ∀ j, j < 3 → w.frozen? ⟨b, o + j, none⟩ = false) :
    (Builtin.clear_ #[26] ty #[.slice (some ⟨b, o, none⟩) 1 c]).run Try.prog w = .ok (.tuple #[]) (w.setCells b o (encC ⟨0, 0, 0⟩)) := by
  obtain ⟨i, hi, hz0, hz1, hz2⟩ := info_parts infoC3
  have hv : (zeroValue 31).run Try.prog w = .ok (.agg #[.int .i64 0, .int .u64 0, .int .u64 0]) w := by
    simp [zeroValue, typeInfo, hi, hz0]
  have hst := run_storeCells_cells (P := Try.prog) b o (encC ⟨0, 0, 0⟩) 0 w (by simpa [encC] using hc) (by simpa [encC] using hf) (one3 0 0 0)
  simp only [Nat.add_zero] at hst
  have hzc : (Builtin.zeroCells (Value.agg #[.int .i64 0, .int .u64 0, .int .u64 0]).cells 1).toList = encC ⟨0, 0, 0⟩ := by
    simp [Builtin.zeroCells, Value.cells, encC, Array.range]
  simp [Builtin.clear_, run_underlying Try.underlying26, hv, hzc, hst]
/-- Where a slice begins that is cut off at l. -/
def cutA (a : Option Addr) (m l : Nat) : Option Addr := if m = l then a else a.map (·.add (l * 3))
theorem szCp (w : World) : (sizeOf 31).run Try.prog w = .ok 3 w := by
  obtain ⟨i, hi, hz0, hz1, hz2⟩ := info_parts infoC3
  simp [sizeOf, typeInfo, hi, hz1]
theorem elC : Try.prog.elem 26 = 31 := by kernel_rfl
theorem undC : Try.prog.underlying 26 = some (.slice (Try.prog.elem 26)) := by rw [elC]; exact Try.underlying26
theorem slice_l (w : World) (a : Option Addr) (n c i : Nat) (h : i ≤ n) (hn : n ≤ c) : (Instr.sliceAt 26 (.slice a n c) (some (.int .i64 (i : Int))) none none).run Try.prog w = .ok (.slice (cutA a c i) (n - i) (c - i)) w := by
  rw [run_sliceAt_slice _ _ _ _ _ _ undC, run_slice_l _ _ _ _ _ undC _ _ (by omega) (by omega), elC, szCp]
  rfl
theorem slice_h (w : World) (a : Option Addr) (n c i : Nat) (h : i ≤ c) : (Instr.sliceAt 26 (.slice a n c) none (some (.int .i64 (i : Int))) none).run Try.prog w = .ok (.slice a i c) w := by
  rw [run_sliceAt_slice _ _ _ _ _ _ undC, run_slice_h _ _ _ _ _ undC _ _ (by omega) (by omega), elC, szCp]
  simp [sliced]
  cases a <;> simp [Addr.add]
theorem slice_hm (w : World) (a : Option Addr) (n c i : Nat) (h : i ≤ c) : (Instr.sliceAt 26 (.slice a n c) none (some (.int .i64 (i : Int))) (some (.int .i64 (i : Int)))).run Try.prog w = .ok (.slice a i i) w := by
  rw [run_sliceAt_slice _ _ _ _ _ _ undC, run_slice_hm _ _ _ _ _ undC _ _ _ _ (by omega) (by omega) (by omega), elC, szCp]
  simp [sliced]
  cases a <;> simp [Addr.add]
theorem slice_lhm (w : World) (a : Option Addr) (n c l m : Nat) (h : l ≤ m) (h2 : m ≤ c) : (Instr.sliceAt 26 (.slice a n c) (some (.int .i64 (l : Int))) (some (.int .i64 (m : Int))) (some (.int .i64 (m : Int)))).run Try.prog w = .ok (.slice (cutA a m l) (m - l) (m - l)) w := by
  rw [run_sliceAt_slice _ _ _ _ _ _ undC, run_slice_lhm _ _ _ _ _ undC _ _ _ _ _ _ (by omega) (by omega) (by omega) (by omega), elC, szCp]
  rfl
theorem slice_lh (w : World) (a : Option Addr) (n c l h : Nat) (h1 : l ≤ h) (h2 : h ≤ c) : (Instr.sliceAt 26 (.slice a n c) (some (.int .i64 (l : Int))) (some (.int .i64 (h : Int))) none).run Try.prog w = .ok (.slice (cutA a c l) (h - l) (c - l)) w := by
  rw [run_sliceAt_slice _ _ _ _ _ _ undC, run_slice_lh _ _ _ _ _ undC _ _ _ _ (by omega) (by omega) (by omega), elC, szCp]
  rfl
theorem slice_all (w : World) (a : Option Addr) (n c l h m : Nat) (h1 : l ≤ h) (h2 : h ≤ m) (h3 : m ≤ c) : (Instr.sliceAt 26 (.slice a n c) (some (.int .i64 (l : Int))) (some (.int .i64 (h : Int))) (some (.int .i64 (m : Int)))).run Try.prog w = .ok (.slice (cutA a m l) (h - l) (m - l)) w := by
  rw [run_sliceAt_slice _ _ _ _ _ _ undC, run_slice_lhm _ _ _ _ _ undC _ _ _ _ _ _ (by omega) (by omega) (by omega) (by omega), elC, szCp]
  rfl
theorem cutA_in (a : Addr) (m l : Nat) (h : m ≠ l) : cutA (some a) m l = some (a.add (l * 3)) := by
  unfold cutA
  rw [if_neg h]
  rfl
theorem cutA_some (a : Addr) (m l : Nat) : ∃ b, cutA (some a) m l = some b := by
  unfold cutA
  split
  · exact ⟨_, rfl⟩
  · exact ⟨_, rfl⟩
theorem ex_sl {P : Program} {w : World} {o : Oper} {ρ : Operand → Value} {t : TypeId} {x : Operand} {lo hi mx : Option Operand} {vx v : Value} (ho : o.op = .slice t x lo hi mx) (hx : ρ x = vx) (hr : (Instr.sliceAt t vx (lo.map ρ) (hi.map ρ) (mx.map ρ)).run P w = .ok v w) : (execOp ρ o).run P w = .ok (.value v) w := by
  unfold execOp
  simp only [ho, hx, hr, Sem.run_bind, Sem.run_pure, Result.andThen_ok]
theorem clear_arm {P : Program} {w w' : World} {ops : Array Oper} {rest : List Oper} {a : Act} {Q : Exit → Act → World → Prop} {d : Option Tmp} {tt : TypeId} {ps : String} {af} {t : TypeId} {x : Operand} {v vx : Value}
    (hr : (Builtin.clear_ #[t] tt #[vx]).run P w = .ok v w') (hx : a.eval x = vx) (h : wpList P ops Q rest (a.put d v) w') :
    wpList P ops Q ({ dst := d, op := .call { callee := .builtin .clear, args := #[x], argTypes := #[t] }, type := tt, pos := ps, after := af, guard := none } :: rest) a w := by
  refine wpList_plain rfl fun K hK => ?_
  unfold Oper.wp
  simp [execOp, resolve, invoke, builtin, hx, hr, Result.andThen]
  exact hK _ _ h
theorem Ow.thereC {w : World} {base : Nat} {e : TypeId} {k g n cap : Nat} {L : List Value} (h : Ow w base e k (some ⟨g, 0, none⟩) n cap L) {o m : Nat} (hm : o + m ≤ cap * k) : w.there g o m := fun j hj => by
  rcases h.2 with ⟨h1, h2⟩ | ⟨g', cp, cur, hv, hg, hh, h3, h4, h5, h6⟩
  · simp at h1
  · simp only [Value.slice.injEq, Option.some.injEq, Addr.mk.injEq] at hv
    obtain ⟨⟨rfl, _⟩, _, rfl⟩ := hv
    refine ⟨?_, ?_⟩
    · simp [World.cell?, hh]; omega
    · simp [World.frozen?, hh]
theorem Ow.room {w : World} {base : Nat} {e : TypeId} {k : Nat} {a : Option Addr} {n cap : Nat} {L : List Value} (h : Ow w base e k a n cap L) : n ≤ cap ∧ cap ≤ maxLen := by
  rcases h.2 with ⟨h1, h2⟩ | ⟨g', cp, cur, hv, hg, hh, h3, h4, h5, h6⟩
  · simp only [Value.slice.injEq] at h1
    obtain ⟨-, rfl, rfl⟩ := h1
    exact ⟨Nat.le_refl _, Nat.zero_le _⟩
  · simp only [Value.slice.injEq] at hv
    obtain ⟨-, -, rfl⟩ := hv
    exact ⟨h3, h4⟩
theorem setL_out : ∀ (vs L : List Value) (o : Nat), L.length ≤ o → setL L o vs = L
  | [], L, o, h => rfl
  | v :: r, L, o, h => by
    rw [setL, List.set_eq_of_length_le h]
    exact setL_out r L (o + 1) (by omega)
theorem capsL_drop : ∀ (l : List Cp) (i : Nat), (capsL l).drop (i * 3) = capsL (l.drop i)
  | [], i => by simp [capsL]
  | c :: l, 0 => by simp
  | c :: l, i + 1 => by
    rw [show (i + 1) * 3 = 3 + i * 3 by omega, ← List.drop_drop]
    have : (capsL (c :: l)).drop 3 = capsL l := by simp [capsL, encC]
    rw [this, capsL_drop l i]
    rfl
theorem capsL_take : ∀ (l : List Cp) (i : Nat), (capsL l).take (i * 3) = capsL (l.take i)
  | [], i => by simp [capsL]
  | c :: l, 0 => by simp [capsL]
  | c :: l, i + 1 => by
    have e : capsL (c :: l) = encC c ++ capsL l := by simp [capsL]
    have e2 : capsL ((c :: l).take (i + 1)) = encC c ++ capsL (l.take i) := by simp [capsL]
    rw [e, e2, show (i + 1) * 3 = (encC c).length + i * 3 by simp [encC]; omega, List.take_length_add_append, capsL_take l i]
set_option maxRecDepth 100000 in
set_option maxHeartbeats 4000000 in
theorem delete_any {w : World} {base g i r c : Nat} {l : List Cp} (h : Ow w base 31 3 (some ⟨g, 0, none⟩) (i + r + 1) c (capsL l)) (hl : l.length = i + r + 1) (hn : i + r + 1 ≤ 1000000000) :
    Calls Try.prog 43 #[.slice (some ⟨g, 0, none⟩) (i + r + 1) c, .int .i64 (i : Int), .int .i64 ((i : Int) + 1)] w fun e w' => e = .returned (.slice (some ⟨g, 0, none⟩) (i + r) c) ∧ Ow w' base 31 3 (some ⟨g, 0, none⟩) (i + r) c (capsL (l.eraseIdx i)) ∧ But (Blk (some ⟨g, 0, none⟩)) w w' := by
  obtain ⟨hc1, hc2⟩ := h.room
  have hne2 : ((i : Int) == (i : Int) + 1) = false := beq_false_of_ne (by omega)
  have hs1 := fun W => slice_all W (some ⟨g, 0, none⟩) (i + r + 1) c i (i + 1) (i + r + 1) (by omega) (by omega) (by omega)
  have hsB := fun W => slice_h W (some ⟨g, 0, none⟩) (i + r + 1) c i (by omega)
  obtain ⟨q, hq⟩ := cutA_some ⟨g, 0, none⟩ c (i + 1)
  have hsC := fun W => slice_l W (some ⟨g, 0, none⟩) (i + r + 1) c (i + 1) (by omega) (by omega)
  rw [hq, show i + r + 1 - (i + 1) = r by omega] at hsC
  have hsD := fun W => slice_lh W (some ⟨g, 0, none⟩) (i + r) c (i + r) (i + r + 1) (by omega) (by omega)
  rw [cutA_in _ _ _ (by omega), addr_add0, show i + r + 1 - (i + r) = 1 by omega] at hsD
  obtain ⟨ii, hi_, hz0, hz1, hz2⟩ := info_parts infoC3
  have hsh := (h.later (Below.refl _ _).drew).shrink (m := i) (by omega)
  rw [capsL_take] at hsh
  obtain ⟨w5, hr5, ho5, hg5⟩ := run_append_fits (P := Try.prog) w.drew base 26 26 31 ii 3 Try.underlying26 hi_ hz1 g i c (capsL (l.take i)) hsh q r (c - (i + 1)) (capsL (l.drop (i + 1))) (by rw [capsL_len, List.length_drop, hl]; omega) (fun j u hu => by
    have hj := (List.getElem?_eq_some_iff.1 hu).1
    rw [capsL_len, List.length_drop, hl] at hj
    rw [cutA_in _ _ _ (by omega), addr_add0, Option.some.injEq] at hq
    subst hq
    rw [addr_add]
    have hcell := (h.later (Below.refl _ _).drew).cells rfl
    have := rg_at hcell (j := (i + 1) * 3 + j) (v := u) (by rw [← capsL_drop, List.getElem?_drop] at hu; exact hu)
    exact this) (caps_one _) (by omega)
  have ho5' : Ow w5 base 31 3 (some ⟨g, 0, none⟩) (i + r) c (capsL (l.eraseIdx i)) := by
    have e : capsL (l.take i) ++ capsL (l.drop (i + 1)) = capsL (l.eraseIdx i) := by rw [List.eraseIdx_eq_take_drop_succ]; simp [capsL]
    rw [e] at ho5
    exact ho5
  have hb5 : But (Blk (some ⟨g, 0, none⟩)) w w5 := ⟨hg5.os, hg5.tape, hg5.output, hg5.size, fun j hj hn => hg5.block j hj (fun e => hn (by cases e; exact ⟨_, rfl, rfl⟩))⟩
  have hth := ho5'.thereC (o := (i + r) * 3) (m := 3) (by omega)
  have hcl := run_clear_one w5 0 g ((i + r) * 3) (c - (i + r)) (fun j hj => (hth j hj).1) (fun j hj => (hth j hj).2)
  have hfin : Ow (w5.setCells g ((i + r) * 3) (encC ⟨0, 0, 0⟩)) base 31 3 (some ⟨g, 0, none⟩) (i + r) c (capsL (l.eraseIdx i)) := by
    have := Ow.setCells (encC ⟨0, 0, 0⟩) ((i + r) * 3) w5 _ ho5'
    rwa [setL_out _ _ _ (by rw [ho5'.1]; omega)] at this
  have hbf : But (Blk (some ⟨g, 0, none⟩)) w (w5.setCells g ((i + r) * 3) (encC ⟨0, 0, 0⟩)) := setCells_but ⟨_, rfl, rfl⟩ _ _ hb5
  simp only [Int.natCast_add, Int.natCast_one] at hs1 hsC hsD
  have HR5 : Hid ((Builtin.append_ #[26, 26] 26 #[.slice (some ⟨g, 0, none⟩) i c, .slice (some q) r (c - (i + 1))]).run Try.prog w.drew = .ok (.slice (some ⟨g, 0, none⟩) (i + r) c) w5) := hr5
  have HCl := hid hcl
  have HF := hid (And.intro hfin hbf)
  have HsB := hid hsB
  have HsC := hid hsC
  have HsD := hid hsD
  clear hsB hsC
  clear h hr5 ho5 hg5 ho5' hb5 hth hcl hfin hbf hsh hz0 hz1 hz2 hi_ hq
  generalize w5.setCells g ((i + r) * 3) (encC ⟨0, 0, 0⟩) = w6 at HCl HF
  go_enter Try.func43, Try.ntmps43
  go_upto_region 5 with fail
  refine wp_region_held_drew (S := (fun U : World => True)) (by kernel_rfl) (trivial) (fun hHeld => ?_)
  refine wpAnyH_norm (l2 := #[false, false, false, false, false, false, false, false]) (f2 := 8) (by kernel_rfl) (by kernel_rfl) ?_
  refine wpAnyH_take (i := 0) (oi := _) (v := ?_) rfl (by kernel_rfl) (by kernel_rfl) (by kernel_rfl) (fun _ _ _ h => h) (Or.inl ⟨by rfl, ?_⟩) (by assumption) ?_
  rotate_left
  · (intro w hSw; (try dsimp only at hSw); go_simp; try with_reducible rfl)
  simp only [List.getElem_toArray, List.getElem_cons_succ, List.getElem_cons_zero, Act.put, List.setIfInBounds_toArray, List.set_cons_zero, List.set_cons_succ]
  refine wpAnyH_norm (l2 := #[true, false, false, false, false, false, false, false]) (f2 := 7) (by kernel_rfl) (by kernel_rfl) ?_
  refine wpAnyH_take (i := 1) (oi := _) (v := ?_) rfl (by kernel_rfl) (by kernel_rfl) (by kernel_rfl) (fun _ _ _ h => h) (Or.inl ⟨by rfl, ?_⟩) (by assumption) ?_
  rotate_left
  · (intro w hSw; (try dsimp only at hSw); go_simp; try with_reducible rfl)
  simp only [List.getElem_toArray, List.getElem_cons_succ, List.getElem_cons_zero, Act.put, List.setIfInBounds_toArray, List.set_cons_zero, List.set_cons_succ]
  refine wpAnyH_norm (l2 := #[true, true, false, false, false, false, false, false]) (f2 := 6) (by kernel_rfl) (by kernel_rfl) ?_
  refine wpAnyH_take (i := 2) (oi := _) (v := .slice (some ⟨g, 0, none⟩) i c) rfl (by kernel_rfl) (by kernel_rfl) (by kernel_rfl) (fun _ _ _ h => h) (Or.inl ⟨by rfl, ?_⟩) (by assumption) ?_
  · (intro w hSw; (try dsimp only at hSw); exact ex_sl rfl rfl (HsB.out _))
  simp only [List.getElem_toArray, List.getElem_cons_succ, List.getElem_cons_zero, Act.put, List.setIfInBounds_toArray, List.set_cons_zero, List.set_cons_succ]
  refine wpAnyH_norm (l2 := #[true, true, true, false, false, false, false, false]) (f2 := 5) (by kernel_rfl) (by kernel_rfl) ?_
  refine wpAnyH_take (i := 3) (oi := _) (v := ?_) rfl (by kernel_rfl) (by kernel_rfl) (by kernel_rfl) (fun _ _ _ h => h) (Or.inl ⟨by rfl, ?_⟩) (by assumption) ?_
  rotate_left
  · (intro w hSw; (try dsimp only at hSw); go_simp; try with_reducible rfl)
  simp only [List.getElem_toArray, List.getElem_cons_succ, List.getElem_cons_zero, Act.put, List.setIfInBounds_toArray, List.set_cons_zero, List.set_cons_succ]
  refine wpAnyH_norm (l2 := #[true, true, true, true, false, false, false, false]) (f2 := 4) (by kernel_rfl) (by kernel_rfl) ?_
  refine wpAnyH_take (i := 4) (oi := _) (v := ?_) rfl (by kernel_rfl) (by kernel_rfl) (by kernel_rfl) (fun _ _ _ h => h) (Or.inl ⟨by rfl, ?_⟩) (by assumption) ?_
  rotate_left
  · (intro w hSw; (try dsimp only at hSw); go_simp; try with_reducible rfl)
  simp only [List.getElem_toArray, List.getElem_cons_succ, List.getElem_cons_zero, Act.put, List.setIfInBounds_toArray, List.set_cons_zero, List.set_cons_succ]
  refine wpAnyH_norm (l2 := #[true, true, true, true, true, false, false, false]) (f2 := 3) (by kernel_rfl) (by kernel_rfl) ?_
  refine wpAnyH_take (i := 5) (oi := _) (v := .slice (some q) r (c - (i + 1))) rfl (by kernel_rfl) (by kernel_rfl) (by kernel_rfl) (fun _ _ _ h => h) (Or.inl ⟨by rfl, ?_⟩) (by assumption) ?_
  · (intro w hSw; (try dsimp only at hSw); exact ex_sl rfl rfl (HsC.out _))
  simp only [List.getElem_toArray, List.getElem_cons_succ, List.getElem_cons_zero, Act.put, List.setIfInBounds_toArray, List.set_cons_zero, List.set_cons_succ]
  refine wpAnyH_norm (l2 := #[true, true, true, true, true, true, false, false]) (f2 := 2) (by kernel_rfl) (by kernel_rfl) ?_
  refine wpAnyH_ready (rs := [6]) (by kernel_rfl) (by simp) ?_
  refine AllReadyH.cons rfl (fun K hK => ?_) AllReadyH.nil
  refine wp_append_known (.tmp 22) (.tmp 25) 26 rfl _ _ rfl rfl _ w5 HR5.out ?_
  refine hK.out _ _ (trivial) (fun hHeld => ?_)
  clear hK K
  simp only [List.getElem_toArray, List.getElem_cons_succ, List.getElem_cons_zero, Act.put, List.setIfInBounds_toArray, List.set_cons_zero, List.set_cons_succ]
  refine wpAnyH_norm (l2 := #[true, true, true, true, true, true, true, false]) (f2 := 1) (by kernel_rfl) (by kernel_rfl) ?_
  refine wpAnyH_take (i := 7) (oi := _) (v := ?_) rfl (by kernel_rfl) (by kernel_rfl) (by kernel_rfl) (fun _ _ _ h => h) (Or.inl ⟨by rfl, ?_⟩) (by assumption) ?_
  rotate_left
  · (intro w hSw; (try dsimp only at hSw); go_simp; try with_reducible rfl)
  simp only [List.getElem_toArray, List.getElem_cons_succ, List.getElem_cons_zero, Act.put, List.setIfInBounds_toArray, List.set_cons_zero, List.set_cons_succ]
  refine wpAnyH_norm (l2 := #[true, true, true, true, true, true, true, true]) (f2 := 0) (by kernel_rfl) (by kernel_rfl) ?_
  refine wpAnyH_done (by kernel_rfl) ?_ _
  go_wp2_with (first | ((with_reducible refine clear_arm HCl.out ?_ ?_); (· rfl)))
  go_ret
  exact ⟨rfl, HF.out.1, HF.out.2⟩
/-- A list, one place taken out. -/
def remV (B : Bv) (b ix : Int) : Bv := if 0 ≤ ix ∧ ix < ((B.lists b).length : Int) then { B with lists := up1 B.lists b ((B.lists b).eraseIdx ix.toNat) } else B
set_option maxRecDepth 100000 in
set_option maxHeartbeats 8000000 in
theorem removed_bk (m : Bm) (B : Bv) (x : Cq) (w : World) (h : Bk w m B) (hx : x.ok) (hln : (B.lists x.b).length ≤ 100000000) :
    Calls Try.prog 24 #[.pointer (some ⟨m.g, 0, none⟩), x.v] w fun e w' => e = .returned (.tuple #[]) ∧ ∃ m', Bk w' m' (remV B x.b x.ix) ∧ Tr w w' m m' := by
  obtain ⟨W, hW⟩ : ∃ W, W = w.alloc (Obj.cells x.L.toArray 36) := ⟨_, rfl⟩
  have hB : Below w.heap.size w W := by rw [hW]; exact below1 _ _
  have HX0 : Hid (Bx W w.heap.size x.L) := by rw [hW]; exact Bx.new w x.L _
  obtain ⟨s, hs, hfar⟩ := h.lists.look x.b
  unfold remV
  have hsn := (h.bw.lists.look hx.b hs).2.2
  obtain ⟨L, hL⟩ : ∃ L, L = B.lists x.b := ⟨_, rfl⟩
  rw [← hL] at hs hfar hln hsn ⊢
  obtain ⟨sa, sn, sc⟩ := s
  simp only at hsn
  have HLk : Hid (∀ U, Below w.heap.size w U → (Instr.lookup 61 (.map (some m.bi)) (.int .i64 x.b) false).run Try.prog U = .ok (.slice sa sn sc) U) := fun U hU => ((h.bw.lists.later hU).look hx.b hs).1
  have HLt := hid h.bw.own_lt
  have HH := hid h
  have HB := hid hB
  have HW := hid hW
  have HXo := hid hx
  have HSL := hid hs
  have HFar := hid hfar
  have HSn := hid hsn
  have HLn := hid hln
  obtain ⟨xop, xb, xsz, ⟨xo, xh, xl⟩, xgv, xrt, xoff, xnn, ⟨xda, xdn, xdc⟩, xix, ⟨xga, xgn, xgc⟩⟩ := x
  simp only at HX0 HW HLk HSL ⊢
  have HS : Hid (∀ U, Below W.heap.size W U → (U.rangeAt m.g 0 m.cells ∧ U.rangeAt w.heap.size 0 [.int .i64 xop, .int .i64 xb, .int .i64 xsz, .int .i64 xo, .int .u64 (xh : Int), .int .u64 (xl : Int), .bool xgv, .int .i64 xrt, .int .i64 xoff, .int .i64 xnn, .slice xda xdn xdc, .int .i64 xix, .slice xga xgn xgc] ∧ (Instr.lookup 61 (.map (some m.bi)) (.int .i64 xb) false).run Try.prog U = .ok (.slice sa sn sc) U)) := fun U hU => ⟨((HH.out.later HB.out).bw.bx.later hU).range, (HX0.out.later hU).range, HLk.out _ (below_call HB.out hU)⟩
  rw [hsn]
  obtain ⟨Bf, hBf⟩ : ∃ Bf, Bf = if 0 ≤ xix ∧ xix < (sn : Int) then { B with lists := up1 B.lists xb (L.eraseIdx xix.toNat) } else B := ⟨_, rfl⟩
  rw [← hBf]
  have HBf := hid hBf
  clear hBf
  clear h hB hW hx hs hfar hln hsn hL
  go_enter Try.func24, Try.ntmps24
  go_upto_region 1 with fail
  rw [← HW.out]
  refine wp_region_held_drew (S := (fun U : World => U.rangeAt m.g 0 m.cells ∧ U.rangeAt w.heap.size 0 [.int .i64 xop, .int .i64 xb, .int .i64 xsz, .int .i64 xo, .int .u64 (xh : Int), .int .u64 (xl : Int), .bool xgv, .int .i64 xrt, .int .i64 xoff, .int .i64 xnn, .slice xda xdn xdc, .int .i64 xix, .slice xga xgn xgc] ∧ (Instr.lookup 61 (.map (some m.bi)) (.int .i64 xb) false).run Try.prog U = .ok (.slice sa sn sc) U)) (by kernel_rfl) (HS.out _ (Below.refl _ _).drew) (fun hHeld => ?_)
  refine wpAnyH_norm (l2 := #[false, false, false, false, false, false, false, false]) (f2 := 8) (by kernel_rfl) (by kernel_rfl) ?_
  refine wpAnyH_take (i := 0) (oi := _) (v := ?_) rfl (by kernel_rfl) (by kernel_rfl) (by kernel_rfl) (fun _ _ _ h => h) (Or.inl ⟨by rfl, ?_⟩) (by assumption) ?_
  rotate_left
  · (intro w hSw; (try dsimp only at hSw); go_simp; try with_reducible rfl)
  simp only [List.getElem_toArray, List.getElem_cons_succ, List.getElem_cons_zero, Act.put, List.setIfInBounds_toArray, List.set_cons_zero, List.set_cons_succ]
  refine wpAnyH_norm (l2 := #[true, false, false, false, false, false, false, false]) (f2 := 7) (by kernel_rfl) (by kernel_rfl) ?_
  refine wpAnyH_take (i := 1) (oi := _) (v := ?_) rfl (by kernel_rfl) (by kernel_rfl) (by kernel_rfl) (fun _ _ _ h => h) (Or.inl ⟨by rfl, ?_⟩) (by assumption) ?_
  rotate_left
  · (intro w hSw; (try dsimp only at hSw); go_simp; try with_reducible rfl)
  simp only [List.getElem_toArray, List.getElem_cons_succ, List.getElem_cons_zero, Act.put, List.setIfInBounds_toArray, List.set_cons_zero, List.set_cons_succ]
  refine wpAnyH_norm (l2 := #[true, true, false, false, false, false, false, false]) (f2 := 6) (by kernel_rfl) (by kernel_rfl) ?_
  refine wpAnyH_take (i := 2) (oi := _) (v := ?_) rfl (by kernel_rfl) (by kernel_rfl) (by kernel_rfl) (fun _ _ _ h => h) (Or.inl ⟨by rfl, ?_⟩) (by assumption) ?_
  rotate_left
  · (intro w hSw; (try dsimp only at hSw); go_simp; try with_reducible rfl)
  simp only [List.getElem_toArray, List.getElem_cons_succ, List.getElem_cons_zero, Act.put, List.setIfInBounds_toArray, List.set_cons_zero, List.set_cons_succ]
  refine wpAnyH_norm (l2 := #[true, true, true, false, false, false, false, false]) (f2 := 5) (by kernel_rfl) (by kernel_rfl) ?_
  refine wpAnyH_take (i := 3) (oi := _) (v := ?_) rfl (by kernel_rfl) (by kernel_rfl) (by kernel_rfl) (fun _ _ _ h => h) (Or.inl ⟨by rfl, ?_⟩) (by assumption) ?_
  rotate_left
  · (intro w hSw; have z2 := rg_at (j := 2) hSw.1 rfl; go_simp; try with_reducible rfl)
  simp only [List.getElem_toArray, List.getElem_cons_succ, List.getElem_cons_zero, Act.put, List.setIfInBounds_toArray, List.set_cons_zero, List.set_cons_succ]
  refine wpAnyH_norm (l2 := #[true, true, true, true, false, false, false, false]) (f2 := 4) (by kernel_rfl) (by kernel_rfl) ?_
  refine wpAnyH_take (i := 4) (oi := _) (v := ?_) rfl (by kernel_rfl) (by kernel_rfl) (by kernel_rfl) (fun _ _ _ h => h) (Or.inl ⟨by rfl, ?_⟩) (by assumption) ?_
  rotate_left
  · (intro w hSw; (try dsimp only at hSw); go_simp; try with_reducible rfl)
  simp only [List.getElem_toArray, List.getElem_cons_succ, List.getElem_cons_zero, Act.put, List.setIfInBounds_toArray, List.set_cons_zero, List.set_cons_succ]
  refine wpAnyH_norm (l2 := #[true, true, true, true, true, false, false, false]) (f2 := 3) (by kernel_rfl) (by kernel_rfl) ?_
  refine wpAnyH_take (i := 5) (oi := _) (v := ?_) rfl (by kernel_rfl) (by kernel_rfl) (by kernel_rfl) (fun _ _ _ h => h) (Or.inl ⟨by rfl, ?_⟩) (by assumption) ?_
  rotate_left
  · (intro w hSw; have z1 := rg_at (j := 1) hSw.2.1 rfl; go_simp; try with_reducible rfl)
  simp only [List.getElem_toArray, List.getElem_cons_succ, List.getElem_cons_zero, Act.put, List.setIfInBounds_toArray, List.set_cons_zero, List.set_cons_succ]
  refine wpAnyH_norm (l2 := #[true, true, true, true, true, true, false, false]) (f2 := 2) (by kernel_rfl) (by kernel_rfl) ?_
  refine wpAnyH_take (i := 6) (oi := _) (v := .slice sa sn sc) rfl (by kernel_rfl) (by kernel_rfl) (by kernel_rfl) (fun _ _ _ h => h) (Or.inl ⟨by rfl, ?_⟩) (by assumption) ?_
  · (intro w hSw; (try dsimp only at hSw); exact ex_lk rfl rfl rfl hSw.2.2)
  simp only [List.getElem_toArray, List.getElem_cons_succ, List.getElem_cons_zero, Act.put, List.setIfInBounds_toArray, List.set_cons_zero, List.set_cons_succ]
  refine wpAnyH_norm (l2 := #[true, true, true, true, true, true, true, false]) (f2 := 1) (by kernel_rfl) (by kernel_rfl) ?_
  refine wpAnyH_take (i := 7) (oi := _) (v := ?_) rfl (by kernel_rfl) (by kernel_rfl) (by kernel_rfl) (fun _ _ _ h => h) (Or.inl ⟨by rfl, ?_⟩) (by assumption) ?_
  rotate_left
  · (intro w hSw; (try dsimp only at hSw); go_simp; try with_reducible rfl)
  simp only [List.getElem_toArray, List.getElem_cons_succ, List.getElem_cons_zero, Act.put, List.setIfInBounds_toArray, List.set_cons_zero, List.set_cons_succ]
  refine wpAnyH_norm (l2 := #[true, true, true, true, true, true, true, true]) (f2 := 0) (by kernel_rfl) (by kernel_rfl) ?_
  refine wpAnyH_done (by kernel_rfl) ?_ _
  obtain ⟨V, hV⟩ : ∃ V, V = W.drew := ⟨_, rfl⟩
  have HBV : Hid (Below w.heap.size w V) := by rw [hV]; exact HB.out.drew
  have HXa : Hid (Bx V w.heap.size [.int .i64 xop, .int .i64 xb, .int .i64 xsz, .int .i64 xo, .int .u64 (xh : Int), .int .u64 (xl : Int), .bool xgv, .int .i64 xrt, .int .i64 xoff, .int .i64 xnn, .slice xda xdn xdc, .int .i64 xix, .slice xga xgn xgc]) := by rw [hV]; exact HX0.out.later (Below.refl _ _).drew
  rw [← hV]
  have HHv := hid (HH.out.later HBV.out)
  clear hV HX0 HS HLk HB HW
  have x11 := HXa.out.cell 11 rfl
  by_cases hgi : 0 ≤ xix ∧ xix < (sn : Int)
  · have HBe : Hid (Bf = { B with lists := up1 B.lists xb (L.eraseIdx xix.toNat) }) := by unfold Hid; rw [HBf.out, if_pos hgi]
    have hgd : decide (0 ≤ xix ∧ xix < (sn : Int)) = true := decide_eq_true hgi
    obtain ⟨i, rfl⟩ : ∃ i : Nat, xix = (i : Int) := ⟨xix.toNat, by omega⟩
    obtain ⟨r, hr⟩ : ∃ r, sn = i + r + 1 := ⟨sn - i - 1, by omega⟩
    have hok := (HHv.out.drew.bw.lists.look HXo.out.b HSL.out).2.1
    obtain ⟨sb, hsb⟩ := hok.some_of (by simp only; omega)
    simp only at hsb
    subst hsb
    simp only [Int.toNat_natCast] at HBe
    have hdl := delete_any (i := i) (r := r) (by rw [← hr]; exact hok) (by rw [HSn.out, hr]) (by have := HLn.out; have := HSn.out; omega)
    rw [← hr] at hdl
    have HDl := hid hdl
    have HU : Hid (∀ w7, Ow w7 (m.g + 1) 31 3 (some ⟨sb, 0, none⟩) (i + r) sc (capsL (L.eraseIdx i)) → But (Blk (some ⟨sb, 0, none⟩)) V.drew w7 → ∃ w8 m', (Instr.mapUpdate 61 (.map (some m.bi)) (.int .i64 xb) (.slice (some ⟨sb, 0, none⟩) (i + r) sc)).run Try.prog w7 = .ok () w8 ∧ Bk w8 m' { B with lists := up1 B.lists xb (L.eraseIdx i) } ∧ Tr V w8 m m' ∧ m'.cells = m.cells ∧ But (Owb m) V w7) := fun w7 ho7 hb7 => by
      obtain ⟨w8, m2, r8, hb8, hg8, ht8, hgr8, hcl8, ht7⟩ := (HHv.out.drew).lists_set (S := Blk (some ⟨sb, 0, none⟩)) HXo.out.b (s' := ⟨some ⟨sb, 0, none⟩, i + r, sc⟩) (l' := L.eraseIdx i) HSL.out hb7 (fun j hj => hj) ho7 (by rw [List.length_eraseIdx, HSn.out, if_pos (by omega)]; simp only; omega) (fun c hc => HFar.out c (List.mem_of_mem_eraseIdx hc)) (fun j hj => .inl hj)
      refine ⟨w8, m2, r8, hb8, ⟨hg8, (But.of (Below.refl _ _).drew).trans ht8, fun j hj => ?_⟩, hcl8, (But.of (Below.refl _ _).drew).trans ht7⟩
      rcases hgr8 j hj with h1 | h1
      · exact .inl h1
      · rcases HSL.out with hk | ⟨e, _, _⟩
        · exact .inl (.inr (.inl ⟨_, hk, h1⟩))
        · cases e
    have HS3 : Hid (∀ U, But (Owb m) V U → Bx U m.g m.cells → (U.rangeAt m.g 0 m.cells ∧ U.rangeAt w.heap.size 0 [.int .i64 xop, .int .i64 xb, .int .i64 xsz, .int .i64 xo, .int .u64 (xh : Int), .int .u64 (xl : Int), .bool xgv, .int .i64 xrt, .int .i64 xoff, .int .i64 xnn, .slice xda xdn xdc, .int .i64 (i : Int), .slice xga xgn xgc])) := fun U hU hx => ⟨hx.range, (HXa.out.but hU (fun hj => by have := HLt.out _ hj; omega)).range⟩
    have hwp : IntKind.i64.wrap ((i : Int) + 1) = (i : Int) + 1 := by rw [IntKind.wrap_i64]; have := HLn.out; have := HSn.out; omega
    have hgi2 : (i : Int) < (sn : Int) := hgi.2
    have hgi3 : i < sn := by omega
    have hgd3 : decide (i < sn) = true := decide_eq_true hgi3
    clear hok hdl hr hgi
    go_upto_region 3 with (first | (go_at_call 42; refine (isPlace_any _ _ _ _ _).mono ?_; rintro e w' ⟨rfl, hw'⟩; obtain rfl := hw'.symm; clear hw'))
    clear x11
    refine wp_region_held_drew (S := (fun U : World => U.rangeAt m.g 0 m.cells ∧ U.rangeAt w.heap.size 0 [.int .i64 xop, .int .i64 xb, .int .i64 xsz, .int .i64 xo, .int .u64 (xh : Int), .int .u64 (xl : Int), .bool xgv, .int .i64 xrt, .int .i64 xoff, .int .i64 xnn, .slice xda xdn xdc, .int .i64 (i : Int), .slice xga xgn xgc])) (by kernel_rfl) (HS3.out _ (But.of (Below.refl _ _).drew) HHv.out.drew.bw.bx) (fun hHeld => ?_)
    refine wpAnyH_norm (l2 := #[false, false, false, false, false, false, false, false, false, false, false, false, false, false]) (f2 := 14) (by kernel_rfl) (by kernel_rfl) ?_
    refine wpAnyH_take (i := 0) (oi := _) (v := ?_) rfl (by kernel_rfl) (by kernel_rfl) (by kernel_rfl) (fun _ _ _ h => h) (Or.inl ⟨by rfl, ?_⟩) (by assumption) ?_
    rotate_left
    · (intro w hSw; (try dsimp only at hSw); go_simp; try with_reducible rfl)
    simp only [List.getElem_toArray, List.getElem_cons_succ, List.getElem_cons_zero, Act.put, List.setIfInBounds_toArray, List.set_cons_zero, List.set_cons_succ]
    refine wpAnyH_norm (l2 := #[true, false, false, false, false, false, false, false, false, false, false, false, false, false]) (f2 := 13) (by kernel_rfl) (by kernel_rfl) ?_
    refine wpAnyH_take (i := 1) (oi := _) (v := ?_) rfl (by kernel_rfl) (by kernel_rfl) (by kernel_rfl) (fun _ _ _ h => h) (Or.inl ⟨by rfl, ?_⟩) (by assumption) ?_
    rotate_left
    · (intro w hSw; (try dsimp only at hSw); go_simp; try with_reducible rfl)
    simp only [List.getElem_toArray, List.getElem_cons_succ, List.getElem_cons_zero, Act.put, List.setIfInBounds_toArray, List.set_cons_zero, List.set_cons_succ]
    refine wpAnyH_norm (l2 := #[true, true, false, false, false, false, false, false, false, false, false, false, false, false]) (f2 := 12) (by kernel_rfl) (by kernel_rfl) ?_
    refine wpAnyH_take (i := 2) (oi := _) (v := ?_) rfl (by kernel_rfl) (by kernel_rfl) (by kernel_rfl) (fun _ _ _ h => h) (Or.inl ⟨by rfl, ?_⟩) (by assumption) ?_
    rotate_left
    · (intro w hSw; (try dsimp only at hSw); go_simp; try with_reducible rfl)
    simp only [List.getElem_toArray, List.getElem_cons_succ, List.getElem_cons_zero, Act.put, List.setIfInBounds_toArray, List.set_cons_zero, List.set_cons_succ]
    refine wpAnyH_norm (l2 := #[true, true, true, false, false, false, false, false, false, false, false, false, false, false]) (f2 := 11) (by kernel_rfl) (by kernel_rfl) ?_
    refine wpAnyH_take (i := 3) (oi := _) (v := ?_) rfl (by kernel_rfl) (by kernel_rfl) (by kernel_rfl) (fun _ _ _ h => h) (Or.inl ⟨by rfl, ?_⟩) (by assumption) ?_
    rotate_left
    · (intro w hSw; have z2 := rg_at (j := 2) hSw.1 rfl; go_simp; try with_reducible rfl)
    simp only [List.getElem_toArray, List.getElem_cons_succ, List.getElem_cons_zero, Act.put, List.setIfInBounds_toArray, List.set_cons_zero, List.set_cons_succ]
    refine wpAnyH_norm (l2 := #[true, true, true, true, false, false, false, false, false, false, false, false, false, false]) (f2 := 10) (by kernel_rfl) (by kernel_rfl) ?_
    refine wpAnyH_take (i := 4) (oi := _) (v := ?_) rfl (by kernel_rfl) (by kernel_rfl) (by kernel_rfl) (fun _ _ _ h => h) (Or.inl ⟨by rfl, ?_⟩) (by assumption) ?_
    rotate_left
    · (intro w hSw; (try dsimp only at hSw); go_simp; try with_reducible rfl)
    simp only [List.getElem_toArray, List.getElem_cons_succ, List.getElem_cons_zero, Act.put, List.setIfInBounds_toArray, List.set_cons_zero, List.set_cons_succ]
    refine wpAnyH_norm (l2 := #[true, true, true, true, true, false, false, false, false, false, false, false, false, false]) (f2 := 9) (by kernel_rfl) (by kernel_rfl) ?_
    refine wpAnyH_take (i := 5) (oi := _) (v := ?_) rfl (by kernel_rfl) (by kernel_rfl) (by kernel_rfl) (fun _ _ _ h => h) (Or.inl ⟨by rfl, ?_⟩) (by assumption) ?_
    rotate_left
    · (intro w hSw; have z1 := rg_at (j := 1) hSw.2 rfl; go_simp; try with_reducible rfl)
    simp only [List.getElem_toArray, List.getElem_cons_succ, List.getElem_cons_zero, Act.put, List.setIfInBounds_toArray, List.set_cons_zero, List.set_cons_succ]
    refine wpAnyH_norm (l2 := #[true, true, true, true, true, true, false, false, false, false, false, false, false, false]) (f2 := 8) (by kernel_rfl) (by kernel_rfl) ?_
    refine wpAnyH_take (i := 6) (oi := _) (v := ?_) rfl (by kernel_rfl) (by kernel_rfl) (by kernel_rfl) (fun _ _ _ h => h) (Or.inl ⟨by rfl, ?_⟩) (by assumption) ?_
    rotate_left
    · (intro w hSw; (try dsimp only at hSw); go_simp; try with_reducible rfl)
    simp only [List.getElem_toArray, List.getElem_cons_succ, List.getElem_cons_zero, Act.put, List.setIfInBounds_toArray, List.set_cons_zero, List.set_cons_succ]
    refine wpAnyH_norm (l2 := #[true, true, true, true, true, true, true, false, false, false, false, false, false, false]) (f2 := 7) (by kernel_rfl) (by kernel_rfl) ?_
    refine wpAnyH_take (i := 7) (oi := _) (v := ?_) rfl (by kernel_rfl) (by kernel_rfl) (by kernel_rfl) (fun _ _ _ h => h) (Or.inl ⟨by rfl, ?_⟩) (by assumption) ?_
    rotate_left
    · (intro w hSw; (try dsimp only at hSw); go_simp; try with_reducible rfl)
    simp only [List.getElem_toArray, List.getElem_cons_succ, List.getElem_cons_zero, Act.put, List.setIfInBounds_toArray, List.set_cons_zero, List.set_cons_succ]
    refine wpAnyH_norm (l2 := #[true, true, true, true, true, true, true, true, false, false, false, false, false, false]) (f2 := 6) (by kernel_rfl) (by kernel_rfl) ?_
    refine wpAnyH_take (i := 8) (oi := _) (v := ?_) rfl (by kernel_rfl) (by kernel_rfl) (by kernel_rfl) (fun _ _ _ h => h) (Or.inl ⟨by rfl, ?_⟩) (by assumption) ?_
    rotate_left
    · (intro w hSw; have z11 := rg_at (j := 11) hSw.2 rfl; go_simp; try with_reducible rfl)
    simp only [List.getElem_toArray, List.getElem_cons_succ, List.getElem_cons_zero, Act.put, List.setIfInBounds_toArray, List.set_cons_zero, List.set_cons_succ]
    refine wpAnyH_norm (l2 := #[true, true, true, true, true, true, true, true, true, false, false, false, false, false]) (f2 := 5) (by kernel_rfl) (by kernel_rfl) ?_
    refine wpAnyH_take (i := 9) (oi := _) (v := ?_) rfl (by kernel_rfl) (by kernel_rfl) (by kernel_rfl) (fun _ _ _ h => h) (Or.inl ⟨by rfl, ?_⟩) (by assumption) ?_
    rotate_left
    · (intro w hSw; (try dsimp only at hSw); go_simp; try with_reducible rfl)
    simp only [List.getElem_toArray, List.getElem_cons_succ, List.getElem_cons_zero, Act.put, List.setIfInBounds_toArray, List.set_cons_zero, List.set_cons_succ]
    refine wpAnyH_norm (l2 := #[true, true, true, true, true, true, true, true, true, true, false, false, false, false]) (f2 := 4) (by kernel_rfl) (by kernel_rfl) ?_
    refine wpAnyH_take (i := 10) (oi := _) (v := ?_) rfl (by kernel_rfl) (by kernel_rfl) (by kernel_rfl) (fun _ _ _ h => h) (Or.inl ⟨by rfl, ?_⟩) (by assumption) ?_
    rotate_left
    · (intro w hSw; have z11 := rg_at (j := 11) hSw.2 rfl; go_simp; try with_reducible rfl)
    simp only [List.getElem_toArray, List.getElem_cons_succ, List.getElem_cons_zero, Act.put, List.setIfInBounds_toArray, List.set_cons_zero, List.set_cons_succ]
    refine wpAnyH_norm (l2 := #[true, true, true, true, true, true, true, true, true, true, true, false, false, false]) (f2 := 3) (by kernel_rfl) (by kernel_rfl) ?_
    refine wpAnyH_take (i := 11) (oi := _) (v := ?_) rfl (by kernel_rfl) (by kernel_rfl) (by kernel_rfl) (fun _ _ _ h => h) (Or.inl ⟨by rfl, ?_⟩) (by assumption) ?_
    rotate_left
    · (intro w hSw; (try dsimp only at hSw); go_simp; try with_reducible rfl)
    simp only [List.getElem_toArray, List.getElem_cons_succ, List.getElem_cons_zero, Act.put, List.setIfInBounds_toArray, List.set_cons_zero, List.set_cons_succ]
    refine wpAnyH_norm (l2 := #[true, true, true, true, true, true, true, true, true, true, true, true, false, false]) (f2 := 2) (by kernel_rfl) (by kernel_rfl) ?_
    refine wpAnyH_ready (rs := [12]) (by kernel_rfl) (by simp) ?_
    refine AllReadyH.cons rfl (fun K hK => ?_) AllReadyH.nil
    go_simp
    go_wp2_with (first | (go_at_call 43; refine HDl.out.mono ?_; rintro e w7 ⟨rfl, ho7, hb7⟩))
    obtain ⟨w8, m2, r8, hb8, ht8, hcl8, ht7⟩ := HU.out w7 ho7 hb7
    have HR8 := hid r8
    have HB8 := hid hb8
    have HT8 := hid ht8
    have HBx7 : Hid (Bx w7 m.g m.cells) := (HHv.out.drew.bw.bx).but hb7 (fun hj => by obtain ⟨y, hy, e⟩ := hj; cases hy; have h3 := (HHv.out.drew.bw.lists.look HXo.out.b HSL.out).2.1.blk m.g ⟨_, rfl, e⟩; omega)
    have HBx8 : Hid (Bx w8 m.g m.cells) := by have := hb8.bw.bx; rw [hcl8, ht8.g] at this; exact this
    have HT7 := hid ht7
    clear r8 hb8 ht8 hcl8 ht7 ho7 hb7
    refine hK.out _ _ (HS3.out _ HT7.out HBx7.out) (fun hHeld => ?_)
    clear hK K
    simp only [List.getElem_toArray, List.getElem_cons_succ, List.getElem_cons_zero, Act.put, List.setIfInBounds_toArray, List.set_cons_zero, List.set_cons_succ]
    refine wpAnyH_norm (l2 := #[true, true, true, true, true, true, true, true, true, true, true, true, true, false]) (f2 := 1) (by kernel_rfl) (by kernel_rfl) ?_
    refine wpAnyH_ready (rs := [13]) (by kernel_rfl) (by simp) ?_
    refine AllReadyH.cons rfl (fun K hK => ?_) AllReadyH.nil
    refine wp_upd rfl rfl rfl rfl HR8.out ?_
    refine hK.out _ _ (HS3.out _ HT8.out.bt HBx8.out) (fun hHeld => ?_)
    clear hK K
    simp only [List.getElem_toArray, List.getElem_cons_succ, List.getElem_cons_zero, Act.put, List.setIfInBounds_toArray, List.set_cons_zero, List.set_cons_succ]
    refine wpAnyH_norm (l2 := #[true, true, true, true, true, true, true, true, true, true, true, true, true, true]) (f2 := 0) (by kernel_rfl) (by kernel_rfl) ?_
    refine wpAnyH_done (by kernel_rfl) ?_ _
    go_wp2
    exact bodyPost_end (v := .tuple #[]) (by simp [results, Try.results24, go_sem]) rfl ⟨rfl, m2, by rw [HBe.out]; exact HB8.out, Tr.fore HBV.out HT8.out⟩
  · have HBe : Hid (Bf = B) := by unfold Hid; rw [HBf.out, if_neg hgi]
    have hgd : decide (0 ≤ xix ∧ xix < (sn : Int)) = false := decide_eq_false hgi
    go_wp2_with (first | (go_at_call 42; refine (isPlace_any _ _ _ _ _).mono ?_; rintro e w' ⟨rfl, hw'⟩; obtain rfl := hw'.symm; clear hw'))
    exact bodyPost_end (v := .tuple #[]) (by simp [results, Try.results24, go_sem]) rfl ⟨rfl, m, by rw [HBe.out]; exact HHv.out, (Tr.refl w m).later HBV.out⟩
end Go.Proofs.Yticgammbjcdobaa
