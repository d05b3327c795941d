import Derived.Test.YticgammbjcdobaaQL
namespace Go.Proofs.Yticgammbjcdobaa
open Go.RowKit
set_option linter.unusedVariables false
set_option linter.unusedSimpArgs false
def needV (op : Int) : Int := if op = 2 then 16 else if op = 3 then 4 else if op = 4 then 8 else if op = 5 then 1 else if op = 6 then 2 else 0
theorem needed_any (op : Int) (w : World) : Calls Try.prog 29 #[.int .i64 op] w fun e w' => e = .returned (.int .i64 (needV op)) ∧ w' = w := by
  unfold needV
  by_cases e2 : op = 2
  · subst e2
    go_enter Try.func29, Try.ntmps29
    go_wp2
    go_ret
    exact ⟨rfl, rfl⟩
  by_cases e3 : op = 3
  · subst e3
    go_enter Try.func29, Try.ntmps29
    go_wp2
    go_ret
    exact ⟨rfl, rfl⟩
  by_cases e4 : op = 4
  · subst e4
    go_enter Try.func29, Try.ntmps29
    go_wp2
    go_ret
    exact ⟨rfl, rfl⟩
  by_cases e5 : op = 5
  · subst e5
    go_enter Try.func29, Try.ntmps29
    go_wp2
    go_ret
    exact ⟨rfl, rfl⟩
  by_cases e6 : op = 6
  · subst e6
    go_enter Try.func29, Try.ntmps29
    go_wp2
    go_ret
    exact ⟨rfl, rfl⟩
  rw [if_neg e2, if_neg e3, if_neg e4, if_neg e5, if_neg e6]
  have d2 : (op == 2) = false := by simp [e2]
  have d3 : (op == 3) = false := by simp [e3]
  have d4 : (op == 4) = false := by simp [e4]
  have d5 : (op == 5) = false := by simp [e5]
  have d6 : (op == 6) = false := by simp [e6]
  go_enter Try.func29, Try.ntmps29
  go_wp2
  go_ret
  exact ⟨rfl, rfl⟩
theorem ow_litC {w : World} {cs : List Value} (hl : cs.length = 3) : Ow (w.alloc (Obj.cells cs.toArray 31)) w.heap.size 31 3 (some ⟨w.heap.size, 0, none⟩) 1 1 cs := ⟨by rw [hl], .inr ⟨w.heap.size, 1, cs.toArray, rfl, Nat.le_refl _, Array.getElem?_push_size, Nat.le_refl _, by unfold maxLen; omega, by simp [hl], by simp [List.take_of_length_le (Nat.le_of_eq hl)]⟩⟩
def ofV (B : Bv) (x : Cq) : List Cp := if brB x.op x.gv = true then [x.c] else (B.lists x.b).filter (fun y => decide (y.o = x.c.o))
theorem ofV_len (B : Bv) (x : Cq) : (ofV B x).length ≤ (B.lists x.b).length + 1 := by
  unfold ofV
  split
  · simp
  · have := List.length_filter_le (fun y => decide (y.o = x.c.o)) (B.lists x.b)
    omega
def OfRel (V : World) (L : List Cp) (o : Int) (vk vl : Value) (U : World) : Prop :=
  ∃ (k : Nat) (la : Option Addr) (lc : Nat), vk = .int .i64 (k : Int) ∧ k ≤ L.length ∧ vl = .slice la ((L.take k).filter (fun y => decide (y.o = o))).length lc ∧ Ow U V.heap.size 31 3 la ((L.take k).filter (fun y => decide (y.o = o))).length lc (capsL ((L.take k).filter (fun y => decide (y.o = o)))) ∧ Below V.heap.size V U
set_option maxRecDepth 100000 in
set_option maxHeartbeats 8000000 in
theorem offered_bk (m : Bm) (B : Bv) (x : Cq) (w : World) (h : Bk w m B) (hx : x.ok) (hln : (B.lists x.b).length ≤ 100000000) :
    Calls Try.prog 30 #[.pointer (some ⟨m.g, 0, none⟩), x.v] w fun e w' => ∃ a c, e = .returned (.slice a (ofV B x).length c) ∧ Ow w' w.heap.size 31 3 a (ofV B x).length c (capsL (ofV B x)) ∧ Below w.heap.size w w' := by
  obtain ⟨W, hW⟩ : ∃ W, W = w.alloc (Obj.cells x.L.toArray 36) := ⟨_, rfl⟩
  have hB : Below w.heap.size w W := by rw [hW]; exact below1 _ _
  have HX0 : Hid (Bx W w.heap.size x.L) := by rw [hW]; exact Bx.new w x.L _
  obtain ⟨s, hs, hfar⟩ := h.lists.look x.b
  have hsn := (h.bw.lists.look hx.b hs).2.2
  have HBr : Hid (∀ U, Calls Try.prog 31 #[x.v] U fun e w' => e = .returned (.bool (brB x.op x.gv)) ∧ Below U.heap.size U w') := fun U => brings_any x.L x.op x.gv U rfl rfl
  have HLC : Hid (∀ U, Below W.heap.size W U → (Instr.loadAt 36 (.pointer (some ⟨w.heap.size, 0, none⟩))).run Try.prog U = .ok x.v U) := fun U hU => run_loadAt_mid U w.heap.size 0 36 x.L _ (HX0.out.later hU).range Try.underlying36 rfl (by kernel_rfl)
  have HLC0 : Hid ((Instr.loadAt 36 (.pointer (some ⟨w.heap.size, 0, none⟩))).run Try.prog W = .ok x.v W) := HLC.out W (Below.refl _ _)
  obtain ⟨L, hL⟩ : ∃ L, L = B.lists x.b := ⟨_, rfl⟩
  unfold ofV
  rw [← hL] at hs hfar hln hsn ⊢
  obtain ⟨sa, sn, sc⟩ := s
  simp only at hsn
  have HLk : Hid (∀ U, Below w.heap.size w U → (Instr.lookup 61 (.map (some m.bi)) (.int .i64 x.b) false).run Try.prog U = .ok (.slice sa sn sc) U) := fun U hU => ((h.bw.lists.later hU).look hx.b hs).1
  have HRow : Hid (∀ U, Below w.heap.size w U → Ow U (m.g + 1) 31 3 sa sn sc (capsL L)) := fun U hU => ((h.bw.lists.later hU).look hx.b hs).2.1
  have HLt := hid h.bw.own_lt
  have HH := hid h
  have HB := hid hB
  have HW := hid hW
  have HXo := hid hx
  have HSn := hid hsn
  have HLn := hid hln
  obtain ⟨xop, xb, xsz, ⟨xo, xh, xl⟩, xgv, xrt, xoff, xnn, ⟨xda, xdn, xdc⟩, xix, ⟨xga, xgn, xgc⟩⟩ := x
  simp only at HX0 HW HLk HBr HLC HLC0 ⊢
  clear h hB hW hx hs hfar hln hsn hL
  cases hbr : brB xop xgv with
  | true =>
    rw [hbr] at HBr
    rw [if_pos rfl]
    go_enter Try.func30, Try.ntmps30
    go_upto_region 1 with fail
    rw [← HW.out]
    go_upto_region 2 with (first | ((with_reducible refine ld_arm HLC0.out ?_ ?_); (· rfl)) | (go_at_call 31; refine (HBr.out _).mono ?_; rintro e w2 ⟨rfl, hb2⟩; have HB2 := hid hb2; clear hb2))
    have HX2 := hid (HX0.out.later HB2.out)
    have x3 := HX2.out.cell 3 rfl
    have x4 := HX2.out.cell 4 rfl
    have x5 := HX2.out.cell 5 rfl
    go_wp2
    have hb3 : Below w.heap.size w w2 := below_call HB.out HB2.out
    exact bodyPost_ret (v := .slice (some ⟨w2.heap.size, 0, none⟩) 1 1) (by simp [results, Try.results30, go_sem]) rfl ⟨some ⟨w2.heap.size, 0, none⟩, 1, rfl, by
      have := ow_litC (w := w2) (cs := [.int .i64 xo, .int .u64 (xh : Int), .int .u64 (xl : Int)]) rfl
      exact (this.mono hb3.size), below_call hb3 (below1 _ _)⟩
  | false =>
    rw [hbr] at HBr
    rw [if_neg (by simp)]
    go_enter Try.func30, Try.ntmps30
    go_upto_region 1 with fail
    rw [← HW.out]
    go_upto_region 4 with (first | ((with_reducible refine ld_arm HLC0.out ?_ ?_); (· rfl)) | (go_at_call 31; refine (HBr.out _).mono ?_; rintro e w2 ⟨rfl, hb2⟩; have HB2 := hid hb2; clear hb2))
    have HBw2 : Hid (Below w.heap.size w w2) := below_call HB.out HB2.out
    have HS : Hid (∀ U, Below w2.heap.size w2 U → (U.rangeAt m.g 0 m.cells ∧ U.rangeAt w.heap.size 0 [.int .i64 xop, .int .i64 xb, .int .i64 xsz, .int .i64 xo, .int .u64 (xh : Int), .int .u64 (xl : Int), .bool xgv, .int .i64 xrt, .int .i64 xoff, .int .i64 xnn, .slice xda xdn xdc, .int .i64 xix, .slice xga xgn xgc] ∧ (Instr.lookup 61 (.map (some m.bi)) (.int .i64 xb) false).run Try.prog U = .ok (.slice sa sn sc) U)) := fun U hU => ⟨((HH.out.later HBw2.out).bw.bx.later hU).range, ((HX0.out.later HB2.out).later hU).range, HLk.out _ (below_call HBw2.out hU)⟩
    refine wp_region_held_drew (S := (fun U : World => U.rangeAt m.g 0 m.cells ∧ U.rangeAt w.heap.size 0 [.int .i64 xop, .int .i64 xb, .int .i64 xsz, .int .i64 xo, .int .u64 (xh : Int), .int .u64 (xl : Int), .bool xgv, .int .i64 xrt, .int .i64 xoff, .int .i64 xnn, .slice xda xdn xdc, .int .i64 xix, .slice xga xgn xgc] ∧ (Instr.lookup 61 (.map (some m.bi)) (.int .i64 xb) false).run Try.prog U = .ok (.slice sa sn sc) U)) (by kernel_rfl) (HS.out _ (Below.refl _ _).drew) (fun hHeld => ?_)
    refine wpAnyH_norm (l2 := #[false, false, false, false, false, false, false, false, false]) (f2 := 9) (by kernel_rfl) (by kernel_rfl) ?_
    refine wpAnyH_take (i := 0) (oi := _) (v := ?_) rfl (by kernel_rfl) (by kernel_rfl) (by kernel_rfl) (fun _ _ _ h => h) (Or.inl ⟨by rfl, ?_⟩) (by assumption) ?_
    rotate_left
    · (intro w hSw; (try dsimp only at hSw); go_simp; try with_reducible rfl)
    simp only [List.getElem_toArray, List.getElem_cons_succ, List.getElem_cons_zero, Act.put, List.setIfInBounds_toArray, List.set_cons_zero, List.set_cons_succ]
    refine wpAnyH_norm (l2 := #[true, false, false, false, false, false, false, false, false]) (f2 := 8) (by kernel_rfl) (by kernel_rfl) ?_
    refine wpAnyH_take (i := 1) (oi := _) (v := ?_) rfl (by kernel_rfl) (by kernel_rfl) (by kernel_rfl) (fun _ _ _ h => h) (Or.inl ⟨by rfl, ?_⟩) (by assumption) ?_
    rotate_left
    · (intro w hSw; (try dsimp only at hSw); go_simp; try with_reducible rfl)
    simp only [List.getElem_toArray, List.getElem_cons_succ, List.getElem_cons_zero, Act.put, List.setIfInBounds_toArray, List.set_cons_zero, List.set_cons_succ]
    refine wpAnyH_norm (l2 := #[true, true, false, false, false, false, false, false, false]) (f2 := 7) (by kernel_rfl) (by kernel_rfl) ?_
    refine wpAnyH_take (i := 2) (oi := _) (v := ?_) rfl (by kernel_rfl) (by kernel_rfl) (by kernel_rfl) (fun _ _ _ h => h) (Or.inl ⟨by rfl, ?_⟩) (by assumption) ?_
    rotate_left
    · (intro w hSw; (try dsimp only at hSw); go_simp; try with_reducible rfl)
    simp only [List.getElem_toArray, List.getElem_cons_succ, List.getElem_cons_zero, Act.put, List.setIfInBounds_toArray, List.set_cons_zero, List.set_cons_succ]
    refine wpAnyH_norm (l2 := #[true, true, true, false, false, false, false, false, false]) (f2 := 6) (by kernel_rfl) (by kernel_rfl) ?_
    refine wpAnyH_take (i := 3) (oi := _) (v := ?_) rfl (by kernel_rfl) (by kernel_rfl) (by kernel_rfl) (fun _ _ _ h => h) (Or.inl ⟨by rfl, ?_⟩) (by assumption) ?_
    rotate_left
    · (intro w hSw; have z2 := rg_at (j := 2) hSw.1 rfl; go_simp; try with_reducible rfl)
    simp only [List.getElem_toArray, List.getElem_cons_succ, List.getElem_cons_zero, Act.put, List.setIfInBounds_toArray, List.set_cons_zero, List.set_cons_succ]
    refine wpAnyH_norm (l2 := #[true, true, true, true, false, false, false, false, false]) (f2 := 5) (by kernel_rfl) (by kernel_rfl) ?_
    refine wpAnyH_take (i := 4) (oi := _) (v := ?_) rfl (by kernel_rfl) (by kernel_rfl) (by kernel_rfl) (fun _ _ _ h => h) (Or.inl ⟨by rfl, ?_⟩) (by assumption) ?_
    rotate_left
    · (intro w hSw; (try dsimp only at hSw); go_simp; try with_reducible rfl)
    simp only [List.getElem_toArray, List.getElem_cons_succ, List.getElem_cons_zero, Act.put, List.setIfInBounds_toArray, List.set_cons_zero, List.set_cons_succ]
    refine wpAnyH_norm (l2 := #[true, true, true, true, true, false, false, false, false]) (f2 := 4) (by kernel_rfl) (by kernel_rfl) ?_
    refine wpAnyH_take (i := 5) (oi := _) (v := ?_) rfl (by kernel_rfl) (by kernel_rfl) (by kernel_rfl) (fun _ _ _ h => h) (Or.inl ⟨by rfl, ?_⟩) (by assumption) ?_
    rotate_left
    · (intro w hSw; have z1 := rg_at (j := 1) hSw.2.1 rfl; go_simp; try with_reducible rfl)
    simp only [List.getElem_toArray, List.getElem_cons_succ, List.getElem_cons_zero, Act.put, List.setIfInBounds_toArray, List.set_cons_zero, List.set_cons_succ]
    refine wpAnyH_norm (l2 := #[true, true, true, true, true, true, false, false, false]) (f2 := 3) (by kernel_rfl) (by kernel_rfl) ?_
    refine wpAnyH_take (i := 6) (oi := _) (v := .slice sa sn sc) rfl (by kernel_rfl) (by kernel_rfl) (by kernel_rfl) (fun _ _ _ h => h) (Or.inl ⟨by rfl, ?_⟩) (by assumption) ?_
    · (intro w hSw; (try dsimp only at hSw); exact ex_lk rfl rfl rfl hSw.2.2)
    simp only [List.getElem_toArray, List.getElem_cons_succ, List.getElem_cons_zero, Act.put, List.setIfInBounds_toArray, List.set_cons_zero, List.set_cons_succ]
    refine wpAnyH_norm (l2 := #[true, true, true, true, true, true, true, false, false]) (f2 := 2) (by kernel_rfl) (by kernel_rfl) ?_
    refine wpAnyH_take (i := 7) (oi := _) (v := ?_) rfl (by kernel_rfl) (by kernel_rfl) (by kernel_rfl) (fun _ _ _ h => h) (Or.inl ⟨by rfl, ?_⟩) (by assumption) ?_
    rotate_left
    · (intro w hSw; (try dsimp only at hSw); go_simp; try with_reducible rfl)
    simp only [List.getElem_toArray, List.getElem_cons_succ, List.getElem_cons_zero, Act.put, List.setIfInBounds_toArray, List.set_cons_zero, List.set_cons_succ]
    refine wpAnyH_norm (l2 := #[true, true, true, true, true, true, true, true, false]) (f2 := 1) (by kernel_rfl) (by kernel_rfl) ?_
    refine wpAnyH_take (i := 8) (oi := _) (v := ?_) rfl (by kernel_rfl) (by kernel_rfl) (by kernel_rfl) (fun _ _ _ h => h) (Or.inl ⟨by rfl, ?_⟩) (by assumption) ?_
    rotate_left
    · (intro w hSw; (try dsimp only at hSw); go_simp; try with_reducible rfl)
    simp only [List.getElem_toArray, List.getElem_cons_succ, List.getElem_cons_zero, Act.put, List.setIfInBounds_toArray, List.set_cons_zero, List.set_cons_succ]
    refine wpAnyH_norm (l2 := #[true, true, true, true, true, true, true, true, true]) (f2 := 0) (by kernel_rfl) (by kernel_rfl) ?_
    refine wpAnyH_done (by kernel_rfl) ?_ _
    obtain ⟨V, hV⟩ : ∃ V, V = w2.drew := ⟨_, rfl⟩
    have HBV : Hid (Below w.heap.size w V) := by rw [hV]; exact HBw2.out.drew
    have HXa : Hid (Bx V w.heap.size [.int .i64 xop, .int .i64 xb, .int .i64 xsz, .int .i64 xo, .int .u64 (xh : Int), .int .u64 (xl : Int), .bool xgv, .int .i64 xrt, .int .i64 xoff, .int .i64 xnn, .slice xda xdn xdc, .int .i64 xix, .slice xga xgn xgc]) := by rw [hV]; exact (HX0.out.later HB2.out).later (Below.refl _ _).drew
    rw [← hV]
    clear hV HX0 HS HLk HB HW HB2 HBw2 HLC HLC0 HBr
    have hsl : (sn : Int) ≤ 100000000 := by have := HSn.out; have := HLn.out; omega
    go_wp2
    go_loopw [21, 5] (OfRel V L xo) (fun i _ _ => L.length - ivN i)
    case atStart => exact ⟨0, none, 0, rfl, Nat.zero_le _, rfl, Ow.nil _ _ _ _, Below.refl _ _⟩
    case round =>
      obtain ⟨k, la, lc, rfl, hk, rfl, ho1, hb1⟩ := hrel
      have HO1 := hid ho1
      have HBe := hid hb1
      have HBw := hid (below_call HBV.out hb1)
      have HXa1 := hid (HXa.out.later hb1)
      clear ho1 hb1
      by_cases hkN : k < L.length
      · have hkx : (k : Int) < (sn : Int) := by have := HSn.out; omega
        have hkx2 : k < sn := by omega
        have hlt : decide ((k : Int) < (sn : Int)) = true := by simp; omega
        obtain ⟨⟨c0o, c0h, c0l⟩, hc0⟩ : ∃ c0, L[k]? = some c0 := ⟨_, List.getElem?_eq_getElem hkN⟩
        have hok := HRow.out wr HBw.out
        obtain ⟨sb, hsb⟩ := hok.some_of (by omega)
        subst hsb
        have r0 := hok.cells rfl
        obtain ⟨q0, q1, q2⟩ := capsL_at hc0
        have z0 := rg_at r0 q0
        have z1 := rg_at r0 q1
        have z2 := rg_at r0 q2
        have HTk : Hid (L.take (k + 1) = L.take k ++ [⟨c0o, c0h, c0l⟩]) := by
          unfold Hid
          rw [List.take_succ_eq_append_getElem hkN]
          rw [← (List.getElem?_eq_some_iff.1 hc0).2]
        have HFl : Hid (((L.take k).filter (fun y => decide (y.o = xo))).length + 1 ≤ 1000000000) := by
          have h1 := List.length_filter_le (fun y : Cp => decide (y.o = xo)) (L.take k)
          rw [List.length_take] at h1
          have h2 := HLn.out
          unfold Hid
          omega
        clear hok r0 q0 q1 q2 hc0
        generalize hT1 : L.take (k + 1) = T1 at HTk
        have HT1 := hid hT1
        clear hT1
        generalize hFk : (L.take k).filter (fun y => decide (y.o = xo)) = Fk at HO1 HFl ⊢
        have HFk := hid hFk
        clear hFk
        go_upto_region 7 with fail
        clear z0 z1 z2
        obtain ⟨V1, hV1⟩ : ∃ V1, V1 = wr.alloc (Obj.cells #[.int .i64 c0o, .int .u64 (c0h : Int), .int .u64 (c0l : Int)] 31) := ⟨_, rfl⟩
        rw [← hV1]
        obtain ⟨kx, hkx3⟩ : ∃ k, k = wr.heap.size := ⟨_, rfl⟩
        rw [← hkx3]
        have hbe1 : Below wr.heap.size wr V1 := by rw [hV1]; exact below1 _ _
        have HXc : Hid (Bx V1 kx [.int .i64 c0o, .int .u64 (c0h : Int), .int .u64 (c0l : Int)]) := by rw [hkx3, hV1]; exact Bx.new wr [.int .i64 c0o, .int .u64 (c0h : Int), .int .u64 (c0l : Int)] _
        have HBe1 := hid hbe1
        have x3 := (HXa1.out.later hbe1).cell 3 rfl
        have c0 := HXc.out.cell 0 rfl
        have c1 := HXc.out.cell 1 rfl
        have c2 := HXc.out.cell 2 rfl
        by_cases heq : c0o = xo
        · subst heq
          have hFl := HFl.out
          obtain ⟨a', c', w7, r7, o7, b7, n7⟩ := ow_snoc9 26 31 _ 3 24 Try.underlying26 infoC3 rfl (by omega) (w := V1) (cs := [.int .i64 c0o, .int .u64 (c0h : Int), .int .u64 (c0l : Int)]) (HO1.out.later hbe1) rfl (one3 _ _ _) (Nat.le_trans HBe.out.size hbe1.size) hFl (by omega)
          have HR7 : Hid ((Builtin.append_ #[26, 26] 26 #[.slice la Fk.length lc, .slice (some ⟨V1.heap.size, 0, none⟩) 1 1]).run Try.prog (V1.alloc (Obj.cells #[.int .i64 c0o, .int .u64 (c0h : Int), .int .u64 (c0l : Int)] 31)) = .ok (.slice a' (Fk.length + 1) c') w7) := r7
          have HO7 : Hid (Ow w7 V.heap.size 31 3 a' (Fk.length + 1) c' (capsL (Fk ++ [⟨c0o, c0h, c0l⟩]))) := by unfold Hid; simpa [capsL, encC] using o7
          have HB7 : Hid (Below V.heap.size V w7) := But.below (below_call HBe.out hbe1) b7 (fun j hj => (HO1.out.blk j hj).1)
          have hq : (c0o == c0o) = true := by simp
          clear hbe1 r7 o7 b7 n7 hkx3 hV1 hFl
          go_wp2_with (first | (at_builtin; refine wpList_append_known rfl _ _ 26 rfl _ _ rfl rfl _ w7 HR7.out ?_))
          have hfin : T1.filter (fun y => decide (y.o = c0o)) = Fk ++ [⟨c0o, c0h, c0l⟩] := by rw [HTk.out, List.filter_append, HFk.out]; simp
          refine ⟨⟨k + 1, a', c', rfl, by omega, ?_⟩, by simp [ivN]; omega⟩
          rw [HT1.out, hfin]
          simp only [List.length_append, List.length_singleton]
          exact ⟨by trivial, HO7.out, HB7.out⟩
        · have hq : (c0o == xo) = false := by simp [heq]
          have HV1 : Hid (Below V.heap.size V V1) := below_call HBe.out hbe1
          clear hbe1 hkx3 hV1
          go_wp2
          have hfin : T1.filter (fun y => decide (y.o = xo)) = Fk := by rw [HTk.out, List.filter_append, HFk.out]; simp [heq]
          refine ⟨⟨k + 1, la, lc, rfl, by omega, ?_⟩, by simp [ivN]; omega⟩
          rw [HT1.out, hfin]
          exact ⟨rfl, HO1.out.later HBe1.out, HV1.out⟩
      · obtain rfl : sn = k := by have := HSn.out; omega
        have hlt : decide ((sn : Int) < (sn : Int)) = false := by simp
        have hfull : L.take sn = L := List.take_of_length_le (by omega)
        rw [hfull] at HO1
        simp only [hfull]
        clear hfull
        go_wp2
        exact bodyPost_ret (v := .slice la (L.filter (fun y => decide (y.o = xo))).length lc) (by simp [results, Try.results30, go_sem]) rfl ⟨la, lc, rfl, HO1.out.mono HBV.out.size, HBw.out⟩
theorem rights_bk (m : Bm) (B : Bv) (c : Cp) (w : World) (h : Bk w m B) (hc : c.far) :
    ∃ r ok, I64 r ∧ (r, ok) = (match B.live c.o (c.h, c.l) with | some t => (t.r, true) | none => (0, false)) ∧ ∀ U, Below w.heap.size w U → Calls Try.prog 15 #[.pointer (some ⟨m.g, 0, none⟩), capV c] U fun e w' => e = .returned (.tuple #[.int .i64 r, .bool ok]) ∧ Below U.heap.size U w' := by
  rcases h.live.look c.o (c.h, c.l) (fun j _ e => wk_inj e) with ⟨hn, hg⟩ | ⟨t, v, hs, hr, hg⟩
  · rw [hn]
    exact ⟨0, false, by constructor <;> omega, rfl, fun U hU => rights_any m c tn0 false U (h.bw.later hU) hc ⟨hg, fun _ => rfl⟩⟩
  · rw [hs]
    obtain ⟨rfl, h1, h2, h3, h4, h5, h6⟩ := hr
    exact ⟨t.r, true, h5, rfl, fun U hU => rights_any m c t true U (h.bw.later hU) hc ⟨hg, fun e => by cases e⟩⟩
theorem infoCq : (Try.prog.info? 31).map (·.size) = some 3 := by kernel_rfl
theorem stCq {w : World} {b o : Nat} {L : List Value} (h : w.there b o 3) (hl : L.length = 3) (h1 : ∀ v ∈ L, v.oneCell' = true) : (Instr.storeAt 31 (.pointer (some ⟨b, o, none⟩)) (.agg L.toArray)).run Try.prog w = .ok () (w.setCells b o L) :=
  run_storeAt_mid w b o 31 L.toArray (by simpa [hl] using h) (by rw [infoCq]; simp [hl]) (all_oneCell_toArray h1)
theorem lvCq {w : World} {b o : Nat} {L : List Value} (h : w.rangeAt b o L) (hl : L.length = 3) : (loadVar 31 ⟨b, o, none⟩).run Try.prog w = .ok (.agg L.toArray) w :=
  run_loadVar_mid w b o 31 L _ h Try.underlying31 rfl (by rw [infoCq, hl])
def ShRel (W : World) (n : Nat) (v : Value) (U : World) : Prop := ∃ k : Nat, v = .int .i64 (k : Int) ∧ k ≤ n ∧ Below W.heap.size W U
set_option maxRecDepth 100000 in
set_option maxHeartbeats 8000000 in
theorem shown_bk (m : Bm) (B : Bv) (x : Cq) (w : World) (h : Bk w m B) (hx : x.ok) (hln : (B.lists x.b).length ≤ 100000000) :
    Calls Try.prog 13 #[.pointer (some ⟨m.g, 0, none⟩), x.v] w fun e w' => (∃ v b, e = .returned (.tuple #[v, .bool b])) ∧ Below w.heap.size w w' := by
  obtain ⟨W, hW⟩ : ∃ W, W = (w.alloc (Obj.cells x.L.toArray 36)).alloc (Obj.cells #[.int .i64 0, .int .u64 0, .int .u64 0] 31) := ⟨_, rfl⟩
  have hB : Below w.heap.size w W := by rw [hW]; exact below2 _ _ _
  have HX0 : Hid (Bx W w.heap.size x.L) := by rw [hW]; exact (Bx.new w x.L _).later (below1 _ _)
  have HX1 : Hid (Bx W (w.heap.size + 1) [.int .i64 0, .int .u64 0, .int .u64 0]) := by rw [hW]; have := Bx.new (w.alloc (Obj.cells x.L.toArray 36)) [.int .i64 0, .int .u64 0, .int .u64 0] 31; simp at this; exact this
  have x0 := HX0.out.cell 0 rfl
  have HOf : Hid (∀ U, Below w.heap.size w U → Calls Try.prog 30 #[.pointer (some ⟨m.g, 0, none⟩), x.v] U fun e w' => ∃ a c, e = .returned (.slice a (ofV B x).length c) ∧ Ow w' U.heap.size 31 3 a (ofV B x).length c (capsL (ofV B x)) ∧ Below U.heap.size U w') := fun U hU => offered_bk m B x U (h.later hU) hx hln
  have HLC0 : Hid ((Instr.loadAt 36 (.pointer (some ⟨w.heap.size, 0, none⟩))).run Try.prog W = .ok x.v W) := run_loadAt_mid W w.heap.size 0 36 x.L _ HX0.out.range Try.underlying36 rfl (by kernel_rfl)
  have HNd : Hid (∀ U, Calls Try.prog 29 #[.int .i64 x.op] U fun e w' => e = .returned (.int .i64 (needV x.op)) ∧ U = w') := fun U => (needed_any x.op U).mono (fun e w' h => ⟨h.1, h.2.symm⟩)
  have HFar : Hid (∀ y ∈ ofV B x, y.far) := fun y hy => by
    unfold ofV at hy
    split at hy
    · rw [List.mem_singleton.1 hy]
      exact hx.c
    · obtain ⟨s, _, hf⟩ := h.lists.look x.b
      exact hf y (List.mem_filter.1 hy).1
  have HLen : Hid ((ofV B x).length ≤ 100000001) := by have := ofV_len B x; unfold Hid; omega
  have HRt : Hid (∀ y : Cp, y.far → ∃ r ok, I64 r ∧ ∀ U, Below w.heap.size w U → Calls Try.prog 15 #[.pointer (some ⟨m.g, 0, none⟩), capV y] U fun e w' => e = .returned (.tuple #[.int .i64 r, .bool ok]) ∧ Below U.heap.size U w') := fun y hy => by
    obtain ⟨r, ok, h1, _, h2⟩ := rights_bk m B y w h hy
    exact ⟨r, ok, h1, h2⟩
  have HB := hid hB
  have HW := hid hW
  generalize ofV B x = L at HOf HFar HLen
  generalize needV x.op = nd at HNd
  obtain ⟨xop, xb, xsz, ⟨xo, xh, xl⟩, xgv, xrt, xoff, xnn, ⟨xda, xdn, xdc⟩, xix, ⟨xga, xgn, xgc⟩⟩ := x
  simp only at HX0 HW HLC0 HOf HNd ⊢
  clear h hB hW hx hln
  go_enter Try.func13, Try.ntmps13
  go_upto_region 1 with fail
  rw [← HW.out]
  go_wp2_with (first | (go_at_call 29; refine (HNd.out _).mono ?_; rintro e w2 ⟨rfl, rfl⟩) | ((with_reducible refine ld_arm HLC0.out ?_ ?_); (· rfl)) | (go_at_call 30; refine (HOf.out _ HB.out).mono ?_; rintro e V ⟨oa, oc, rfl, how, hbe⟩; have HO := hid how; have HBV := hid (below_call HB.out hbe); have HBx := hid hbe; clear how hbe))
  clear x0
  obtain ⟨n, hn⟩ : ∃ n, n = L.length := ⟨_, rfl⟩
  have HOn : Hid (Ow V W.heap.size 31 3 oa n oc (capsL L)) := by rw [hn]; exact HO.out
  rw [← hn]
  have HNl := hid hn
  have HXb := hid (HX1.out.later HBx.out)
  have hnl : (n : Int) ≤ 100000001 := by have := HLen.out; omega
  clear hn HO
  go_loopw [18] (ShRel V n) (fun v _ => n - ivN v)
  case atStart => exact ⟨0, rfl, Nat.zero_le _, Below.refl _ _⟩
  case round =>
    obtain ⟨k, rfl, hk, hb1⟩ := hrel
    have HB1 := hid hb1
    have HBw := hid (below_call HBV.out hb1)
    have HO1 := hid (HOn.out.later hb1)
    have HXb1 := hid (HXb.out.later hb1)
    clear hb1
    by_cases hkN : k < n
    · have hkx : (k : Int) < (n : Int) := by omega
      have hlt : decide ((k : Int) < (n : Int)) = true := by simp; omega
      obtain ⟨⟨c0o, c0h, c0l⟩, hc0⟩ : ∃ c0, L[k]? = some c0 := ⟨_, List.getElem?_eq_getElem (by have := HNl.out; omega)⟩
      obtain ⟨sb, hsb⟩ := HO1.out.some_of (by omega)
      subst hsb
      have r0 := HO1.out.cells rfl
      obtain ⟨q0, q1, q2⟩ := capsL_at hc0
      have z0 := rg_at r0 q0
      have z1 := rg_at r0 q1
      have z2 := rg_at r0 q2
      obtain ⟨rr, ok, hri, hrc⟩ := HRt.out _ (HFar.out _ (List.mem_of_getElem? hc0))
      have HRc := hid hrc
      clear r0 q0 q1 q2 hc0 hrc
      go_upto_region 5 with fail
      clear z0 z1 z2
      obtain ⟨V1, hV1⟩ : ∃ V1, V1 = wr.alloc (Obj.cells #[.int .i64 c0o, .int .u64 (c0h : Int), .int .u64 (c0l : Int)] 31) := ⟨_, rfl⟩
      rw [← hV1]
      obtain ⟨kx, hkx3⟩ : ∃ k, k = wr.heap.size := ⟨_, rfl⟩
      rw [← hkx3]
      have hbe1 : Below wr.heap.size wr V1 := by rw [hV1]; exact below1 _ _
      have HXc : Hid (Bx V1 kx [.int .i64 c0o, .int .u64 (c0h : Int), .int .u64 (c0l : Int)]) := by rw [hkx3, hV1]; exact Bx.new wr [.int .i64 c0o, .int .u64 (c0h : Int), .int .u64 (c0l : Int)] _
      have HBe1 := hid hbe1
      have HBw1 := hid (below_call HBw.out hbe1)
      have HXb2 := hid (HXb1.out.later hbe1)
      clear hbe1 hkx3 hV1
      have c0 := HXc.out.cell 0 rfl
      have c1 := HXc.out.cell 1 rfl
      have c2 := HXc.out.cell 2 rfl
      go_upto_region 6 with (first | (go_at_call 15; refine (HRc.out _ HBw1.out).mono ?_; rintro e w5 ⟨rfl, hb5⟩; have HB5 := hid hb5; clear hb5))
      clear c0 c1 c2
      have HXc5 := hid (HXc.out.later HB5.out)
      have c0 := HXc5.out.cell 0 rfl
      have c1 := HXc5.out.cell 1 rfl
      have c2 := HXc5.out.cell 2 rfl
      have HXb5 := hid (HXb2.out.later HB5.out)
      have HSt := hid (stCq (L := [.int .i64 c0o, .int .u64 (c0h : Int), .int .u64 (c0l : Int)]) HXb5.out.there rfl (one3 _ _ _))
      have HXs := hid (HXb5.out.set (M := [.int .i64 c0o, .int .u64 (c0h : Int), .int .u64 (c0l : Int)]) rfl)
      have HBs : Hid (Below w.heap.size w (w5.setCells (w.heap.size + 1) 0 [.int .i64 c0o, .int .u64 (c0h : Int), .int .u64 (c0l : Int)])) := But.below (below_call HBw1.out HB5.out) (setCells_but (S := (· = w.heap.size + 1)) rfl _ 0 (But.refl _ _)) (fun k hk => by omega)
      have HV5 : Hid (Below V.heap.size V w5) := below_call (below_call HB1.out HBe1.out) HB5.out
      cases ok with
      | false =>
        go_wp2
        exact ⟨⟨k + 1, rfl, by omega, HV5.out⟩, by simp [ivN]; omega⟩
      | true =>
        go_wp2_with (first | ((with_reducible refine st_arm HSt.out ?_ ?_ ?_); (· rfl); (· rfl)))
        all_goals first | exact ⟨⟨k + 1, rfl, by omega, HV5.out⟩, by simp [ivN]; omega⟩ | (have hlv := lvCq HXs.out.range rfl; exact bodyPost_ret (v := .tuple #[.agg #[.int .i64 c0o, .int .u64 (c0h : Int), .int .u64 (c0l : Int)], .bool true]) (by simp [results, Try.results13, asAddr, Act.put, hlv]) rfl ⟨⟨_, _, rfl⟩, HBs.out⟩)
    · obtain rfl : k = n := by omega
      have hlt : decide ((k : Int) < (k : Int)) = false := by simp
      have HSt := hid (stCq (L := [.int .i64 0, .int .u64 0, .int .u64 0]) HXb1.out.there rfl (one3 _ _ _))
      have HXs := hid (HXb1.out.set (M := [.int .i64 0, .int .u64 0, .int .u64 0]) rfl)
      have HBs : Hid (Below w.heap.size w (wr.setCells (w.heap.size + 1) 0 [.int .i64 0, .int .u64 0, .int .u64 0])) := But.below HBw.out (setCells_but (S := (· = w.heap.size + 1)) rfl _ 0 (But.refl _ _)) (fun k hk => by omega)
      go_wp2_with (first | ((with_reducible refine st_arm HSt.out ?_ ?_ ?_); (· rfl); (· rfl)))
      have hlv := lvCq HXs.out.range rfl
      exact bodyPost_ret (v := .tuple #[.agg #[.int .i64 0, .int .u64 0, .int .u64 0], .bool false]) (by simp [results, Try.results13, asAddr, Act.put, hlv]) rfl ⟨⟨_, _, rfl⟩, HBs.out⟩
end Go.Proofs.Yticgammbjcdobaa
