import Derived.Test.YticgammbjcdobaaNT
namespace Go.Proofs.Yticgammbjcdobaa
open Go.RowKit
set_option linter.unusedVariables false
set_option linter.unusedSimpArgs false
/-- A telling in memory, and those ahead of it: its own link first. -/
def Tls (w : World) : Option Addr → List Lk → Prop
  | p, [] => p = none
  | p, x :: ls => ∃ k ah, p = some ⟨k, 0, none⟩ ∧ Tyd w k x.s x.kd x.b x.t x.c ah ∧ Tls w ah ls
theorem Tls.later {w w' : World} (hb : Below w.heap.size w w') : ∀ {ls : List Lk} {p : Option Addr}, Tls w p ls → Tls w' p ls
  | [], p, h => h
  | x :: ls, p, ⟨k, ah, e, ht, hr⟩ => ⟨k, ah, e, ht.but (S := fun _ => False) (But.of hb) (fun h => h), hr.later hb⟩
def ChRel (w : World) (ls : List Lk) (p o : Value) (U : World) : Prop :=
  ∃ (i : Nat) (p' : Option Addr) (a : Option Addr) (c : Nat), p = .pointer p' ∧ o = .slice a i c ∧ i ≤ ls.length ∧ Tls U p' (ls.drop i) ∧ Ow U w.heap.size 46 7 a i c (lksL (ls.take i)) ∧ Below w.heap.size w U
def slN : Value → Nat
  | .slice _ n _ => n
  | _ => 0
set_option maxRecDepth 100000 in
set_option maxHeartbeats 2000000 in
theorem chain_any (p : Option Addr) (ls : List Lk) (w : World) (h : Tls w p ls) (hn : ls.length < 100000) :
    Calls Try.prog 28 #[.pointer p] w fun e w' => ∃ a' c', e = .returned (.slice a' ls.length c') ∧ Ow w' w.heap.size 46 7 a' ls.length c' (lksL ls.reverse) ∧ Below w.heap.size w w' := by
  have HT := hid h
  clear h
  go_enter Try.func28, Try.ntmps28
  go_wp2
  go_loopw [0, 3] (ChRel w ls) (fun _ o _ => ls.length - slN o)
  case atStart => exact ⟨0, p, none, 0, rfl, rfl, Nat.zero_le _, HT.out, Ow.nil _ _ _ _, Below.refl _ _⟩
  case round =>
    obtain ⟨i, p', a, c, rfl, rfl, hi, hT, hO, hB⟩ := hrel
    by_cases hlt : i < ls.length
    · obtain ⟨x, hx⟩ : ∃ x, ls[i]? = some x := ⟨_, List.getElem?_eq_getElem hlt⟩
      have hd : ls.drop i = x :: ls.drop (i + 1) := by rw [List.drop_eq_getElem_cons hlt]; congr 1; rw [List.getElem?_eq_getElem hlt] at hx; exact Option.some.inj hx
      rw [hd] at hT
      obtain ⟨k, ah, rfl, ht, hr⟩ := hT
      obtain ⟨s, kd, b, t, cp⟩ := x
      have hbx := ht.bx
      obtain ⟨a', c', w1, hap, ho, hb, hnw⟩ := ow_snoc 42 46 _ 7 56 Try.underlying42 infoL7 rfl (by omega) (cs := lkL s kd b t cp) hO rfl (one7 _ _ _ _ _) hB.size (by omega) (by omega)
      have hB1 : Below w.heap.size w w1 := But.below hB hb (fun j hj => (hO.blk j hj).1)
      have hk1 : ¬ Blk a k := fun hj => by
        obtain ⟨y, hy, e1⟩ := hj
        rcases hO.2 with ⟨h1, h2⟩ | ⟨g, cp, cur, hv, hg, hh, r⟩
        · simp only [Value.slice.injEq] at h1
          rw [hy] at h1
          exact absurd h1.1 (by simp)
        · simp only [Value.slice.injEq] at hv
          rw [hy] at hv
          have e2 := Option.some.inj hv.1
          rw [e2] at e1
          simp only at e1
          subst e1
          have h' : wr.heap[g]? = _ := ht
          rw [hh] at h'
          simp at h'
      have hall : ∀ {q : List Lk} {z : Option Addr}, Tls wr z q → Tls w1 z q := by
        intro q
        induction q with
        | nil => intro z h; exact h
        | cons y q ih =>
          intro z ⟨k2, ah2, e, ht2, hr2⟩
          refine ⟨k2, ah2, e, ht2.but hb (fun hj => ?_), ih hr2⟩
          obtain ⟨y, hy, e1⟩ := hj
          rcases hO.2 with ⟨h1, h2⟩ | ⟨g, cp, cur, hv, hg, hh, r⟩
          · simp only [Value.slice.injEq] at h1
            rw [hy] at h1
            exact absurd h1.1 (by simp)
          · simp only [Value.slice.injEq] at hv
            rw [hy] at hv
            have e2 := Option.some.inj hv.1
            rw [e2] at e1
            simp only at e1
            subst e1
            have h' : wr.heap[g]? = _ := ht2
            rw [hh] at h'
            simp at h'
      have HR : Hid ((Builtin.append_ #[42, 42] 42 #[.slice a i c, .slice (some ⟨wr.heap.size, 0, none⟩) 1 1]).run Try.prog (wr.alloc (Obj.cells #[.int .i64 s, .int .i64 kd, .int .i64 b, .int .i64 t, .int .i64 cp.o, .int .u64 (cp.h : Int), .int .u64 (cp.l : Int)] 46)) = .ok (.slice a' (i + 1) c') w1) := hap
      have HO : Hid (Ow w1 w.heap.size 46 7 a' (i + 1) c' (lksL (ls.take (i + 1)))) := by
        have e : ls.take (i + 1) = ls.take i ++ [⟨s, kd, b, t, cp⟩] := by rw [List.take_add_one, hx]; rfl
        unfold Hid
        rw [e, lksL_app]
        have e2 : lksL [⟨s, kd, b, t, cp⟩] = lkL s kd b t cp := by simp [lksL]
        rw [e2]
        exact ho
      have HB := hid hB1
      have HTr := hid (hall hr)
      have HX := hid (hbx.but hb hk1)
      have x0 := hbx.cell 0 rfl
      have x1 := hbx.cell 1 rfl
      have x2 := hbx.cell 2 rfl
      have x3 := hbx.cell 3 rfl
      have x4 := hbx.cell 4 rfl
      have x5 := hbx.cell 5 rfl
      have x6 := hbx.cell 6 rfl
      clear hr ho hb hnw hB1 hB hO hk1 hall ht hbx hap hd hx HT
      go_wp2_with (first | (at_builtin; refine wpList_append_known rfl _ _ 42 rfl _ _ rfl rfl _ w1 HR.out ?_; (have x7 := HX.out.cell 7 rfl)))
      exact ⟨⟨i + 1, ah, a', c', rfl, rfl, hlt, HTr.out, HO.out, HB.out⟩, by simp [slN]; omega⟩
    · obtain rfl : i = ls.length := by omega
      rw [List.drop_length] at hT
      have hT' : p' = none := hT
      subst hT'
      rw [List.take_length] at hO
      have HRv := hid (rev_any hO (by omega))
      have HO := hid hO
      have HB := hid hB
      clear hO hB hT HT
      go_wp2_with (first | (go_at_call 45; refine HRv.out.mono ?_; rintro e w2 ⟨rfl, ho2, hb2⟩; have HO2 := hid ho2; have HB2 := hid hb2; clear ho2 hb2))
      go_ret
      exact ⟨a, c, rfl, HO2.out, But.below HB.out HB2.out (fun j hj => (HO.out.blk j hj).1)⟩
set_option maxRecDepth 100000 in
set_option maxHeartbeats 2000000 in
/-- The way of what a process was told; none, if it was not. -/
theorem way_any (m : Bm) (p : Int) (c : Cp) (r : Option Value) (a : Option Addr) (ls : List Lk) (w : World) (h : Bw w m) (hc : c.far) (hF : hasF c = true) (hp : I64 p) (hg : Gt m.T p (fmV (frm c)) r) (hr : r.getD (.pointer none) = .pointer a) (ht : Tls w a ls) (hn : ls.length < 100000) :
    Calls Try.prog 10 #[.pointer (some ⟨m.g, 0, none⟩), .int .i64 p, capV c] w fun e w' => ∃ a' c', e = .returned (.tuple #[.slice a' ls.length c', .bool r.isSome]) ∧ Ow w' w.heap.size 46 7 a' ls.length c' (lksL ls.reverse) ∧ Below w.heap.size w w' := by
  obtain ⟨W, hW⟩ : ∃ W, W = w.alloc (Obj.cells #[.int .i64 c.o, .int .u64 (c.h : Int), .int .u64 (c.l : Int)] 31) := ⟨_, rfl⟩
  have hB : Below w.heap.size w W := by rw [hW]; exact below1 _ _
  have HX0 : Hid (Bx W w.heap.size [.int .i64 c.o, .int .u64 (c.h : Int), .int .u64 (c.l : Int)]) := by rw [hW]; exact Bx.new w [.int .i64 c.o, .int .u64 (c.h : Int), .int .u64 (c.l : Int)] _
  have c4 := HX0.out.cell 0 rfl
  have c5 := HX0.out.cell 1 rfl
  have c6 := HX0.out.cell 2 rfl
  have HT := hid (telling_any m p c _ W (h.later hB) hc hF hp hg)
  rw [hr] at HT
  generalize r.isSome = rb at HT ⊢
  have HC := hid (fun (U : World) (hU : Below w.heap.size w U) => chain_any a ls U (ht.later hU) hn)
  have HB := hid hB
  have HW := hid hW
  clear h hB hW hg hF hc ht hr
  go_enter Try.func10, Try.ntmps10
  go_upto_region 1 with fail
  rw [← HW.out]
  go_wp2_with (first | (go_at_call 27; refine HT.out.mono ?_; rintro e w2 ⟨rfl, hb2⟩; have HB2 := hid (below_call HB.out hb2); clear hb2) | (go_at_call 28; refine (HC.out _ HB2.out).mono ?_; rintro e w3 ⟨a', c', rfl, ho, hb3⟩; have HO := hid ho; have HB3 := hid (below_call HB2.out hb3); clear ho hb3))
  exact bodyPost_ret (v := .tuple #[.slice a' ls.length c', .bool rb]) (by simp [results, Try.results10, go_sem]) rfl ⟨a', c', rfl, HO.out.mono HB2.out.size, HB3.out⟩
set_option maxRecDepth 100000 in
set_option maxHeartbeats 4000000 in
theorem rights_any (m : Bm) (c : Cp) (t : Tn) (ok : Bool) (w : World) (h : Bw w m) (hc : c.far) (hr : gtT m.L c.o c.h c.l t ok) :
    Calls Try.prog 15 #[.pointer (some ⟨m.g, 0, none⟩), capV c] w fun e w' => e = .returned (.tuple #[.int .i64 t.r, .bool ok]) ∧ Below w.heap.size w w' := by
  obtain ⟨o, ch, cl⟩ := c
  obtain ⟨W, hW⟩ : ∃ W, W = w.alloc (Obj.cells #[.int .i64 o, .int .u64 (ch : Int), .int .u64 (cl : Int)] 31) := ⟨_, rfl⟩
  have hB : Below w.heap.size w W := by rw [hW]; exact below1 _ _
  have hBW := h.later hB
  have HX0 : Hid (Bx W w.heap.size [.int .i64 o, .int .u64 (ch : Int), .int .u64 (cl : Int)]) := by rw [hW]; exact Bx.new w [.int .i64 o, .int .u64 (ch : Int), .int .u64 (cl : Int)] _
  have HLo : Hid (∀ U, Below W.heap.size W U → Calls Try.prog 32 #[.map (some m.bl), .int .i64 o, wdV ch cl] U fun e w' => e = .returned (.tuple #[t.v, .bool ok]) ∧ Below U.heap.size U w') := fun U hU => lookW_any m.bl m.L o ch cl t ok U (hBW.live.later hU) hc.1 hc.2.1 hc.2.2 hr
  have HS : Hid (∀ U, Below W.heap.size W U → (U.rangeAt m.g 0 m.cells ∧ U.rangeAt w.heap.size 0 [.int .i64 o, .int .u64 (ch : Int), .int .u64 (cl : Int)])) := fun U hU => ⟨(hBW.bx.later hU).range, (HX0.out.later hU).range⟩
  have HB := hid hB
  have HW := hid hW
  have HO1 := hid t.one
  have ht6 : t.L.length = 6 := rfl
  obtain ⟨th, tl, tph, tpl, tr, ts⟩ := t
  clear h hB hW hBW hc hr ht6
  simp only at HLo HO1 ⊢
  go_enter Try.func15, Try.ntmps15
  go_upto_region 1 with fail
  rw [← HW.out]
  refine wp_region_held_drew (S := (fun U : World => U.rangeAt m.g 0 m.cells ∧ U.rangeAt w.heap.size 0 [.int .i64 o, .int .u64 (ch : Int), .int .u64 (cl : Int)])) (by kernel_rfl) (HS.out _ (Below.refl _ _).drew) (fun hHeld => ?_)
  refine wpAnyH_norm (l2 := #[false, false, false, false, false, false, false, false, false, false, false, false, false, false, false]) (f2 := 15) (by kernel_rfl) (by kernel_rfl) ?_
  refine wpAnyH_take (i := 0) (oi := _) (v := ?_) rfl (by kernel_rfl) (by kernel_rfl) (by kernel_rfl) (fun _ _ _ h => h) (Or.inl ⟨by rfl, ?_⟩) (by assumption) ?_
  rotate_left
  · (intro w hSw; (try dsimp only at hSw); go_simp; try with_reducible rfl)
  simp only [List.getElem_toArray, List.getElem_cons_succ, List.getElem_cons_zero, Act.put, List.setIfInBounds_toArray, List.set_cons_zero, List.set_cons_succ]
  refine wpAnyH_norm (l2 := #[true, false, false, false, false, false, false, false, false, false, false, false, false, false, false]) (f2 := 14) (by kernel_rfl) (by kernel_rfl) ?_
  refine wpAnyH_take (i := 1) (oi := _) (v := ?_) rfl (by kernel_rfl) (by kernel_rfl) (by kernel_rfl) (fun _ _ _ h => h) (Or.inl ⟨by rfl, ?_⟩) (by assumption) ?_
  rotate_left
  · (intro w hSw; (try dsimp only at hSw); go_simp; try with_reducible rfl)
  simp only [List.getElem_toArray, List.getElem_cons_succ, List.getElem_cons_zero, Act.put, List.setIfInBounds_toArray, List.set_cons_zero, List.set_cons_succ]
  refine wpAnyH_norm (l2 := #[true, true, false, false, false, false, false, false, false, false, false, false, false, false, false]) (f2 := 13) (by kernel_rfl) (by kernel_rfl) ?_
  refine wpAnyH_take (i := 2) (oi := _) (v := ?_) rfl (by kernel_rfl) (by kernel_rfl) (by kernel_rfl) (fun _ _ _ h => h) (Or.inl ⟨by rfl, ?_⟩) (by assumption) ?_
  rotate_left
  · (intro w hSw; (try dsimp only at hSw); go_simp; try with_reducible rfl)
  simp only [List.getElem_toArray, List.getElem_cons_succ, List.getElem_cons_zero, Act.put, List.setIfInBounds_toArray, List.set_cons_zero, List.set_cons_succ]
  refine wpAnyH_norm (l2 := #[true, true, true, false, false, false, false, false, false, false, false, false, false, false, false]) (f2 := 12) (by kernel_rfl) (by kernel_rfl) ?_
  refine wpAnyH_take (i := 3) (oi := _) (v := ?_) rfl (by kernel_rfl) (by kernel_rfl) (by kernel_rfl) (fun _ _ _ h => h) (Or.inl ⟨by rfl, ?_⟩) (by assumption) ?_
  rotate_left
  · (intro w hSw; have z1 := rg_at (j := 1) hSw.1 rfl; go_simp; try with_reducible rfl)
  simp only [List.getElem_toArray, List.getElem_cons_succ, List.getElem_cons_zero, Act.put, List.setIfInBounds_toArray, List.set_cons_zero, List.set_cons_succ]
  refine wpAnyH_norm (l2 := #[true, true, true, true, false, false, false, false, false, false, false, false, false, false, false]) (f2 := 11) (by kernel_rfl) (by kernel_rfl) ?_
  refine wpAnyH_take (i := 4) (oi := _) (v := ?_) rfl (by kernel_rfl) (by kernel_rfl) (by kernel_rfl) (fun _ _ _ h => h) (Or.inl ⟨by rfl, ?_⟩) (by assumption) ?_
  rotate_left
  · (intro w hSw; (try dsimp only at hSw); go_simp; try with_reducible rfl)
  simp only [List.getElem_toArray, List.getElem_cons_succ, List.getElem_cons_zero, Act.put, List.setIfInBounds_toArray, List.set_cons_zero, List.set_cons_succ]
  refine wpAnyH_norm (l2 := #[true, true, true, true, true, false, false, false, false, false, false, false, false, false, false]) (f2 := 10) (by kernel_rfl) (by kernel_rfl) ?_
  refine wpAnyH_take (i := 5) (oi := _) (v := ?_) rfl (by kernel_rfl) (by kernel_rfl) (by kernel_rfl) (fun _ _ _ h => h) (Or.inl ⟨by rfl, ?_⟩) (by assumption) ?_
  rotate_left
  · (intro w hSw; have z0 := rg_at (j := 0) hSw.2 rfl; go_simp; try with_reducible rfl)
  simp only [List.getElem_toArray, List.getElem_cons_succ, List.getElem_cons_zero, Act.put, List.setIfInBounds_toArray, List.set_cons_zero, List.set_cons_succ]
  refine wpAnyH_norm (l2 := #[true, true, true, true, true, true, false, false, false, false, false, false, false, false, false]) (f2 := 9) (by kernel_rfl) (by kernel_rfl) ?_
  refine wpAnyH_take (i := 6) (oi := _) (v := ?_) rfl (by kernel_rfl) (by kernel_rfl) (by kernel_rfl) (fun _ _ _ h => h) (Or.inl ⟨by rfl, ?_⟩) (by assumption) ?_
  rotate_left
  · (intro w hSw; (try dsimp only at hSw); go_simp; try with_reducible rfl)
  simp only [List.getElem_toArray, List.getElem_cons_succ, List.getElem_cons_zero, Act.put, List.setIfInBounds_toArray, List.set_cons_zero, List.set_cons_succ]
  refine wpAnyH_norm (l2 := #[true, true, true, true, true, true, true, false, false, false, false, false, false, false, false]) (f2 := 8) (by kernel_rfl) (by kernel_rfl) ?_
  refine wpAnyH_take (i := 7) (oi := _) (v := ?_) rfl (by kernel_rfl) (by kernel_rfl) (by kernel_rfl) (fun _ _ _ h => h) (Or.inl ⟨by rfl, ?_⟩) (by assumption) ?_
  rotate_left
  · (intro w hSw; have z1 := rg_at (j := 1) hSw.2 rfl; have z2 := rg_at (j := 2) hSw.2 rfl; go_simp; try with_reducible rfl)
  simp only [List.getElem_toArray, List.getElem_cons_succ, List.getElem_cons_zero, Act.put, List.setIfInBounds_toArray, List.set_cons_zero, List.set_cons_succ]
  refine wpAnyH_norm (l2 := #[true, true, true, true, true, true, true, true, false, false, false, false, false, false, false]) (f2 := 7) (by kernel_rfl) (by kernel_rfl) ?_
  refine wpAnyH_ready (rs := [8, 12]) (by kernel_rfl) (by simp) ?_
  refine AllReadyH.cons rfl (fun K hK => ?_) ?_
  · go_simp
    go_wp2_with (first | (go_at_call 32; refine (HLo.out _ ((Below.refl _ _).drew)).mono ?_; rintro e w3 ⟨rfl, hb3⟩))
    have HB3 : Hid (Below W.heap.size W w3) := below_call (Below.refl _ _).drew hb3
    clear hb3
    refine hK.out _ _ (HS.out _ HB3.out) (fun hHeld => ?_)
    clear hK K
    simp only [List.getElem_toArray, List.getElem_cons_succ, List.getElem_cons_zero, Act.put, List.setIfInBounds_toArray, List.set_cons_zero, List.set_cons_succ]
    refine wpAnyH_norm (l2 := #[true, true, true, true, true, true, true, true, true, false, false, false, false, false, false]) (f2 := 6) (by kernel_rfl) (by kernel_rfl) ?_
    refine wpAnyH_take (i := 9) (oi := _) (v := ?_) rfl (by kernel_rfl) (by kernel_rfl) (by kernel_rfl) (fun _ _ _ h => h) (Or.inl ⟨by rfl, ?_⟩) (by assumption) ?_
    rotate_left
    · (intro w hSw; (try dsimp only at hSw); go_simp; try with_reducible rfl)
    simp only [List.getElem_toArray, List.getElem_cons_succ, List.getElem_cons_zero, Act.put, List.setIfInBounds_toArray, List.set_cons_zero, List.set_cons_succ]
    refine wpAnyH_norm (l2 := #[true, true, true, true, true, true, true, true, true, true, false, false, false, false, false]) (f2 := 5) (by kernel_rfl) (by kernel_rfl) ?_
    refine wpAnyH_take (i := 10) (oi := _) (v := ?_) rfl (by kernel_rfl) (by kernel_rfl) (by kernel_rfl) (fun _ _ _ h => h) (Or.inl ⟨by rfl, ?_⟩) (by assumption) ?_
    rotate_left
    · (intro w hSw; (try dsimp only at hSw); go_simp; try with_reducible rfl)
    simp only [List.getElem_toArray, List.getElem_cons_succ, List.getElem_cons_zero, Act.put, List.setIfInBounds_toArray, List.set_cons_zero, List.set_cons_succ]
    refine wpAnyH_norm (l2 := #[true, true, true, true, true, true, true, true, true, true, true, false, false, false, false]) (f2 := 4) (by kernel_rfl) (by kernel_rfl) ?_
    refine wpAnyH_take (i := 11) (oi := _) (v := ?_) rfl (by kernel_rfl) (by kernel_rfl) (by kernel_rfl) (fun _ _ _ h => h) (Or.inl ⟨by rfl, ?_⟩) (by assumption) ?_
    rotate_left
    · (intro w hSw; (try dsimp only at hSw); go_simp; try with_reducible rfl)
    simp only [List.getElem_toArray, List.getElem_cons_succ, List.getElem_cons_zero, Act.put, List.setIfInBounds_toArray, List.set_cons_zero, List.set_cons_succ]
    refine wpAnyH_norm (l2 := #[true, true, true, true, true, true, true, true, true, true, true, true, false, false, false]) (f2 := 3) (by kernel_rfl) (by kernel_rfl) ?_
    refine wpAnyH_ready (rs := [12]) (by kernel_rfl) (by simp) ?_
    refine AllReadyH.cons rfl (fun K hK => ?_) AllReadyH.nil
    go_simp
    obtain ⟨V, hV⟩ : ∃ V, V = w3.alloc (Obj.cells #[.int .u64 0, .int .u64 0, .int .u64 0, .int .u64 0, .int .i64 0, .int .i64 0] 77) := ⟨_, rfl⟩
    rw [← hV]
    obtain ⟨kz, hkz⟩ : ∃ k, k = w3.heap.size := ⟨_, rfl⟩
    rw [← hkz]
    have HXz : Hid (Bx V kz tn0.L) := by rw [hkz, hV]; exact Bx.new w3 tn0.L _
    have HBv : Hid (Below W.heap.size W V) := by rw [hV]; exact below_call HB3.out (below1 _ _)
    have HKz : Hid (W.heap.size ≤ kz) := by rw [hkz]; exact HB3.out.size
    clear hV hkz
    have HSt0 := stTn (L := [.int .u64 (th : Int), .int .u64 (tl : Int), .int .u64 (tph : Int), .int .u64 (tpl : Int), .int .i64 tr, .int .i64 ts]) (by have := HXz.out.there; exact this) rfl HO1.out
    have HXv0 := HXz.out.set (M := [.int .u64 (th : Int), .int .u64 (tl : Int), .int .u64 (tph : Int), .int .u64 (tpl : Int), .int .i64 tr, .int .i64 ts]) rfl
    have HBf0 : Below w.heap.size w (V.setCells kz 0 [.int .u64 (th : Int), .int .u64 (tl : Int), .int .u64 (tph : Int), .int .u64 (tpl : Int), .int .i64 tr, .int .i64 ts]) := But.below (below_call HB.out HBv.out) (setCells_but (S := (· = kz)) rfl [.int .u64 (th : Int), .int .u64 (tl : Int), .int .u64 (tph : Int), .int .u64 (tpl : Int), .int .i64 tr, .int .i64 ts] 0 (But.refl _ _)) (fun k hk => by have h1 := HB.out.size; have h2 := HKz.out; omega)
    have HBg0 : Below W.heap.size W (V.setCells kz 0 [.int .u64 (th : Int), .int .u64 (tl : Int), .int .u64 (tph : Int), .int .u64 (tpl : Int), .int .i64 tr, .int .i64 ts]) := But.below HBv.out (setCells_but (S := (· = kz)) rfl [.int .u64 (th : Int), .int .u64 (tl : Int), .int .u64 (tph : Int), .int .u64 (tpl : Int), .int .i64 tr, .int .i64 ts] 0 (But.refl _ _)) (fun k hk => by have h2 := HKz.out; omega)
    generalize V.setCells kz 0 [.int .u64 (th : Int), .int .u64 (tl : Int), .int .u64 (tph : Int), .int .u64 (tpl : Int), .int .i64 tr, .int .i64 ts] = V9 at HSt0 HXv0 HBf0 HBg0
    have HSt := hid HSt0
    have HXv := hid HXv0
    have HBf := hid HBf0
    have HBg := hid HBg0
    clear HSt0 HXv0 HBf0 HBg0
    refine hK.out _ _ (HS.out _ HBv.out) (fun hHeld => ?_)
    clear hK K
    simp only [List.getElem_toArray, List.getElem_cons_succ, List.getElem_cons_zero, Act.put, List.setIfInBounds_toArray, List.set_cons_zero, List.set_cons_succ]
    refine wpAnyH_norm (l2 := #[true, true, true, true, true, true, true, true, true, true, true, true, true, false, false]) (f2 := 2) (by kernel_rfl) (by kernel_rfl) ?_
    refine wpAnyH_ready (rs := [13]) (by kernel_rfl) (by simp) ?_
    refine AllReadyH.cons rfl (fun K hK => ?_) AllReadyH.nil
    refine wp_sto rfl rfl rfl HSt.out ?_
    refine hK.out _ _ (HS.out _ HBg.out) (fun hHeld => ?_)
    clear hK K
    simp only [List.getElem_toArray, List.getElem_cons_succ, List.getElem_cons_zero, Act.put, List.setIfInBounds_toArray, List.set_cons_zero, List.set_cons_succ]
    refine wpAnyH_norm (l2 := #[true, true, true, true, true, true, true, true, true, true, true, true, true, true, false]) (f2 := 1) (by kernel_rfl) (by kernel_rfl) ?_
    refine wpAnyH_take (i := 14) (oi := _) (v := ?_) rfl (by kernel_rfl) (by kernel_rfl) (by kernel_rfl) (fun _ _ _ h => h) (Or.inl ⟨by rfl, ?_⟩) (by assumption) ?_
    rotate_left
    · (intro w hSw; (try dsimp only at hSw); go_simp; try with_reducible rfl)
    simp only [List.getElem_toArray, List.getElem_cons_succ, List.getElem_cons_zero, Act.put, List.setIfInBounds_toArray, List.set_cons_zero, List.set_cons_succ]
    refine wpAnyH_norm (l2 := #[true, true, true, true, true, true, true, true, true, true, true, true, true, true, true]) (f2 := 0) (by kernel_rfl) (by kernel_rfl) ?_
    refine wpAnyH_done (by kernel_rfl) ?_ _
    have z4 := HXv.out.cell 4 rfl
    go_wp2
    exact bodyPost_ret (v := .tuple #[.int .i64 tr, .bool ok]) (by simp [results, Try.results15, go_sem]) rfl ⟨rfl, HBf.out⟩
  refine AllReadyH.cons rfl (fun K hK => ?_) AllReadyH.nil
  go_simp
  obtain ⟨V0, hV⟩ : ∃ V, V = (W.alloc (Obj.cells #[.int .u64 0, .int .u64 0, .int .u64 0, .int .u64 0, .int .i64 0, .int .i64 0] 77)).drew := ⟨_, rfl⟩
  rw [← hV]
  obtain ⟨kz, hkz⟩ : ∃ k, k = W.heap.size := ⟨_, rfl⟩
  have HXz0 : Hid (Bx V0 kz tn0.L) := by rw [hkz, hV]; exact (Bx.new W tn0.L _).later (Below.refl _ _).drew
  have HBv0 : Hid (Below W.heap.size W V0) := by rw [hV]; exact (below1 _ _).drew
  have HKz : Hid (W.heap.size ≤ kz) := by rw [hkz]; exact Nat.le_refl _
  have HKe := hid hkz
  clear hV hkz
  refine hK.out _ _ (HS.out _ HBv0.out) (fun hHeld => ?_)
  clear hK K
  simp only [List.getElem_toArray, List.getElem_cons_succ, List.getElem_cons_zero, Act.put, List.setIfInBounds_toArray, List.set_cons_zero, List.set_cons_succ]
  refine wpAnyH_norm (l2 := #[true, true, true, true, true, true, true, true, false, false, false, false, true, false, false]) (f2 := 6) (by kernel_rfl) (by kernel_rfl) ?_
  refine wpAnyH_ready (rs := [8]) (by kernel_rfl) (by simp) ?_
  refine AllReadyH.cons rfl (fun K hK => ?_) AllReadyH.nil
  go_simp
  go_wp2_with (first | (go_at_call 32; refine (HLo.out _ (HBv0.out)).mono ?_; rintro e w3 ⟨rfl, hb3⟩))
  obtain ⟨V, hVe⟩ : ∃ V, V = w3 := ⟨_, rfl⟩
  rw [← hVe]
  rw [← HKe.out]
  have HXz : Hid (Bx V kz tn0.L) := by rw [hVe]; exact HXz0.out.later hb3
  have HBv : Hid (Below W.heap.size W V) := by rw [hVe]; exact below_call HBv0.out hb3
  clear hb3 hVe w3
  have HSt0 := stTn (L := [.int .u64 (th : Int), .int .u64 (tl : Int), .int .u64 (tph : Int), .int .u64 (tpl : Int), .int .i64 tr, .int .i64 ts]) (by have := HXz.out.there; exact this) rfl HO1.out
  have HXv0 := HXz.out.set (M := [.int .u64 (th : Int), .int .u64 (tl : Int), .int .u64 (tph : Int), .int .u64 (tpl : Int), .int .i64 tr, .int .i64 ts]) rfl
  have HBf0 : Below w.heap.size w (V.setCells kz 0 [.int .u64 (th : Int), .int .u64 (tl : Int), .int .u64 (tph : Int), .int .u64 (tpl : Int), .int .i64 tr, .int .i64 ts]) := But.below (below_call HB.out HBv.out) (setCells_but (S := (· = kz)) rfl [.int .u64 (th : Int), .int .u64 (tl : Int), .int .u64 (tph : Int), .int .u64 (tpl : Int), .int .i64 tr, .int .i64 ts] 0 (But.refl _ _)) (fun k hk => by have h1 := HB.out.size; have h2 := HKz.out; omega)
  have HBg0 : Below W.heap.size W (V.setCells kz 0 [.int .u64 (th : Int), .int .u64 (tl : Int), .int .u64 (tph : Int), .int .u64 (tpl : Int), .int .i64 tr, .int .i64 ts]) := But.below HBv.out (setCells_but (S := (· = kz)) rfl [.int .u64 (th : Int), .int .u64 (tl : Int), .int .u64 (tph : Int), .int .u64 (tpl : Int), .int .i64 tr, .int .i64 ts] 0 (But.refl _ _)) (fun k hk => by have h2 := HKz.out; omega)
  generalize V.setCells kz 0 [.int .u64 (th : Int), .int .u64 (tl : Int), .int .u64 (tph : Int), .int .u64 (tpl : Int), .int .i64 tr, .int .i64 ts] = V9 at HSt0 HXv0 HBf0 HBg0
  have HSt := hid HSt0
  have HXv := hid HXv0
  have HBf := hid HBf0
  have HBg := hid HBg0
  clear HSt0 HXv0 HBf0 HBg0
  refine hK.out _ _ (HS.out _ HBv.out) (fun hHeld => ?_)
  clear hK K
  simp only [List.getElem_toArray, List.getElem_cons_succ, List.getElem_cons_zero, Act.put, List.setIfInBounds_toArray, List.set_cons_zero, List.set_cons_succ]
  refine wpAnyH_norm (l2 := #[true, true, true, true, true, true, true, true, true, false, false, false, true, false, false]) (f2 := 5) (by kernel_rfl) (by kernel_rfl) ?_
  refine wpAnyH_take (i := 9) (oi := _) (v := ?_) rfl (by kernel_rfl) (by kernel_rfl) (by kernel_rfl) (fun _ _ _ h => h) (Or.inl ⟨by rfl, ?_⟩) (by assumption) ?_
  rotate_left
  · (intro w hSw; (try dsimp only at hSw); go_simp; try with_reducible rfl)
  simp only [List.getElem_toArray, List.getElem_cons_succ, List.getElem_cons_zero, Act.put, List.setIfInBounds_toArray, List.set_cons_zero, List.set_cons_succ]
  refine wpAnyH_norm (l2 := #[true, true, true, true, true, true, true, true, true, true, false, false, true, false, false]) (f2 := 4) (by kernel_rfl) (by kernel_rfl) ?_
  refine wpAnyH_take (i := 10) (oi := _) (v := ?_) rfl (by kernel_rfl) (by kernel_rfl) (by kernel_rfl) (fun _ _ _ h => h) (Or.inl ⟨by rfl, ?_⟩) (by assumption) ?_
  rotate_left
  · (intro w hSw; (try dsimp only at hSw); go_simp; try with_reducible rfl)
  simp only [List.getElem_toArray, List.getElem_cons_succ, List.getElem_cons_zero, Act.put, List.setIfInBounds_toArray, List.set_cons_zero, List.set_cons_succ]
  refine wpAnyH_norm (l2 := #[true, true, true, true, true, true, true, true, true, true, true, false, true, false, false]) (f2 := 3) (by kernel_rfl) (by kernel_rfl) ?_
  refine wpAnyH_take (i := 11) (oi := _) (v := ?_) rfl (by kernel_rfl) (by kernel_rfl) (by kernel_rfl) (fun _ _ _ h => h) (Or.inl ⟨by rfl, ?_⟩) (by assumption) ?_
  rotate_left
  · (intro w hSw; (try dsimp only at hSw); go_simp; try with_reducible rfl)
  simp only [List.getElem_toArray, List.getElem_cons_succ, List.getElem_cons_zero, Act.put, List.setIfInBounds_toArray, List.set_cons_zero, List.set_cons_succ]
  refine wpAnyH_norm (l2 := #[true, true, true, true, true, true, true, true, true, true, true, true, true, false, false]) (f2 := 2) (by kernel_rfl) (by kernel_rfl) ?_
  refine wpAnyH_ready (rs := [13]) (by kernel_rfl) (by simp) ?_
  refine AllReadyH.cons rfl (fun K hK => ?_) AllReadyH.nil
  refine wp_sto rfl rfl rfl HSt.out ?_
  refine hK.out _ _ (HS.out _ HBg.out) (fun hHeld => ?_)
  clear hK K
  simp only [List.getElem_toArray, List.getElem_cons_succ, List.getElem_cons_zero, Act.put, List.setIfInBounds_toArray, List.set_cons_zero, List.set_cons_succ]
  refine wpAnyH_norm (l2 := #[true, true, true, true, true, true, true, true, true, true, true, true, true, true, false]) (f2 := 1) (by kernel_rfl) (by kernel_rfl) ?_
  refine wpAnyH_take (i := 14) (oi := _) (v := ?_) rfl (by kernel_rfl) (by kernel_rfl) (by kernel_rfl) (fun _ _ _ h => h) (Or.inl ⟨by rfl, ?_⟩) (by assumption) ?_
  rotate_left
  · (intro w hSw; (try dsimp only at hSw); go_simp; try with_reducible rfl)
  simp only [List.getElem_toArray, List.getElem_cons_succ, List.getElem_cons_zero, Act.put, List.setIfInBounds_toArray, List.set_cons_zero, List.set_cons_succ]
  refine wpAnyH_norm (l2 := #[true, true, true, true, true, true, true, true, true, true, true, true, true, true, true]) (f2 := 0) (by kernel_rfl) (by kernel_rfl) ?_
  refine wpAnyH_done (by kernel_rfl) ?_ _
  have z4 := HXv.out.cell 4 rfl
  go_wp2
  exact bodyPost_ret (v := .tuple #[.int .i64 tr, .bool ok]) (by simp [results, Try.results15, go_sem]) rfl ⟨rfl, HBf.out⟩
theorem steps_any (m : Bm) (w : World) (h : Bw w m) : Calls Try.prog 17 #[.pointer (some ⟨m.g, 0, none⟩)] w fun e w' => e = .returned (.int .i64 m.n) ∧ w' = w := by
  have q0 := h.bx.cell 0 rfl
  clear h
  go_enter Try.func17, Try.ntmps17
  go_wp2
  go_ret
  exact ⟨rfl, rfl⟩
theorem isPlace_any (p : Int) (a : Option Addr) (n c : Nat) (w : World) : Calls Try.prog 42 #[.int .i64 p, .slice a n c] w fun e w' => e = .returned (.bool (decide (0 ≤ p ∧ p < (n : Int)))) ∧ w' = w := by
  by_cases h1 : 0 ≤ p
  · by_cases h2 : p < (n : Int)
    · rw [decide_eq_true ⟨h1, h2⟩]
      go_enter Try.func42, Try.ntmps42
      go_wp2
      go_ret
      exact ⟨rfl, rfl⟩
    · rw [decide_eq_false (fun h => h2 h.2)]
      go_enter Try.func42, Try.ntmps42
      go_wp2
      go_ret
      exact ⟨rfl, rfl⟩
  · rw [decide_eq_false (fun h => h1 h.1)]
    go_enter Try.func42, Try.ntmps42
    go_wp2
    go_ret
    exact ⟨rfl, rfl⟩
/-- Does a call bring a password? -/
def brB (op : Int) (gv : Bool) : Bool := if op = 2 ∨ op = 3 ∨ op = 4 ∨ op = 7 then true else if op = 5 ∨ op = 6 then gv else false
set_option maxRecDepth 100000 in
set_option maxHeartbeats 2000000 in
theorem brings_any (C : List Value) (op : Int) (gv : Bool) (w : World) (h0 : C[0]? = some (.int .i64 op)) (h6 : C[6]? = some (.bool gv)) :
    Calls Try.prog 31 #[.agg C.toArray] w fun e w' => e = .returned (.bool (brB op gv)) ∧ Below w.heap.size w w' := by
  obtain ⟨W, hW⟩ : ∃ W, W = w.alloc (Obj.cells C.toArray 36) := ⟨_, rfl⟩
  have hB : Below w.heap.size w W := by rw [hW]; exact below1 _ _
  have hX : Bx W w.heap.size C := by rw [hW]; exact Bx.new w C _
  have x0 := hX.cell 0 h0
  have x6 := hX.cell 6 h6
  have HB := hid hB
  have HW := hid hW
  clear hB hW hX h0 h6
  by_cases e2 : op = 2
  · subst e2
    go_enter Try.func31, Try.ntmps31
    go_upto_region 1 with fail
    rw [← HW.out]
    go_wp2
    go_ret
    exact ⟨rfl, HB.out⟩
  by_cases e3 : op = 3
  · subst e3
    go_enter Try.func31, Try.ntmps31
    go_upto_region 1 with fail
    rw [← HW.out]
    go_wp2
    go_ret
    exact ⟨rfl, HB.out⟩
  by_cases e4 : op = 4
  · subst e4
    go_enter Try.func31, Try.ntmps31
    go_upto_region 1 with fail
    rw [← HW.out]
    go_wp2
    go_ret
    exact ⟨rfl, HB.out⟩
  by_cases e7 : op = 7
  · subst e7
    go_enter Try.func31, Try.ntmps31
    go_upto_region 1 with fail
    rw [← HW.out]
    go_wp2
    go_ret
    exact ⟨rfl, HB.out⟩
  by_cases e5 : op = 5
  · subst e5
    go_enter Try.func31, Try.ntmps31
    go_upto_region 1 with fail
    rw [← HW.out]
    go_wp2
    go_ret
    exact ⟨rfl, HB.out⟩
  by_cases e6 : op = 6
  · subst e6
    go_enter Try.func31, Try.ntmps31
    go_upto_region 1 with fail
    rw [← HW.out]
    go_wp2
    go_ret
    exact ⟨rfl, HB.out⟩
  have hb : brB op gv = false := by
    unfold brB
    rw [if_neg (by omega), if_neg (by omega)]
  rw [hb]
  have d2 : (op == 2) = false := by simp [e2]
  have d3 : (op == 3) = false := by simp [e3]
  have d4 : (op == 4) = false := by simp [e4]
  have d7 : (op == 7) = false := by simp [e7]
  have d5 : (op == 5) = false := by simp [e5]
  have d6 : (op == 6) = false := by simp [e6]
  clear hb e2 e3 e4 e5 e6 e7
  go_enter Try.func31, Try.ntmps31
  go_upto_region 1 with fail
  rw [← HW.out]
  go_wp2
  go_ret
  exact ⟨rfl, HB.out⟩
end Go.Proofs.Yticgammbjcdobaa
