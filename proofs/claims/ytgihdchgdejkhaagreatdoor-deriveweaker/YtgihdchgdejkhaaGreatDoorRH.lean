import Derived.Test.YtgihdchgdejkhaaGreatDoorMT
namespace Go.Proofs.YtgihdchgdejkhaaGreatDoor
open Go.RowKit Go.Shelf H
set_option linter.unusedVariables false

/-! ### Drop -/
theorem par_cuts {l : Fo} {A : List Int} {x : Int} (h : x ∉ A) : par (cuts l A) x = par l x := by
  unfold par
  congr 2
  unfold cuts
  induction l with
  | nil => rfl
  | cons y l ih =>
    by_cases e : y.1 = x
    · rw [List.filter_cons_of_pos (by rw [e]; simpa using h), List.find?_cons_of_pos (by simpa using e), List.find?_cons_of_pos (by simpa using e)]
    · rw [List.find?_cons_of_neg (by simpa using e)]
      by_cases hy : y.1 ∈ A
      · rw [List.filter_cons_of_neg (by simpa using hy)]; exact ih
      · rw [List.filter_cons_of_pos (by simpa using hy), List.find?_cons_of_neg (by simpa using e)]; exact ih
theorem plc_zer {X : List Tk} {l : Fo} {wh : Int → Int} {A : List Int} (hA : ∀ a ∈ A, 0 ≤ a) {x : Int} (h0 : 0 ≤ x) (hx : x ∉ A) : plc (zer X A) (cuts l A) wh x = plc X l wh x := by
  by_cases hn : x ∈ nums l
  · rw [plc_in hn, plc_in (nums_cuts.2 ⟨hn, hx⟩), par_cuts hx]
    unfold rg
    rw [zer_tk A X x h0 hA hx]
  · rw [plc_out hn, plc_out (fun h => hn (nums_cuts.1 h).1)]
theorem plc_step {X : List Tk} {l : Fo} {wh : Int → Int} {A : List Int} {k : Nat} (hA : ∀ a ∈ A, 0 ≤ a) : plc (zer X (A ++ [(k : Int)])) (cuts l (A ++ [(k : Int)])) wh (k : Int) = pc0 ∧ ∀ i : Nat, i ≠ k → plc (zer X (A ++ [(k : Int)])) (cuts l (A ++ [(k : Int)])) wh (i : Int) = plc (zer X A) (cuts l A) wh (i : Int) := by
  refine ⟨plc_out (fun h => (nums_cuts.1 h).2 (by simp)), fun i hi => ?_⟩
  have hA2 : ∀ a ∈ A ++ [(k : Int)], 0 ≤ a := fun a ha => by
    rcases List.mem_append.1 ha with h | h
    · exact hA a h
    · rw [List.mem_singleton] at h; omega
  by_cases hm : (i : Int) ∈ A
  · rw [plc_out (fun h => (nums_cuts.1 h).2 (List.mem_append_left _ hm)), plc_out (fun h => (nums_cuts.1 h).2 hm)]
  · have hm2 : (i : Int) ∉ A ++ [(k : Int)] := fun h => by
      rcases List.mem_append.1 h with h | h
      · exact hm h
      · rw [List.mem_singleton] at h; omega
    rw [plc_zer hA2 (by omega) hm2, plc_zer hA (by omega) hm]
theorem op_append_known {P : Program} {w : World} {o : Oper} {a : Act} {K : Act → World → Prop} {Q : Exit → Act → World → Prop} (s x : Operand) (t : TypeId)
    (ho : o.op = .call { callee := .builtin .append, args := #[s, x], argTypes := #[t, t] }) (vs vx : Value) (hs : a.eval s = vs) (hx : a.eval x = vx) (v' : Value) (w' : World)
    (hr : (Builtin.append_ #[t, t] o.type #[vs, vx]).run P w = .ok v' w') (h : K (a.put o.dst v') w') : o.wp P a w K Q := by
  unfold Oper.wp execOp
  simp only [ho, resolve, invoke, builtin, Sem.run_bind, Sem.run_pure, Result.andThen_ok, List.map_toArray, List.map_cons, List.map_nil, hs, hx, hr]
  exact h
def RdRel (w1 : World) (r b mo : Nat) (X : List Tk) (l : Fo) (wh : Int → Int) (ev : Nat) (Gs : List Int) (v t : Value) (wr : World) : Prop :=
  ∃ (i : Nat) (a : Option Addr) (c : Nat), i ≤ Gs.length ∧ t = .int .i64 (i : Int) ∧ v = .slice a i c ∧ Ow wr w1.heap.size 36 3 a i c (caps ((Gs.take i).map (fun k => (tk X k).1))) ∧ Rf wr r b mo (zer X (Gs.take i)) (cuts l (Gs.take i)) wh ev ∧ But (· = b) w1 wr
def RDropped (W : World) (r b mo : Nat) (X : List Tk) (l : Fo) (wh : Int → Int) (ev : Nat) (n : Int) (e : Ending) (w' : World) : Prop :=
  ∃ a c, e = .returned (.tuple #[.slice a (G true l n).length c, .int .i64 (if n ∈ nums l then 0 else 20)]) ∧ Ow w' W.heap.size 36 3 a (G true l n).length c (caps ((G true l n).map (fun k => (tk X k).1))) ∧ Rf w' r b mo (zer X (G true l n)) (cuts l (G true l n)) wh ev ∧ But (· = b) W w'
set_option maxRecDepth 100000 in
set_option maxHeartbeats 8000000 in
theorem rdrop_any {W : World} {r b mo : Nat} {X : List Tk} {l : Fo} {wh : Int → Int} {ev : Nat} (h : Rf W r b mo X l wh ev) (hok : Ok mo l) (ht : Tim l wh ev) (n : Int) :
    Calls Tryz.prog 39 #[.pointer (some ⟨r, 0, none⟩), .int .i64 n] W (RDropped W r b mo X l wh ev n) := by
  have his := hid (ris_any h hok.range n)
  have HH := hid h
  have hbig := h.big
  by_cases hn : n ∈ nums l
  · have hdn := hid (rdown_any hok ht n hn W h)
    have hGl := G_len hok true n
    have HGn : Hid (∀ x ∈ G true l n, x ∈ nums l ∧ 0 ≤ x ∧ x < (mo : Int)) := fun x hx => by
      have h1 := G_nums hok hx
      have := hok.range x h1
      exact ⟨h1, this.1, this.2⟩
    have HND := hid (G_nodup hok true n)
    have hltb := h.ltb
    have hne := h.ne
    have hmx : Tryz.prog.follows .mixedOrders = true := by kernel_rfl
    unfold RDropped
    rw [if_pos hn]
    rw [decide_eq_true hn] at his
    clear h ht
    generalize hGs : G true l n = Gs at *
    clear hGs
    go_enter Tryz.func39, Tryz.ntmps39
    go_upto_region 6 with (first | (go_at_call 78; refine hdn.out.mono ?_; rintro e w1 ⟨a1, c1, rfl, hO1, hB1⟩; have HO1 := hid hO1; have HB1 := hid hB1; clear hO1 hB1) | (go_at_call 77; refine his.out.mono ?_; rintro e w9 ⟨rfl, hw9⟩; obtain rfl := hw9.symm; clear hw9))
    have hs1 := HB1.out.size
    go_loopw [7, 8] (RdRel w1 r b mo X l wh ev Gs) (fun _ t _ => Gs.length - (intOf t).toNat)
    case atStart => exact ⟨0, none, 0, Nat.zero_le _, rfl, rfl, Ow.nil _ _ _ _, by rw [List.take_zero, cuts_nil]; exact HH.out.later HB1.out, But.refl _ _⟩
    case round =>
      obtain ⟨i, a, c, hi, rfl, rfl, hO, hR, hBw⟩ := hrel
      by_cases hlt : i < Gs.length
      · have hOg := HO1.out.but hBw (fun k hk e => by have := HO1.out.blk k hk; omega)
        obtain ⟨ga, rfl⟩ := hOg.form (by omega)
        obtain ⟨_, e1, hL1⟩ := hOg.lies rfl (ints_get Gs i hlt)
        cases e1
        obtain ⟨x, hx⟩ : ∃ x, x = Gs[i] := ⟨_, rfl⟩
        have hxm : x ∈ Gs := by rw [hx]; exact List.getElem_mem hlt
        obtain ⟨hxl, hx0, hxm2⟩ := HGn.out x hxm
        obtain ⟨k, rfl⟩ : ∃ k : Nat, x = (k : Int) := ⟨x.toNat, by omega⟩
        have hkm : k < mo := by omega
        have hts : Gs.take (i + 1) = Gs.take i ++ [(k : Int)] := by rw [take_step Gs i hlt, ← hx]
        have hnt : (k : Int) ∉ Gs.take i := fun hm => by
          obtain ⟨j, hj⟩ := List.getElem?_of_mem hm
          have hjl : j < i := by have := (List.getElem?_eq_some_iff.1 hj).1; rw [List.length_take] at this; omega
          rw [List.getElem?_take_of_lt hjl] at hj
          have hgi : Gs[i]? = some (k : Int) := by rw [List.getElem?_eq_getElem hlt, ← hx]
          have := nd_idx HND.out hj hgi
          omega
        have hA : ∀ a ∈ Gs.take i, 0 ≤ a := fun a ha => (HGn.out a (List.mem_of_mem_take ha)).2.1
        obtain ⟨q1, q2⟩ := plc_step (X := X) (l := l) (wh := wh) (k := k) hA
        rw [← hts] at q1 q2
        have hP := hR.at_ k hkm
        have hin' : (k : Int) ∈ nums (cuts l (Gs.take i)) := nums_cuts.2 ⟨hxl, hnt⟩
        rw [plc_in hin'] at hP
        have htk : tk (zer X (Gs.take i)) (k : Int) = tk X (k : Int) := zer_tk _ X _ (by omega) hA hnt
        rw [htk] at hP
        have y1 := hL1.1
        rw [← hx] at y1
        have x0 := hR.c0
        obtain ⟨p0, p1, p2, p3, p4, p5, p6⟩ := hP
        simp only at p0 p1 p2 p3 p4 p5 p6
        obtain ⟨⟨ot, ht_, lt_⟩, r0, hxx⟩ : ∃ c r, tk X (k : Int) = (c, r) := ⟨_, _, rfl⟩
        have hcs : caps ((Gs.take (i + 1)).map (fun k => (tk X k).1)) = caps ((Gs.take i).map (fun k => (tk X k).1)) ++ encC (ot, ht_, lt_) := by rw [hts, List.map_append, ← caps_snoc]; simp [hxx]
        rw [hxx] at p1 p2 p3
        simp only at p1 p2 p3
        have hcr := Cr.lit wr.drew 36 (encC (ot, ht_, lt_)) (encC_one _)
        obtain ⟨a', c', w5, hrun, hO5, hG5⟩ := append_k 114 36 _ 3 24 Tryz.underlying114 info36 rfl (by omega) (by omega) (hO.later (below_call (Below.refl _ _).drew (below1 wr.drew (Obj.cells (encC (ot, ht_, lt_)).toArray 36)))) hcr (by have := hBw.size; simp; omega) (by omega)
        have hG5' := hG5.pre (below_call (Below.refl _ _).drew (below1 wr.drew (Obj.cells (encC (ot, ht_, lt_)).toArray 36)))
        have hbn : ∀ j, Blk a j → w1.heap.size ≤ j := fun j hj => (hO.blk j hj).1
        have hR5 := hR.but hG5'.but (fun hb => by have := hbn _ hb; have := HB1.out.size; have := hR.ltr; have := HH.out.ltr; omega) (fun hb => by have := hbn _ hb; omega)
        have hOg5 := hOg.but hG5'.but (fun j hj hb => by have := hbn _ hb; have := HO1.out.lt j hj; omega)
        have HFI1 : Hid (Ow w5 w1.heap.size 36 3 a' (i + 1) c' (caps ((Gs.take (i + 1)).map (fun k => (tk X k).1))) ∧ Rf w5 r b mo (zer X (Gs.take i)) (cuts l (Gs.take i)) wh ev ∧ Own w5 W.heap.size 3 (some ⟨ga, 0, none⟩) Gs.length c1 (ints Gs) ∧ But (· = b) w1 w5) := by
          refine ⟨by rw [hcs]; exact hO5, hR5, hOg5, hBw.comp hG5'.but (fun j hj => .inr (hbn j hj))⟩
        have HRUN := hid hrun
        have HQ1 := hid q1
        have HQ2 := hid q2
        have hgi : Gs[i]? = some (k : Int) := by rw [List.getElem?_eq_getElem hlt, ← hx]
        have HGI := hid hgi
        clear hO hR hBw hOg hL1 hrun hO5 hG5 hG5' hR5 hOg5 q1 q2 hcs hcr hxx htk hts hnt hA hin' hxl hxm hgi hx hbn p0 p4 p5 p6
        go_upto_region 8 with fail
        go_cut [7] from 22 to 35 (fun s W5 => ∃ (a' : Option Addr) (c' : Nat), s = .slice a' (i + 1) c' ∧ (Ow W5 w1.heap.size 36 3 a' (i + 1) c' (caps ((Gs.take (i + 1)).map (fun k => (tk X k).1))) ∧ Rf W5 r b mo (zer X (Gs.take i)) (cuts l (Gs.take i)) wh ev ∧ Own W5 W.heap.size 3 (some ⟨ga, 0, none⟩) Gs.length c1 (ints Gs) ∧ But (· = b) w1 W5))
        case first =>
          refine wp_region_any hmx ?_
          change wpAny _ _ _ _ _ _ _ (World.drew _)
          refine wpAny_take (i := 0) (v := ?_) rfl (by kernel_rfl) (by kernel_rfl) (by kernel_rfl) (fun _ _ _ h => h) (Or.inl ⟨by rfl, ?_⟩) ?_
          rotate_left
          · (intro w_; go_simp; try with_reducible rfl)
          simp only [List.getElem_toArray, List.getElem_cons_zero, Act.put, List.setIfInBounds_toArray, List.set_cons_zero, List.set_cons_succ]
          refine wpAny_take (i := 1) (v := ?_) rfl (by kernel_rfl) (by kernel_rfl) (by kernel_rfl) (fun _ _ _ h => h) (Or.inl ⟨by rfl, ?_⟩) ?_
          rotate_left
          · (intro w_; go_simp; try with_reducible rfl)
          simp only [List.getElem_toArray, List.getElem_cons_succ, List.getElem_cons_zero, Act.put, List.setIfInBounds_toArray, List.set_cons_zero, List.set_cons_succ]
          refine wpAny_take (i := 5) (v := ?_) rfl (by kernel_rfl) (by kernel_rfl) (by kernel_rfl) (fun _ _ _ h => h) (Or.inl ⟨by rfl, ?_⟩) ?_
          rotate_left
          · (intro w_; go_simp; try with_reducible rfl)
          simp only [List.getElem_toArray, List.getElem_cons_succ, List.getElem_cons_zero, Act.put, List.setIfInBounds_toArray, List.set_cons_zero, List.set_cons_succ]
          refine wpAny_take (i := 6) (v := ?_) rfl (by kernel_rfl) (by kernel_rfl) (by kernel_rfl) (fun _ _ _ h => h) (Or.inl ⟨by rfl, ?_⟩) ?_
          rotate_left
          · (intro w_; go_simp; try with_reducible rfl)
          simp only [List.getElem_toArray, List.getElem_cons_succ, List.getElem_cons_zero, Act.put, List.setIfInBounds_toArray, List.set_cons_zero, List.set_cons_succ]
          refine wpAny_take (i := 2) (v := ?_) rfl (by kernel_rfl) (by kernel_rfl) (by kernel_rfl) (fun _ _ _ h => h) (Or.inl ⟨by rfl, ?_⟩) ?_
          rotate_left
          · (intro w_; go_simp; try with_reducible rfl)
          simp only [List.getElem_toArray, List.getElem_cons_succ, List.getElem_cons_zero, Act.put, List.setIfInBounds_toArray, List.set_cons_zero, List.set_cons_succ]
          refine wpAny_take (i := 3) (v := ?_) rfl (by kernel_rfl) (by kernel_rfl) (by kernel_rfl) (fun _ _ _ h => h) (Or.inl ⟨by rfl, ?_⟩) ?_
          rotate_left
          · (intro w_; go_simp; try with_reducible rfl)
          simp only [List.getElem_toArray, List.getElem_cons_succ, List.getElem_cons_zero, Act.put, List.setIfInBounds_toArray, List.set_cons_zero, List.set_cons_succ]
          refine wpAny_take (i := 7) (v := ?_) rfl (by kernel_rfl) (by kernel_rfl) (by kernel_rfl) (fun _ _ _ h => h) (Or.inl ⟨by rfl, ?_⟩) ?_
          rotate_left
          · (intro w_; go_simp; try with_reducible rfl)
          simp only [List.getElem_toArray, List.getElem_cons_succ, List.getElem_cons_zero, Act.put, List.setIfInBounds_toArray, List.set_cons_zero, List.set_cons_succ]
          refine wpAny_ready (rs := [4, 8]) (by kernel_rfl) (by simp) ?_
          refine AllReady.cons rfl (fun K hK => ?_) (AllReady.cons rfl (fun K hK => ?_) AllReady.nil)
          · go_simp
            refine hK _ _ ?_
            clear hK K
            refine wpAny_ready (rs := [8]) (by kernel_rfl) (by simp) ?_
            refine AllReady.cons rfl (fun K hK => ?_) AllReady.nil
            go_simp
            refine hK _ _ ?_
            clear hK K
            refine wpAny_ready (rs := [9]) (by kernel_rfl) (by simp) ?_
            refine AllReady.cons rfl (fun K hK => ?_) AllReady.nil
            go_simp
            refine hK _ _ ?_
            clear hK K
            refine wpAny_ready (rs := [10]) (by kernel_rfl) (by simp) ?_
            refine AllReady.cons rfl (fun K hK => ?_) AllReady.nil
            go_simp
            refine hK _ _ ?_
            clear hK K
            refine wpAny_ready (rs := [11]) (by kernel_rfl) (by simp) ?_
            refine AllReady.cons rfl (fun K hK => ?_) AllReady.nil
            go_simp
            refine hK _ _ ?_
            clear hK K
            refine wpAny_ready (rs := [12]) (by kernel_rfl) (by simp) ?_
            refine AllReady.cons rfl (fun K hK => ?_) AllReady.nil
            go_simp
            refine hK _ _ ?_
            clear hK K
            refine wpAny_ready (rs := [13]) (by kernel_rfl) (by simp) ?_
            refine AllReady.cons rfl (fun K hK => ?_) AllReady.nil
            rw [if_pos (by kernel_rfl)]
            refine op_append_known _ _ 114 rfl _ _ rfl rfl _ w5 HRUN.out ?_
            refine hK _ _ ?_
            clear hK K
            simp only [Act.put, List.setIfInBounds_toArray]
            refine wpAny_ready (rs := [14]) (by kernel_rfl) (by simp) ?_
            refine AllReady.cons rfl (fun K hK => ?_) AllReady.nil
            go_simp
            refine hK _ _ ?_
            clear hK K
            refine wpAny_done (by kernel_rfl) ?_ _
            go_wp2
            go_meet
            exact ⟨_, _, rfl, HFI1.out⟩
          · go_simp
            refine hK _ _ ?_
            clear hK K
            refine wpAny_ready (rs := [4]) (by kernel_rfl) (by simp) ?_
            refine AllReady.cons rfl (fun K hK => ?_) AllReady.nil
            go_simp
            refine hK _ _ ?_
            clear hK K
            refine wpAny_ready (rs := [9]) (by kernel_rfl) (by simp) ?_
            refine AllReady.cons rfl (fun K hK => ?_) AllReady.nil
            go_simp
            refine hK _ _ ?_
            clear hK K
            refine wpAny_ready (rs := [10]) (by kernel_rfl) (by simp) ?_
            refine AllReady.cons rfl (fun K hK => ?_) AllReady.nil
            go_simp
            refine hK _ _ ?_
            clear hK K
            refine wpAny_ready (rs := [11]) (by kernel_rfl) (by simp) ?_
            refine AllReady.cons rfl (fun K hK => ?_) AllReady.nil
            go_simp
            refine hK _ _ ?_
            clear hK K
            refine wpAny_ready (rs := [12]) (by kernel_rfl) (by simp) ?_
            refine AllReady.cons rfl (fun K hK => ?_) AllReady.nil
            go_simp
            refine hK _ _ ?_
            clear hK K
            refine wpAny_ready (rs := [13]) (by kernel_rfl) (by simp) ?_
            refine AllReady.cons rfl (fun K hK => ?_) AllReady.nil
            rw [if_pos (by kernel_rfl)]
            refine op_append_known _ _ 114 rfl _ _ rfl rfl _ w5 HRUN.out ?_
            refine hK _ _ ?_
            clear hK K
            simp only [Act.put, List.setIfInBounds_toArray]
            refine wpAny_ready (rs := [14]) (by kernel_rfl) (by simp) ?_
            refine AllReady.cons rfl (fun K hK => ?_) AllReady.nil
            go_simp
            refine hK _ _ ?_
            clear hK K
            refine wpAny_done (by kernel_rfl) ?_ _
            go_wp2
            go_meet
            exact ⟨_, _, rfl, HFI1.out⟩
        case rest =>
          obtain ⟨a7, c7, rfl, hO7, hR7, hOg7, hB7⟩ := hcut
          obtain ⟨_, e7, hL7⟩ := hOg7.lies rfl (j := i) (u := .int .i64 (k : Int)) (by rw [ints, List.getElem?_map, HGI.out]; rfl)
          cases e7
          have y7 := hL7.1
          have x7 := hR7.c0
          obtain ⟨s0, s1, s2, s3, s4, s5, s6⟩ := hR7.at_ k hkm
          have hfr := hR7.fr
          have hset := (hR7.set hkm HQ1.out (fun j _ hj => HQ2.out j hj))
          have hbs : But (· = b) wc (set7 wc b (k * 7) pc0) := set7_but (S := (· = b)) (But.refl _ _) rfl _ _
          have hfin : ∀ Wz : World, Wz = (set7 wc b (k * 7) pc0).drew → Ow Wz w1.heap.size 36 3 a7 (i + 1) c7 (caps ((Gs.take (i + 1)).map (fun k => (tk X k).1))) ∧ Rf Wz r b mo (zer X (Gs.take (i + 1))) (cuts l (Gs.take (i + 1))) wh ev ∧ But (· = b) w1 Wz := by
            rintro Wz rfl
            exact ⟨(hO7.but hbs (fun j hj e => by have := (hO7.blk j hj).1; omega)).later (Below.refl _ _).drew, hset.later (Below.refl _ _).drew, (hB7.trans hbs).call (Below.refl _ _).drew⟩
          have HF := hid hfin
          have hbk : ¬ (b = ga) := fun e => by have := hOg7.blk ga ⟨_, rfl, rfl⟩; omega
          clear hset hbs hfin hO7 hOg7 hR7 hB7 hL7
          go_upto_region 9 with fail
          go_region
          go_wp2
          obtain ⟨f1, f2, f3⟩ := HF.out _ rfl
          exact ⟨⟨i + 1, a7, c7, by omega, by go_num, rfl, f1, f2, f3⟩, by simp [intOf]; omega⟩
      · obtain rfl : i = Gs.length := by omega
        rw [List.take_length] at hO hR
        have HO := hid hO
        have HR := hid hR
        have HBe : Hid (But (· = b) W wr) := (But.of HB1.out).trans hBw
        clear hO hR hBw
        go_wp2
        exact bodyPost_ret (v := .tuple #[.slice a Gs.length c, .int .i64 0]) (by simp [results, Tryz.results39, go_sem]) rfl ⟨a, c, rfl, HO.out.mono (by omega), HR.out, HBe.out⟩
  · unfold RDropped
    rw [if_neg hn, G_out hn]
    rw [decide_eq_false hn] at his
    have HF : Hid (Rf W r b mo (zer X []) (cuts l []) wh ev) := by unfold Hid; rw [cuts_nil]; exact HH.out
    clear h ht
    go_enter Tryz.func39, Tryz.ntmps39
    go_wp2_with (first | (go_at_call 77; refine his.out.mono ?_; rintro e w9 ⟨rfl, hw9⟩; obtain rfl := hw9.symm; clear hw9))
    exact bodyPost_ret (v := .tuple #[.slice none 0 0, .int .i64 20]) (by simp [results, Tryz.results39, go_sem]) rfl ⟨none, 0, rfl, Ow.nil _ _ _ _, HF.out, But.refl _ _⟩
end Go.Proofs.YtgihdchgdejkhaaGreatDoor
