import Derived.Test.YticgammbjcdobaaQH
namespace Go.Proofs.Yticgammbjcdobaa
open Go.RowKit
set_option linter.unusedVariables false
set_option linter.unusedSimpArgs false
def z13 : List Value := [.int .i64 0, .int .i64 0, .int .i64 0, .int .i64 0, .int .u64 0, .int .u64 0, .bool false, .int .i64 0, .int .i64 0, .int .i64 0, .slice none 0 0, .int .i64 0, .slice none 0 0]
abbrev Z13 : Obj := Obj.cells #[.int .i64 0, .int .i64 0, .int .i64 0, .int .i64 0, .int .u64 0, .int .u64 0, .bool false, .int .i64 0, .int .i64 0, .int .i64 0, .slice none 0 0, .int .i64 0, .slice none 0 0] 36
theorem infoCl : (Try.prog.info? 36).map (·.size) = some 13 := by kernel_rfl
theorem stCl {w : World} {b o : Nat} {L : List Value} (h : w.there b o 13) (hl : L.length = 13) (h1 : ∀ v ∈ L, v.oneCell' = true) : (Instr.storeAt 36 (.pointer (some ⟨b, o, none⟩)) (.agg L.toArray)).run Try.prog w = .ok () (w.setCells b o L) :=
  run_storeAt_mid w b o 36 L.toArray (by simpa [hl] using h) (by rw [infoCl]; simp [hl]) (all_oneCell_toArray h1)
theorem lvCl {w : World} {b o : Nat} {L : List Value} (h : w.rangeAt b o L) (hl : L.length = 13) : (loadVar 36 ⟨b, o, none⟩).run Try.prog w = .ok (.agg L.toArray) w :=
  run_loadVar_mid w b o 36 L _ h Try.underlying36 rfl (by rw [infoCl, hl])
theorem ldCl {w : World} {b o : Nat} {L : List Value} (h : w.rangeAt b o L) (hl : L.length = 13) : (Instr.loadAt 36 (.pointer (some ⟨b, o, none⟩))).run Try.prog w = .ok (.agg L.toArray) w :=
  run_loadAt_mid w b o 36 L _ h Try.underlying36 rfl (by rw [infoCl, hl])
theorem Cq.one (x : Cq) : ∀ v ∈ x.L, v.oneCell' = true := by
  intro u hu
  simp only [List.mem_cons, List.not_mem_nil, or_false] at hu
  rcases hu with rfl | rfl | rfl | rfl | rfl | rfl | rfl | rfl | rfl | rfl | rfl | rfl | rfl <;> rfl
theorem infoI1 : (Try.prog.info? 3).map (fun i => (i.zero, i.size, i.bytes)) = some (some (.int .i64 0), 1, 8) := by kernel_rfl
theorem i64s_one (l : List Int) : ∀ u ∈ i64s l, u.oneCell' = true := by
  intro u hu
  obtain ⟨n, _, rfl⟩ := List.mem_map.1 hu
  rfl
/-- Numbers copied into new memory. -/
theorem copy_ints {w : World} {b : Option Addr} {m c : Nat} {M : List Int} (k : RI w b m c M) (hm : m ≤ 100000000) :
    ∃ a' c' w', (Builtin.append_ #[34, 34] 34 #[.slice none 0 0, .slice b m c]).run Try.prog w = .ok (.slice a' m c') w' ∧ RI w' a' m c' M ∧ Below w.heap.size w w' ∧ ∀ j, Blk a' j → w.heap.size ≤ j ∧ j < w'.heap.size := by
  obtain ⟨i, hi, hz0, hz1, hz2⟩ := info_parts infoI1
  have hown : w.ownsRow w.heap.size 3 1 (.slice none 0 0) 0 [] := ⟨by simp, .inl ⟨rfl, rfl⟩⟩
  cases b with
  | none =>
    obtain ⟨rfl, rfl⟩ := k.none_ rfl
    have hM : M = [] := List.eq_nil_of_length_eq_zero k.len
    subst hM
    exact ⟨none, 0, w, run_append_owned_none (P := Try.prog) (w := w) w.heap.size 34 34 3 i 1 Try.underlying34 hi _ 0 _ hown, RI.nil w, Below.refl _ _, fun j hj => by obtain ⟨x, hx, _⟩ := hj; cases hx⟩
  | some x =>
    obtain ⟨v', w', hr, h2, h3, _, h5⟩ := run_append_own_at (P := Try.prog) w w.heap.size 34 34 3 i _ 1 8 Try.underlying34 hi hz0 hz1 hz2 rfl (by decide) _ 0 _ hown x m c (i64s M) (by rw [i64s_length, k.len, Nat.mul_one]) (k.cells x rfl) (i64s_one M) (by unfold maxLen; omega) (by omega) (Nat.le_refl _)
    rw [Nat.zero_add] at h2
    obtain ⟨a', cap', rfl⟩ : ∃ a' cap', v' = .slice a' m cap' := by
      rcases h2.2 with ⟨h, h'⟩ | ⟨g', cap', _, h, _⟩
      · exact ⟨.none, 0, by rw [h, h']⟩
      · exact ⟨_, cap', h⟩
    have ho : Ow w' w.heap.size 3 1 a' m cap' (i64s M) := by rw [List.nil_append] at h2; exact h2
    have hb : Below w.heap.size w w' := ⟨h3.os, h3.tape, h3.output, h3.size, fun j hj => h3.block j hj (fun e => by cases e)⟩
    refine ⟨a', cap', w', hr, ?_, hb, ho.blk⟩
    rcases ho.2 with ⟨e1, e2⟩ | ⟨g', cp, cur, hv, hg, hh, e3, e4, e5, e6⟩
    · simp only [Value.slice.injEq] at e1
      obtain ⟨rfl, rfl, rfl⟩ := e1
      have hM : M = [] := List.eq_nil_of_length_eq_zero k.len
      subst hM
      exact RI.nil _
    · simp only [Value.slice.injEq] at hv
      obtain ⟨rfl, _, rfl⟩ := hv
      refine RI.at k.len e3 (fun i hi => ?_)
      have := rg_at (ho.cells rfl) (j := i) (i64s_get M i hi)
      rw [Nat.zero_add]
      exact this
theorem copy_bytes {w : World} {b : Option Addr} {m c : Nat} {M : List Nat} (k : Row w b m c M) (hm : m ≤ 100000000) :
    ∃ a' c' w', (Builtin.append_ #[33, 33] 33 #[.slice none 0 0, .slice b m c]).run Try.prog w = .ok (.slice a' m c') w' ∧ Row w' a' m c' M ∧ Below w.heap.size w w' ∧ (∀ j, Blk a' j → w.heap.size ≤ j ∧ j < w'.heap.size) ∧ c' ≤ 9223372036854775807 := by
  obtain ⟨a', c', w', hr, ho, hg⟩ := append_any (Own.nil w w.heap.size) k (Nat.le_refl _) (by omega)
  rw [Nat.zero_add] at hr ho
  rw [List.nil_append] at ho
  refine ⟨a', c', w', hr, ho.read, hg.below (Own.nil w w.heap.size) (Nat.le_refl _), fun j hj => ⟨ho.blk j hj, ho.lt j hj⟩, ?_⟩
  rcases ho.row.2 with ⟨e1, e2⟩ | ⟨g', cp, cur, hv, _, hh, e3, e4, _⟩
  · simp only [Value.slice.injEq] at e1
    omega
  · simp only [Value.slice.injEq] at hv
    obtain ⟨_, _, rfl⟩ := hv
    unfold maxLen at e4
    omega
abbrev Cq.with (x : Cq) (d g : Sl) : Cq := ⟨x.op, x.b, x.sz, x.c, x.gv, x.rt, x.off, x.nn, d, x.ix, g⟩
/-- A call whose lists are new memory. -/
structure Cn (w0 w : World) (x : Cq) (bs : List Nat) (gs : List Int) : Prop where
  d : Row w x.d.a x.d.n x.d.c bs
  g : RI w x.gs.a x.gs.n x.gs.c gs
  db : ∀ j, Blk x.d.a j → w0.heap.size ≤ j ∧ j < w.heap.size
  gb : ∀ j, Blk x.gs.a j → w0.heap.size ≤ j ∧ j < w.heap.size
  dc : x.d.c ≤ 9223372036854775807
set_option maxRecDepth 100000 in
set_option maxHeartbeats 4000000 in
theorem copied_any (x : Cq) (bs : List Nat) (gs : List Int) (w : World) (hr : Row w x.d.a x.d.n x.d.c bs) (hg : RI w x.gs.a x.gs.n x.gs.c gs) (hd1 : x.d.n ≤ 100000000) (hg1 : x.gs.n ≤ 100000000) :
    Calls Try.prog 11 #[x.v] w fun e w' => ∃ d' g' : Sl, e = .returned (x.with d' g').v ∧ d'.n = x.d.n ∧ g'.n = x.gs.n ∧ Cn w w' (x.with d' g') bs gs ∧ Below w.heap.size w w' := by
  obtain ⟨W, hW⟩ : ∃ W, W = (w.alloc (Obj.cells x.L.toArray 36)).alloc Z13 := ⟨_, rfl⟩
  have HB : Hid (Below w.heap.size w W) := by unfold Hid; rw [hW]; exact below2 _ _ _
  have HWs : Hid (W.heap.size = w.heap.size + 2) := by unfold Hid; rw [hW]; simp
  have HX0 : Hid (Bx W w.heap.size x.L) := by rw [hW]; exact (Bx.new w x.L _).later (below1 _ _)
  have HX1 : Hid (Bx W (w.heap.size + 1) z13) := by rw [hW]; have := Bx.new (w.alloc (Obj.cells x.L.toArray 36)) z13 36; rw [World.size_alloc] at this; exact this
  -- the copy
  obtain ⟨A, hA⟩ : ∃ A, A = (W.alloc Z13).setCells W.heap.size 0 x.L := ⟨_, rfl⟩
  have hZ : Bx (W.alloc Z13) W.heap.size z13 := Bx.new W z13 _
  have HSt0 := hid (stCl (L := x.L) hZ.there rfl x.one)
  have hbA : Below W.heap.size W A := by rw [hA]; exact But.below (below1 _ _) (setCells_but (S := (· = W.heap.size)) rfl x.L 0 (But.refl _ _)) (fun k hk => by omega)
  have hXA : Bx A W.heap.size x.L := by rw [hA]; exact hZ.set rfl
  have HLd0 := hid (ldCl HX0.out.range rfl)
  rw [← hA] at HSt0
  have HAa := hid (And.intro (hXA.cell 10 rfl) (hXA.there 10 (by simp)).2)
  obtain ⟨A2, hA2⟩ : ∃ A2, A2 = A.setCell ⟨W.heap.size, 10, none⟩ (.slice none 0 0) := ⟨_, rfl⟩
  have hXA2 : Bx A2 W.heap.size (x.with ⟨none, 0, 0⟩ x.gs).L := by rw [hA2]; exact hXA.set1 10 _ (by simp)
  have hbA2 : Below W.heap.size W A2 := by rw [hA2]; exact But.below hbA ((But.refl (· = W.heap.size) A).setCell (p := ⟨W.heap.size, 10, none⟩) rfl _) (fun k hk => by omega)
  obtain ⟨a1, c1, w3, r3, row3, b3, n3, cc3⟩ := copy_bytes ((hr.later HB.out).later hbA2) hd1
  have hX3 := hXA2.later b3
  have hX03 := (HX0.out.later hbA2).later b3
  obtain ⟨A4, hA4⟩ : ∃ A4, A4 = w3.setCell ⟨W.heap.size, 10, none⟩ (.slice a1 x.d.n c1) := ⟨_, rfl⟩
  have hXA4 : Bx A4 W.heap.size (x.with ⟨a1, x.d.n, c1⟩ x.gs).L := by rw [hA4]; exact hX3.set1 10 _ (by simp)
  have hl3 := hXA2.lt (by simp)
  have hb4 : But (· = W.heap.size) w3 A4 := by rw [hA4]; exact (But.refl (· = W.heap.size) w3).setCell (p := ⟨W.heap.size, 10, none⟩) rfl _
  obtain ⟨A5, hA5⟩ : ∃ A5, A5 = A4.setCell ⟨W.heap.size, 12, none⟩ (.slice none 0 0) := ⟨_, rfl⟩
  have hXA5 : Bx A5 W.heap.size (x.with ⟨a1, x.d.n, c1⟩ ⟨none, 0, 0⟩).L := by rw [hA5]; exact hXA4.set1 12 _ (by simp)
  have hb5 : But (· = W.heap.size) w3 A5 := hb4.trans (by rw [hA5]; exact (But.refl (· = W.heap.size) A4).setCell (p := ⟨W.heap.size, 12, none⟩) rfl _)
  have hBe5 : Below W.heap.size W A5 := But.below (below_call hbA2 b3) hb5 (fun k hk => by omega)
  obtain ⟨a2, c2, w6, r6, row6, b6, n6⟩ := copy_ints ((hg.later HB.out).later hBe5) hg1
  have hX6 := hXA5.later b6
  have hX05 := HX0.out.later hBe5
  obtain ⟨A7, hA7⟩ : ∃ A7, A7 = w6.setCell ⟨W.heap.size, 12, none⟩ (.slice a2 x.gs.n c2) := ⟨_, rfl⟩
  have hXA7 : Bx A7 W.heap.size (x.with ⟨a1, x.d.n, c1⟩ ⟨a2, x.gs.n, c2⟩).L := by rw [hA7]; exact hX6.set1 12 _ (by simp)
  have hb7 : But (· = W.heap.size) w6 A7 := by rw [hA7]; exact (But.refl (· = W.heap.size) w6).setCell (p := ⟨W.heap.size, 12, none⟩) rfl _
  have hBe7 : Below W.heap.size W A7 := But.below (below_call hBe5 b6) hb7 (fun k hk => by omega)
  have HLd7 := hid (ldCl hXA7.range rfl)
  have hX17 := HX1.out.later hBe7
  have HSt8 := hid (stCl (L := (x.with ⟨a1, x.d.n, c1⟩ ⟨a2, x.gs.n, c2⟩).L) hX17.there rfl (Cq.one _))
  obtain ⟨A8, hA8⟩ : ∃ A8, A8 = A7.setCells (w.heap.size + 1) 0 (x.with ⟨a1, x.d.n, c1⟩ ⟨a2, x.gs.n, c2⟩).L := ⟨_, rfl⟩
  have hb8 : But (· = w.heap.size + 1) A7 A8 := by rw [hA8]; exact setCells_but (S := (· = w.heap.size + 1)) rfl _ 0 (But.refl _ _)
  have hXA8 : Bx A8 (w.heap.size + 1) (x.with ⟨a1, x.d.n, c1⟩ ⟨a2, x.gs.n, c2⟩).L := by rw [hA8]; exact hX17.set rfl
  have HLv := hid (lvCl hXA8.range rfl)
  have HBf : Hid (Below w.heap.size w A8) := But.below (below_call HB.out hBe7) hb8 (fun k hk => by omega)
  rw [← hA8] at HSt8
  have hWs := HWs.out
  have s3 := b3.size
  have s2 := hbA2.size
  have s5 := hb5.size
  have s6 := b6.size
  have s7 := hb7.size
  have s8 := hb8.size
  have hrow8 : Row A8 a1 x.d.n c1 bs := (((row3.but hb5 (fun j hj => by have := n3 j hj; omega)).later b6).but hb7 (fun j hj => by have := n3 j hj; omega)).but hb8 (fun j hj => by have := n3 j hj; omega)
  have hri8 : RI A8 a2 x.gs.n c2 gs := (row6.but hb7 (fun j hj => by have := n6 j hj; omega)).but hb8 (fun j hj => by have := n6 j hj; omega)
  have HCn : Hid (Cn w A8 (x.with ⟨a1, x.d.n, c1⟩ ⟨a2, x.gs.n, c2⟩) bs gs) := ⟨hrow8, hri8, fun j hj => by have := n3 j hj; omega, fun j hj => by have := n6 j hj; omega, cc3⟩
  have h10 := HAa.out.1
  have f10 := HAa.out.2
  rw [Nat.zero_add] at f10
  have hA2c := hXA2.cell 10 rfl
  have x010 := (HX0.out.later hbA2).cell 10 rfl
  have h310 := hX3.cell 10 rfl
  have f310 := (hX3.there 10 (by simp)).2
  rw [Nat.zero_add] at f310
  have h412 := hXA4.cell 12 rfl
  have f412 := (hXA4.there 12 (by simp)).2
  rw [Nat.zero_add] at f412
  have h512 := hXA5.cell 12 rfl
  have x012 := hX05.cell 12 rfl
  have h612 := hX6.cell 12 rfl
  have f612 := (hX6.there 12 (by simp)).2
  rw [Nat.zero_add] at f612
  have HR3 := hid r3
  have HR6 := hid r6
  have HW := hid hW
  have HA0 := hid hA
  have HA2 := hid hA2
  have HA4 := hid hA4
  have HA5 := hid hA5
  have HA7 := hid hA7
  obtain ⟨xop, xb, xsz, ⟨xo, xh, xl⟩, xgv, xrt, xoff, xnn, ⟨xda, xdn, xdc⟩, xix, ⟨xga, xgn, xgc⟩⟩ := x
  clear hr hg hd1 hg1 hZ hbA hXA hXA2 hbA2 r3 row3 b3 n3 cc3 hX3 hX03 hXA4 hl3 hb4 hXA5 hb5 hBe5 r6 row6 b6 n6 hX6 hX05 hXA7 hb7 hBe7 hX17 hb8 hXA8 hWs s3 s2 s5 s6 s7 s8 hrow8 hri8 hW hA hA2 hA4 hA5 hA7 hA8 HAa
  simp only at HR3 HR6 HLd0 HSt0 HLd7 HSt8 HLv HCn HW h10 hA2c x010 h310 h412 h512 x012 h612 HA4 HA7 ⊢
  go_enter Try.func11, Try.ntmps11
  go_upto_region 1 with fail
  rw [← HW.out]
  go_upto_region 2 with (first | ((with_reducible refine ld_arm HLd0.out ?_ ?_); (· rfl)) | ((with_reducible refine st_arm HSt0.out ?_ ?_ ?_); (· rfl); (· rfl)))
  go_upto_region 3 with fail
  rw [← HA2.out]
  clear h10 f10
  go_upto_region 4 with (first | (at_builtin; refine wpList_append_known rfl _ _ 33 rfl _ _ rfl rfl _ w3 HR3.out ?_))
  rw [← HA4.out]
  clear hA2c x010 h310 f310
  go_upto_region 5 with fail
  rw [← HA5.out]
  clear h412 f412
  go_upto_region 6 with (first | (at_builtin; refine wpList_append_known rfl _ _ 34 rfl _ _ rfl rfl _ w6 HR6.out ?_))
  rw [← HA7.out]
  clear h512 x012 h612 f612
  go_wp2_with (first | ((with_reducible refine ld_arm HLd7.out ?_ ?_); (· rfl)) | ((with_reducible refine st_arm HSt8.out ?_ ?_ ?_); (· rfl); (· rfl)))
  exact bodyPost_ret (v := _) (by simp [results, Try.results11, asAddr, Act.put, HLv.out]) rfl ⟨⟨a1, xdn, c1⟩, ⟨a2, xgn, c2⟩, rfl, rfl, rfl, HCn.out, HBf.out⟩
def z6 : List Value := [.int .i64 0, .int .i64 0, .int .u64 0, .int .u64 0, .slice none 0 0, .int .i64 0]
abbrev Z6 : Obj := Obj.cells #[.int .i64 0, .int .i64 0, .int .u64 0, .int .u64 0, .slice none 0 0, .int .i64 0] 39
theorem infoRp : (Try.prog.info? 39).map (·.size) = some 6 := by kernel_rfl
theorem stRp {w : World} {b o : Nat} {L : List Value} (h : w.there b o 6) (hl : L.length = 6) (h1 : ∀ v ∈ L, v.oneCell' = true) : (Instr.storeAt 39 (.pointer (some ⟨b, o, none⟩)) (.agg L.toArray)).run Try.prog w = .ok () (w.setCells b o L) :=
  run_storeAt_mid w b o 39 L.toArray (by simpa [hl] using h) (by rw [infoRp]; simp [hl]) (all_oneCell_toArray h1)
theorem lvRp {w : World} {b o : Nat} {L : List Value} (h : w.rangeAt b o L) (hl : L.length = 6) : (loadVar 39 ⟨b, o, none⟩).run Try.prog w = .ok (.agg L.toArray) w :=
  run_loadVar_mid w b o 39 L _ h Try.underlying39 rfl (by rw [infoRp, hl])
theorem ldRp {w : World} {b o : Nat} {L : List Value} (h : w.rangeAt b o L) (hl : L.length = 6) : (Instr.loadAt 39 (.pointer (some ⟨b, o, none⟩))).run Try.prog w = .ok (.agg L.toArray) w :=
  run_loadAt_mid w b o 39 L _ h Try.underlying39 rfl (by rw [infoRp, hl])
theorem rpL_one (cd : Int) (c : Cp) (d : Sl) (nu : Int) : ∀ v ∈ rpL cd c d nu, v.oneCell' = true := by
  intro u hu
  simp only [List.mem_cons, List.not_mem_nil, or_false] at hu
  rcases hu with rfl | rfl | rfl | rfl | rfl | rfl <;> rfl
set_option maxRecDepth 100000 in
set_option maxHeartbeats 4000000 in
theorem answered_any (cd nu : Int) (c : Cp) (d : Sl) (rs : List Nat) (w : World) (hr : Row w d.a d.n d.c rs) (hd1 : d.n ≤ 100000000) :
    Calls Try.prog 12 #[rpV cd c d nu] w fun e w' => ∃ d' : Sl, e = .returned (rpV cd c d' nu) ∧ d'.n = d.n ∧ Below w.heap.size w w' := by
  obtain ⟨W, hW⟩ : ∃ W, W = (w.alloc (Obj.cells (rpL cd c d nu).toArray 39)).alloc Z6 := ⟨_, rfl⟩
  have HB : Hid (Below w.heap.size w W) := by unfold Hid; rw [hW]; exact below2 _ _ _
  have HWs : Hid (W.heap.size = w.heap.size + 2) := by unfold Hid; rw [hW]; simp
  have HX0 : Hid (Bx W w.heap.size (rpL cd c d nu)) := by rw [hW]; exact (Bx.new w (rpL cd c d nu) _).later (below1 _ _)
  have HX1 : Hid (Bx W (w.heap.size + 1) z6) := by rw [hW]; have := Bx.new (w.alloc (Obj.cells (rpL cd c d nu).toArray 39)) z6 39; rw [World.size_alloc] at this; exact this
  obtain ⟨A, hA⟩ : ∃ A, A = (W.alloc Z6).setCells W.heap.size 0 (rpL cd c d nu) := ⟨_, rfl⟩
  have hZ : Bx (W.alloc Z6) W.heap.size z6 := Bx.new W z6 _
  have HSt0 := hid (stRp (L := rpL cd c d nu) hZ.there rfl (rpL_one _ _ _ _))
  have hbA : Below W.heap.size W A := by rw [hA]; exact But.below (below1 _ _) (setCells_but (S := (· = W.heap.size)) rfl (rpL cd c d nu) 0 (But.refl _ _)) (fun k hk => by omega)
  have hXA : Bx A W.heap.size (rpL cd c d nu) := by rw [hA]; exact hZ.set rfl
  have HLd0 := hid (ldRp HX0.out.range rfl)
  rw [← hA] at HSt0
  have h10 := hXA.cell 4 rfl
  have f10 := (hXA.there 4 (by simp)).2
  rw [Nat.zero_add] at f10
  obtain ⟨A2, hA2⟩ : ∃ A2, A2 = A.setCell ⟨W.heap.size, 4, none⟩ (.slice none 0 0) := ⟨_, rfl⟩
  have hXA2 : Bx A2 W.heap.size (rpL cd c ⟨none, 0, 0⟩ nu) := by rw [hA2]; exact hXA.set1 4 _ (by simp)
  have hbA2 : Below W.heap.size W A2 := by rw [hA2]; exact But.below hbA ((But.refl (· = W.heap.size) A).setCell (p := ⟨W.heap.size, 4, none⟩) rfl _) (fun k hk => by omega)
  obtain ⟨a1, c1, w3, r3, row3, b3, n3, cc3⟩ := copy_bytes ((hr.later HB.out).later hbA2) hd1
  have hX3 := hXA2.later b3
  obtain ⟨A4, hA4⟩ : ∃ A4, A4 = w3.setCell ⟨W.heap.size, 4, none⟩ (.slice a1 d.n c1) := ⟨_, rfl⟩
  have hXA4 : Bx A4 W.heap.size (rpL cd c ⟨a1, d.n, c1⟩ nu) := by rw [hA4]; exact hX3.set1 4 _ (by simp)
  have hb4 : But (· = W.heap.size) w3 A4 := by rw [hA4]; exact (But.refl (· = W.heap.size) w3).setCell (p := ⟨W.heap.size, 4, none⟩) rfl _
  have hBe4 : Below W.heap.size W A4 := But.below (below_call hbA2 b3) hb4 (fun k hk => by omega)
  have HLd7 := hid (ldRp hXA4.range rfl)
  have hX17 := HX1.out.later hBe4
  have HSt8 := hid (stRp (L := rpL cd c ⟨a1, d.n, c1⟩ nu) hX17.there rfl (rpL_one _ _ _ _))
  obtain ⟨A8, hA8⟩ : ∃ A8, A8 = A4.setCells (w.heap.size + 1) 0 (rpL cd c ⟨a1, d.n, c1⟩ nu) := ⟨_, rfl⟩
  have hb8 : But (· = w.heap.size + 1) A4 A8 := by rw [hA8]; exact setCells_but (S := (· = w.heap.size + 1)) rfl _ 0 (But.refl _ _)
  have hXA8 : Bx A8 (w.heap.size + 1) (rpL cd c ⟨a1, d.n, c1⟩ nu) := by rw [hA8]; exact hX17.set rfl
  have HLv := hid (lvRp hXA8.range rfl)
  have HBf : Hid (Below w.heap.size w A8) := But.below (below_call HB.out hBe4) hb8 (fun k hk => by omega)
  rw [← hA8] at HSt8
  have hA2c := hXA2.cell 4 rfl
  have x010 := (HX0.out.later hbA2).cell 4 rfl
  have h310 := hX3.cell 4 rfl
  have f310 := (hX3.there 4 (by simp)).2
  rw [Nat.zero_add] at f310
  have HR3 := hid r3
  have HW := hid hW
  have HA2 := hid hA2
  have HA4 := hid hA4
  obtain ⟨co, ch, cl⟩ := c
  obtain ⟨da, dn, dc⟩ := d
  clear hr hd1 hZ hbA hXA hXA2 hbA2 r3 row3 b3 n3 cc3 hX3 hXA4 hb4 hBe4 hX17 hb8 hXA8 hW hA hA2 hA4 hA8
  simp only at HR3 HLd0 HSt0 HLd7 HSt8 HLv HW h10 hA2c x010 h310 HA4 ⊢
  go_enter Try.func12, Try.ntmps12
  go_upto_region 1 with fail
  rw [← HW.out]
  go_upto_region 2 with (first | ((with_reducible refine ld_arm HLd0.out ?_ ?_); (· rfl)) | ((with_reducible refine st_arm HSt0.out ?_ ?_ ?_); (· rfl); (· rfl)))
  go_upto_region 3 with fail
  rw [← HA2.out]
  clear h10 f10
  go_upto_region 4 with (first | (at_builtin; refine wpList_append_known rfl _ _ 33 rfl _ _ rfl rfl _ w3 HR3.out ?_))
  rw [← HA4.out]
  clear hA2c x010 h310 f310
  go_wp2_with (first | ((with_reducible refine ld_arm HLd7.out ?_ ?_); (· rfl)) | ((with_reducible refine st_arm HSt8.out ?_ ?_ ?_); (· rfl); (· rfl)))
  exact bodyPost_ret (v := _) (by simp [results, Try.results12, asAddr, Act.put, HLv.out]) rfl ⟨⟨a1, dn, c1⟩, rfl, rfl, HBf.out⟩
end Go.Proofs.Yticgammbjcdobaa
