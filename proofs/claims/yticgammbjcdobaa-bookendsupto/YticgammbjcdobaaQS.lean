import Derived.Test.YticgammbjcdobaaQR
namespace Go.Proofs.Yticgammbjcdobaa
open Go.RowKit
set_option linter.unusedVariables false
set_option linter.unusedSimpArgs false
/-- A book's sizes. -/
structure Sz (B : Bv) (N : Nat) : Prop where
  lists : ∀ p, (B.lists p).length ≤ N
  known : ∀ p, (B.known p).length ≤ N
  told : ∀ p F ls, B.told p F = some ls → ls.length ≤ N
  laid : ∀ o i ls, B.laid o i = some ls → ls.length ≤ N
  ct : B.ct ≤ N
  n0 : 0 ≤ B.n
  n1 : B.n ≤ (N : Int)
theorem Sz.mono {B : Bv} {N M : Nat} (h : Sz B N) (hm : N ≤ M) : Sz B M :=
  ⟨fun p => Nat.le_trans (h.lists p) hm, fun p => Nat.le_trans (h.known p) hm, fun p F ls e => Nat.le_trans (h.told p F ls e) hm, fun o i ls e => Nat.le_trans (h.laid o i ls e) hm, Nat.le_trans h.ct hm, h.n0, by have := h.n1; omega⟩
theorem Sz.tell {B : Bv} {N : Nat} (h : Sz B N) (kd b t : Int) (c : Cp) {ls : List Lk} (hl : ls.length ≤ N) : Sz (tellV B kd b t c ls) (N + 1) := by
  unfold tellV
  split
  · refine ⟨fun p => Nat.le_trans (h.lists p) (by omega), fun p => ?_, fun p F l e => ?_, fun o i l e => Nat.le_trans (h.laid o i l e) (by omega), Nat.le_trans h.ct (by omega), h.n0, by have := h.n1; show B.n ≤ _; omega⟩
    · simp only [up1]
      split
      · have := h.known t; simp; omega
      · have := h.known p; omega
    · simp only [up2] at e
      split at e
      · cases e
        simp
        omega
      · have := h.told p F l e; omega
  · exact h.mono (by omega)
theorem Sz.tg {B : Bv} {N : Nat} (h : Sz B N) (p : Int) (c : Cp) : ((tgV B p c).getD []).length ≤ N := by
  unfold tgV
  split
  · cases e : B.told p (frm c) with
    | none => simp
    | some ls => exact h.told _ _ _ e
  · simp
theorem Sz.liv {B : Bv} {N : Nat} (h : Sz B N) (c : Cp) (ph pl : Nat) (r : Int) : Sz (livV B c ph pl r) (N + 1) :=
  ⟨fun p => Nat.le_trans (h.lists p) (by omega), fun p => Nat.le_trans (h.known p) (by omega), fun p F ls e => Nat.le_trans (h.told p F ls e) (by omega), fun o i ls e => Nat.le_trans (h.laid o i ls e) (by omega), Nat.succ_le_succ h.ct, h.n0, by have := h.n1; show B.n ≤ _; omega⟩
theorem Sz.rd {B : Bv} {N : Nat} (h : Sz B N) (b obj off : Int) (k : Nat) : Sz (rdV b obj off B k) (N + k) := by
  induction k with
  | zero => exact h
  | succ k ih =>
    unfold rdV rdS
    split
    · rename_i x ls e
      have hl := h.laid obj (wrap64 (off + (k : Int))) (x :: ls) (by rw [← (rdV_n b obj off B k).2.1]; exact e)
      exact ih.tell 3 x.t b x.c (by omega)
    · exact ih.mono (by omega)
theorem Sz.dl {B : Bv} {N : Nat} (h : Sz B N) (obj off : Int) (k : Nat) : Sz (dlV obj off B k) N := by
  induction k with
  | zero => exact h
  | succ k ih =>
    refine ⟨ih.lists, ih.known, ih.told, fun o i ls e => ?_, ih.ct, ih.n0, ih.n1⟩
    unfold dlV dlS up2 at e
    simp only at e
    split at e
    · cases e
    · exact ih.laid o i ls e
theorem Sz.wr {B : Bv} {N : Nat} (h : Sz B N) (b obj off : Int) (bs : List Nat) (k : Nat) : Sz (wrV b obj off bs B k) N := by
  induction k with
  | zero => exact h
  | succ k ih =>
    unfold wrV wrS
    split
    · rename_i ls e
      refine ⟨ih.lists, ih.known, ih.told, fun o i l e2 => ?_, ih.ct, ih.n0, ih.n1⟩
      unfold up2 at e2
      simp only at e2
      split at e2
      · cases e2
        exact ih.told _ _ _ e
      · exact ih.laid o i l e2
    · exact ih
theorem Sz.writ {B : Bv} {N : Nat} (h : Sz B N) (x : Cq) (bs : List Nat) : Sz (writV x bs B) N := by
  unfold writV
  split
  · exact h
  · exact (h.dl _ _ _).wr _ _ _ _ _
theorem Sz.list {B : Bv} {N : Nat} (h : Sz B N) (p : Int) (l : List Cp) (hl : l.length ≤ N) : Sz { B with lists := up1 B.lists p l } N := by
  refine ⟨fun q => ?_, h.known, h.told, h.laid, h.ct, h.n0, h.n1⟩
  simp only [up1]
  split
  · exact hl
  · exact h.lists q
theorem Sz.rem {B : Bv} {N : Nat} (h : Sz B N) (b ix : Int) : Sz (remV B b ix) N := by
  unfold remV
  split
  · exact h.list _ _ (Nat.le_trans (List.length_eraseIdx_le _ _) (h.lists b))
  · exact h
theorem Sz.sp {B : Bv} {N : Nat} (h : Sz B N) (L : List Cp) (b nu : Int) : ∀ (gs : List Int) (r : List Cp × Bv) (k : Nat), Sz r.2 (N + k) → Sz (gs.foldl (spS L b nu) r).2 (N + k + gs.length)
  | [], r, k, hr => hr
  | g :: gs, r, k, hr => by
    have hs : Sz (spS L b nu r g).2 (N + (k + 1)) := by
      unfold spS
      split
      · split
        · simp only
          split
          · rename_i x _ _ ls e
            have := hr.tg b x
            rw [e] at this
            exact hr.tell 4 b nu x this
          · exact hr.mono (by omega)
        · exact hr.mono (by omega)
      · exact hr.mono (by omega)
    have := Sz.sp h L b nu gs (spS L b nu r g) (k + 1) hs
    rw [List.foldl_cons, List.length_cons]
    exact this.mono (by omega)
theorem Sz.spw {B : Bv} {N : Nat} (h : Sz B N) (b nu : Int) (gs : List Int) : Sz (spwV B b nu gs) (N + gs.length) := by
  have h1 := Sz.sp h (B.lists b) b nu gs ([], B) 0 h
  have h2 := (spV_n (B.lists b) b nu B gs).2.2.2.2.2.1
  exact (h1.mono (by omega)).list _ _ (by omega)
theorem Sz.less {B B' : Bv} {N : Nat} (h : Sz B N) (l : Less B' B) : Sz B' N :=
  ⟨by rw [l.lists]; exact h.lists, by rw [l.known]; exact h.known, by rw [l.told]; exact h.told, fun o i ls e => h.laid o i ls (l.laid o i ls e), by rw [l.ct]; exact h.ct, by rw [l.n]; exact h.n0, by rw [l.n]; exact h.n1⟩
theorem Sz.forget {B : Bv} {N : Nat} (h : Sz B N) (p : Int) : Sz { B with live := fun q j => if q = p then none else B.live q j, laid := fun q j => if q = p then none else B.laid q j } N := by
  refine ⟨h.lists, h.known, h.told, fun o i ls e => ?_, h.ct, h.n0, h.n1⟩
  simp only at e
  split at e
  · cases e
  · exact h.laid o i ls e
theorem Sz.step {B : Bv} {N : Nat} (h : Sz B N) : Sz { B with n := B.n + 1 } (N + 1) :=
  ⟨fun p => Nat.le_trans (h.lists p) (by omega), fun p => Nat.le_trans (h.known p) (by omega), fun p F ls e => Nat.le_trans (h.told p F ls e) (by omega), fun o i ls e => Nat.le_trans (h.laid o i ls e) (by omega), Nat.le_trans h.ct (by omega), by have := h.n0; show 0 ≤ B.n + 1; omega, by have := h.n1; show B.n + 1 ≤ _; omega⟩
theorem Bk.step {W : World} {m : Bm} {B : Bv} (h : Bk W m B) : Bk (W.setCell ⟨m.g, 0, none⟩ (.int .i64 (m.n + 1))) { m with n := m.n + 1 } { B with n := B.n + 1 } ∧ Tr W (W.setCell ⟨m.g, 0, none⟩ (.int .i64 (m.n + 1))) m { m with n := m.n + 1 } := by
  have hb : But (· = m.g) W (W.setCell ⟨m.g, 0, none⟩ (.int .i64 (m.n + 1))) := (But.refl (· = m.g) W).setCell (p := ⟨m.g, 0, none⟩) rfl _
  have hg : ∀ j, j = m.g → Owb m j := fun j e => by subst e; exact .inl (by simp [Bm.blks])
  exact ⟨⟨h.bw.step _, by show m.n + 1 = B.n + 1; rw [h.n], h.live, h.laid.mono (fun v a hr => hr.but h.bw hb hg), h.told.mono (fun v a hr => hr.but h.bw hb hg), h.lists, h.known, h.kne, h.cnt⟩, rfl, hb.mono hg, fun j hj => .inl hj⟩
/-- What a note leaves behind. -/
def Nt (w w' : World) (m : Bm) (B : Bv) (N : Nat) : Prop := ∃ m' B', Bk w' m' B' ∧ Tr w w' m m' ∧ Sz B' N ∧ B'.n = B.n + 1
structure NtA (w : World) (m : Bm) (B : Bv) (x : Cq) (c : Cp) (d : Sl) (nu : Int) (bs : List Nat) (gs : List Int) (N : Nat) : Prop where
  hb : Bk w m B
  hx : x.ok
  hc : c.far
  hnu : I64 nu
  sz : Sz B N
  hN : N + 3 + x.gs.n + d.n + x.d.n ≤ 50000000
  hrw : Row w x.d.a x.d.n x.d.c bs
  hrb : ∀ j, Blk x.d.a j → j < w.heap.size ∧ ¬ Owb m j
  hrc : x.d.c ≤ 9223372036854775807
  hri : RI w x.gs.a x.gs.n x.gs.c gs
  hrg : ∀ j, Blk x.gs.a j → j < w.heap.size ∧ ¬ Owb m j
set_option maxRecDepth 100000 in
set_option maxHeartbeats 4000000 in
theorem nt_create (m : Bm) (B : Bv) (x : Cq) (cd nu : Int) (c : Cp) (d : Sl) (bs : List Nat) (gs : List Int) (N : Nat) (w : World) (ha : NtA w m B x c d nu bs gs N) (hcd : cd = 0) (hop : x.op = 1) :
    Calls Try.prog 7 #[.pointer (some ⟨m.g, 0, none⟩), x.v, rpV cd c d nu] w fun e w' => e = .returned (.tuple #[]) ∧ Nt w w' m B (N + 3 + x.gs.n + d.n) := by
  obtain ⟨h, hx, hc, hnu, hsz, hN, hrw, hrb, hrc, hri, hrg⟩ := ha
  obtain ⟨o, ch, cl⟩ := c
  obtain ⟨W, hW⟩ : ∃ W, W = (w.alloc (Obj.cells x.L.toArray 36)).alloc (Obj.cells #[.int .i64 cd, .int .i64 o, .int .u64 (ch : Int), .int .u64 (cl : Int), .slice d.a d.n d.c, .int .i64 nu] 39) := ⟨_, rfl⟩
  have hB : Below w.heap.size w W := by rw [hW]; exact below2 _ _ _
  have HX0 : Hid (Bx W w.heap.size x.L) := by rw [hW]; exact (Bx.new w x.L _).later (below1 _ _)
  have HX1 : Hid (Bx W (w.heap.size + 1) (rpL cd ⟨o, ch, cl⟩ d nu)) := by rw [hW]; have := Bx.new (w.alloc (Obj.cells x.L.toArray 36)) (rpL cd ⟨o, ch, cl⟩ d nu) 39; simp at this; exact this
  have hBW := h.later hB
  have q0 := hBW.bw.bx.cell 0 rfl
  have q0f : W.frozen? ⟨m.g, 0, none⟩ = false := by have := (hBW.bw.bx.there 0 (by simp)).2; rwa [Nat.zero_add] at this
  have hn0 : 0 ≤ m.n ∧ m.n ≤ 50000000 := by rw [h.n]; have := hsz.n0; have := hsz.n1; omega
  have ew : IntKind.i64.wrap (m.n + 1) = m.n + 1 := by rw [IntKind.wrap_i64]; omega
  obtain ⟨hs1, hs2⟩ := hBW.step
  have hBe : Hid (B.n = m.n) := h.n.symm
  obtain ⟨U, hU⟩ : ∃ U, U = W.setCell ⟨m.g, 0, none⟩ (.int .i64 (m.n + 1)) := ⟨_, rfl⟩
  rw [← hU] at hs1 hs2
  have hOw : ∀ j, Owb m j → j < w.heap.size := h.bw.own_lt
  have HX := hid (HX0.out.but hs2.bt (fun hj => by have := hOw _ hj; omega))
  have HY := hid (HX1.out.but hs2.bt (fun hj => by have := hOw _ hj; omega))
  have hszU := hsz.step
  have HTw : Hid (∀ w' m' B', Bk w' m' B' → Tr U w' { m with n := m.n + 1 } m' → Sz B' (N + 3 + x.gs.n + d.n) → B'.n = B.n + 1 → Nt w w' m B (N + 3 + x.gs.n + d.n)) := fun w' m' B' k1 k2 k3 k4 => ⟨m', B', k1, Tr.fore hB (hs2.trans k2), k3, k4⟩
  have HLC : Hid ((Instr.loadAt 36 (.pointer (some ⟨w.heap.size, 0, none⟩))).run Try.prog U = .ok x.v U) := run_loadAt_mid U w.heap.size 0 36 x.L _ HX.out.range Try.underlying36 rfl (by kernel_rfl)
  have HLR : Hid ((Instr.loadAt 39 (.pointer (some ⟨w.heap.size + 1, 0, none⟩))).run Try.prog U = .ok (rpV cd ⟨o, ch, cl⟩ d nu) U) := run_loadAt_mid U (w.heap.size + 1) 0 39 (rpL cd ⟨o, ch, cl⟩ d nu) _ HY.out.range Try.underlying39 rfl (by kernel_rfl)
  have HCt : Hid (Calls Try.prog 18 #[.pointer (some ⟨m.g, 0, none⟩), x.v, rpV cd ⟨o, ch, cl⟩ d nu] U fun e w' => e = .returned (.tuple #[]) ∧ Nt w w' m B (N + 3 + x.gs.n + d.n)) := (created_bk _ _ x cd nu ⟨o, ch, cl⟩ d U hs1 hx hc (by show I64 (B.n + 1); rw [hBe.out]; constructor <;> omega) (by have := hsz.known x.b; show (B.known x.b).length + 1 ≤ _; omega)).mono (fun e w' h1 => by obtain ⟨h2, m', h3, h4⟩ := h1; exact ⟨h2, HTw.out _ _ _ h3 h4 (((hsz.step.liv _ _ _ _).tell _ _ _ _ (Nat.zero_le _)).mono (by omega)) (by rw [(tellV_n _ _ _ _ _ _).1])⟩)
  have HW := hid hW
  have HUe := hid hU
  clear hBW hB hW h hx hc hnu hsz hN hrw hrb hrc hri hrg hs1 hs2 hU hOw hszU
  obtain ⟨xop, xb, xsz, ⟨xo, xh, xl⟩, xgv, xrt, xoff, xnn, ⟨xda, xdn, xdc⟩, xix, ⟨xga, xgn, xgc⟩⟩ := x
  simp only at HX0 HX HW HLC HTw HCt hop ⊢
  subst hcd
  subst hop
  go_enter Try.func7, Try.ntmps7
  go_upto_region 1 with fail
  rw [← HW.out]
  go_upto_region 2 with fail
  rw [← HUe.out]
  clear q0 q0f HUe
  have y0 := HY.out.cell 0 rfl
  have x0 := HX.out.cell 0 rfl
  go_wp2_with (first | ((with_reducible refine ld_arm HLC.out ?_ ?_); (· rfl)) | ((with_reducible refine ld_arm HLR.out ?_ ?_); (· rfl)) | (go_at_call 18; refine HCt.out.mono ?_; rintro e w2 ⟨rfl, hq⟩; have HQ := hid hq; clear hq))
  exact bodyPost_end (v := .tuple #[]) (by simp [results, Try.results7, go_sem]) rfl ⟨rfl, HQ.out⟩
set_option maxRecDepth 100000 in
set_option maxHeartbeats 4000000 in
theorem nt_derive (m : Bm) (B : Bv) (x : Cq) (cd nu : Int) (c : Cp) (d : Sl) (bs : List Nat) (gs : List Int) (N : Nat) (w : World) (ha : NtA w m B x c d nu bs gs N) (hcd : cd = 0) (hop : x.op = 3) :
    Calls Try.prog 7 #[.pointer (some ⟨m.g, 0, none⟩), x.v, rpV cd c d nu] w fun e w' => e = .returned (.tuple #[]) ∧ Nt w w' m B (N + 3 + x.gs.n + d.n) := by
  obtain ⟨h, hx, hc, hnu, hsz, hN, hrw, hrb, hrc, hri, hrg⟩ := ha
  obtain ⟨o, ch, cl⟩ := c
  obtain ⟨W, hW⟩ : ∃ W, W = (w.alloc (Obj.cells x.L.toArray 36)).alloc (Obj.cells #[.int .i64 cd, .int .i64 o, .int .u64 (ch : Int), .int .u64 (cl : Int), .slice d.a d.n d.c, .int .i64 nu] 39) := ⟨_, rfl⟩
  have hB : Below w.heap.size w W := by rw [hW]; exact below2 _ _ _
  have HX0 : Hid (Bx W w.heap.size x.L) := by rw [hW]; exact (Bx.new w x.L _).later (below1 _ _)
  have HX1 : Hid (Bx W (w.heap.size + 1) (rpL cd ⟨o, ch, cl⟩ d nu)) := by rw [hW]; have := Bx.new (w.alloc (Obj.cells x.L.toArray 36)) (rpL cd ⟨o, ch, cl⟩ d nu) 39; simp at this; exact this
  have hBW := h.later hB
  have q0 := hBW.bw.bx.cell 0 rfl
  have q0f : W.frozen? ⟨m.g, 0, none⟩ = false := by have := (hBW.bw.bx.there 0 (by simp)).2; rwa [Nat.zero_add] at this
  have hn0 : 0 ≤ m.n ∧ m.n ≤ 50000000 := by rw [h.n]; have := hsz.n0; have := hsz.n1; omega
  have ew : IntKind.i64.wrap (m.n + 1) = m.n + 1 := by rw [IntKind.wrap_i64]; omega
  obtain ⟨hs1, hs2⟩ := hBW.step
  have hBe : Hid (B.n = m.n) := h.n.symm
  obtain ⟨U, hU⟩ : ∃ U, U = W.setCell ⟨m.g, 0, none⟩ (.int .i64 (m.n + 1)) := ⟨_, rfl⟩
  rw [← hU] at hs1 hs2
  have hOw : ∀ j, Owb m j → j < w.heap.size := h.bw.own_lt
  have HX := hid (HX0.out.but hs2.bt (fun hj => by have := hOw _ hj; omega))
  have HY := hid (HX1.out.but hs2.bt (fun hj => by have := hOw _ hj; omega))
  have hszU := hsz.step
  have HTw : Hid (∀ w' m' B', Bk w' m' B' → Tr U w' { m with n := m.n + 1 } m' → Sz B' (N + 3 + x.gs.n + d.n) → B'.n = B.n + 1 → Nt w w' m B (N + 3 + x.gs.n + d.n)) := fun w' m' B' k1 k2 k3 k4 => ⟨m', B', k1, Tr.fore hB (hs2.trans k2), k3, k4⟩
  have HLC : Hid ((Instr.loadAt 36 (.pointer (some ⟨w.heap.size, 0, none⟩))).run Try.prog U = .ok x.v U) := run_loadAt_mid U w.heap.size 0 36 x.L _ HX.out.range Try.underlying36 rfl (by kernel_rfl)
  have HLR : Hid ((Instr.loadAt 39 (.pointer (some ⟨w.heap.size + 1, 0, none⟩))).run Try.prog U = .ok (rpV cd ⟨o, ch, cl⟩ d nu) U) := run_loadAt_mid U (w.heap.size + 1) 0 39 (rpL cd ⟨o, ch, cl⟩ d nu) _ HY.out.range Try.underlying39 rfl (by kernel_rfl)
  have HCt : Hid (Calls Try.prog 20 #[.pointer (some ⟨m.g, 0, none⟩), x.v, rpV cd ⟨o, ch, cl⟩ d nu] U fun e w' => e = .returned (.tuple #[]) ∧ Nt w w' m B (N + 3 + x.gs.n + d.n)) := (derived_bk _ _ x cd nu ⟨o, ch, cl⟩ d U hs1 hx hc (by show I64 (B.n + 1); rw [hBe.out]; constructor <;> omega) (by have := hsz.known x.b; show (B.known x.b).length + 1 ≤ _; omega)).mono (fun e w' h1 => by obtain ⟨h2, m', h3, h4⟩ := h1; exact ⟨h2, HTw.out _ _ _ h3 h4 (((hsz.step.liv _ _ _ _).tell _ _ _ _ (Nat.le_trans (hsz.step.tg _ _) (by omega))).mono (by omega)) (by rw [(tellV_n _ _ _ _ _ _).1])⟩)
  have HW := hid hW
  have HUe := hid hU
  clear hBW hB hW h hx hc hnu hsz hN hrw hrb hrc hri hrg hs1 hs2 hU hOw hszU
  obtain ⟨xop, xb, xsz, ⟨xo, xh, xl⟩, xgv, xrt, xoff, xnn, ⟨xda, xdn, xdc⟩, xix, ⟨xga, xgn, xgc⟩⟩ := x
  simp only at HX0 HX HW HLC HTw HCt hop ⊢
  subst hcd
  subst hop
  go_enter Try.func7, Try.ntmps7
  go_upto_region 1 with fail
  rw [← HW.out]
  go_upto_region 2 with fail
  rw [← HUe.out]
  clear q0 q0f HUe
  have y0 := HY.out.cell 0 rfl
  have x0 := HX.out.cell 0 rfl
  go_wp2_with (first | ((with_reducible refine ld_arm HLC.out ?_ ?_); (· rfl)) | ((with_reducible refine ld_arm HLR.out ?_ ?_); (· rfl)) | (go_at_call 20; refine HCt.out.mono ?_; rintro e w2 ⟨rfl, hq⟩; have HQ := hid hq; clear hq))
  exact bodyPost_end (v := .tuple #[]) (by simp [results, Try.results7, go_sem]) rfl ⟨rfl, HQ.out⟩
set_option maxRecDepth 100000 in
set_option maxHeartbeats 4000000 in
theorem nt_destroy (m : Bm) (B : Bv) (x : Cq) (cd nu : Int) (c : Cp) (d : Sl) (bs : List Nat) (gs : List Int) (N : Nat) (w : World) (ha : NtA w m B x c d nu bs gs N) (hcd : cd = 0) (hop : x.op = 2) :
    Calls Try.prog 7 #[.pointer (some ⟨m.g, 0, none⟩), x.v, rpV cd c d nu] w fun e w' => e = .returned (.tuple #[]) ∧ Nt w w' m B (N + 3 + x.gs.n + d.n) := by
  obtain ⟨h, hx, hc, hnu, hsz, hN, hrw, hrb, hrc, hri, hrg⟩ := ha
  obtain ⟨o, ch, cl⟩ := c
  obtain ⟨W, hW⟩ : ∃ W, W = (w.alloc (Obj.cells x.L.toArray 36)).alloc (Obj.cells #[.int .i64 cd, .int .i64 o, .int .u64 (ch : Int), .int .u64 (cl : Int), .slice d.a d.n d.c, .int .i64 nu] 39) := ⟨_, rfl⟩
  have hB : Below w.heap.size w W := by rw [hW]; exact below2 _ _ _
  have HX0 : Hid (Bx W w.heap.size x.L) := by rw [hW]; exact (Bx.new w x.L _).later (below1 _ _)
  have HX1 : Hid (Bx W (w.heap.size + 1) (rpL cd ⟨o, ch, cl⟩ d nu)) := by rw [hW]; have := Bx.new (w.alloc (Obj.cells x.L.toArray 36)) (rpL cd ⟨o, ch, cl⟩ d nu) 39; simp at this; exact this
  have hBW := h.later hB
  have q0 := hBW.bw.bx.cell 0 rfl
  have q0f : W.frozen? ⟨m.g, 0, none⟩ = false := by have := (hBW.bw.bx.there 0 (by simp)).2; rwa [Nat.zero_add] at this
  have hn0 : 0 ≤ m.n ∧ m.n ≤ 50000000 := by rw [h.n]; have := hsz.n0; have := hsz.n1; omega
  have ew : IntKind.i64.wrap (m.n + 1) = m.n + 1 := by rw [IntKind.wrap_i64]; omega
  obtain ⟨hs1, hs2⟩ := hBW.step
  have hBe : Hid (B.n = m.n) := h.n.symm
  obtain ⟨U, hU⟩ : ∃ U, U = W.setCell ⟨m.g, 0, none⟩ (.int .i64 (m.n + 1)) := ⟨_, rfl⟩
  rw [← hU] at hs1 hs2
  have hOw : ∀ j, Owb m j → j < w.heap.size := h.bw.own_lt
  have HX := hid (HX0.out.but hs2.bt (fun hj => by have := hOw _ hj; omega))
  have HY := hid (HX1.out.but hs2.bt (fun hj => by have := hOw _ hj; omega))
  have hszU := hsz.step
  have HTw : Hid (∀ w' m' B', Bk w' m' B' → Tr U w' { m with n := m.n + 1 } m' → Sz B' (N + 3 + x.gs.n + d.n) → B'.n = B.n + 1 → Nt w w' m B (N + 3 + x.gs.n + d.n)) := fun w' m' B' k1 k2 k3 k4 => ⟨m', B', k1, Tr.fore hB (hs2.trans k2), k3, k4⟩
  have HLC : Hid ((Instr.loadAt 36 (.pointer (some ⟨w.heap.size, 0, none⟩))).run Try.prog U = .ok x.v U) := run_loadAt_mid U w.heap.size 0 36 x.L _ HX.out.range Try.underlying36 rfl (by kernel_rfl)
  have HLR : Hid ((Instr.loadAt 39 (.pointer (some ⟨w.heap.size + 1, 0, none⟩))).run Try.prog U = .ok (rpV cd ⟨o, ch, cl⟩ d nu) U) := run_loadAt_mid U (w.heap.size + 1) 0 39 (rpL cd ⟨o, ch, cl⟩ d nu) _ HY.out.range Try.underlying39 rfl (by kernel_rfl)
  have HCt : Hid (Calls Try.prog 19 #[.pointer (some ⟨m.g, 0, none⟩), .int .i64 x.c.o] U fun e w' => e = .returned (.tuple #[]) ∧ Nt w w' m B (N + 3 + x.gs.n + d.n)) := (forget_bk _ _ x.c.o U hs1 hx.c.1).mono (fun e w' h1 => by obtain ⟨h2, m', h3, h4⟩ := h1; exact ⟨h2, HTw.out _ _ _ h3 h4 ((hsz.step.forget _).mono (by omega)) (rfl)⟩)
  have HW := hid hW
  have HUe := hid hU
  clear hBW hB hW h hx hc hnu hsz hN hrw hrb hrc hri hrg hs1 hs2 hU hOw hszU
  obtain ⟨xop, xb, xsz, ⟨xo, xh, xl⟩, xgv, xrt, xoff, xnn, ⟨xda, xdn, xdc⟩, xix, ⟨xga, xgn, xgc⟩⟩ := x
  simp only at HX0 HX HW HLC HTw HCt hop ⊢
  subst hcd
  subst hop
  go_enter Try.func7, Try.ntmps7
  go_upto_region 1 with fail
  rw [← HW.out]
  go_upto_region 2 with fail
  rw [← HUe.out]
  clear q0 q0f HUe
  have y0 := HY.out.cell 0 rfl
  have x0 := HX.out.cell 0 rfl
  have x3 := HX.out.cell 3 rfl
  go_wp2_with (first | ((with_reducible refine ld_arm HLC.out ?_ ?_); (· rfl)) | ((with_reducible refine ld_arm HLR.out ?_ ?_); (· rfl)) | (go_at_call 19; refine HCt.out.mono ?_; rintro e w2 ⟨rfl, hq⟩; have HQ := hid hq; clear hq))
  exact bodyPost_end (v := .tuple #[]) (by simp [results, Try.results7, go_sem]) rfl ⟨rfl, HQ.out⟩
set_option maxRecDepth 100000 in
set_option maxHeartbeats 4000000 in
theorem nt_revoke (m : Bm) (B : Bv) (x : Cq) (cd nu : Int) (c : Cp) (d : Sl) (bs : List Nat) (gs : List Int) (N : Nat) (w : World) (ha : NtA w m B x c d nu bs gs N) (hcd : cd = 0) (hop : x.op = 4) (hrev : Rvk) :
    Calls Try.prog 7 #[.pointer (some ⟨m.g, 0, none⟩), x.v, rpV cd c d nu] w fun e w' => e = .returned (.tuple #[]) ∧ Nt w w' m B (N + 3 + x.gs.n + d.n) := by
  obtain ⟨h, hx, hc, hnu, hsz, hN, hrw, hrb, hrc, hri, hrg⟩ := ha
  obtain ⟨o, ch, cl⟩ := c
  obtain ⟨W, hW⟩ : ∃ W, W = (w.alloc (Obj.cells x.L.toArray 36)).alloc (Obj.cells #[.int .i64 cd, .int .i64 o, .int .u64 (ch : Int), .int .u64 (cl : Int), .slice d.a d.n d.c, .int .i64 nu] 39) := ⟨_, rfl⟩
  have hB : Below w.heap.size w W := by rw [hW]; exact below2 _ _ _
  have HX0 : Hid (Bx W w.heap.size x.L) := by rw [hW]; exact (Bx.new w x.L _).later (below1 _ _)
  have HX1 : Hid (Bx W (w.heap.size + 1) (rpL cd ⟨o, ch, cl⟩ d nu)) := by rw [hW]; have := Bx.new (w.alloc (Obj.cells x.L.toArray 36)) (rpL cd ⟨o, ch, cl⟩ d nu) 39; simp at this; exact this
  have hBW := h.later hB
  have q0 := hBW.bw.bx.cell 0 rfl
  have q0f : W.frozen? ⟨m.g, 0, none⟩ = false := by have := (hBW.bw.bx.there 0 (by simp)).2; rwa [Nat.zero_add] at this
  have hn0 : 0 ≤ m.n ∧ m.n ≤ 50000000 := by rw [h.n]; have := hsz.n0; have := hsz.n1; omega
  have ew : IntKind.i64.wrap (m.n + 1) = m.n + 1 := by rw [IntKind.wrap_i64]; omega
  obtain ⟨hs1, hs2⟩ := hBW.step
  have hBe : Hid (B.n = m.n) := h.n.symm
  obtain ⟨U, hU⟩ : ∃ U, U = W.setCell ⟨m.g, 0, none⟩ (.int .i64 (m.n + 1)) := ⟨_, rfl⟩
  rw [← hU] at hs1 hs2
  have hOw : ∀ j, Owb m j → j < w.heap.size := h.bw.own_lt
  have HX := hid (HX0.out.but hs2.bt (fun hj => by have := hOw _ hj; omega))
  have HY := hid (HX1.out.but hs2.bt (fun hj => by have := hOw _ hj; omega))
  have hszU := hsz.step
  have HTw : Hid (∀ w' m' B', Bk w' m' B' → Tr U w' { m with n := m.n + 1 } m' → Sz B' (N + 3 + x.gs.n + d.n) → B'.n = B.n + 1 → Nt w w' m B (N + 3 + x.gs.n + d.n)) := fun w' m' B' k1 k2 k3 k4 => ⟨m', B', k1, Tr.fore hB (hs2.trans k2), k3, k4⟩
  have HLC : Hid ((Instr.loadAt 36 (.pointer (some ⟨w.heap.size, 0, none⟩))).run Try.prog U = .ok x.v U) := run_loadAt_mid U w.heap.size 0 36 x.L _ HX.out.range Try.underlying36 rfl (by kernel_rfl)
  have HLR : Hid ((Instr.loadAt 39 (.pointer (some ⟨w.heap.size + 1, 0, none⟩))).run Try.prog U = .ok (rpV cd ⟨o, ch, cl⟩ d nu) U) := run_loadAt_mid U (w.heap.size + 1) 0 39 (rpL cd ⟨o, ch, cl⟩ d nu) _ HY.out.range Try.underlying39 rfl (by kernel_rfl)
  have HCt : Hid (Calls Try.prog 21 #[.pointer (some ⟨m.g, 0, none⟩), capV x.c] U fun e w' => e = .returned (.tuple #[]) ∧ Nt w w' m B (N + 3 + x.gs.n + d.n)) := (hrev _ _ x.c U hs1 hx.c (by have := hsz.ct; show B.ct ≤ _; omega)).mono (fun e w' h1 => by obtain ⟨h2, m', B', h3, h4, h5⟩ := h1; exact ⟨h2, HTw.out _ _ _ h3 h4 ((hsz.step.less h5).mono (by omega)) h5.n⟩)
  have HW := hid hW
  have HUe := hid hU
  clear hBW hB hW h hx hc hnu hsz hN hrw hrb hrc hri hrg hs1 hs2 hU hOw hszU hrev
  obtain ⟨xop, xb, xsz, ⟨xo, xh, xl⟩, xgv, xrt, xoff, xnn, ⟨xda, xdn, xdc⟩, xix, ⟨xga, xgn, xgc⟩⟩ := x
  simp only at HX0 HX HW HLC HTw HCt hop ⊢
  subst hcd
  subst hop
  go_enter Try.func7, Try.ntmps7
  go_upto_region 1 with fail
  rw [← HW.out]
  go_upto_region 2 with fail
  rw [← HUe.out]
  clear q0 q0f HUe
  have y0 := HY.out.cell 0 rfl
  have x0 := HX.out.cell 0 rfl
  have x3 := HX.out.cell 3 rfl
  have x4 := HX.out.cell 4 rfl
  have x5 := HX.out.cell 5 rfl
  go_wp2_with (first | ((with_reducible refine ld_arm HLC.out ?_ ?_); (· rfl)) | ((with_reducible refine ld_arm HLR.out ?_ ?_); (· rfl)) | (go_at_call 21; refine HCt.out.mono ?_; rintro e w2 ⟨rfl, hq⟩; have HQ := hid hq; clear hq))
  exact bodyPost_end (v := .tuple #[]) (by simp [results, Try.results7, go_sem]) rfl ⟨rfl, HQ.out⟩
set_option maxRecDepth 100000 in
set_option maxHeartbeats 4000000 in
theorem nt_read (m : Bm) (B : Bv) (x : Cq) (cd nu : Int) (c : Cp) (d : Sl) (bs : List Nat) (gs : List Int) (N : Nat) (w : World) (ha : NtA w m B x c d nu bs gs N) (hcd : cd = 0) (hop : x.op = 5) :
    Calls Try.prog 7 #[.pointer (some ⟨m.g, 0, none⟩), x.v, rpV cd c d nu] w fun e w' => e = .returned (.tuple #[]) ∧ Nt w w' m B (N + 3 + x.gs.n + d.n) := by
  obtain ⟨h, hx, hc, hnu, hsz, hN, hrw, hrb, hrc, hri, hrg⟩ := ha
  obtain ⟨o, ch, cl⟩ := c
  obtain ⟨W, hW⟩ : ∃ W, W = (w.alloc (Obj.cells x.L.toArray 36)).alloc (Obj.cells #[.int .i64 cd, .int .i64 o, .int .u64 (ch : Int), .int .u64 (cl : Int), .slice d.a d.n d.c, .int .i64 nu] 39) := ⟨_, rfl⟩
  have hB : Below w.heap.size w W := by rw [hW]; exact below2 _ _ _
  have HX0 : Hid (Bx W w.heap.size x.L) := by rw [hW]; exact (Bx.new w x.L _).later (below1 _ _)
  have HX1 : Hid (Bx W (w.heap.size + 1) (rpL cd ⟨o, ch, cl⟩ d nu)) := by rw [hW]; have := Bx.new (w.alloc (Obj.cells x.L.toArray 36)) (rpL cd ⟨o, ch, cl⟩ d nu) 39; simp at this; exact this
  have hBW := h.later hB
  have q0 := hBW.bw.bx.cell 0 rfl
  have q0f : W.frozen? ⟨m.g, 0, none⟩ = false := by have := (hBW.bw.bx.there 0 (by simp)).2; rwa [Nat.zero_add] at this
  have hn0 : 0 ≤ m.n ∧ m.n ≤ 50000000 := by rw [h.n]; have := hsz.n0; have := hsz.n1; omega
  have ew : IntKind.i64.wrap (m.n + 1) = m.n + 1 := by rw [IntKind.wrap_i64]; omega
  obtain ⟨hs1, hs2⟩ := hBW.step
  have hBe : Hid (B.n = m.n) := h.n.symm
  obtain ⟨U, hU⟩ : ∃ U, U = W.setCell ⟨m.g, 0, none⟩ (.int .i64 (m.n + 1)) := ⟨_, rfl⟩
  rw [← hU] at hs1 hs2
  have hOw : ∀ j, Owb m j → j < w.heap.size := h.bw.own_lt
  have HX := hid (HX0.out.but hs2.bt (fun hj => by have := hOw _ hj; omega))
  have HY := hid (HX1.out.but hs2.bt (fun hj => by have := hOw _ hj; omega))
  have hszU := hsz.step
  have HTw : Hid (∀ w' m' B', Bk w' m' B' → Tr U w' { m with n := m.n + 1 } m' → Sz B' (N + 3 + x.gs.n + d.n) → B'.n = B.n + 1 → Nt w w' m B (N + 3 + x.gs.n + d.n)) := fun w' m' B' k1 k2 k3 k4 => ⟨m', B', k1, Tr.fore hB (hs2.trans k2), k3, k4⟩
  have HLC : Hid ((Instr.loadAt 36 (.pointer (some ⟨w.heap.size, 0, none⟩))).run Try.prog U = .ok x.v U) := run_loadAt_mid U w.heap.size 0 36 x.L _ HX.out.range Try.underlying36 rfl (by kernel_rfl)
  have HLR : Hid ((Instr.loadAt 39 (.pointer (some ⟨w.heap.size + 1, 0, none⟩))).run Try.prog U = .ok (rpV cd ⟨o, ch, cl⟩ d nu) U) := run_loadAt_mid U (w.heap.size + 1) 0 39 (rpL cd ⟨o, ch, cl⟩ d nu) _ HY.out.range Try.underlying39 rfl (by kernel_rfl)
  have HCt : Hid (Calls Try.prog 22 #[.pointer (some ⟨m.g, 0, none⟩), x.v, rpV cd ⟨o, ch, cl⟩ d nu] U fun e w' => e = .returned (.tuple #[]) ∧ Nt w w' m B (N + 3 + x.gs.n + d.n)) := (wasRead_bk _ _ x cd nu ⟨o, ch, cl⟩ d U hs1 hx (by show I64 (B.n + 1); rw [hBe.out]; constructor <;> omega) (by omega) (by have := hsz.known x.b; show (B.known x.b).length + d.n ≤ _; omega)).mono (fun e w' h1 => by obtain ⟨h2, m', h3, h4⟩ := h1; exact ⟨h2, HTw.out _ _ _ h3 h4 ((hsz.step.rd _ _ _ _).mono (by omega)) ((rdV_n _ _ _ _ _).1)⟩)
  have HW := hid hW
  have HUe := hid hU
  clear hBW hB hW h hx hc hnu hsz hN hrw hrb hrc hri hrg hs1 hs2 hU hOw hszU
  obtain ⟨xop, xb, xsz, ⟨xo, xh, xl⟩, xgv, xrt, xoff, xnn, ⟨xda, xdn, xdc⟩, xix, ⟨xga, xgn, xgc⟩⟩ := x
  simp only at HX0 HX HW HLC HTw HCt hop ⊢
  subst hcd
  subst hop
  go_enter Try.func7, Try.ntmps7
  go_upto_region 1 with fail
  rw [← HW.out]
  go_upto_region 2 with fail
  rw [← HUe.out]
  clear q0 q0f HUe
  have y0 := HY.out.cell 0 rfl
  have x0 := HX.out.cell 0 rfl
  go_wp2_with (first | ((with_reducible refine ld_arm HLC.out ?_ ?_); (· rfl)) | ((with_reducible refine ld_arm HLR.out ?_ ?_); (· rfl)) | (go_at_call 22; refine HCt.out.mono ?_; rintro e w2 ⟨rfl, hq⟩; have HQ := hid hq; clear hq))
  exact bodyPost_end (v := .tuple #[]) (by simp [results, Try.results7, go_sem]) rfl ⟨rfl, HQ.out⟩
set_option maxRecDepth 100000 in
set_option maxHeartbeats 4000000 in
theorem nt_write (m : Bm) (B : Bv) (x : Cq) (cd nu : Int) (c : Cp) (d : Sl) (bs : List Nat) (gs : List Int) (N : Nat) (w : World) (ha : NtA w m B x c d nu bs gs N) (hcd : cd = 0) (hop : x.op = 6) :
    Calls Try.prog 7 #[.pointer (some ⟨m.g, 0, none⟩), x.v, rpV cd c d nu] w fun e w' => e = .returned (.tuple #[]) ∧ Nt w w' m B (N + 3 + x.gs.n + d.n) := by
  obtain ⟨h, hx, hc, hnu, hsz, hN, hrw, hrb, hrc, hri, hrg⟩ := ha
  obtain ⟨o, ch, cl⟩ := c
  obtain ⟨W, hW⟩ : ∃ W, W = (w.alloc (Obj.cells x.L.toArray 36)).alloc (Obj.cells #[.int .i64 cd, .int .i64 o, .int .u64 (ch : Int), .int .u64 (cl : Int), .slice d.a d.n d.c, .int .i64 nu] 39) := ⟨_, rfl⟩
  have hB : Below w.heap.size w W := by rw [hW]; exact below2 _ _ _
  have HX0 : Hid (Bx W w.heap.size x.L) := by rw [hW]; exact (Bx.new w x.L _).later (below1 _ _)
  have HX1 : Hid (Bx W (w.heap.size + 1) (rpL cd ⟨o, ch, cl⟩ d nu)) := by rw [hW]; have := Bx.new (w.alloc (Obj.cells x.L.toArray 36)) (rpL cd ⟨o, ch, cl⟩ d nu) 39; simp at this; exact this
  have hBW := h.later hB
  have q0 := hBW.bw.bx.cell 0 rfl
  have q0f : W.frozen? ⟨m.g, 0, none⟩ = false := by have := (hBW.bw.bx.there 0 (by simp)).2; rwa [Nat.zero_add] at this
  have hn0 : 0 ≤ m.n ∧ m.n ≤ 50000000 := by rw [h.n]; have := hsz.n0; have := hsz.n1; omega
  have ew : IntKind.i64.wrap (m.n + 1) = m.n + 1 := by rw [IntKind.wrap_i64]; omega
  obtain ⟨hs1, hs2⟩ := hBW.step
  have hBe : Hid (B.n = m.n) := h.n.symm
  obtain ⟨U, hU⟩ : ∃ U, U = W.setCell ⟨m.g, 0, none⟩ (.int .i64 (m.n + 1)) := ⟨_, rfl⟩
  rw [← hU] at hs1 hs2
  have hOw : ∀ j, Owb m j → j < w.heap.size := h.bw.own_lt
  have HX := hid (HX0.out.but hs2.bt (fun hj => by have := hOw _ hj; omega))
  have HY := hid (HX1.out.but hs2.bt (fun hj => by have := hOw _ hj; omega))
  have hszU := hsz.step
  have HTw : Hid (∀ w' m' B', Bk w' m' B' → Tr U w' { m with n := m.n + 1 } m' → Sz B' (N + 3 + x.gs.n + d.n) → B'.n = B.n + 1 → Nt w w' m B (N + 3 + x.gs.n + d.n)) := fun w' m' B' k1 k2 k3 k4 => ⟨m', B', k1, Tr.fore hB (hs2.trans k2), k3, k4⟩
  have HLC : Hid ((Instr.loadAt 36 (.pointer (some ⟨w.heap.size, 0, none⟩))).run Try.prog U = .ok x.v U) := run_loadAt_mid U w.heap.size 0 36 x.L _ HX.out.range Try.underlying36 rfl (by kernel_rfl)
  have HLR : Hid ((Instr.loadAt 39 (.pointer (some ⟨w.heap.size + 1, 0, none⟩))).run Try.prog U = .ok (rpV cd ⟨o, ch, cl⟩ d nu) U) := run_loadAt_mid U (w.heap.size + 1) 0 39 (rpL cd ⟨o, ch, cl⟩ d nu) _ HY.out.range Try.underlying39 rfl (by kernel_rfl)
  have HCt : Hid (Calls Try.prog 23 #[.pointer (some ⟨m.g, 0, none⟩), x.v] U fun e w' => e = .returned (.tuple #[]) ∧ Nt w w' m B (N + 3 + x.gs.n + d.n)) := (written_bk _ _ x bs U hs1 hx ((hrw.later hB).but hs2.bt (fun j hj => (hrb j hj).2)) (fun j hj => ⟨Nat.lt_of_lt_of_le (hrb j hj).1 (Nat.le_trans hB.size hs2.bt.size), (hrb j hj).2⟩) (by have := hrw.len; omega) hrc).mono (fun e w' h1 => by obtain ⟨h2, m', h3, h4⟩ := h1; exact ⟨h2, HTw.out _ _ _ h3 h4 ((hsz.step.writ _ _).mono (by omega)) (by unfold writV; split; rfl; rw [(wrV_n _ _ _ _ _ _).1, (dlV_n _ _ _ _).1])⟩)
  have HW := hid hW
  have HUe := hid hU
  clear hBW hB hW h hx hc hnu hsz hN hrw hrb hrc hri hrg hs1 hs2 hU hOw hszU
  obtain ⟨xop, xb, xsz, ⟨xo, xh, xl⟩, xgv, xrt, xoff, xnn, ⟨xda, xdn, xdc⟩, xix, ⟨xga, xgn, xgc⟩⟩ := x
  simp only at HX0 HX HW HLC HTw HCt hop ⊢
  subst hcd
  subst hop
  go_enter Try.func7, Try.ntmps7
  go_upto_region 1 with fail
  rw [← HW.out]
  go_upto_region 2 with fail
  rw [← HUe.out]
  clear q0 q0f HUe
  have y0 := HY.out.cell 0 rfl
  have x0 := HX.out.cell 0 rfl
  go_wp2_with (first | ((with_reducible refine ld_arm HLC.out ?_ ?_); (· rfl)) | ((with_reducible refine ld_arm HLR.out ?_ ?_); (· rfl)) | (go_at_call 23; refine HCt.out.mono ?_; rintro e w2 ⟨rfl, hq⟩; have HQ := hid hq; clear hq))
  exact bodyPost_end (v := .tuple #[]) (by simp [results, Try.results7, go_sem]) rfl ⟨rfl, HQ.out⟩
set_option maxRecDepth 100000 in
set_option maxHeartbeats 4000000 in
theorem nt_remove (m : Bm) (B : Bv) (x : Cq) (cd nu : Int) (c : Cp) (d : Sl) (bs : List Nat) (gs : List Int) (N : Nat) (w : World) (ha : NtA w m B x c d nu bs gs N) (hcd : cd = 0) (hop : x.op = 8) :
    Calls Try.prog 7 #[.pointer (some ⟨m.g, 0, none⟩), x.v, rpV cd c d nu] w fun e w' => e = .returned (.tuple #[]) ∧ Nt w w' m B (N + 3 + x.gs.n + d.n) := by
  obtain ⟨h, hx, hc, hnu, hsz, hN, hrw, hrb, hrc, hri, hrg⟩ := ha
  obtain ⟨o, ch, cl⟩ := c
  obtain ⟨W, hW⟩ : ∃ W, W = (w.alloc (Obj.cells x.L.toArray 36)).alloc (Obj.cells #[.int .i64 cd, .int .i64 o, .int .u64 (ch : Int), .int .u64 (cl : Int), .slice d.a d.n d.c, .int .i64 nu] 39) := ⟨_, rfl⟩
  have hB : Below w.heap.size w W := by rw [hW]; exact below2 _ _ _
  have HX0 : Hid (Bx W w.heap.size x.L) := by rw [hW]; exact (Bx.new w x.L _).later (below1 _ _)
  have HX1 : Hid (Bx W (w.heap.size + 1) (rpL cd ⟨o, ch, cl⟩ d nu)) := by rw [hW]; have := Bx.new (w.alloc (Obj.cells x.L.toArray 36)) (rpL cd ⟨o, ch, cl⟩ d nu) 39; simp at this; exact this
  have hBW := h.later hB
  have q0 := hBW.bw.bx.cell 0 rfl
  have q0f : W.frozen? ⟨m.g, 0, none⟩ = false := by have := (hBW.bw.bx.there 0 (by simp)).2; rwa [Nat.zero_add] at this
  have hn0 : 0 ≤ m.n ∧ m.n ≤ 50000000 := by rw [h.n]; have := hsz.n0; have := hsz.n1; omega
  have ew : IntKind.i64.wrap (m.n + 1) = m.n + 1 := by rw [IntKind.wrap_i64]; omega
  obtain ⟨hs1, hs2⟩ := hBW.step
  have hBe : Hid (B.n = m.n) := h.n.symm
  obtain ⟨U, hU⟩ : ∃ U, U = W.setCell ⟨m.g, 0, none⟩ (.int .i64 (m.n + 1)) := ⟨_, rfl⟩
  rw [← hU] at hs1 hs2
  have hOw : ∀ j, Owb m j → j < w.heap.size := h.bw.own_lt
  have HX := hid (HX0.out.but hs2.bt (fun hj => by have := hOw _ hj; omega))
  have HY := hid (HX1.out.but hs2.bt (fun hj => by have := hOw _ hj; omega))
  have hszU := hsz.step
  have HTw : Hid (∀ w' m' B', Bk w' m' B' → Tr U w' { m with n := m.n + 1 } m' → Sz B' (N + 3 + x.gs.n + d.n) → B'.n = B.n + 1 → Nt w w' m B (N + 3 + x.gs.n + d.n)) := fun w' m' B' k1 k2 k3 k4 => ⟨m', B', k1, Tr.fore hB (hs2.trans k2), k3, k4⟩
  have HLC : Hid ((Instr.loadAt 36 (.pointer (some ⟨w.heap.size, 0, none⟩))).run Try.prog U = .ok x.v U) := run_loadAt_mid U w.heap.size 0 36 x.L _ HX.out.range Try.underlying36 rfl (by kernel_rfl)
  have HLR : Hid ((Instr.loadAt 39 (.pointer (some ⟨w.heap.size + 1, 0, none⟩))).run Try.prog U = .ok (rpV cd ⟨o, ch, cl⟩ d nu) U) := run_loadAt_mid U (w.heap.size + 1) 0 39 (rpL cd ⟨o, ch, cl⟩ d nu) _ HY.out.range Try.underlying39 rfl (by kernel_rfl)
  have HCt : Hid (Calls Try.prog 24 #[.pointer (some ⟨m.g, 0, none⟩), x.v] U fun e w' => e = .returned (.tuple #[]) ∧ Nt w w' m B (N + 3 + x.gs.n + d.n)) := (removed_bk _ _ x U hs1 hx (by have := hsz.lists x.b; show (B.lists x.b).length ≤ _; omega)).mono (fun e w' h1 => by obtain ⟨h2, m', h3, h4⟩ := h1; exact ⟨h2, HTw.out _ _ _ h3 h4 ((hsz.step.rem _ _).mono (by omega)) (by unfold remV; split <;> rfl)⟩)
  have HW := hid hW
  have HUe := hid hU
  clear hBW hB hW h hx hc hnu hsz hN hrw hrb hrc hri hrg hs1 hs2 hU hOw hszU
  obtain ⟨xop, xb, xsz, ⟨xo, xh, xl⟩, xgv, xrt, xoff, xnn, ⟨xda, xdn, xdc⟩, xix, ⟨xga, xgn, xgc⟩⟩ := x
  simp only at HX0 HX HW HLC HTw HCt hop ⊢
  subst hcd
  subst hop
  go_enter Try.func7, Try.ntmps7
  go_upto_region 1 with fail
  rw [← HW.out]
  go_upto_region 2 with fail
  rw [← HUe.out]
  clear q0 q0f HUe
  have y0 := HY.out.cell 0 rfl
  have x0 := HX.out.cell 0 rfl
  go_wp2_with (first | ((with_reducible refine ld_arm HLC.out ?_ ?_); (· rfl)) | ((with_reducible refine ld_arm HLR.out ?_ ?_); (· rfl)) | (go_at_call 24; refine HCt.out.mono ?_; rintro e w2 ⟨rfl, hq⟩; have HQ := hid hq; clear hq))
  exact bodyPost_end (v := .tuple #[]) (by simp [results, Try.results7, go_sem]) rfl ⟨rfl, HQ.out⟩
set_option maxRecDepth 100000 in
set_option maxHeartbeats 4000000 in
theorem nt_spawn (m : Bm) (B : Bv) (x : Cq) (cd nu : Int) (c : Cp) (d : Sl) (bs : List Nat) (gs : List Int) (N : Nat) (w : World) (ha : NtA w m B x c d nu bs gs N) (hcd : cd = 0) (hop : x.op = 9) :
    Calls Try.prog 7 #[.pointer (some ⟨m.g, 0, none⟩), x.v, rpV cd c d nu] w fun e w' => e = .returned (.tuple #[]) ∧ Nt w w' m B (N + 3 + x.gs.n + d.n) := by
  obtain ⟨h, hx, hc, hnu, hsz, hN, hrw, hrb, hrc, hri, hrg⟩ := ha
  obtain ⟨o, ch, cl⟩ := c
  obtain ⟨W, hW⟩ : ∃ W, W = (w.alloc (Obj.cells x.L.toArray 36)).alloc (Obj.cells #[.int .i64 cd, .int .i64 o, .int .u64 (ch : Int), .int .u64 (cl : Int), .slice d.a d.n d.c, .int .i64 nu] 39) := ⟨_, rfl⟩
  have hB : Below w.heap.size w W := by rw [hW]; exact below2 _ _ _
  have HX0 : Hid (Bx W w.heap.size x.L) := by rw [hW]; exact (Bx.new w x.L _).later (below1 _ _)
  have HX1 : Hid (Bx W (w.heap.size + 1) (rpL cd ⟨o, ch, cl⟩ d nu)) := by rw [hW]; have := Bx.new (w.alloc (Obj.cells x.L.toArray 36)) (rpL cd ⟨o, ch, cl⟩ d nu) 39; simp at this; exact this
  have hBW := h.later hB
  have q0 := hBW.bw.bx.cell 0 rfl
  have q0f : W.frozen? ⟨m.g, 0, none⟩ = false := by have := (hBW.bw.bx.there 0 (by simp)).2; rwa [Nat.zero_add] at this
  have hn0 : 0 ≤ m.n ∧ m.n ≤ 50000000 := by rw [h.n]; have := hsz.n0; have := hsz.n1; omega
  have ew : IntKind.i64.wrap (m.n + 1) = m.n + 1 := by rw [IntKind.wrap_i64]; omega
  obtain ⟨hs1, hs2⟩ := hBW.step
  have hBe : Hid (B.n = m.n) := h.n.symm
  obtain ⟨U, hU⟩ : ∃ U, U = W.setCell ⟨m.g, 0, none⟩ (.int .i64 (m.n + 1)) := ⟨_, rfl⟩
  rw [← hU] at hs1 hs2
  have hOw : ∀ j, Owb m j → j < w.heap.size := h.bw.own_lt
  have HX := hid (HX0.out.but hs2.bt (fun hj => by have := hOw _ hj; omega))
  have HY := hid (HX1.out.but hs2.bt (fun hj => by have := hOw _ hj; omega))
  have hszU := hsz.step
  have HTw : Hid (∀ w' m' B', Bk w' m' B' → Tr U w' { m with n := m.n + 1 } m' → Sz B' (N + 3 + x.gs.n + d.n) → B'.n = B.n + 1 → Nt w w' m B (N + 3 + x.gs.n + d.n)) := fun w' m' B' k1 k2 k3 k4 => ⟨m', B', k1, Tr.fore hB (hs2.trans k2), k3, k4⟩
  have HLC : Hid ((Instr.loadAt 36 (.pointer (some ⟨w.heap.size, 0, none⟩))).run Try.prog U = .ok x.v U) := run_loadAt_mid U w.heap.size 0 36 x.L _ HX.out.range Try.underlying36 rfl (by kernel_rfl)
  have HLR : Hid ((Instr.loadAt 39 (.pointer (some ⟨w.heap.size + 1, 0, none⟩))).run Try.prog U = .ok (rpV cd ⟨o, ch, cl⟩ d nu) U) := run_loadAt_mid U (w.heap.size + 1) 0 39 (rpL cd ⟨o, ch, cl⟩ d nu) _ HY.out.range Try.underlying39 rfl (by kernel_rfl)
  have HCt : Hid (Calls Try.prog 25 #[.pointer (some ⟨m.g, 0, none⟩), x.v, rpV cd ⟨o, ch, cl⟩ d nu] U fun e w' => e = .returned (.tuple #[]) ∧ Nt w w' m B (N + 3 + x.gs.n + d.n)) := (spawned_bk _ _ x cd nu ⟨o, ch, cl⟩ d gs U hs1 hx hnu (by show I64 (B.n + 1); rw [hBe.out]; constructor <;> omega) ((hri.later hB).but hs2.bt (fun j hj => (hrg j hj).2)) (fun j hj => ⟨Nat.lt_of_lt_of_le (hrg j hj).1 (Nat.le_trans hB.size hs2.bt.size), (hrg j hj).2⟩) (by have := hri.len; omega) (by have := hsz.lists x.b; show (B.lists x.b).length ≤ _; omega) (by have := hsz.known nu; have := hri.len; show (B.known nu).length + _ ≤ _; omega)).mono (fun e w' h1 => by obtain ⟨h2, m', h3, h4⟩ := h1; exact ⟨h2, HTw.out _ _ _ h3 h4 ((hsz.step.spw _ _ _).mono (by have := hri.len; omega)) ((spV_n _ _ _ _ _).1)⟩)
  have HW := hid hW
  have HUe := hid hU
  clear hBW hB hW h hx hc hnu hsz hN hrw hrb hrc hri hrg hs1 hs2 hU hOw hszU
  obtain ⟨xop, xb, xsz, ⟨xo, xh, xl⟩, xgv, xrt, xoff, xnn, ⟨xda, xdn, xdc⟩, xix, ⟨xga, xgn, xgc⟩⟩ := x
  simp only at HX0 HX HW HLC HTw HCt hop ⊢
  subst hcd
  subst hop
  go_enter Try.func7, Try.ntmps7
  go_upto_region 1 with fail
  rw [← HW.out]
  go_upto_region 2 with fail
  rw [← HUe.out]
  clear q0 q0f HUe
  have y0 := HY.out.cell 0 rfl
  have x0 := HX.out.cell 0 rfl
  go_wp2_with (first | ((with_reducible refine ld_arm HLC.out ?_ ?_); (· rfl)) | ((with_reducible refine ld_arm HLR.out ?_ ?_); (· rfl)) | (go_at_call 25; refine HCt.out.mono ?_; rintro e w2 ⟨rfl, hq⟩; have HQ := hid hq; clear hq))
  exact bodyPost_end (v := .tuple #[]) (by simp [results, Try.results7, go_sem]) rfl ⟨rfl, HQ.out⟩
set_option maxRecDepth 100000 in
set_option maxHeartbeats 4000000 in
theorem nt_refused (m : Bm) (B : Bv) (x : Cq) (cd nu : Int) (c : Cp) (d : Sl) (bs : List Nat) (gs : List Int) (N : Nat) (w : World) (ha : NtA w m B x c d nu bs gs N) (hcd : cd ≠ 0) :
    Calls Try.prog 7 #[.pointer (some ⟨m.g, 0, none⟩), x.v, rpV cd c d nu] w fun e w' => e = .returned (.tuple #[]) ∧ Nt w w' m B (N + 3 + x.gs.n + d.n) := by
  obtain ⟨h, hx, hc, hnu, hsz, hN, hrw, hrb, hrc, hri, hrg⟩ := ha
  obtain ⟨o, ch, cl⟩ := c
  obtain ⟨W, hW⟩ : ∃ W, W = (w.alloc (Obj.cells x.L.toArray 36)).alloc (Obj.cells #[.int .i64 cd, .int .i64 o, .int .u64 (ch : Int), .int .u64 (cl : Int), .slice d.a d.n d.c, .int .i64 nu] 39) := ⟨_, rfl⟩
  have hB : Below w.heap.size w W := by rw [hW]; exact below2 _ _ _
  have HX0 : Hid (Bx W w.heap.size x.L) := by rw [hW]; exact (Bx.new w x.L _).later (below1 _ _)
  have HX1 : Hid (Bx W (w.heap.size + 1) (rpL cd ⟨o, ch, cl⟩ d nu)) := by rw [hW]; have := Bx.new (w.alloc (Obj.cells x.L.toArray 36)) (rpL cd ⟨o, ch, cl⟩ d nu) 39; simp at this; exact this
  have hBW := h.later hB
  have q0 := hBW.bw.bx.cell 0 rfl
  have q0f : W.frozen? ⟨m.g, 0, none⟩ = false := by have := (hBW.bw.bx.there 0 (by simp)).2; rwa [Nat.zero_add] at this
  have hn0 : 0 ≤ m.n ∧ m.n ≤ 50000000 := by rw [h.n]; have := hsz.n0; have := hsz.n1; omega
  have ew : IntKind.i64.wrap (m.n + 1) = m.n + 1 := by rw [IntKind.wrap_i64]; omega
  obtain ⟨hs1, hs2⟩ := hBW.step
  have hBe : Hid (B.n = m.n) := h.n.symm
  obtain ⟨U, hU⟩ : ∃ U, U = W.setCell ⟨m.g, 0, none⟩ (.int .i64 (m.n + 1)) := ⟨_, rfl⟩
  rw [← hU] at hs1 hs2
  have hOw : ∀ j, Owb m j → j < w.heap.size := h.bw.own_lt
  have HX := hid (HX0.out.but hs2.bt (fun hj => by have := hOw _ hj; omega))
  have HY := hid (HX1.out.but hs2.bt (fun hj => by have := hOw _ hj; omega))
  have hszU := hsz.step
  have HTw : Hid (∀ w' m' B', Bk w' m' B' → Tr U w' { m with n := m.n + 1 } m' → Sz B' (N + 3 + x.gs.n + d.n) → B'.n = B.n + 1 → Nt w w' m B (N + 3 + x.gs.n + d.n)) := fun w' m' B' k1 k2 k3 k4 => ⟨m', B', k1, Tr.fore hB (hs2.trans k2), k3, k4⟩
  have HLC : Hid ((Instr.loadAt 36 (.pointer (some ⟨w.heap.size, 0, none⟩))).run Try.prog U = .ok x.v U) := run_loadAt_mid U w.heap.size 0 36 x.L _ HX.out.range Try.underlying36 rfl (by kernel_rfl)
  have HLR : Hid ((Instr.loadAt 39 (.pointer (some ⟨w.heap.size + 1, 0, none⟩))).run Try.prog U = .ok (rpV cd ⟨o, ch, cl⟩ d nu) U) := run_loadAt_mid U (w.heap.size + 1) 0 39 (rpL cd ⟨o, ch, cl⟩ d nu) _ HY.out.range Try.underlying39 rfl (by kernel_rfl)
  have HCt : Hid (Nt w U m B (N + 3 + x.gs.n + d.n)) := HTw.out _ _ _ hs1 (Tr.refl _ _) (hsz.step.mono (by omega)) rfl
  have HW := hid hW
  have HUe := hid hU
  clear hBW hB hW h hx hc hnu hsz hN hrw hrb hrc hri hrg hs1 hs2 hU hOw hszU
  obtain ⟨xop, xb, xsz, ⟨xo, xh, xl⟩, xgv, xrt, xoff, xnn, ⟨xda, xdn, xdc⟩, xix, ⟨xga, xgn, xgc⟩⟩ := x
  simp only at HX0 HX HW HLC HTw HCt ⊢
  have hq : (cd == 0) = false := by simp [hcd]
  have hq2 : (cd != 0) = true := by simp [hcd]
  go_enter Try.func7, Try.ntmps7
  go_upto_region 1 with fail
  rw [← HW.out]
  go_upto_region 2 with fail
  rw [← HUe.out]
  clear q0 q0f HUe
  have y0 := HY.out.cell 0 rfl
  have x0 := HX.out.cell 0 rfl
  go_wp2
  exact bodyPost_ret (v := .tuple #[]) (by simp [results, Try.results7, go_sem]) rfl ⟨rfl, HCt.out⟩
set_option maxRecDepth 100000 in
set_option maxHeartbeats 4000000 in
theorem nt_other (m : Bm) (B : Bv) (x : Cq) (cd nu : Int) (c : Cp) (d : Sl) (bs : List Nat) (gs : List Int) (N : Nat) (w : World) (ha : NtA w m B x c d nu bs gs N) (hcd : cd = 0) (hop : x.op ≠ 1 ∧ x.op ≠ 2 ∧ x.op ≠ 3 ∧ x.op ≠ 4 ∧ x.op ≠ 5 ∧ x.op ≠ 6 ∧ x.op ≠ 7 ∧ x.op ≠ 8 ∧ x.op ≠ 9 ∧ x.op ≠ 10) :
    Calls Try.prog 7 #[.pointer (some ⟨m.g, 0, none⟩), x.v, rpV cd c d nu] w fun e w' => e = .returned (.tuple #[]) ∧ Nt w w' m B (N + 3 + x.gs.n + d.n) := by
  obtain ⟨h, hx, hc, hnu, hsz, hN, hrw, hrb, hrc, hri, hrg⟩ := ha
  obtain ⟨o, ch, cl⟩ := c
  obtain ⟨W, hW⟩ : ∃ W, W = (w.alloc (Obj.cells x.L.toArray 36)).alloc (Obj.cells #[.int .i64 cd, .int .i64 o, .int .u64 (ch : Int), .int .u64 (cl : Int), .slice d.a d.n d.c, .int .i64 nu] 39) := ⟨_, rfl⟩
  have hB : Below w.heap.size w W := by rw [hW]; exact below2 _ _ _
  have HX0 : Hid (Bx W w.heap.size x.L) := by rw [hW]; exact (Bx.new w x.L _).later (below1 _ _)
  have HX1 : Hid (Bx W (w.heap.size + 1) (rpL cd ⟨o, ch, cl⟩ d nu)) := by rw [hW]; have := Bx.new (w.alloc (Obj.cells x.L.toArray 36)) (rpL cd ⟨o, ch, cl⟩ d nu) 39; simp at this; exact this
  have hBW := h.later hB
  have q0 := hBW.bw.bx.cell 0 rfl
  have q0f : W.frozen? ⟨m.g, 0, none⟩ = false := by have := (hBW.bw.bx.there 0 (by simp)).2; rwa [Nat.zero_add] at this
  have hn0 : 0 ≤ m.n ∧ m.n ≤ 50000000 := by rw [h.n]; have := hsz.n0; have := hsz.n1; omega
  have ew : IntKind.i64.wrap (m.n + 1) = m.n + 1 := by rw [IntKind.wrap_i64]; omega
  obtain ⟨hs1, hs2⟩ := hBW.step
  have hBe : Hid (B.n = m.n) := h.n.symm
  obtain ⟨U, hU⟩ : ∃ U, U = W.setCell ⟨m.g, 0, none⟩ (.int .i64 (m.n + 1)) := ⟨_, rfl⟩
  rw [← hU] at hs1 hs2
  have hOw : ∀ j, Owb m j → j < w.heap.size := h.bw.own_lt
  have HX := hid (HX0.out.but hs2.bt (fun hj => by have := hOw _ hj; omega))
  have HY := hid (HX1.out.but hs2.bt (fun hj => by have := hOw _ hj; omega))
  have hszU := hsz.step
  have HTw : Hid (∀ w' m' B', Bk w' m' B' → Tr U w' { m with n := m.n + 1 } m' → Sz B' (N + 3 + x.gs.n + d.n) → B'.n = B.n + 1 → Nt w w' m B (N + 3 + x.gs.n + d.n)) := fun w' m' B' k1 k2 k3 k4 => ⟨m', B', k1, Tr.fore hB (hs2.trans k2), k3, k4⟩
  have HLC : Hid ((Instr.loadAt 36 (.pointer (some ⟨w.heap.size, 0, none⟩))).run Try.prog U = .ok x.v U) := run_loadAt_mid U w.heap.size 0 36 x.L _ HX.out.range Try.underlying36 rfl (by kernel_rfl)
  have HLR : Hid ((Instr.loadAt 39 (.pointer (some ⟨w.heap.size + 1, 0, none⟩))).run Try.prog U = .ok (rpV cd ⟨o, ch, cl⟩ d nu) U) := run_loadAt_mid U (w.heap.size + 1) 0 39 (rpL cd ⟨o, ch, cl⟩ d nu) _ HY.out.range Try.underlying39 rfl (by kernel_rfl)
  have HCt : Hid (Nt w U m B (N + 3 + x.gs.n + d.n)) := HTw.out _ _ _ hs1 (Tr.refl _ _) (hsz.step.mono (by omega)) rfl
  have HW := hid hW
  have HUe := hid hU
  clear hBW hB hW h hx hc hnu hsz hN hrw hrb hrc hri hrg hs1 hs2 hU hOw hszU
  obtain ⟨xop, xb, xsz, ⟨xo, xh, xl⟩, xgv, xrt, xoff, xnn, ⟨xda, xdn, xdc⟩, xix, ⟨xga, xgn, xgc⟩⟩ := x
  simp only at HX0 HX HW HLC HTw HCt hop ⊢
  subst hcd
  have d1 : (xop == 1) = false := by simp [hop.1]
  have d2 : (xop == 2) = false := by simp [hop.2.1]
  have d3 : (xop == 3) = false := by simp [hop.2.2.1]
  have d4 : (xop == 4) = false := by simp [hop.2.2.2.1]
  have d5 : (xop == 5) = false := by simp [hop.2.2.2.2.1]
  have d6 : (xop == 6) = false := by simp [hop.2.2.2.2.2.1]
  have d7 : (xop == 7) = false := by simp [hop.2.2.2.2.2.2.1]
  have d8 : (xop == 8) = false := by simp [hop.2.2.2.2.2.2.2.1]
  have d9 : (xop == 9) = false := by simp [hop.2.2.2.2.2.2.2.2.1]
  have d10 : (xop == 10) = false := by simp [hop.2.2.2.2.2.2.2.2.2]
  go_enter Try.func7, Try.ntmps7
  go_upto_region 1 with fail
  rw [← HW.out]
  go_upto_region 2 with fail
  rw [← HUe.out]
  clear q0 q0f HUe
  have y0 := HY.out.cell 0 rfl
  have x0 := HX.out.cell 0 rfl
  go_wp2
  exact bodyPost_end (v := .tuple #[]) (by simp [results, Try.results7, go_sem]) rfl ⟨rfl, HCt.out⟩
theorem nt_add (m : Bm) (B : Bv) (x : Cq) (nu : Int) (c : Cp) (d : Sl) (bs : List Nat) (gs : List Int) (N : Nat) (w : World) (ha : NtA w m B x c d nu bs gs N) (hop : x.op = 7) :
    Calls Try.prog 7 #[.pointer (some ⟨m.g, 0, none⟩), x.v, rpV 0 c d nu] w fun e w' => e = .returned (.tuple #[]) ∧ Nt w w' m B (N + 3 + x.gs.n + d.n) := by
  obtain ⟨h, hx, hc, hnu, hsz, hN, hrw, hrb, hrc, hri, hrg⟩ := ha
  have hn0 : 0 ≤ m.n ∧ m.n ≤ 50000000 := by rw [h.n]; have := hsz.n0; have := hsz.n1; omega
  refine note_add m x.L x.b nu x.c c d w h.bw rfl (by rw [← hop]; rfl) rfl rfl rfl rfl ⟨hn0.1, by omega⟩ (fun j => j = m.bi ∨ ∃ k ∈ m.I, Blk k.s.a j) (fun w8 => Nt w w8 m B (N + 3 + x.gs.n + d.n)) (fun j hj => ?_) (fun U hUs hbU hbw => ?_)
  · rcases hj with rfl | ⟨k, hk, hj⟩
    · exact ⟨h.bw.lo _ (by simp [Bm.blks]), fun e => (bi_ne h.bw.dis).2.2.1 e.symm⟩
    · have := (h.bw.lists.each k hk).1.blk j hj
      exact ⟨this.2, by omega⟩
  · obtain ⟨v0, v7, w7, w8, l0, r7, r8, ⟨I', q1, q2, q3, q4⟩, b8, b7⟩ := hbw.lists_push (f := B.lists) h.lists hx.b x.c hx.c (by have := hsz.lists x.b; omega)
    have hbo : But (Owb m) w w8 := (hbU.mono (fun j e => by subst e; exact .inl (by simp [Bm.blks]))).trans (b8.mono (fun j hj => by
      rcases hj with rfl | hj
      · exact .inl (by simp [Bm.blks])
      · exact .inr (.inl hj)))
    refine ⟨v0, v7, w7, w8, l0, r7, r8, ⟨{ m with n := m.n + 1, I := I' }, { B with n := B.n + 1, lists := up1 B.lists x.b (B.lists x.b ++ [x.c]) }, ⟨q1, by show m.n + 1 = B.n + 1; rw [h.n], h.live, h.laid.mono (fun v a hr => hr.but h.bw hbo (fun _ h => h)), h.told.mono (fun v a hr => hr.but h.bw hbo (fun _ h => h)), q2, h.known, h.kne, h.cnt⟩, ⟨rfl, hbo, fun j hj => ?_⟩, ?_, rfl⟩, b8, b7⟩
    · rcases q3 j hj with h1 | h1
      · exact .inl h1
      · exact .inr (Nat.le_trans hUs h1)
    · exact ((hsz.step).list x.b (B.lists x.b ++ [x.c]) (by have := hsz.lists x.b; simp; omega)).mono (by omega)
theorem Bk.lists_drop {U : World} {m : Bm} {B : Bv} (h : Bk U m B) {p : Int} (hp : I64 p) :
    ∃ w' m', (Builtin.delete_ #[61, 3] 0 #[.map (some m.bi), .int .i64 p]).run Try.prog U = .ok (.tuple #[]) w' ∧ Bk w' m' { B with lists := up1 B.lists p [] } ∧ Tr U w' m m' ∧ m'.cells = m.cells := by
  obtain ⟨w', hr, hm, hb⟩ := h.bw.lists.drop hp 0 3
  obtain ⟨q1, q2, q3⟩ := h.bw.lists_to hb (fun j e => .inl e) hm (fun x hx j hj => .inl ⟨x, (List.mem_filter.1 hx).1, hj⟩)
  refine ⟨w', { m with I := m.I.filter (fun k => decide (k.p ≠ p)) }, hr, ⟨q1, h.n, h.live, h.laid.mono (fun v a hr => hr.but h.bw q2 (fun _ h => h)), h.told.mono (fun v a hr => hr.but h.bw q2 (fun _ h => h)), h.lists.drop p, h.known, h.kne, h.cnt⟩, ⟨rfl, q2, fun j hj => ?_⟩, rfl⟩
  rcases q3 j hj with h1 | ⟨x, hx, hj2⟩
  · exact .inl h1
  · exact .inl (.inr (.inl ⟨x, (List.mem_filter.1 hx).1, hj2⟩))
set_option maxRecDepth 100000 in
set_option maxHeartbeats 4000000 in
theorem nt_exit (m : Bm) (B : Bv) (x : Cq) (cd nu : Int) (c : Cp) (d : Sl) (bs : List Nat) (gs : List Int) (N : Nat) (w : World) (ha : NtA w m B x c d nu bs gs N) (hcd : cd = 0) (hop : x.op = 10) :
    Calls Try.prog 7 #[.pointer (some ⟨m.g, 0, none⟩), x.v, rpV cd c d nu] w fun e w' => e = .returned (.tuple #[]) ∧ Nt w w' m B (N + 3 + x.gs.n + d.n) := by
  obtain ⟨h, hx, hc, hnu, hsz, hN, hrw, hrb, hrc, hri, hrg⟩ := ha
  obtain ⟨o, ch, cl⟩ := c
  obtain ⟨W, hW⟩ : ∃ W, W = (w.alloc (Obj.cells x.L.toArray 36)).alloc (Obj.cells #[.int .i64 cd, .int .i64 o, .int .u64 (ch : Int), .int .u64 (cl : Int), .slice d.a d.n d.c, .int .i64 nu] 39) := ⟨_, rfl⟩
  have hB : Below w.heap.size w W := by rw [hW]; exact below2 _ _ _
  have HX0 : Hid (Bx W w.heap.size x.L) := by rw [hW]; exact (Bx.new w x.L _).later (below1 _ _)
  have HX1 : Hid (Bx W (w.heap.size + 1) (rpL cd ⟨o, ch, cl⟩ d nu)) := by rw [hW]; have := Bx.new (w.alloc (Obj.cells x.L.toArray 36)) (rpL cd ⟨o, ch, cl⟩ d nu) 39; simp at this; exact this
  have hBW := h.later hB
  have q0 := hBW.bw.bx.cell 0 rfl
  have q0f : W.frozen? ⟨m.g, 0, none⟩ = false := by have := (hBW.bw.bx.there 0 (by simp)).2; rwa [Nat.zero_add] at this
  have hn0 : 0 ≤ m.n ∧ m.n ≤ 50000000 := by rw [h.n]; have := hsz.n0; have := hsz.n1; omega
  have ew : IntKind.i64.wrap (m.n + 1) = m.n + 1 := by rw [IntKind.wrap_i64]; omega
  obtain ⟨hs1, hs2⟩ := hBW.step
  have hBe : Hid (B.n = m.n) := h.n.symm
  obtain ⟨U, hU⟩ : ∃ U, U = W.setCell ⟨m.g, 0, none⟩ (.int .i64 (m.n + 1)) := ⟨_, rfl⟩
  rw [← hU] at hs1 hs2
  have hOw : ∀ j, Owb m j → j < w.heap.size := h.bw.own_lt
  have HX := hid (HX0.out.but hs2.bt (fun hj => by have := hOw _ hj; omega))
  have HY := hid (HX1.out.but hs2.bt (fun hj => by have := hOw _ hj; omega))
  have hszU := hsz.step
  have HTw : Hid (∀ w' m' B', Bk w' m' B' → Tr U w' { m with n := m.n + 1 } m' → Sz B' (N + 3 + x.gs.n + d.n) → B'.n = B.n + 1 → Nt w w' m B (N + 3 + x.gs.n + d.n)) := fun w' m' B' k1 k2 k3 k4 => ⟨m', B', k1, Tr.fore hB (hs2.trans k2), k3, k4⟩
  have HLC : Hid ((Instr.loadAt 36 (.pointer (some ⟨w.heap.size, 0, none⟩))).run Try.prog U = .ok x.v U) := run_loadAt_mid U w.heap.size 0 36 x.L _ HX.out.range Try.underlying36 rfl (by kernel_rfl)
  have HLR : Hid ((Instr.loadAt 39 (.pointer (some ⟨w.heap.size + 1, 0, none⟩))).run Try.prog U = .ok (rpV cd ⟨o, ch, cl⟩ d nu) U) := run_loadAt_mid U (w.heap.size + 1) 0 39 (rpL cd ⟨o, ch, cl⟩ d nu) _ HY.out.range Try.underlying39 rfl (by kernel_rfl)
  obtain ⟨w8, m8, r8, hb8, ht8, hcl8⟩ := (hs1.drew).lists_drop (p := x.b) hx.b
  have HR8 := hid r8
  have HCt : Hid (Nt w w8 m B (N + 3 + x.gs.n + d.n)) := HTw.out _ _ _ hb8 (Tr.fore (Below.refl _ _).drew ht8) ((hsz.step.list x.b [] (Nat.zero_le _)).mono (by omega)) rfl
  have HS : Hid (∀ V, Below U.heap.size U V → (V.rangeAt m.g 0 ({ m with n := m.n + 1 } : Bm).cells ∧ V.rangeAt w.heap.size 0 x.L)) := fun V hV => ⟨(hs1.bw.bx.later hV).range, (HX.out.later hV).range⟩
  have HSe : Hid (w8.rangeAt m.g 0 ({ m with n := m.n + 1 } : Bm).cells ∧ w8.rangeAt w.heap.size 0 x.L) := ⟨by have := hb8.bw.bx.range; rw [hcl8, ht8.g] at this; exact this, (HX.out.but ((But.of (Below.refl _ _).drew).trans ht8.bt) (fun hj => by have := hOw _ hj; omega)).range⟩
  have HW := hid hW
  have HUe := hid hU
  clear hBW hB hW h hx hc hnu hsz hN hrw hrb hrc hri hrg hs1 hs2 hU hOw hszU r8 hb8 ht8 hcl8
  obtain ⟨xop, xb, xsz, ⟨xo, xh, xl⟩, xgv, xrt, xoff, xnn, ⟨xda, xdn, xdc⟩, xix, ⟨xga, xgn, xgc⟩⟩ := x
  simp only at HX0 HX HW HLC HTw HCt HS HSe hop ⊢
  subst hcd
  subst hop
  go_enter Try.func7, Try.ntmps7
  go_upto_region 1 with fail
  rw [← HW.out]
  go_upto_region 2 with fail
  rw [← HUe.out]
  clear q0 q0f HUe
  have y0 := HY.out.cell 0 rfl
  have x0 := HX.out.cell 0 rfl
  go_upto_region 23 with fail
  refine wp_region_held_drew (S := (fun V : World => V.rangeAt m.g 0 ({ m with n := m.n + 1 } : Bm).cells ∧ V.rangeAt w.heap.size 0 [.int .i64 10, .int .i64 xb, .int .i64 xsz, .int .i64 xo, .int .u64 (xh : Int), .int .u64 (xl : Int), .bool xgv, .int .i64 xrt, .int .i64 xoff, .int .i64 xnn, .slice xda xdn xdc, .int .i64 xix, .slice xga xgn xgc])) (by kernel_rfl) (HS.out _ (Below.refl _ _).drew) (fun hHeld => ?_)
  refine wpAnyH_norm (l2 := #[false, false, false, false, false, false, false]) (f2 := 7) (by kernel_rfl) (by kernel_rfl) ?_
  refine wpAnyH_take (i := 0) (oi := _) (v := ?_) rfl (by kernel_rfl) (by kernel_rfl) (by kernel_rfl) (fun _ _ _ h => h) (Or.inl ⟨by rfl, ?_⟩) (by assumption) ?_
  rotate_left
  · (intro w hSw; (try dsimp only at hSw); go_simp; try with_reducible rfl)
  simp only [List.getElem_toArray, List.getElem_cons_succ, List.getElem_cons_zero, Act.put, List.setIfInBounds_toArray, List.set_cons_zero, List.set_cons_succ]
  refine wpAnyH_norm (l2 := #[true, false, false, false, false, false, false]) (f2 := 6) (by kernel_rfl) (by kernel_rfl) ?_
  refine wpAnyH_take (i := 1) (oi := _) (v := ?_) rfl (by kernel_rfl) (by kernel_rfl) (by kernel_rfl) (fun _ _ _ h => h) (Or.inl ⟨by rfl, ?_⟩) (by assumption) ?_
  rotate_left
  · (intro w hSw; (try dsimp only at hSw); go_simp; try with_reducible rfl)
  simp only [List.getElem_toArray, List.getElem_cons_succ, List.getElem_cons_zero, Act.put, List.setIfInBounds_toArray, List.set_cons_zero, List.set_cons_succ]
  refine wpAnyH_norm (l2 := #[true, true, false, false, false, false, false]) (f2 := 5) (by kernel_rfl) (by kernel_rfl) ?_
  refine wpAnyH_take (i := 2) (oi := _) (v := ?_) rfl (by kernel_rfl) (by kernel_rfl) (by kernel_rfl) (fun _ _ _ h => h) (Or.inl ⟨by rfl, ?_⟩) (by assumption) ?_
  rotate_left
  · (intro w hSw; (try dsimp only at hSw); go_simp; try with_reducible rfl)
  simp only [List.getElem_toArray, List.getElem_cons_succ, List.getElem_cons_zero, Act.put, List.setIfInBounds_toArray, List.set_cons_zero, List.set_cons_succ]
  refine wpAnyH_norm (l2 := #[true, true, true, false, false, false, false]) (f2 := 4) (by kernel_rfl) (by kernel_rfl) ?_
  refine wpAnyH_take (i := 3) (oi := _) (v := ?_) rfl (by kernel_rfl) (by kernel_rfl) (by kernel_rfl) (fun _ _ _ h => h) (Or.inl ⟨by rfl, ?_⟩) (by assumption) ?_
  rotate_left
  · (intro w hSw; have z2 := rg_at (j := 2) hSw.1 rfl; go_simp; try with_reducible rfl)
  simp only [List.getElem_toArray, List.getElem_cons_succ, List.getElem_cons_zero, Act.put, List.setIfInBounds_toArray, List.set_cons_zero, List.set_cons_succ]
  refine wpAnyH_norm (l2 := #[true, true, true, true, false, false, false]) (f2 := 3) (by kernel_rfl) (by kernel_rfl) ?_
  refine wpAnyH_take (i := 4) (oi := _) (v := ?_) rfl (by kernel_rfl) (by kernel_rfl) (by kernel_rfl) (fun _ _ _ h => h) (Or.inl ⟨by rfl, ?_⟩) (by assumption) ?_
  rotate_left
  · (intro w hSw; (try dsimp only at hSw); go_simp; try with_reducible rfl)
  simp only [List.getElem_toArray, List.getElem_cons_succ, List.getElem_cons_zero, Act.put, List.setIfInBounds_toArray, List.set_cons_zero, List.set_cons_succ]
  refine wpAnyH_norm (l2 := #[true, true, true, true, true, false, false]) (f2 := 2) (by kernel_rfl) (by kernel_rfl) ?_
  refine wpAnyH_take (i := 5) (oi := _) (v := ?_) rfl (by kernel_rfl) (by kernel_rfl) (by kernel_rfl) (fun _ _ _ h => h) (Or.inl ⟨by rfl, ?_⟩) (by assumption) ?_
  rotate_left
  · (intro w hSw; have z1 := rg_at (j := 1) hSw.2 rfl; go_simp; try with_reducible rfl)
  simp only [List.getElem_toArray, List.getElem_cons_succ, List.getElem_cons_zero, Act.put, List.setIfInBounds_toArray, List.set_cons_zero, List.set_cons_succ]
  refine wpAnyH_norm (l2 := #[true, true, true, true, true, true, false]) (f2 := 1) (by kernel_rfl) (by kernel_rfl) ?_
  refine wpAnyH_ready (rs := [6]) (by kernel_rfl) (by simp) ?_
  refine AllReadyH.cons rfl (fun K hK => ?_) AllReadyH.nil
  refine wp_del rfl rfl rfl HR8.out ?_
  refine hK.out _ _ (HSe.out) (fun hHeld => ?_)
  clear hK K
  simp only [List.getElem_toArray, List.getElem_cons_succ, List.getElem_cons_zero, Act.put, List.setIfInBounds_toArray, List.set_cons_zero, List.set_cons_succ]
  refine wpAnyH_norm (l2 := #[true, true, true, true, true, true, true]) (f2 := 0) (by kernel_rfl) (by kernel_rfl) ?_
  refine wpAnyH_done (by kernel_rfl) ?_ _
  go_wp2
  exact bodyPost_end (v := .tuple #[]) (by simp [results, Try.results7, go_sem]) rfl ⟨rfl, HCt.out⟩
theorem note_any (hrev : Rvk) (m : Bm) (B : Bv) (x : Cq) (cd nu : Int) (c : Cp) (d : Sl) (bs : List Nat) (gs : List Int) (N : Nat) (w : World) (ha : NtA w m B x c d nu bs gs N) :
    Calls Try.prog 7 #[.pointer (some ⟨m.g, 0, none⟩), x.v, rpV cd c d nu] w fun e w' => e = .returned (.tuple #[]) ∧ Nt w w' m B (N + 3 + x.gs.n + d.n) := by
  by_cases hcd : cd = 0
  · by_cases h1 : x.op = 1
    · exact nt_create m B x cd nu c d bs gs N w ha hcd h1
    by_cases h2 : x.op = 2
    · exact nt_destroy m B x cd nu c d bs gs N w ha hcd h2
    by_cases h3 : x.op = 3
    · exact nt_derive m B x cd nu c d bs gs N w ha hcd h3
    by_cases h4 : x.op = 4
    · exact nt_revoke m B x cd nu c d bs gs N w ha hcd h4 hrev
    by_cases h5 : x.op = 5
    · exact nt_read m B x cd nu c d bs gs N w ha hcd h5
    by_cases h6 : x.op = 6
    · exact nt_write m B x cd nu c d bs gs N w ha hcd h6
    by_cases h7 : x.op = 7
    · subst hcd
      exact nt_add m B x nu c d bs gs N w ha h7
    by_cases h8 : x.op = 8
    · exact nt_remove m B x cd nu c d bs gs N w ha hcd h8
    by_cases h9 : x.op = 9
    · exact nt_spawn m B x cd nu c d bs gs N w ha hcd h9
    by_cases h10 : x.op = 10
    · exact nt_exit m B x cd nu c d bs gs N w ha hcd h10
    exact nt_other m B x cd nu c d bs gs N w ha hcd ⟨h1, h2, h3, h4, h5, h6, h7, h8, h9, h10⟩
  · exact nt_refused m B x cd nu c d bs gs N w ha hcd
end Go.Proofs.Yticgammbjcdobaa
