import Derived.Test.YticgammbjcdobaaNV
namespace Go.Proofs.Yticgammbjcdobaa
open Go.RowKit
set_option linter.unusedVariables false
set_option linter.unusedSimpArgs false
/-- A list that is there is put under a new process. -/
theorem Bw.lists_add {w : World} {m : Bm} (h : Bw w m) {p : Int} (hp : I64 p) (hn : ∀ k ∈ m.I, k.p ≠ p) {a : Option Addr} {n c : Nat} {l : List Cp} (ho : Ow w (m.g + 1) 31 3 a n c (capsL l)) (hl : l.length = n) (hI : ∀ x ∈ m.I, ∀ j, Blk x.s.a j → ¬ Blk a j) (hK : ∀ x ∈ m.K, ∀ j, Blk x.s.a j → ¬ Blk a j) :
    ∃ w8, (Instr.mapUpdate 61 (.map (some m.bi)) (.int .i64 p) (.slice a n c)).run Try.prog w = .ok () w8 ∧ Bw w8 { m with I := m.I ++ [⟨p, ⟨a, n, c⟩, l⟩] } ∧ But (· = m.bi) w w8 := by
  have hmk : ∀ x ∈ m.I.map (fun k => (Value.int .i64 k.p, Value.slice k.s.a k.s.n k.s.c)), x.1 ≠ Value.int .i64 p := fun x hx => by
    obtain ⟨k, hk, rfl⟩ := List.mem_map.1 hx
    intro e
    simp at e
    exact hn k hk e
  obtain ⟨w8, r8, m8, b8, s8⟩ := h.lists.out.add ikey Try.underlying61 (kint hp) hmk (.slice a n c)
  obtain ⟨n1, n2, n3, n4, n5⟩ := bi_ne h.dis
  have to8 : ∀ {a : Option Addr} {n cap : Nat} {L : List Value}, Ow w (m.g + 1) 31 3 a n cap L → Ow w8 (m.g + 1) 31 3 a n cap L := fun ho => ho.but b8 (fun j hj e => h.cells ho (by omega) j hj (by subst e; simp [Bm.blks]))
  refine ⟨w8, r8, ⟨h.bx.but b8 n3, h.live.but b8 n1, h.laid.but b8 n5, h.told.but b8 n2, ⟨by rw [List.map_append]; exact m8, fun k hk => ?_, ?_⟩, h.known.map h.lists.out b8 n4, h.dis, fun j hj => Nat.lt_of_lt_of_le (h.lo j hj) b8.size, fun x hx y hy j hj hj2 => ?_⟩, b8⟩
  · rcases List.mem_append.1 hk with hk | hk
    · exact ⟨to8 (h.lists.each k hk).1, (h.lists.each k hk).2⟩
    · rw [List.mem_singleton.1 hk]
      exact ⟨to8 ho, hl⟩
  · show (m.I ++ [_]).Pairwise _
    rw [List.pairwise_append]
    refine ⟨h.lists.dis, List.pairwise_singleton _ _, fun x hx y hy j hj hj2 => ?_⟩
    rw [List.mem_singleton.1 hy] at hj2
    exact hI x hx j hj hj2
  · rcases List.mem_append.1 hx with hx | hx
    · exact h.ap x hx y hy j hj hj2
    · rw [List.mem_singleton.1 hx] at hj
      exact hK y hy j hj2 hj
/-- A spawn with one gift, a new process. -/
def SpQ (w : World) (m : Bm) (by_ nu : Int) (c : Cp) (kt : Nat) (a : Option Addr) (cc : Nat) (U : World) : Prop :=
  ∃ kt' ki s, Ow U w.heap.size 31 3 a 1 cc (capsL [c]) ∧ Bw U { m with T := m.T ++ [⟨nu, ki, [(fmV (frm c), .pointer (some ⟨kt', 0, none⟩))]⟩], K := m.K ++ [⟨nu, s, [c]⟩] } ∧ (∀ j, Blk s.a j → ¬ Blk a j ∧ w.heap.size ≤ j) ∧ Tyd U kt' m.n 4 by_ nu c (some ⟨kt, 0, none⟩) ∧ But (fun j => j = m.bt ∨ j = m.bk) w U
def SpR (w : World) (m : Bm) (by_ nu : Int) (c : Cp) (kt : Nat) (w' : World) : Prop := ∃ kt' ki s s', Bw w' { m with T := m.T ++ [⟨nu, ki, [(fmV (frm c), .pointer (some ⟨kt', 0, none⟩))]⟩], K := m.K ++ [⟨nu, s, [c]⟩], I := m.I ++ [⟨nu, s', [c]⟩] } ∧ Tyd w' kt' m.n 4 by_ nu c (some ⟨kt, 0, none⟩) ∧ But (fun j => j = m.bt ∨ j = m.bk ∨ j = m.bi) w w'
set_option maxRecDepth 100000 in
set_option maxHeartbeats 4000000 in
theorem spawn1 (m : Bm) (C : List Value) (by_ nu : Int) (c c2 : Cp) (d : Sl) (gg cg kt : Nat) (k0 : Kn) (w : World) (h : Bw w m) (hc : c.far) (hF : hasF c = true) (hC : C.length = 13) (h1 : C[1]? = some (.int .i64 by_)) (h12 : C[12]? = some (.slice (some ⟨gg, 0, none⟩) 1 cg)) (hgc : w.cell? ⟨gg, 0, none⟩ = some (.int .i64 0)) (hby : I64 by_) (hnu : I64 nu)
    (hk0 : k0 ∈ m.I) (hkp : k0.p = by_) (hkl : k0.l = [c]) (hT : Gt m.T by_ (fmV (frm c)) (some (.pointer (some ⟨kt, 0, none⟩)))) (hnT : ∀ g ∈ m.T, g.p ≠ nu) (hnK : ∀ k ∈ m.K, k.p ≠ nu) (hnI : ∀ k ∈ m.I, k.p ≠ nu) :
    Calls Try.prog 25 #[.pointer (some ⟨m.g, 0, none⟩), .agg C.toArray, rpV 0 c2 d nu] w fun e w' => e = .returned (.tuple #[]) ∧ SpR w m by_ nu c kt w' := by
  obtain ⟨o2, ch2, cl2⟩ := c2
  obtain ⟨kp, ⟨ka, kn, kc⟩, kl⟩ := k0
  simp only at hkp hkl
  subst hkp hkl
  obtain ⟨hok, hkn⟩ := h.lists.each _ hk0
  simp only [List.length_singleton] at hok hkn
  subst hkn
  obtain ⟨gk, rfl⟩ := hok.some_of (by omega)
  obtain ⟨o, ch, cl⟩ := c
  obtain ⟨W, hW⟩ : ∃ W, W = (w.alloc (Obj.cells C.toArray 36)).alloc (Obj.cells #[.int .i64 0, .int .i64 o2, .int .u64 (ch2 : Int), .int .u64 (cl2 : Int), .slice d.a d.n d.c, .int .i64 nu] 39) := ⟨_, rfl⟩
  have hB : Below w.heap.size w W := by rw [hW]; exact below2 _ _ _
  have HX0 : Hid (Bx W w.heap.size C) := by rw [hW]; exact (Bx.new w C _).later (below1 _ _)
  have HX1 : Hid (Bx W (w.heap.size + 1) (rpL 0 ⟨o2, ch2, cl2⟩ d nu)) := by rw [hW]; have := Bx.new (w.alloc (Obj.cells C.toArray 36)) (rpL 0 ⟨o2, ch2, cl2⟩ d nu) 39; simp at this; exact this
  have hBW := h.later hB
  have HLk : Hid (∀ U, Below W.heap.size W U → (Instr.lookup 61 (.map (some m.bi)) (.int .i64 kp) false).run Try.prog U = .ok (.slice (some ⟨gk, 0, none⟩) 1 kc) U) := fun U hU => (hBW.later hU).lists.out.hit ikey Try.underlying61 (List.mem_map.2 ⟨_, hk0, rfl⟩) false
  have HS : Hid (∀ U, Below W.heap.size W U → (U.rangeAt m.g 0 m.cells ∧ U.rangeAt w.heap.size 0 C)) := fun U hU => ⟨(hBW.bx.later hU).range, (HX0.out.later hU).range⟩
  have HRow := hid (hok.later hB)
  have HG : Hid (W.cell? ⟨gg, 0, none⟩ = some (.int .i64 0)) := by unfold Hid; rw [hB.cell (World.block_lt_of_cell? _ _ hgc)]; exact hgc
  have HTl : Hid (∀ U, Below w.heap.size w U → Calls Try.prog 27 #[.pointer (some ⟨m.g, 0, none⟩), .int .i64 kp, capV ⟨o, ch, cl⟩] U fun e w' => e = .returned (.tuple #[.pointer (some ⟨kt, 0, none⟩), .bool true]) ∧ Below U.heap.size U w') := fun U hU => telling_any m kp ⟨o, ch, cl⟩ (some (.pointer (some ⟨kt, 0, none⟩))) U (h.later hU) hc hF hby hT
  have HTe : Hid (∀ U, Below w.heap.size w U → Calls Try.prog 34 #[.pointer (some ⟨m.g, 0, none⟩), lkV 0 4 kp nu ⟨o, ch, cl⟩, .pointer (some ⟨kt, 0, none⟩)] U fun e w' => e = .returned (.tuple #[]) ∧ ∃ kt' ki s, U.heap.size ≤ kt' ∧ (s.n = 1 ∧ ∀ j, Blk s.a j → U.heap.size ≤ j) ∧ Bw w' { m with T := m.T ++ [⟨nu, ki, [(fmV (frm ⟨o, ch, cl⟩), .pointer (some ⟨kt', 0, none⟩))]⟩], K := m.K ++ [⟨nu, s, [⟨o, ch, cl⟩]⟩] } ∧ Bx w' kt' (tlL m.n 4 kp nu ⟨o, ch, cl⟩ (some ⟨kt, 0, none⟩)) ∧ w'.heap[kt']? = some (Obj.cells (tlL m.n 4 kp nu ⟨o, ch, cl⟩ (some ⟨kt, 0, none⟩)).toArray 92) ∧ But (fun j => j = m.bt ∨ j = m.bk) U w') := fun U hU => tell_new m 0 4 kp nu ⟨o, ch, cl⟩ (some ⟨kt, 0, none⟩) U (h.later hU) hc hF hnu hnT hnK
  have HH := hid h
  have HB := hid hB
  have HW := hid hW
  have H1 := hid h1
  have H12 := hid h12
  have HnI := hid hnI
  have hgl := h.lo m.g (by simp [Bm.blks])
  have hbt := h.lo m.bt (by simp [Bm.blks])
  have hbk := h.lo m.bk (by simp [Bm.blks])
  have hbi := h.lo m.bi (by simp [Bm.blks])
  clear hBW h hB hW h1 h12 hgc hok hC hT hnT hnK hnI hk0 hc hF
  go_enter Try.func25, Try.ntmps25
  go_upto_region 1 with fail
  rw [← HW.out]
  refine wp_region_held_drew (S := (fun U : World => U.rangeAt m.g 0 m.cells ∧ U.rangeAt w.heap.size 0 C)) (by kernel_rfl) (HS.out _ (Below.refl _ _).drew) (fun hHeld => ?_)
  refine wpAnyH_norm (l2 := #[false, false, false, false, false, false, false, false]) (f2 := 8) (by kernel_rfl) (by kernel_rfl) ?_
  refine wpAnyH_take (i := 0) (oi := _) (v := ?_) rfl (by kernel_rfl) (by kernel_rfl) (by kernel_rfl) (fun _ _ _ h => h) (Or.inl ⟨by rfl, ?_⟩) (by assumption) ?_
  rotate_left
  · (intro w hSw; (try dsimp only at hSw); go_simp; try with_reducible rfl)
  simp only [List.getElem_toArray, List.getElem_cons_succ, List.getElem_cons_zero, Act.put, List.setIfInBounds_toArray, List.set_cons_zero, List.set_cons_succ]
  refine wpAnyH_norm (l2 := #[true, false, false, false, false, false, false, false]) (f2 := 7) (by kernel_rfl) (by kernel_rfl) ?_
  refine wpAnyH_take (i := 1) (oi := _) (v := ?_) rfl (by kernel_rfl) (by kernel_rfl) (by kernel_rfl) (fun _ _ _ h => h) (Or.inl ⟨by rfl, ?_⟩) (by assumption) ?_
  rotate_left
  · (intro w hSw; (try dsimp only at hSw); go_simp; try with_reducible rfl)
  simp only [List.getElem_toArray, List.getElem_cons_succ, List.getElem_cons_zero, Act.put, List.setIfInBounds_toArray, List.set_cons_zero, List.set_cons_succ]
  refine wpAnyH_norm (l2 := #[true, true, false, false, false, false, false, false]) (f2 := 6) (by kernel_rfl) (by kernel_rfl) ?_
  refine wpAnyH_take (i := 2) (oi := _) (v := ?_) rfl (by kernel_rfl) (by kernel_rfl) (by kernel_rfl) (fun _ _ _ h => h) (Or.inl ⟨by rfl, ?_⟩) (by assumption) ?_
  rotate_left
  · (intro w hSw; (try dsimp only at hSw); go_simp; try with_reducible rfl)
  simp only [List.getElem_toArray, List.getElem_cons_succ, List.getElem_cons_zero, Act.put, List.setIfInBounds_toArray, List.set_cons_zero, List.set_cons_succ]
  refine wpAnyH_norm (l2 := #[true, true, true, false, false, false, false, false]) (f2 := 5) (by kernel_rfl) (by kernel_rfl) ?_
  refine wpAnyH_take (i := 3) (oi := _) (v := ?_) rfl (by kernel_rfl) (by kernel_rfl) (by kernel_rfl) (fun _ _ _ h => h) (Or.inl ⟨by rfl, ?_⟩) (by assumption) ?_
  rotate_left
  · (intro w hSw; have z1 := rg_at (j := 2) hSw.1 rfl; go_simp; try with_reducible rfl)
  simp only [List.getElem_toArray, List.getElem_cons_succ, List.getElem_cons_zero, Act.put, List.setIfInBounds_toArray, List.set_cons_zero, List.set_cons_succ]
  refine wpAnyH_norm (l2 := #[true, true, true, true, false, false, false, false]) (f2 := 4) (by kernel_rfl) (by kernel_rfl) ?_
  refine wpAnyH_take (i := 4) (oi := _) (v := ?_) rfl (by kernel_rfl) (by kernel_rfl) (by kernel_rfl) (fun _ _ _ h => h) (Or.inl ⟨by rfl, ?_⟩) (by assumption) ?_
  rotate_left
  · (intro w hSw; (try dsimp only at hSw); go_simp; try with_reducible rfl)
  simp only [List.getElem_toArray, List.getElem_cons_succ, List.getElem_cons_zero, Act.put, List.setIfInBounds_toArray, List.set_cons_zero, List.set_cons_succ]
  refine wpAnyH_norm (l2 := #[true, true, true, true, true, false, false, false]) (f2 := 3) (by kernel_rfl) (by kernel_rfl) ?_
  refine wpAnyH_take (i := 5) (oi := _) (v := ?_) rfl (by kernel_rfl) (by kernel_rfl) (by kernel_rfl) (fun _ _ _ h => h) (Or.inl ⟨by rfl, ?_⟩) (by assumption) ?_
  rotate_left
  · (intro w hSw; have z0 := rg_at (j := 1) hSw.2 H1.out; go_simp; try with_reducible rfl)
  simp only [List.getElem_toArray, List.getElem_cons_succ, List.getElem_cons_zero, Act.put, List.setIfInBounds_toArray, List.set_cons_zero, List.set_cons_succ]
  refine wpAnyH_norm (l2 := #[true, true, true, true, true, true, false, false]) (f2 := 2) (by kernel_rfl) (by kernel_rfl) ?_
  refine wpAnyH_ready (rs := [6]) (by kernel_rfl) (by simp) ?_
  refine AllReadyH.cons rfl (fun K hK => ?_) AllReadyH.nil
  refine wp_lk rfl rfl rfl (HLk.out _ (Below.refl _ _).drew) ?_
  refine hK.out _ _ (HS.out _ (Below.refl _ _).drew) (fun hHeld => ?_)
  clear hK K
  simp only [List.getElem_toArray, List.getElem_cons_succ, List.getElem_cons_zero, Act.put, List.setIfInBounds_toArray, List.set_cons_zero, List.set_cons_succ]
  refine wpAnyH_norm (l2 := #[true, true, true, true, true, true, true, false]) (f2 := 1) (by kernel_rfl) (by kernel_rfl) ?_
  refine wpAnyH_take (i := 7) (oi := _) (v := ?_) rfl (by kernel_rfl) (by kernel_rfl) (by kernel_rfl) (fun _ _ _ h => h) (Or.inl ⟨by rfl, ?_⟩) (by assumption) ?_
  rotate_left
  · (intro w hSw; (try dsimp only at hSw); go_simp; try with_reducible rfl)
  simp only [List.getElem_toArray, List.getElem_cons_succ, List.getElem_cons_zero, Act.put, List.setIfInBounds_toArray, List.set_cons_zero, List.set_cons_succ]
  refine wpAnyH_norm (l2 := #[true, true, true, true, true, true, true, true]) (f2 := 0) (by kernel_rfl) (by kernel_rfl) ?_
  refine wpAnyH_done (by kernel_rfl) ?_ _
  obtain ⟨V, hV⟩ : ∃ V, V = W.drew := ⟨_, rfl⟩
  have HBV : Hid (Below w.heap.size w V) := by rw [hV]; exact HB.out.drew
  have HXa : Hid (Bx V w.heap.size C) := by rw [hV]; exact HX0.out.later (Below.refl _ _).drew
  have HXb : Hid (Bx V (w.heap.size + 1) (rpL 0 ⟨o2, ch2, cl2⟩ d nu)) := by rw [hV]; exact HX1.out.later (Below.refl _ _).drew
  have HRw : Hid (Ow V (m.g + 1) 31 3 (some ⟨gk, 0, none⟩) 1 kc (capsL [⟨o, ch, cl⟩])) := by rw [hV]; exact HRow.out.later (Below.refl _ _).drew
  have HGv : Hid (V.cell? ⟨gg, 0, none⟩ = some (.int .i64 0)) := by rw [hV]; exact HG.out
  rw [← hV]
  clear hV HX0 HX1 HRow HG HS HLk
  have x12 := HXa.out.cell 12 H12.out
  go_upto_region 4 with fail
  clear x12
  go_loopw [23, 7] (fun i l U => (i = .int .i64 0 ∧ l = .slice none 0 0 ∧ U = V) ∨ (i = .int .i64 1 ∧ ∃ a cc, l = .slice a 1 cc ∧ SpQ w m kp nu ⟨o, ch, cl⟩ kt a cc U ∧ Bx U (w.heap.size + 1) (rpL 0 ⟨o2, ch2, cl2⟩ d nu))) (fun i _ _ => 2 - ivN i)
  case atStart => exact .inl ⟨rfl, rfl, rfl⟩
  case round =>
    rcases hrel with ⟨rfl, rfl, rfl⟩ | ⟨rfl, a, cc, rfl, hq, hxb⟩
    · have g0 := HGv.out
      have r0 := HRw.out.cells rfl
      have c0 := rg_at r0 (j := 0) rfl
      have c1 := rg_at r0 (j := 1) rfl
      have c2 := rg_at r0 (j := 2) rfl
      go_upto_region 8 with (first | (go_at_call 42; refine (isPlace_any _ _ _ _ _).mono ?_; rintro e w' ⟨rfl, hw'⟩; obtain rfl := hw'.symm; clear hw'))
      obtain ⟨V1, hV1⟩ : ∃ V1, V1 = wr.alloc (Obj.cells #[.int .i64 o, .int .u64 (ch : Int), .int .u64 (cl : Int)] 31) := ⟨_, rfl⟩
      rw [← hV1]
      obtain ⟨kx, hkx⟩ : ∃ k, k = wr.heap.size := ⟨_, rfl⟩
      rw [← hkx]
      have hb1 : Below wr.heap.size wr V1 := by rw [hV1]; exact below1 _ _
      have HXc : Hid (Bx V1 kx [.int .i64 o, .int .u64 (ch : Int), .int .u64 (cl : Int)]) := by rw [hkx, hV1]; exact Bx.new wr [.int .i64 o, .int .u64 (ch : Int), .int .u64 (cl : Int)] _
      have HB1 : Hid (Below w.heap.size w V1) := below_call HBV.out hb1
      have HXa1 := hid (HXa.out.later hb1)
      have HXb1 := hid (HXb.out.later hb1)
      obtain ⟨a', c', w7, r7, o7, b7, n7⟩ := ow_snoc 26 31 _ 3 24 Try.underlying26 infoC3 rfl (by omega) (w := V1) (base := w.heap.size) (cs := [.int .i64 o, .int .u64 (ch : Int), .int .u64 (cl : Int)]) (Ow.nil V1 w.heap.size _ _) rfl (one3 _ _ _) HB1.out.size (by omega) (by omega)
      have hB7 : Below V1.heap.size V1 w7 := But.below (Below.refl _ _) b7 (fun k hk => by obtain ⟨x, hx, _⟩ := hk; cases hx)
      have HR7 : Hid ((Builtin.append_ #[26, 26] 26 #[.slice none 0 0, .slice (some ⟨V1.heap.size, 0, none⟩) 1 1]).run Try.prog (V1.alloc (Obj.cells #[.int .i64 o, .int .u64 (ch : Int), .int .u64 (cl : Int)] 31)) = .ok (.slice a' 1 c') w7) := r7
      have HO7 : Hid (Ow w7 w.heap.size 31 3 a' 1 c' (capsL [⟨o, ch, cl⟩])) := by unfold Hid; simpa [capsL, encC] using o7
      have HB7 : Hid (Below w.heap.size w w7) := below_call HB1.out hB7
      have HXa7 := hid (HXa1.out.later hB7)
      have HXb7 := hid (HXb1.out.later hB7)
      have HXc7 := hid (HXc.out.later hB7)
      clear g0 r0 c0 c1 c2 hV1 hkx hb1 r7 o7 b7 n7 hB7
      have c0 := HXc.out.cell 0 rfl
      have c1 := HXc.out.cell 1 rfl
      have c2 := HXc.out.cell 2 rfl
      go_upto_region 9 with (first | (at_builtin; refine wpList_append_known rfl _ _ 26 rfl _ _ rfl rfl _ w7 HR7.out ?_))
      clear c0 c1 c2
      have c0 := HXc7.out.cell 0 rfl
      have c1 := HXc7.out.cell 1 rfl
      have c2 := HXc7.out.cell 2 rfl
      have x1 := HXa7.out.cell 1 H1.out
      go_upto_region 10 with (first | (go_at_call 27; refine (HTl.out _ HB7.out).mono ?_; rintro e w8 ⟨rfl, hb8⟩; have HB8 := hid hb8; clear hb8))
      clear c0 c1 c2 x1
      have HBw8 : Hid (Below w.heap.size w w8) := below_call HB7.out HB8.out
      have HXc8 := hid (HXc7.out.later HB8.out)
      have HXb8 := hid (HXb7.out.later HB8.out)
      have HO8 := hid (HO7.out.later HB8.out)
      have c0 := HXc8.out.cell 0 rfl
      have c1 := HXc8.out.cell 1 rfl
      have c2 := HXc8.out.cell 2 rfl
      have x1 := (HXa7.out.later HB8.out).cell 1 H1.out
      have y5 := HXb8.out.cell 5 rfl
      go_wp2_with (first | (go_at_call 34; refine (HTe.out _ HBw8.out).mono ?_; rintro e w9 ⟨rfl, kt', ki, s, hkt, hs, hbw, hbx, hty, hb9⟩; have HKt := hid hkt; have HSs := hid hs; have HBw := hid hbw; have HTy := hid hty; have HB9 := hid hb9; clear hkt hs hbw hbx hty hb9))
      refine ⟨.inr ⟨rfl, a', c', rfl, ⟨kt', ki, s, HO8.out.but HB9.out (fun j hj => ?_), HBw.out, fun j hj => ⟨fun hj2 => ?_, ?_⟩, HTy.out, (But.of HBw8.out).trans HB9.out⟩, HXb8.out.but HB9.out (fun hj => by omega)⟩, by simp [ivN]⟩
      · have := (HO8.out.blk j hj).1; omega
      · have h1 := HSs.out.2 j hj; have h2 := (HO8.out.blk j hj2).2; omega
      · exact Nat.le_trans HBw8.out.size (HSs.out.2 j hj)
    · obtain ⟨kt', ki, s, ho, hbw, hs, hty, hbt2⟩ := hq
      have hwr : But (fun j => j = m.bt ∨ j = m.bk) w wr.drew := hbt2.trans (But.of (Below.refl _ _).drew)
      obtain ⟨w8, r8, hw8, b8⟩ := (hbw.later (Below.refl wr.heap.size wr).drew).lists_add hnu HnI.out ((ho.later (Below.refl _ _).drew).mono (by show m.g + 1 ≤ w.heap.size; omega)) rfl (fun x hx j hj hj2 => by have h1 := ((HH.out.lists.each x hx).1.blk j hj).2; have h2 := (ho.blk j hj2).1; omega) (fun x hx j hj hj2 => by
        rcases List.mem_append.1 hx with hx | hx
        · have h1 := ((HH.out.known.each x hx).1.blk j hj).2; have h2 := (ho.blk j hj2).1; omega
        · rw [List.mem_singleton.1 hx] at hj
          exact (hs j hj).1 hj2)
      have HR8 := hid r8
      have HW8 := hid hw8
      have HB8 := hid b8
      have HTy : Hid (Tyd w8 kt' m.n 4 kp nu ⟨o, ch, cl⟩ (some ⟨kt, 0, none⟩)) := (hty.but (S := fun _ => False) (But.of (Below.refl wr.heap.size wr).drew) (fun h => h)).but b8 ((hty.but (S := fun _ => False) (But.of (Below.refl wr.heap.size wr).drew) (fun h => h)).map (hbw.later (Below.refl wr.heap.size wr).drew).lists.out)
      have HBe : Hid (But (fun j => j = m.bt ∨ j = m.bk ∨ j = m.bi) w w8) := (hwr.mono (fun j hj => hj.elim .inl (fun h => .inr (.inl h)))).trans (b8.mono (fun j hj => .inr (.inr hj)))
      have HS9 : Hid (∀ U, But (· = m.bi) wr.drew U → (U.rangeAt m.g 0 m.cells ∧ U.rangeAt (w.heap.size + 1) 0 (rpL 0 ⟨o2, ch2, cl2⟩ d nu))) := fun U hU => ⟨((hbw.later (Below.refl wr.heap.size wr).drew).bx.but hU (bi_ne HH.out.dis).2.2.1).range, ((hxb.later (Below.refl _ _).drew).but hU (by omega)).range⟩
      clear ho hbw hs hty hbt2 hwr r8 hw8 b8 hxb
      go_upto_region 13 with fail
      refine wp_region_held_drew (S := (fun U : World => U.rangeAt m.g 0 m.cells ∧ U.rangeAt (w.heap.size + 1) 0 (rpL 0 ⟨o2, ch2, cl2⟩ d nu))) (by kernel_rfl) (HS9.out _ (But.refl _ _)) (fun hHeld => ?_)
      refine wpAnyH_norm (l2 := #[false, false, false, false, false, false, false, false]) (f2 := 8) (by kernel_rfl) (by kernel_rfl) ?_
      refine wpAnyH_take (i := 0) (oi := _) (v := ?_) rfl (by kernel_rfl) (by kernel_rfl) (by kernel_rfl) (fun _ _ _ h => h) (Or.inl ⟨by rfl, ?_⟩) (by assumption) ?_
      rotate_left
      · (intro w hSw; (try dsimp only at hSw); go_simp; try with_reducible rfl)
      simp only [List.getElem_toArray, List.getElem_cons_succ, List.getElem_cons_zero, Act.put, List.setIfInBounds_toArray, List.set_cons_zero, List.set_cons_succ]
      refine wpAnyH_norm (l2 := #[true, false, false, false, false, false, false, false]) (f2 := 7) (by kernel_rfl) (by kernel_rfl) ?_
      refine wpAnyH_take (i := 1) (oi := _) (v := ?_) rfl (by kernel_rfl) (by kernel_rfl) (by kernel_rfl) (fun _ _ _ h => h) (Or.inl ⟨by rfl, ?_⟩) (by assumption) ?_
      rotate_left
      · (intro w hSw; (try dsimp only at hSw); go_simp; try with_reducible rfl)
      simp only [List.getElem_toArray, List.getElem_cons_succ, List.getElem_cons_zero, Act.put, List.setIfInBounds_toArray, List.set_cons_zero, List.set_cons_succ]
      refine wpAnyH_norm (l2 := #[true, true, false, false, false, false, false, false]) (f2 := 6) (by kernel_rfl) (by kernel_rfl) ?_
      refine wpAnyH_take (i := 2) (oi := _) (v := ?_) rfl (by kernel_rfl) (by kernel_rfl) (by kernel_rfl) (fun _ _ _ h => h) (Or.inl ⟨by rfl, ?_⟩) (by assumption) ?_
      rotate_left
      · (intro w hSw; (try dsimp only at hSw); go_simp; try with_reducible rfl)
      simp only [List.getElem_toArray, List.getElem_cons_succ, List.getElem_cons_zero, Act.put, List.setIfInBounds_toArray, List.set_cons_zero, List.set_cons_succ]
      refine wpAnyH_norm (l2 := #[true, true, true, false, false, false, false, false]) (f2 := 5) (by kernel_rfl) (by kernel_rfl) ?_
      refine wpAnyH_take (i := 3) (oi := _) (v := ?_) rfl (by kernel_rfl) (by kernel_rfl) (by kernel_rfl) (fun _ _ _ h => h) (Or.inl ⟨by rfl, ?_⟩) (by assumption) ?_
      rotate_left
      · (intro w hSw; have z1 := rg_at (j := 2) hSw.1 rfl; go_simp; try with_reducible rfl)
      simp only [List.getElem_toArray, List.getElem_cons_succ, List.getElem_cons_zero, Act.put, List.setIfInBounds_toArray, List.set_cons_zero, List.set_cons_succ]
      refine wpAnyH_norm (l2 := #[true, true, true, true, false, false, false, false]) (f2 := 4) (by kernel_rfl) (by kernel_rfl) ?_
      refine wpAnyH_take (i := 4) (oi := _) (v := ?_) rfl (by kernel_rfl) (by kernel_rfl) (by kernel_rfl) (fun _ _ _ h => h) (Or.inl ⟨by rfl, ?_⟩) (by assumption) ?_
      rotate_left
      · (intro w hSw; (try dsimp only at hSw); go_simp; try with_reducible rfl)
      simp only [List.getElem_toArray, List.getElem_cons_succ, List.getElem_cons_zero, Act.put, List.setIfInBounds_toArray, List.set_cons_zero, List.set_cons_succ]
      refine wpAnyH_norm (l2 := #[true, true, true, true, true, false, false, false]) (f2 := 3) (by kernel_rfl) (by kernel_rfl) ?_
      refine wpAnyH_take (i := 5) (oi := _) (v := ?_) rfl (by kernel_rfl) (by kernel_rfl) (by kernel_rfl) (fun _ _ _ h => h) (Or.inl ⟨by rfl, ?_⟩) (by assumption) ?_
      rotate_left
      · (intro w hSw; have z0 := rg_at (j := 5) hSw.2 rfl; go_simp; try with_reducible rfl)
      simp only [List.getElem_toArray, List.getElem_cons_succ, List.getElem_cons_zero, Act.put, List.setIfInBounds_toArray, List.set_cons_zero, List.set_cons_succ]
      refine wpAnyH_norm (l2 := #[true, true, true, true, true, true, false, false]) (f2 := 2) (by kernel_rfl) (by kernel_rfl) ?_
      refine wpAnyH_take (i := 6) (oi := _) (v := ?_) rfl (by kernel_rfl) (by kernel_rfl) (by kernel_rfl) (fun _ _ _ h => h) (Or.inl ⟨by rfl, ?_⟩) (by assumption) ?_
      rotate_left
      · (intro w hSw; (try dsimp only at hSw); go_simp; try with_reducible rfl)
      simp only [List.getElem_toArray, List.getElem_cons_succ, List.getElem_cons_zero, Act.put, List.setIfInBounds_toArray, List.set_cons_zero, List.set_cons_succ]
      refine wpAnyH_norm (l2 := #[true, true, true, true, true, true, true, false]) (f2 := 1) (by kernel_rfl) (by kernel_rfl) ?_
      refine wpAnyH_ready (rs := [7]) (by kernel_rfl) (by simp) ?_
      refine AllReadyH.cons rfl (fun K hK => ?_) AllReadyH.nil
      refine wp_upd rfl rfl rfl rfl HR8.out ?_
      refine hK.out _ _ (HS9.out _ HB8.out) (fun hHeld => ?_)
      clear hK K
      simp only [List.getElem_toArray, List.getElem_cons_succ, List.getElem_cons_zero, Act.put, List.setIfInBounds_toArray, List.set_cons_zero, List.set_cons_succ]
      refine wpAnyH_norm (l2 := #[true, true, true, true, true, true, true, true]) (f2 := 0) (by kernel_rfl) (by kernel_rfl) ?_
      refine wpAnyH_done (by kernel_rfl) ?_ _
      go_wp2
      exact bodyPost_end (v := .tuple #[]) (by simp [results, Try.results25, go_sem]) rfl ⟨rfl, kt', ki, s, ⟨a, 1, cc⟩, HW8.out, HTy.out, HBe.out⟩
set_option maxRecDepth 100000 in
set_option maxHeartbeats 4000000 in
theorem note_spawn (m : Bm) (C : List Value) (nu : Int) (c : Cp) (d : Sl) (w : World) (h : Bw w m) (hC : C.length = 13) (h0 : C[0]? = some (.int .i64 9)) (hnn : 0 ≤ m.n ∧ m.n < 4611686018427387904) (Q : World → Prop)
    (ht : ∀ (U : World), w.heap.size ≤ U.heap.size → But (· = m.g) w U → Bw U { m with n := m.n + 1 } → Calls Try.prog 25 #[.pointer (some ⟨m.g, 0, none⟩), .agg C.toArray, rpV 0 c d nu] U fun e w' => e = .returned (.tuple #[]) ∧ Q w') :
    Calls Try.prog 7 #[.pointer (some ⟨m.g, 0, none⟩), .agg C.toArray, rpV 0 c d nu] w fun e w' => e = .returned (.tuple #[]) ∧ Q w' := by
  obtain ⟨o, ch, cl⟩ := c
  obtain ⟨W, hW⟩ : ∃ W, W = (w.alloc (Obj.cells C.toArray 36)).alloc (Obj.cells #[.int .i64 0, .int .i64 o, .int .u64 (ch : Int), .int .u64 (cl : Int), .slice d.a d.n d.c, .int .i64 nu] 39) := ⟨_, rfl⟩
  have hB : Below w.heap.size w W := by rw [hW]; exact below2 _ _ _
  have HX0 : Hid (Bx W w.heap.size C) := by rw [hW]; exact (Bx.new w C _).later (below1 _ _)
  have HX1 : Hid (Bx W (w.heap.size + 1) (rpL 0 ⟨o, ch, cl⟩ d nu)) := by rw [hW]; have := Bx.new (w.alloc (Obj.cells C.toArray 36)) (rpL 0 ⟨o, ch, cl⟩ d nu) 39; simp at this; exact this
  have hBW := h.later hB
  have q0 := hBW.bx.cell 0 rfl
  have q0f : W.frozen? ⟨m.g, 0, none⟩ = false := by have := (hBW.bx.there 0 (by simp)).2; rwa [Nat.zero_add] at this
  have ew : IntKind.i64.wrap (m.n + 1) = m.n + 1 := by rw [IntKind.wrap_i64]; omega
  have hgl := h.lo m.g (by simp [Bm.blks])
  have HBW := hid hBW
  have HB := hid hB
  have HW := hid hW
  have HT := hid ht
  have H0 := hid h0
  have HCn := hid hC
  clear hBW h hB hW ht h0 hC
  go_enter Try.func7, Try.ntmps7
  go_upto_region 1 with fail
  rw [← HW.out]
  go_upto_region 2 with fail
  obtain ⟨U, hU⟩ : ∃ U, U = W.setCell ⟨m.g, 0, none⟩ (.int .i64 (m.n + 1)) := ⟨_, rfl⟩
  rw [← hU]
  have HBu : Hid (But (· = m.g) W U) := by rw [hU]; exact (But.refl (· = m.g) W).setCell (p := ⟨m.g, 0, none⟩) rfl _
  have HBm : Hid (Bw U { m with n := m.n + 1 }) := by rw [hU]; exact HBW.out.step _
  have HY := hid (HX1.out.but HBu.out (by omega))
  have HX := hid (HX0.out.but HBu.out (by omega))
  clear q0 q0f hU
  have y0 := HY.out.cell 0 rfl
  have x0 := HX.out.cell 0 H0.out
  have HLC : Hid ((Instr.loadAt 36 (.pointer (some ⟨w.heap.size, 0, none⟩))).run Try.prog U = .ok (.agg C.toArray) U) := run_loadAt_mid U w.heap.size 0 36 C _ HX.out.range Try.underlying36 rfl (by rw [HCn.out]; kernel_rfl)
  have HLR : Hid ((Instr.loadAt 39 (.pointer (some ⟨w.heap.size + 1, 0, none⟩))).run Try.prog U = .ok (rpV 0 ⟨o, ch, cl⟩ d nu) U) := run_loadAt_mid U (w.heap.size + 1) 0 39 (rpL 0 ⟨o, ch, cl⟩ d nu) _ HY.out.range Try.underlying39 rfl (by kernel_rfl)
  have HCr := hid (HT.out U (Nat.le_trans HB.out.size HBu.out.size) ((But.of HB.out).trans HBu.out) HBm.out)
  go_wp2_with (first | ((with_reducible refine ld_arm HLC.out ?_ ?_); (· rfl)) | ((with_reducible refine ld_arm HLR.out ?_ ?_); (· rfl)) | (go_at_call 25; refine HCr.out.mono ?_; rintro x w2 ⟨rfl, hq⟩; have HQ := hid hq; clear hq))
  exact bodyPost_end (v := .tuple #[]) (by simp [results, Try.results7, go_sem]) rfl ⟨rfl, HQ.out⟩
set_option maxRecDepth 100000 in
set_option maxHeartbeats 2000000 in
theorem honest_no (m : Bm) (C : List Value) (op : Int) (gv : Bool) (w : World) (hC : C.length = 13) (h0 : C[0]? = some (.int .i64 op)) (h6 : C[6]? = some (.bool gv)) (hb : brB op gv = false) :
    Calls Try.prog 14 #[.pointer (some ⟨m.g, 0, none⟩), .agg C.toArray] w fun e w' => e = .returned (.bool true) ∧ Below w.heap.size w w' := by
  obtain ⟨W, hW⟩ : ∃ W, W = w.alloc (Obj.cells C.toArray 36) := ⟨_, rfl⟩
  have hB : Below w.heap.size w W := by rw [hW]; exact below1 _ _
  have hX : Bx W w.heap.size C := by rw [hW]; exact Bx.new w C _
  have HLC : Hid ((Instr.loadAt 36 (.pointer (some ⟨w.heap.size, 0, none⟩))).run Try.prog W = .ok (.agg C.toArray) W) := run_loadAt_mid W w.heap.size 0 36 C _ hX.range Try.underlying36 rfl (by rw [hC]; kernel_rfl)
  have HBr := hid (brings_any C op gv W h0 h6)
  rw [hb] at HBr
  have HB := hid hB
  have HW := hid hW
  clear hB hW hX h0 h6 hC hb
  go_enter Try.func14, Try.ntmps14
  go_upto_region 1 with fail
  rw [← HW.out]
  go_wp2_with (first | ((with_reducible refine ld_arm HLC.out ?_ ?_); (· rfl)) | (go_at_call 31; refine HBr.out.mono ?_; rintro x w2 ⟨rfl, hb2⟩; have HB2 := hid hb2; clear hb2))
  go_ret
  exact ⟨rfl, below_call HB.out HB2.out⟩
set_option maxRecDepth 100000 in
set_option maxHeartbeats 2000000 in
theorem honest_yes (m : Bm) (C : List Value) (op by_ : Int) (gv r : Bool) (c : Cp) (w : World) (hC : C.length = 13) (h0 : C[0]? = some (.int .i64 op)) (h1 : C[1]? = some (.int .i64 by_)) (h3 : C[3]? = some (.int .i64 c.o)) (h4 : C[4]? = some (.int .u64 (c.h : Int))) (h5 : C[5]? = some (.int .u64 (c.l : Int))) (h6 : C[6]? = some (.bool gv)) (hb : brB op gv = true)
    (ht : ∀ U, Below w.heap.size w U → Calls Try.prog 16 #[.pointer (some ⟨m.g, 0, none⟩), .int .i64 by_, capV c] U fun e w' => e = .returned (.bool r) ∧ Below U.heap.size U w') :
    Calls Try.prog 14 #[.pointer (some ⟨m.g, 0, none⟩), .agg C.toArray] w fun e w' => e = .returned (.bool r) ∧ Below w.heap.size w w' := by
  obtain ⟨W, hW⟩ : ∃ W, W = w.alloc (Obj.cells C.toArray 36) := ⟨_, rfl⟩
  have hB : Below w.heap.size w W := by rw [hW]; exact below1 _ _
  have hX : Bx W w.heap.size C := by rw [hW]; exact Bx.new w C _
  have HLC : Hid ((Instr.loadAt 36 (.pointer (some ⟨w.heap.size, 0, none⟩))).run Try.prog W = .ok (.agg C.toArray) W) := run_loadAt_mid W w.heap.size 0 36 C _ hX.range Try.underlying36 rfl (by rw [hC]; kernel_rfl)
  have HBr := hid (brings_any C op gv W h0 h6)
  rw [hb] at HBr
  have HX := hid hX
  have HB := hid hB
  have HW := hid hW
  have H1 := hid h1
  have H3 := hid h3
  have H4 := hid h4
  have H5 := hid h5
  have HT := hid ht
  clear hB hW hX h0 h6 hC hb h1 h3 h4 h5 ht
  go_enter Try.func14, Try.ntmps14
  go_upto_region 1 with fail
  rw [← HW.out]
  go_wp2_with (first | ((with_reducible refine ld_arm HLC.out ?_ ?_); (· rfl)) | (go_at_call 31; refine HBr.out.mono ?_; rintro x w2 ⟨rfl, hb2⟩; have HB2 := hid (below_call HB.out hb2); (have x1 := (HX.out.later hb2).cell 1 H1.out); (have x3 := (HX.out.later hb2).cell 3 H3.out); (have x4 := (HX.out.later hb2).cell 4 H4.out); (have x5 := (HX.out.later hb2).cell 5 H5.out); clear hb2) | (go_at_call 16; refine (HT.out _ HB2.out).mono ?_; rintro x w3 ⟨rfl, hb3⟩; have HB3 := hid (below_call HB2.out hb3); clear hb3))
  go_ret
  exact ⟨rfl, HB3.out⟩
end Go.Proofs.Yticgammbjcdobaa
