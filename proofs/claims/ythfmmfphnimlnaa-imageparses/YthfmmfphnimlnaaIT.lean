import Derived.Test.YthfmmfphnimlnaaIX
namespace Go.Proofs.Ythfmmfphnimlnaa
open Go.RowKit
set_option linter.unusedVariables false
set_option linter.unusedSimpArgs false
theorem own_mk (w : World) (base : Nat) (h : base ≤ w.heap.size) : Own (w.alloc (Obj.cells #[.int .u8 115, .int .u8 101, .int .u8 115, .int .u8 97, .int .u8 109, .int .u8 101, .int .u8 32, .int .u8 49] 5)) base (some ⟨w.heap.size, 0, none⟩) 8 8 mkB := by
  refine ⟨⟨rfl, .inr ⟨w.heap.size, 8, #[.int .u8 115, .int .u8 101, .int .u8 115, .int .u8 97, .int .u8 109, .int .u8 101, .int .u8 32, .int .u8 49], rfl, h, heap_alloc_new _ _, by omega, by unfold maxLen; omega, rfl, rfl⟩⟩, fun x hx => ?_⟩
  simp only [mkB, List.mem_cons, List.not_mem_nil, or_false] at hx
  omega
theorem joinE {u : World} {a0 a1 a2 a3 a4 a5 a6 a7 : Option Addr} {n0 n1 n2 n3 n4 n5 n6 n7 c0 c1 c2 c3 c4 c5 c6 c7 : Nat} {L0 L1 L2 L3 L4 L5 L6 L7 : List Nat} (h0 : Row u a0 n0 c0 L0) (h1 : Row u a1 n1 c1 L1) (h2 : Row u a2 n2 c2 L2) (h3 : Row u a3 n3 c3 L3) (h4 : Row u a4 n4 c4 L4) (h5 : Row u a5 n5 c5 L5) (h6 : Row u a6 n6 c6 L6) (h7 : Row u a7 n7 c7 L7) (hc : (cat4 [(a0, n0, c0, L0), (a1, n1, c1, L1), (a2, n2, c2, L2), (a3, n3, c3, L3), (a4, n4, c4, L4), (a5, n5, c5, L5), (a6, n6, c6, L6), (a7, n7, c7, L7)]).length ≤ 140737488355328) :
    Calls Try.prog 38 #[.slice (some ⟨u.heap.size, 0, none⟩) 8 8] (u.alloc (Obj.cells #[.slice a0 n0 c0, .slice a1 n1 c1, .slice a2 n2 c2, .slice a3 n3 c3, .slice a4 n4 c4, .slice a5 n5 c5, .slice a6 n6 c6, .slice a7 n7 c7] 30)) fun e w' => ∃ a' n' cap', e = .returned (.slice a' n' cap') ∧ Own w' (u.alloc (Obj.cells #[.slice a0 n0 c0, .slice a1 n1 c1, .slice a2 n2 c2, .slice a3 n3 c3, .slice a4 n4 c4, .slice a5 n5 c5, .slice a6 n6 c6, .slice a7 n7 c7] 30)).heap.size a' n' cap' (cat4 [(a0, n0, c0, L0), (a1, n1, c1, L1), (a2, n2, c2, L2), (a3, n3, c3, L3), (a4, n4, c4, L4), (a5, n5, c5, L5), (a6, n6, c6, L6), (a7, n7, c7, L7)]) ∧ Below (u.alloc (Obj.cells #[.slice a0 n0 c0, .slice a1 n1 c1, .slice a2 n2 c2, .slice a3 n3 c3, .slice a4 n4 c4, .slice a5 n5 c5, .slice a6 n6 c6, .slice a7 n7 c7] 30)).heap.size (u.alloc (Obj.cells #[.slice a0 n0 c0, .slice a1 n1 c1, .slice a2 n2 c2, .slice a3 n3 c3, .slice a4 n4 c4, .slice a5 n5 c5, .slice a6 n6 c6, .slice a7 n7 c7] 30)) w' := by
  refine join_any u.heap.size 8 8 [(a0, n0, c0, L0), (a1, n1, c1, L1), (a2, n2, c2, L2), (a3, n3, c3, L3), (a4, n4, c4, L4), (a5, n5, c5, L5), (a6, n6, c6, L6), (a7, n7, c7, L7)] _ rfl (by simp) (fun j hj => ?_) (fun r hr => ?_) hc
  · have hj8 : j < 8 := hj
    have : j = 0 ∨ j = 1 ∨ j = 2 ∨ j = 3 ∨ j = 4 ∨ j = 5 ∨ j = 6 ∨ j = 7 := by omega
    rcases this with rfl | rfl | rfl | rfl | rfl | rfl | rfl | rfl <;> simp [go_sem, val4]
  · simp only [List.mem_cons, List.not_mem_nil, or_false] at hr
    rcases hr with rfl | rfl | rfl | rfl | rfl | rfl | rfl | rfl
    · exact h0.alloc _
    · exact h1.alloc _
    · exact h2.alloc _
    · exact h3.alloc _
    · exact h4.alloc _
    · exact h5.alloc _
    · exact h6.alloc _
    · exact h7.alloc _
theorem layL_len {c : Cf} {s : St} (g : Good c s) : (layL c s).length ≤ 10000000 := by
  have h1 : ∀ (M : List Ob), (∀ q ∈ M, q.b.length ≤ 4096) → (M.flatMap obL).length ≤ 4200 * M.length := by
    intro M hM
    induction M with
    | nil => simp
    | cons q M ih =>
      have h1 := ih (fun q hq => hM q (List.mem_cons_of_mem _ hq))
      have h2 := hM q List.mem_cons_self
      rw [List.flatMap_cons, List.length_append, List.length_cons, obL_len]
      omega
  have h2 : ∀ (M : List Tk), (M.flatMap tkL).length = 27 * M.length := by
    intro M
    induction M with
    | nil => simp
    | cons q M ih =>
      rw [List.flatMap_cons, List.length_append, List.length_cons, tkL_len, ih]
      omega
  have h3 : ∀ (M : List Pc), (∀ q ∈ M, q.l.length ≤ 32) → (M.flatMap pcsL).length ≤ 1000 * M.length := by
    intro M hM
    induction M with
    | nil => simp
    | cons q M ih =>
      have h1 := ih (fun q hq => hM q (List.mem_cons_of_mem _ hq))
      have h2 := hM q List.mem_cons_self
      rw [List.flatMap_cons, List.length_append, List.length_cons, pcsL_len]
      omega
  have h4 := h1 s.O (fun o ho => (g.oo o ho).2.2)
  have h5 := h3 s.P (fun p hp => (g.pp p hp).2.2.1)
  have h6 := g.ol
  have h7 := g.tl
  have h8 := g.pl
  have h9 : (cfL c).length = 20 := by simp [cfL, Cf.l10, leL_length]
  simp only [layL, osL, tsL, psL, List.length_append, leL_length, h2, h9]
  have h10 : mkB.length = 8 := rfl
  omega
set_option maxRecDepth 100000 in
set_option maxHeartbeats 8000000 in
theorem lay_any (c : Cf) (s : St) (a b d : Sl) (Q : List (Ob × Sl)) (R : List (Pc × Sl)) (w : World) (h : Sm w s a b d Q R) (hk : chk c s 4096 = 0) :
    Calls Try.prog 22 #[c.v, stV a b d s.nx s.px s.ta] w fun e w' => ∃ a n c', e = .returned (.slice a n c') ∧ Own w' w.heap.size a n c' (layL c s) ∧ Below w.heap.size w w' := by
  obtain ⟨g, ht0, ht1⟩ := good_of hk
  have hMI : MI = 4611686018427387904 := rfl
  obtain ⟨W, hW⟩ : ∃ W, W = (w.alloc (Obj.cells #[.int .i64 c.w, .int .i64 c.o, .int .i64 c.p, .int .i64 c.e, .int .i64 c.q, .int .i64 c.r, .int .i64 c.l, .int .i64 c.s, .int .i64 c.y, .int .i64 c.k] 23)).alloc (Obj.cells #[.slice a.a a.n a.c, .slice b.a b.n b.c, .slice d.a d.n d.c, .int .i64 s.nx, .int .i64 s.px, .int .i64 s.ta] 28) := ⟨_, rfl⟩
  have hB : Below w.heap.size w W := by rw [hW]; exact below2 _ _ _
  have hsz : W.heap.size = w.heap.size + 1 + 1 := by rw [hW]; simp
  have HXr : Hid (W.rangeAt w.heap.size 0 c.L) := by rw [hW]; exact rangeAt_later (below1 _ _) (rangeAt_new w c.L _)
  have HYr : Hid (W.rangeAt (w.heap.size + 1) 0 [.slice a.a a.n a.c, .slice b.a b.n b.c, .slice d.a d.n d.c, .int .i64 s.nx, .int .i64 s.px, .int .i64 s.ta]) := by
    have := rangeAt_new (w.alloc (Obj.cells #[.int .i64 c.w, .int .i64 c.o, .int .i64 c.p, .int .i64 c.e, .int .i64 c.q, .int .i64 c.r, .int .i64 c.l, .int .i64 c.s, .int .i64 c.y, .int .i64 c.k] 23)) [.slice a.a a.n a.c, .slice b.a b.n b.c, .slice d.a d.n d.c, .int .i64 s.nx, .int .i64 s.px, .int .i64 s.ta] 28
    rw [World.size_alloc] at this
    rw [hW]; exact this
  have hgx := g.nx
  have hgp := g.px
  obtain ⟨nx, hnx⟩ : ∃ nx : Nat, s.nx = nx := ⟨s.nx.toNat, by omega⟩
  obtain ⟨px, hpx⟩ : ∃ px : Nat, s.px = px := ⟨s.px.toNat, by omega⟩
  obtain ⟨ta, hta⟩ : ∃ ta : Nat, s.ta = ta := ⟨s.ta.toNat, by omega⟩
  have e1 : IntKind.u64.wrap (nx : Int) = (nx : Int) := by rw [IntKind.wrap_u64]; omega
  have e2 : IntKind.u32.wrap (px : Int) = (px : Int) := by rw [IntKind.wrap_u32]; omega
  have hM := h.later hB
  have HS : Hid (∀ X, Below W.heap.size W X → X.rangeAt w.heap.size 0 c.L ∧ X.cell? ⟨w.heap.size + 1, 3, none⟩ = some (.int .i64 (nx : Int)) ∧ X.cell? ⟨w.heap.size + 1, 4, none⟩ = some (.int .i64 (px : Int)) ∧ X.cell? ⟨w.heap.size + 1, 5, none⟩ = some (.int .i64 (ta : Int)) ∧ X.cell? ⟨w.heap.size + 1, 0, none⟩ = some (.slice a.a a.n a.c) ∧ X.cell? ⟨w.heap.size + 1, 1, none⟩ = some (.slice b.a b.n b.c) ∧ X.cell? ⟨w.heap.size + 1, 2, none⟩ = some (.slice d.a d.n d.c)) := fun X hX => by
    have r := rangeAt_later hX HYr.out
    have r3 := r 3 _ rfl
    have r4 := r 4 _ rfl
    have r5 := r 5 _ rfl
    have r0 := r 0 _ rfl
    have r1 := r 1 _ rfl
    have r2 := r 2 _ rfl
    rw [hnx] at r3
    rw [hpx] at r4
    rw [hta] at r5
    simp only [Nat.zero_add] at r0 r1 r2 r3 r4 r5
    exact ⟨rangeAt_later hX HXr.out, r3, r4, r5, r0, r1, r2⟩
  have HC3 : Hid (∀ U, Below W.heap.size W U → Calls Try.prog 39 #[c.v] U fun e w' => ∃ a n c', e = .returned (.slice a n c') ∧ Own w' U.heap.size a n c' (cfL c) ∧ Below U.heap.size U w') := fun U hU => layConfig_any c g.cf U
  have HC7 : Hid (∀ U, Below W.heap.size W U → Calls Try.prog 40 #[.slice none 0 0, .int .u64 (nx : Int)] U fun e w' => ∃ a c, e = .returned (.slice a 8 c) ∧ Own w' U.heap.size a 8 c (leL s.nx.toNat 8) ∧ Below U.heap.size U w') := fun U hU => by rw [hnx]; exact p64 nx (by omega) U
  have HC11 : Hid (∀ U, Below W.heap.size W U → Calls Try.prog 41 #[.slice none 0 0, .int .u32 (px : Int)] U fun e w' => ∃ a c, e = .returned (.slice a 4 c) ∧ Own w' U.heap.size a 4 c (leL s.px.toNat 4) ∧ Below U.heap.size U w') := fun U hU => by rw [hpx]; exact p32 px (by omega) U
  have HC14 : Hid (∀ U, Below W.heap.size W U → Calls Try.prog 42 #[.int .i64 (ta : Int)] U fun e w' => ∃ a c, e = .returned (.slice a 2 c) ∧ Own w' U.heap.size a 2 c (leL s.ta.toNat 2) ∧ Below U.heap.size U w') := fun U hU => by rw [hta]; exact layTwo_any ta (by omega) U
  have HC17 : Hid (∀ U, Below W.heap.size W U → Calls Try.prog 43 #[.slice a.a a.n a.c] U fun e w' => ∃ a n c', e = .returned (.slice a n c') ∧ Own w' U.heap.size a n c' (osL s.O) ∧ Below U.heap.size U w') := fun U hU => by
    have hU2 := hM.later hU
    have := layObjects_any a Q U hU2.o hU2.ob (by have h1 := hU2.o.len; have h2 := congrArg List.length hU2.eo; have h3 := g.ol; simp at h1 h2; omega) (fun q hq => g.oo q.1 (by rw [← hU2.eo]; exact List.mem_map_of_mem hq))
    rw [hU2.eo] at this
    exact this
  have HC20 : Hid (∀ U, Below W.heap.size W U → Calls Try.prog 44 #[.slice b.a b.n b.c] U fun e w' => ∃ a n c', e = .returned (.slice a n c') ∧ Own w' U.heap.size a n c' (tsL s.T) ∧ Below U.heap.size U w') := fun U hU => by
    have hU2 := hM.later hU
    exact layTokens_any b s.T U hU2.t (by have h1 := hU2.t.len; have h3 := g.tl; simp at h1; omega) (fun t ht => ⟨hU2.tw t ht, g.tt t ht⟩)
  have HC23 : Hid (∀ U, Below W.heap.size W U → Calls Try.prog 45 #[.slice d.a d.n d.c] U fun e w' => ∃ a n c', e = .returned (.slice a n c') ∧ Own w' U.heap.size a n c' (psL s.P) ∧ Below U.heap.size U w') := fun U hU => by
    have hU2 := hM.later hU
    have := layProcesses_any d R U hU2.p hU2.pl (by have h1 := hU2.p.len; have h2 := congrArg List.length hU2.ep; have h3 := g.pl; simp at h1 h2; omega) (fun q hq => by
      have h9 := g.pp q.1 (by rw [← hU2.ep]; exact List.mem_map_of_mem hq)
      exact ⟨h9.1, h9.2.1, h9.2.2.1, fun x hx => ⟨hU2.pw q hq x hx, h9.2.2.2 x hx⟩⟩)
    rw [hU2.ep] at this
    exact this
  have HLen : Hid ((layL c s).length ≤ 140737488355328) := Nat.le_trans (layL_len g) (by omega)
  have HCat : Hid (∀ (b0 : Nat) (a3 a7 a11 a14 a17 a20 a23 : Option Addr) (n3 n17 n20 n23 c3 c7 c11 c14 c17 c20 c23 : Nat), cat4 [(some ⟨b0, 0, none⟩, 8, 8, mkB), (a3, n3, c3, cfL c), (a7, 8, c7, leL s.nx.toNat 8), (a11, 4, c11, leL s.px.toNat 4), (a14, 2, c14, leL s.ta.toNat 2), (a17, n17, c17, osL s.O), (a20, n20, c20, tsL s.T), (a23, n23, c23, psL s.P)] = layL c s) := by
    unfold Hid
    intros
    simp [cat4, layL]
  have HB0 := hid hB
  have HW := hid hW
  rw [hnx, hpx, hta] at HW ⊢
  generalize leL s.nx.toNat 8 = lx at *
  generalize leL s.px.toNat 4 = lp at *
  generalize leL s.ta.toNat 2 = lt at *
  generalize cfL c = lc at *
  generalize osL s.O = lo at *
  generalize tsL s.T = lk at *
  generalize psL s.P = ls at *
  generalize layL c s = lay at *
  clear h hk g ht0 ht1 hMI hB hW hsz hgx hgp hnx hpx hta hM HXr HYr
  go_enter Try.func22, Try.ntmps22
  go_upto_region 1 with fail
  rw [← HW.out]
  refine wp_region_held_drew (S := (fun X : World => X.rangeAt w.heap.size 0 c.L ∧ X.cell? ⟨w.heap.size + 1, 3, none⟩ = some (.int .i64 (nx : Int)) ∧ X.cell? ⟨w.heap.size + 1, 4, none⟩ = some (.int .i64 (px : Int)) ∧ X.cell? ⟨w.heap.size + 1, 5, none⟩ = some (.int .i64 (ta : Int)) ∧ X.cell? ⟨w.heap.size + 1, 0, none⟩ = some (.slice a.a a.n a.c) ∧ X.cell? ⟨w.heap.size + 1, 1, none⟩ = some (.slice b.a b.n b.c) ∧ X.cell? ⟨w.heap.size + 1, 2, none⟩ = some (.slice d.a d.n d.c))) (by kernel_rfl) (HS.out _ (Below.refl _ _).drew) (fun hHeld => ?_)
  refine wpAnyH_norm (l2 := #[false, false, false, false, false, false, false, false, false, false, false, false, false, false, false, false, false, false, false, false, false, false, false, false, false, false, false]) (f2 := 27) (by kernel_rfl) (by kernel_rfl) ?_
  refine wpAnyH_take (i := 2) (oi := _) (v := c.v) rfl (by kernel_rfl) (by kernel_rfl) (by kernel_rfl) (fun _ _ _ h => h) (Or.inl ⟨by rfl, ?_⟩) (by assumption) ?_
  · (intro w hSw; exact ex_ld rfl rfl (ldF hSw.1 rfl))
  simp only [List.getElem_toArray, List.getElem_cons_succ, List.getElem_cons_zero, Act.put, List.setIfInBounds_toArray, List.set_cons_zero, List.set_cons_succ]
  refine wpAnyH_norm (l2 := #[false, false, true, false, false, false, false, false, false, false, false, false, false, false, false, false, false, false, false, false, false, false, false, false, false, false, false]) (f2 := 26) (by kernel_rfl) (by kernel_rfl) ?_
  refine wpAnyH_take (i := 4) (oi := _) (v := ?_) rfl (by kernel_rfl) (by kernel_rfl) (by kernel_rfl) (fun _ _ _ h => h) (Or.inl ⟨by rfl, ?_⟩) (by assumption) ?_
  rotate_left
  · (intro w hSw; (try dsimp only at hSw); go_simp; try with_reducible rfl)
  simp only [List.getElem_toArray, List.getElem_cons_succ, List.getElem_cons_zero, Act.put, List.setIfInBounds_toArray, List.set_cons_zero, List.set_cons_succ]
  refine wpAnyH_norm (l2 := #[false, false, true, false, true, false, false, false, false, false, false, false, false, false, false, false, false, false, false, false, false, false, false, false, false, false, false]) (f2 := 25) (by kernel_rfl) (by kernel_rfl) ?_
  refine wpAnyH_take (i := 5) (oi := _) (v := ?_) rfl (by kernel_rfl) (by kernel_rfl) (by kernel_rfl) (fun _ _ _ h => h) (Or.inl ⟨by rfl, ?_⟩) (by assumption) ?_
  rotate_left
  · (intro w hSw; (try dsimp only at hSw); go_simp; try with_reducible rfl)
  simp only [List.getElem_toArray, List.getElem_cons_succ, List.getElem_cons_zero, Act.put, List.setIfInBounds_toArray, List.set_cons_zero, List.set_cons_succ]
  refine wpAnyH_norm (l2 := #[false, false, true, false, true, true, false, false, false, false, false, false, false, false, false, false, false, false, false, false, false, false, false, false, false, false, false]) (f2 := 24) (by kernel_rfl) (by kernel_rfl) ?_
  refine wpAnyH_take (i := 6) (oi := _) (v := ?_) rfl (by kernel_rfl) (by kernel_rfl) (by kernel_rfl) (fun _ _ _ h => h) (Or.inl ⟨by rfl, ?_⟩) (by assumption) ?_
  rotate_left
  · (intro w hSw; (try dsimp only at hSw); go_simp; try with_reducible rfl)
  simp only [List.getElem_toArray, List.getElem_cons_succ, List.getElem_cons_zero, Act.put, List.setIfInBounds_toArray, List.set_cons_zero, List.set_cons_succ]
  refine wpAnyH_norm (l2 := #[false, false, true, false, true, true, true, false, false, false, false, false, false, false, false, false, false, false, false, false, false, false, false, false, false, false, false]) (f2 := 23) (by kernel_rfl) (by kernel_rfl) ?_
  refine wpAnyH_take (i := 8) (oi := _) (v := ?_) rfl (by kernel_rfl) (by kernel_rfl) (by kernel_rfl) (fun _ _ _ h => h) (Or.inl ⟨by rfl, ?_⟩) (by assumption) ?_
  rotate_left
  · (intro w hSw; (try dsimp only at hSw); go_simp; try with_reducible rfl)
  simp only [List.getElem_toArray, List.getElem_cons_succ, List.getElem_cons_zero, Act.put, List.setIfInBounds_toArray, List.set_cons_zero, List.set_cons_succ]
  refine wpAnyH_norm (l2 := #[false, false, true, false, true, true, true, false, true, false, false, false, false, false, false, false, false, false, false, false, false, false, false, false, false, false, false]) (f2 := 22) (by kernel_rfl) (by kernel_rfl) ?_
  refine wpAnyH_take (i := 9) (oi := _) (v := ?_) rfl (by kernel_rfl) (by kernel_rfl) (by kernel_rfl) (fun _ _ _ h => h) (Or.inl ⟨by rfl, ?_⟩) (by assumption) ?_
  rotate_left
  · (intro w hSw; (try dsimp only at hSw); go_simp; try with_reducible rfl)
  simp only [List.getElem_toArray, List.getElem_cons_succ, List.getElem_cons_zero, Act.put, List.setIfInBounds_toArray, List.set_cons_zero, List.set_cons_succ]
  refine wpAnyH_norm (l2 := #[false, false, true, false, true, true, true, false, true, true, false, false, false, false, false, false, false, false, false, false, false, false, false, false, false, false, false]) (f2 := 21) (by kernel_rfl) (by kernel_rfl) ?_
  refine wpAnyH_take (i := 10) (oi := _) (v := ?_) rfl (by kernel_rfl) (by kernel_rfl) (by kernel_rfl) (fun _ _ _ h => h) (Or.inl ⟨by rfl, ?_⟩) (by assumption) ?_
  rotate_left
  · (intro w hSw; (try dsimp only at hSw); go_simp; try with_reducible rfl)
  simp only [List.getElem_toArray, List.getElem_cons_succ, List.getElem_cons_zero, Act.put, List.setIfInBounds_toArray, List.set_cons_zero, List.set_cons_succ]
  refine wpAnyH_norm (l2 := #[false, false, true, false, true, true, true, false, true, true, true, false, false, false, false, false, false, false, false, false, false, false, false, false, false, false, false]) (f2 := 20) (by kernel_rfl) (by kernel_rfl) ?_
  refine wpAnyH_take (i := 12) (oi := _) (v := ?_) rfl (by kernel_rfl) (by kernel_rfl) (by kernel_rfl) (fun _ _ _ h => h) (Or.inl ⟨by rfl, ?_⟩) (by assumption) ?_
  rotate_left
  · (intro w hSw; (try dsimp only at hSw); go_simp; try with_reducible rfl)
  simp only [List.getElem_toArray, List.getElem_cons_succ, List.getElem_cons_zero, Act.put, List.setIfInBounds_toArray, List.set_cons_zero, List.set_cons_succ]
  refine wpAnyH_norm (l2 := #[false, false, true, false, true, true, true, false, true, true, true, false, true, false, false, false, false, false, false, false, false, false, false, false, false, false, false]) (f2 := 19) (by kernel_rfl) (by kernel_rfl) ?_
  refine wpAnyH_take (i := 13) (oi := _) (v := ?_) rfl (by kernel_rfl) (by kernel_rfl) (by kernel_rfl) (fun _ _ _ h => h) (Or.inl ⟨by rfl, ?_⟩) (by assumption) ?_
  rotate_left
  · (intro w hSw; (try dsimp only at hSw); go_simp; try with_reducible rfl)
  simp only [List.getElem_toArray, List.getElem_cons_succ, List.getElem_cons_zero, Act.put, List.setIfInBounds_toArray, List.set_cons_zero, List.set_cons_succ]
  refine wpAnyH_norm (l2 := #[false, false, true, false, true, true, true, false, true, true, true, false, true, true, false, false, false, false, false, false, false, false, false, false, false, false, false]) (f2 := 18) (by kernel_rfl) (by kernel_rfl) ?_
  refine wpAnyH_take (i := 15) (oi := _) (v := ?_) rfl (by kernel_rfl) (by kernel_rfl) (by kernel_rfl) (fun _ _ _ h => h) (Or.inl ⟨by rfl, ?_⟩) (by assumption) ?_
  rotate_left
  · (intro w hSw; (try dsimp only at hSw); go_simp; try with_reducible rfl)
  simp only [List.getElem_toArray, List.getElem_cons_succ, List.getElem_cons_zero, Act.put, List.setIfInBounds_toArray, List.set_cons_zero, List.set_cons_succ]
  refine wpAnyH_norm (l2 := #[false, false, true, false, true, true, true, false, true, true, true, false, true, true, false, true, false, false, false, false, false, false, false, false, false, false, false]) (f2 := 17) (by kernel_rfl) (by kernel_rfl) ?_
  refine wpAnyH_take (i := 16) (oi := _) (v := ?_) rfl (by kernel_rfl) (by kernel_rfl) (by kernel_rfl) (fun _ _ _ h => h) (Or.inl ⟨by rfl, ?_⟩) (by assumption) ?_
  rotate_left
  · (intro w hSw; (try dsimp only at hSw); go_simp; try with_reducible rfl)
  simp only [List.getElem_toArray, List.getElem_cons_succ, List.getElem_cons_zero, Act.put, List.setIfInBounds_toArray, List.set_cons_zero, List.set_cons_succ]
  refine wpAnyH_norm (l2 := #[false, false, true, false, true, true, true, false, true, true, true, false, true, true, false, true, true, false, false, false, false, false, false, false, false, false, false]) (f2 := 16) (by kernel_rfl) (by kernel_rfl) ?_
  refine wpAnyH_take (i := 18) (oi := _) (v := ?_) rfl (by kernel_rfl) (by kernel_rfl) (by kernel_rfl) (fun _ _ _ h => h) (Or.inl ⟨by rfl, ?_⟩) (by assumption) ?_
  rotate_left
  · (intro w hSw; (try dsimp only at hSw); go_simp; try with_reducible rfl)
  simp only [List.getElem_toArray, List.getElem_cons_succ, List.getElem_cons_zero, Act.put, List.setIfInBounds_toArray, List.set_cons_zero, List.set_cons_succ]
  refine wpAnyH_norm (l2 := #[false, false, true, false, true, true, true, false, true, true, true, false, true, true, false, true, true, false, true, false, false, false, false, false, false, false, false]) (f2 := 15) (by kernel_rfl) (by kernel_rfl) ?_
  refine wpAnyH_take (i := 19) (oi := _) (v := ?_) rfl (by kernel_rfl) (by kernel_rfl) (by kernel_rfl) (fun _ _ _ h => h) (Or.inl ⟨by rfl, ?_⟩) (by assumption) ?_
  rotate_left
  · (intro w hSw; (try dsimp only at hSw); go_simp; try with_reducible rfl)
  simp only [List.getElem_toArray, List.getElem_cons_succ, List.getElem_cons_zero, Act.put, List.setIfInBounds_toArray, List.set_cons_zero, List.set_cons_succ]
  refine wpAnyH_norm (l2 := #[false, false, true, false, true, true, true, false, true, true, true, false, true, true, false, true, true, false, true, true, false, false, false, false, false, false, false]) (f2 := 14) (by kernel_rfl) (by kernel_rfl) ?_
  refine wpAnyH_take (i := 21) (oi := _) (v := ?_) rfl (by kernel_rfl) (by kernel_rfl) (by kernel_rfl) (fun _ _ _ h => h) (Or.inl ⟨by rfl, ?_⟩) (by assumption) ?_
  rotate_left
  · (intro w hSw; (try dsimp only at hSw); go_simp; try with_reducible rfl)
  simp only [List.getElem_toArray, List.getElem_cons_succ, List.getElem_cons_zero, Act.put, List.setIfInBounds_toArray, List.set_cons_zero, List.set_cons_succ]
  refine wpAnyH_norm (l2 := #[false, false, true, false, true, true, true, false, true, true, true, false, true, true, false, true, true, false, true, true, false, true, false, false, false, false, false]) (f2 := 13) (by kernel_rfl) (by kernel_rfl) ?_
  refine wpAnyH_take (i := 22) (oi := _) (v := ?_) rfl (by kernel_rfl) (by kernel_rfl) (by kernel_rfl) (fun _ _ _ h => h) (Or.inl ⟨by rfl, ?_⟩) (by assumption) ?_
  rotate_left
  · (intro w hSw; (try dsimp only at hSw); go_simp; try with_reducible rfl)
  simp only [List.getElem_toArray, List.getElem_cons_succ, List.getElem_cons_zero, Act.put, List.setIfInBounds_toArray, List.set_cons_zero, List.set_cons_succ]
  refine share (Option Addr × Nat × Nat × Option Addr × Nat × Option Addr × Nat × Option Addr × Nat × Option Addr × Nat × Nat × Option Addr × Nat × Nat × Option Addr × Nat × Nat × Nat) 3 #[true, true, true, true, true, true, true, true, true, true, true, true, true, true, true, true, true, true, true, true, true, true, true, true, false, false, false] (fun a0 x => (((((((((a0).put (some 8) (.slice x.1 x.2.1 x.2.2.1)).put (some 12) (.slice x.2.2.2.1 8 x.2.2.2.2.1)).put (some 16) (.slice x.2.2.2.2.2.1 4 x.2.2.2.2.2.2.1)).put (some 19) (.slice x.2.2.2.2.2.2.2.1 2 x.2.2.2.2.2.2.2.2.1)).put (some 22) (.slice x.2.2.2.2.2.2.2.2.2.1 x.2.2.2.2.2.2.2.2.2.2.1 x.2.2.2.2.2.2.2.2.2.2.2.1)).put (some 25) (.slice x.2.2.2.2.2.2.2.2.2.2.2.2.1 x.2.2.2.2.2.2.2.2.2.2.2.2.2.1 x.2.2.2.2.2.2.2.2.2.2.2.2.2.2.1)).put (some 28) (.slice x.2.2.2.2.2.2.2.2.2.2.2.2.2.2.2.1 x.2.2.2.2.2.2.2.2.2.2.2.2.2.2.2.2.1 x.2.2.2.2.2.2.2.2.2.2.2.2.2.2.2.2.2.1)).put (some 5) (.slice (some ⟨x.2.2.2.2.2.2.2.2.2.2.2.2.2.2.2.2.2.2, 0, none⟩) 8 8)).put (some 6) (.slice (some ⟨x.2.2.2.2.2.2.2.2.2.2.2.2.2.2.2.2.2.2, 0, none⟩) 8 8)) (fun x u => Below W.heap.size W u ∧ Row u x.1 x.2.1 x.2.2.1 lc ∧ Row u x.2.2.2.1 8 x.2.2.2.2.1 lx ∧ Row u x.2.2.2.2.2.1 4 x.2.2.2.2.2.2.1 lp ∧ Row u x.2.2.2.2.2.2.2.1 2 x.2.2.2.2.2.2.2.2.1 lt ∧ Row u x.2.2.2.2.2.2.2.2.2.1 x.2.2.2.2.2.2.2.2.2.2.1 x.2.2.2.2.2.2.2.2.2.2.2.1 lo ∧ Row u x.2.2.2.2.2.2.2.2.2.2.2.2.1 x.2.2.2.2.2.2.2.2.2.2.2.2.2.1 x.2.2.2.2.2.2.2.2.2.2.2.2.2.2.1 lk ∧ Row u x.2.2.2.2.2.2.2.2.2.2.2.2.2.2.2.1 x.2.2.2.2.2.2.2.2.2.2.2.2.2.2.2.2.1 x.2.2.2.2.2.2.2.2.2.2.2.2.2.2.2.2.2.1 ls ∧ Row u (some ⟨x.2.2.2.2.2.2.2.2.2.2.2.2.2.2.2.2.2.2, 0, none⟩) 8 8 mkB) ?_ (fun KEY72 => ?_)
  · intro x u hpre
    obtain ⟨a3, n3, c3, a7, c7, a11, c11, a14, c14, a17, n17, c17, a20, n20, c20, a23, n23, c23, bz⟩ := x
    obtain ⟨hB, r3, r7, r11, r14, r17, r20, r23, hz⟩ := hpre
    simp only [List.getElem_toArray, List.getElem_cons_succ, List.getElem_cons_zero, Act.put, List.setIfInBounds_toArray, List.set_cons_zero, List.set_cons_succ]
    refine wpAnyH_norm (l2 := #[true, true, true, true, true, true, true, true, true, true, true, true, true, true, true, true, true, true, true, true, true, true, true, true, false, false, false]) (f2 := 3) (by kernel_rfl) (by kernel_rfl) ?_
    refine wpAnyH_ready (rs := [24]) (by kernel_rfl) (by simp) ?_
    refine AllReadyH.cons rfl (fun K hK => ?_) AllReadyH.nil
    go_simp
    have hB2 := below_call hB (below1 u (Obj.cells #[.slice (some ⟨bz, 0, none⟩) 8 8, .slice a3 n3 c3, .slice a7 8 c7, .slice a11 4 c11, .slice a14 2 c14, .slice a17 n17 c17, .slice a20 n20 c20, .slice a23 n23 c23] 30))
    refine hK.out _ _ (HS.out _ hB2) (fun hHeld => ?_)
    clear hK K
    simp only [List.getElem_toArray, List.getElem_cons_succ, List.getElem_cons_zero, Act.put, List.setIfInBounds_toArray, List.set_cons_zero, List.set_cons_succ]
    refine wpAnyH_norm (l2 := #[true, true, true, true, true, true, true, true, true, true, true, true, true, true, true, true, true, true, true, true, true, true, true, true, true, false, false]) (f2 := 2) (by kernel_rfl) (by kernel_rfl) ?_
    refine wpAnyH_ready (rs := [25]) (by kernel_rfl) (by simp) ?_
    refine AllReadyH.cons rfl (fun K hK => ?_) AllReadyH.nil
    have HJo := hid (joinE (u := u) hz r3 r7 r11 r14 r17 r20 r23 (by rw [HCat.out]; exact HLen.out))
    go_simp
    go_wp2_with (first | (go_at_call 38; refine HJo.out.mono ?_; rintro e w25 ⟨a25, n25, c25, rfl, ho, hb⟩))
    rw [HCat.out] at ho
    have hB4 := below_call hB2 hb
    refine hK.out _ _ (HS.out _ hB4) (fun hHeld => ?_)
    clear hK K
    simp only [List.getElem_toArray, List.getElem_cons_succ, List.getElem_cons_zero, Act.put, List.setIfInBounds_toArray, List.set_cons_zero, List.set_cons_succ]
    refine wpAnyH_norm (l2 := #[true, true, true, true, true, true, true, true, true, true, true, true, true, true, true, true, true, true, true, true, true, true, true, true, true, true, false]) (f2 := 1) (by kernel_rfl) (by kernel_rfl) ?_
    refine wpAnyH_take (i := 26) (oi := _) (v := ?_) rfl (by kernel_rfl) (by kernel_rfl) (by kernel_rfl) (fun _ _ _ h => h) (Or.inl ⟨by rfl, ?_⟩) (by assumption) ?_
    rotate_left
    · (intro w hSw; (try dsimp only at hSw); go_simp; try with_reducible rfl)
    simp only [List.getElem_toArray, List.getElem_cons_succ, List.getElem_cons_zero, Act.put, List.setIfInBounds_toArray, List.set_cons_zero, List.set_cons_succ]
    refine wpAnyH_norm (l2 := #[true, true, true, true, true, true, true, true, true, true, true, true, true, true, true, true, true, true, true, true, true, true, true, true, true, true, true]) (f2 := 0) (by kernel_rfl) (by kernel_rfl) ?_
    refine wpAnyH_done (by kernel_rfl) ?_ _
    go_wp2
    go_ret
    exact ⟨a25, n25, c25, rfl, ho.mono (below_call HB0.out hB2).size, below_call HB0.out hB4⟩
  refine share (Option Addr × Nat × Nat × Option Addr × Nat × Option Addr × Nat × Option Addr × Nat × Option Addr × Nat × Nat × Option Addr × Nat × Nat × Nat) 4 #[true, true, true, true, true, true, true, true, true, true, true, true, true, true, true, true, true, true, true, true, true, true, true, false, false, false, false] (fun a0 x => ((((((((a0).put (some 8) (.slice x.1 x.2.1 x.2.2.1)).put (some 12) (.slice x.2.2.2.1 8 x.2.2.2.2.1)).put (some 16) (.slice x.2.2.2.2.2.1 4 x.2.2.2.2.2.2.1)).put (some 19) (.slice x.2.2.2.2.2.2.2.1 2 x.2.2.2.2.2.2.2.2.1)).put (some 22) (.slice x.2.2.2.2.2.2.2.2.2.1 x.2.2.2.2.2.2.2.2.2.2.1 x.2.2.2.2.2.2.2.2.2.2.2.1)).put (some 25) (.slice x.2.2.2.2.2.2.2.2.2.2.2.2.1 x.2.2.2.2.2.2.2.2.2.2.2.2.2.1 x.2.2.2.2.2.2.2.2.2.2.2.2.2.2.1)).put (some 5) (.slice (some ⟨x.2.2.2.2.2.2.2.2.2.2.2.2.2.2.2, 0, none⟩) 8 8)).put (some 6) (.slice (some ⟨x.2.2.2.2.2.2.2.2.2.2.2.2.2.2.2, 0, none⟩) 8 8)) (fun x u => Below W.heap.size W u ∧ Row u x.1 x.2.1 x.2.2.1 lc ∧ Row u x.2.2.2.1 8 x.2.2.2.2.1 lx ∧ Row u x.2.2.2.2.2.1 4 x.2.2.2.2.2.2.1 lp ∧ Row u x.2.2.2.2.2.2.2.1 2 x.2.2.2.2.2.2.2.2.1 lt ∧ Row u x.2.2.2.2.2.2.2.2.2.1 x.2.2.2.2.2.2.2.2.2.2.1 x.2.2.2.2.2.2.2.2.2.2.2.1 lo ∧ Row u x.2.2.2.2.2.2.2.2.2.2.2.2.1 x.2.2.2.2.2.2.2.2.2.2.2.2.2.1 x.2.2.2.2.2.2.2.2.2.2.2.2.2.2.1 lk ∧ Row u (some ⟨x.2.2.2.2.2.2.2.2.2.2.2.2.2.2.2, 0, none⟩) 8 8 mkB) ?_ (fun KEY62 => ?_)
  · intro x u hpre
    obtain ⟨a3, n3, c3, a7, c7, a11, c11, a14, c14, a17, n17, c17, a20, n20, c20, bz⟩ := x
    obtain ⟨hB, r3, r7, r11, r14, r17, r20, hz⟩ := hpre
    simp only [List.getElem_toArray, List.getElem_cons_succ, List.getElem_cons_zero, Act.put, List.setIfInBounds_toArray, List.set_cons_zero, List.set_cons_succ]
    refine wpAnyH_norm (l2 := #[true, true, true, true, true, true, true, true, true, true, true, true, true, true, true, true, true, true, true, true, true, true, true, false, false, false, false]) (f2 := 4) (by kernel_rfl) (by kernel_rfl) ?_
    refine wpAnyH_ready (rs := [23]) (by kernel_rfl) (by simp) ?_
    refine AllReadyH.cons rfl (fun K hK => ?_) AllReadyH.nil
    go_simp
    go_wp2_with (first | (go_at_call 45; refine (HC23.out _ hB).mono ?_; rintro e U ⟨a23, n23, c23, rfl, ho, hb⟩))
    have hB2 := below_call hB hb
    refine hK.out _ _ (HS.out _ hB2) (fun hHeld => ?_)
    clear hK K
    simp only [List.getElem_toArray, List.getElem_cons_succ, List.getElem_cons_zero, Act.put, List.setIfInBounds_toArray, List.set_cons_zero, List.set_cons_succ]
    refine wpAnyH_norm (l2 := #[true, true, true, true, true, true, true, true, true, true, true, true, true, true, true, true, true, true, true, true, true, true, true, true, false, false, false]) (f2 := 3) (by kernel_rfl) (by kernel_rfl) ?_
    have hk := KEY72.out (a3, n3, c3, a7, c7, a11, c11, a14, c14, a17, n17, c17, a20, n20, c20, a23, n23, c23, bz) U ⟨hB2, Row.later hb r3, Row.later hb r7, Row.later hb r11, Row.later hb r14, Row.later hb r17, Row.later hb r20, ho.read, Row.later hb hz⟩
    simp only [List.getElem_toArray, List.getElem_cons_succ, List.getElem_cons_zero, Act.put, List.setIfInBounds_toArray, List.set_cons_zero, List.set_cons_succ] at hk
    exact hk
  refine share (Option Addr × Nat × Nat × Option Addr × Nat × Option Addr × Nat × Option Addr × Nat × Option Addr × Nat × Nat × Option Addr × Nat × Nat × Option Addr × Nat × Nat × Nat) 4 #[true, false, true, true, true, true, true, true, true, true, true, true, true, true, true, true, true, true, true, true, true, true, true, true, false, false, false] (fun a0 x => ((((((((a0).put (some 8) (.slice x.1 x.2.1 x.2.2.1)).put (some 12) (.slice x.2.2.2.1 8 x.2.2.2.2.1)).put (some 16) (.slice x.2.2.2.2.2.1 4 x.2.2.2.2.2.2.1)).put (some 19) (.slice x.2.2.2.2.2.2.2.1 2 x.2.2.2.2.2.2.2.2.1)).put (some 22) (.slice x.2.2.2.2.2.2.2.2.2.1 x.2.2.2.2.2.2.2.2.2.2.1 x.2.2.2.2.2.2.2.2.2.2.2.1)).put (some 25) (.slice x.2.2.2.2.2.2.2.2.2.2.2.2.1 x.2.2.2.2.2.2.2.2.2.2.2.2.2.1 x.2.2.2.2.2.2.2.2.2.2.2.2.2.2.1)).put (some 28) (.slice x.2.2.2.2.2.2.2.2.2.2.2.2.2.2.2.1 x.2.2.2.2.2.2.2.2.2.2.2.2.2.2.2.2.1 x.2.2.2.2.2.2.2.2.2.2.2.2.2.2.2.2.2.1)).put (some 5) (.slice (some ⟨x.2.2.2.2.2.2.2.2.2.2.2.2.2.2.2.2.2.2, 0, none⟩) 8 8)) (fun x u => Below W.heap.size W u ∧ Row u x.1 x.2.1 x.2.2.1 lc ∧ Row u x.2.2.2.1 8 x.2.2.2.2.1 lx ∧ Row u x.2.2.2.2.2.1 4 x.2.2.2.2.2.2.1 lp ∧ Row u x.2.2.2.2.2.2.2.1 2 x.2.2.2.2.2.2.2.2.1 lt ∧ Row u x.2.2.2.2.2.2.2.2.2.1 x.2.2.2.2.2.2.2.2.2.2.1 x.2.2.2.2.2.2.2.2.2.2.2.1 lo ∧ Row u x.2.2.2.2.2.2.2.2.2.2.2.2.1 x.2.2.2.2.2.2.2.2.2.2.2.2.2.1 x.2.2.2.2.2.2.2.2.2.2.2.2.2.2.1 lk ∧ Row u x.2.2.2.2.2.2.2.2.2.2.2.2.2.2.2.1 x.2.2.2.2.2.2.2.2.2.2.2.2.2.2.2.2.1 x.2.2.2.2.2.2.2.2.2.2.2.2.2.2.2.2.2.1 ls ∧ (u.heap[x.2.2.2.2.2.2.2.2.2.2.2.2.2.2.2.2.2.2]? = some (.cells mkA 5 (0, 0)) ∧ W.heap.size ≤ x.2.2.2.2.2.2.2.2.2.2.2.2.2.2.2.2.2.2)) ?_ (fun KEY71 => ?_)
  · intro x u hpre
    obtain ⟨a3, n3, c3, a7, c7, a11, c11, a14, c14, a17, n17, c17, a20, n20, c20, a23, n23, c23, bz⟩ := x
    obtain ⟨hB, r3, r7, r11, r14, r17, r20, r23, hz⟩ := hpre
    simp only [List.getElem_toArray, List.getElem_cons_succ, List.getElem_cons_zero, Act.put, List.setIfInBounds_toArray, List.set_cons_zero, List.set_cons_succ]
    refine wpAnyH_norm (l2 := #[true, false, true, true, true, true, true, true, true, true, true, true, true, true, true, true, true, true, true, true, true, true, true, true, false, false, false]) (f2 := 4) (by kernel_rfl) (by kernel_rfl) ?_
    refine wpAnyH_ready (rs := [1]) (by kernel_rfl) (by simp) ?_
    refine AllReadyH.cons rfl (fun K hK => ?_) AllReadyH.nil
    obtain ⟨U, hcv, hh, hcell, hbut⟩ := conv_mark hz.1
    refine wp_conv (.tmp 5) 30 30 rfl _ rfl _ _ hcv ?_
    have hB2 := But.below hB hbut (fun k hk => by rw [hk]; exact hz.2)
    refine hK.out _ _ (HS.out _ hB2) (fun hHeld => ?_)
    clear hK K
    simp only [List.getElem_toArray, List.getElem_cons_succ, List.getElem_cons_zero, Act.put, List.setIfInBounds_toArray, List.set_cons_zero, List.set_cons_succ]
    refine wpAnyH_norm (l2 := #[true, true, true, true, true, true, true, true, true, true, true, true, true, true, true, true, true, true, true, true, true, true, true, true, false, false, false]) (f2 := 3) (by kernel_rfl) (by kernel_rfl) ?_
    have hk := KEY72.out (a3, n3, c3, a7, c7, a11, c11, a14, c14, a17, n17, c17, a20, n20, c20, a23, n23, c23, bz) U ⟨hB2, Row.same r3 hcell, Row.same r7 hcell, Row.same r11 hcell, Row.same r14 hcell, Row.same r17 hcell, Row.same r20 hcell, Row.same r23 hcell, mk_row hh⟩
    simp only [List.getElem_toArray, List.getElem_cons_succ, List.getElem_cons_zero, Act.put, List.setIfInBounds_toArray, List.set_cons_zero, List.set_cons_succ] at hk
    exact hk
  refine share (Option Addr × Nat × Nat × Option Addr × Nat × Option Addr × Nat × Option Addr × Nat × Option Addr × Nat × Nat × Nat) 5 #[true, true, true, true, true, true, true, true, true, true, true, true, true, true, true, true, true, true, true, true, false, true, true, false, false, false, false] (fun a0 x => (((((((a0).put (some 8) (.slice x.1 x.2.1 x.2.2.1)).put (some 12) (.slice x.2.2.2.1 8 x.2.2.2.2.1)).put (some 16) (.slice x.2.2.2.2.2.1 4 x.2.2.2.2.2.2.1)).put (some 19) (.slice x.2.2.2.2.2.2.2.1 2 x.2.2.2.2.2.2.2.2.1)).put (some 22) (.slice x.2.2.2.2.2.2.2.2.2.1 x.2.2.2.2.2.2.2.2.2.2.1 x.2.2.2.2.2.2.2.2.2.2.2.1)).put (some 5) (.slice (some ⟨x.2.2.2.2.2.2.2.2.2.2.2.2, 0, none⟩) 8 8)).put (some 6) (.slice (some ⟨x.2.2.2.2.2.2.2.2.2.2.2.2, 0, none⟩) 8 8)) (fun x u => Below W.heap.size W u ∧ Row u x.1 x.2.1 x.2.2.1 lc ∧ Row u x.2.2.2.1 8 x.2.2.2.2.1 lx ∧ Row u x.2.2.2.2.2.1 4 x.2.2.2.2.2.2.1 lp ∧ Row u x.2.2.2.2.2.2.2.1 2 x.2.2.2.2.2.2.2.2.1 lt ∧ Row u x.2.2.2.2.2.2.2.2.2.1 x.2.2.2.2.2.2.2.2.2.2.1 x.2.2.2.2.2.2.2.2.2.2.2.1 lo ∧ Row u (some ⟨x.2.2.2.2.2.2.2.2.2.2.2.2, 0, none⟩) 8 8 mkB) ?_ (fun KEY52 => ?_)
  · intro x u hpre
    obtain ⟨a3, n3, c3, a7, c7, a11, c11, a14, c14, a17, n17, c17, bz⟩ := x
    obtain ⟨hB, r3, r7, r11, r14, r17, hz⟩ := hpre
    simp only [List.getElem_toArray, List.getElem_cons_succ, List.getElem_cons_zero, Act.put, List.setIfInBounds_toArray, List.set_cons_zero, List.set_cons_succ]
    refine wpAnyH_norm (l2 := #[true, true, true, true, true, true, true, true, true, true, true, true, true, true, true, true, true, true, true, true, false, true, true, false, false, false, false]) (f2 := 5) (by kernel_rfl) (by kernel_rfl) ?_
    refine wpAnyH_ready (rs := [20]) (by kernel_rfl) (by simp) ?_
    refine AllReadyH.cons rfl (fun K hK => ?_) AllReadyH.nil
    go_simp
    go_wp2_with (first | (go_at_call 44; refine (HC20.out _ hB).mono ?_; rintro e U ⟨a20, n20, c20, rfl, ho, hb⟩))
    have hB2 := below_call hB hb
    refine hK.out _ _ (HS.out _ hB2) (fun hHeld => ?_)
    clear hK K
    simp only [List.getElem_toArray, List.getElem_cons_succ, List.getElem_cons_zero, Act.put, List.setIfInBounds_toArray, List.set_cons_zero, List.set_cons_succ]
    refine wpAnyH_norm (l2 := #[true, true, true, true, true, true, true, true, true, true, true, true, true, true, true, true, true, true, true, true, true, true, true, false, false, false, false]) (f2 := 4) (by kernel_rfl) (by kernel_rfl) ?_
    have hk := KEY62.out (a3, n3, c3, a7, c7, a11, c11, a14, c14, a17, n17, c17, a20, n20, c20, bz) U ⟨hB2, Row.later hb r3, Row.later hb r7, Row.later hb r11, Row.later hb r14, Row.later hb r17, ho.read, Row.later hb hz⟩
    simp only [List.getElem_toArray, List.getElem_cons_succ, List.getElem_cons_zero, Act.put, List.setIfInBounds_toArray, List.set_cons_zero, List.set_cons_succ] at hk
    exact hk
  refine share (Option Addr × Nat × Nat × Option Addr × Nat × Option Addr × Nat × Option Addr × Nat × Option Addr × Nat × Nat × Option Addr × Nat × Nat × Nat) 5 #[true, false, true, true, true, true, true, true, true, true, true, true, true, true, true, true, true, true, true, true, true, true, true, false, false, false, false] (fun a0 x => (((((((a0).put (some 8) (.slice x.1 x.2.1 x.2.2.1)).put (some 12) (.slice x.2.2.2.1 8 x.2.2.2.2.1)).put (some 16) (.slice x.2.2.2.2.2.1 4 x.2.2.2.2.2.2.1)).put (some 19) (.slice x.2.2.2.2.2.2.2.1 2 x.2.2.2.2.2.2.2.2.1)).put (some 22) (.slice x.2.2.2.2.2.2.2.2.2.1 x.2.2.2.2.2.2.2.2.2.2.1 x.2.2.2.2.2.2.2.2.2.2.2.1)).put (some 25) (.slice x.2.2.2.2.2.2.2.2.2.2.2.2.1 x.2.2.2.2.2.2.2.2.2.2.2.2.2.1 x.2.2.2.2.2.2.2.2.2.2.2.2.2.2.1)).put (some 5) (.slice (some ⟨x.2.2.2.2.2.2.2.2.2.2.2.2.2.2.2, 0, none⟩) 8 8)) (fun x u => Below W.heap.size W u ∧ Row u x.1 x.2.1 x.2.2.1 lc ∧ Row u x.2.2.2.1 8 x.2.2.2.2.1 lx ∧ Row u x.2.2.2.2.2.1 4 x.2.2.2.2.2.2.1 lp ∧ Row u x.2.2.2.2.2.2.2.1 2 x.2.2.2.2.2.2.2.2.1 lt ∧ Row u x.2.2.2.2.2.2.2.2.2.1 x.2.2.2.2.2.2.2.2.2.2.1 x.2.2.2.2.2.2.2.2.2.2.2.1 lo ∧ Row u x.2.2.2.2.2.2.2.2.2.2.2.2.1 x.2.2.2.2.2.2.2.2.2.2.2.2.2.1 x.2.2.2.2.2.2.2.2.2.2.2.2.2.2.1 lk ∧ (u.heap[x.2.2.2.2.2.2.2.2.2.2.2.2.2.2.2]? = some (.cells mkA 5 (0, 0)) ∧ W.heap.size ≤ x.2.2.2.2.2.2.2.2.2.2.2.2.2.2.2)) ?_ (fun KEY61 => ?_)
  · intro x u hpre
    obtain ⟨a3, n3, c3, a7, c7, a11, c11, a14, c14, a17, n17, c17, a20, n20, c20, bz⟩ := x
    obtain ⟨hB, r3, r7, r11, r14, r17, r20, hz⟩ := hpre
    simp only [List.getElem_toArray, List.getElem_cons_succ, List.getElem_cons_zero, Act.put, List.setIfInBounds_toArray, List.set_cons_zero, List.set_cons_succ]
    refine wpAnyH_norm (l2 := #[true, false, true, true, true, true, true, true, true, true, true, true, true, true, true, true, true, true, true, true, true, true, true, false, false, false, false]) (f2 := 5) (by kernel_rfl) (by kernel_rfl) ?_
    refine wpAnyH_ready (rs := [1, 23]) (by kernel_rfl) (by simp) ?_
    refine AllReadyH.cons rfl (fun K hK => ?_) (AllReadyH.cons rfl (fun K hK => ?_) AllReadyH.nil)
    · obtain ⟨U, hcv, hh, hcell, hbut⟩ := conv_mark hz.1
      refine wp_conv (.tmp 5) 30 30 rfl _ rfl _ _ hcv ?_
      have hB2 := But.below hB hbut (fun k hk => by rw [hk]; exact hz.2)
      refine hK.out _ _ (HS.out _ hB2) (fun hHeld => ?_)
      clear hK K
      simp only [List.getElem_toArray, List.getElem_cons_succ, List.getElem_cons_zero, Act.put, List.setIfInBounds_toArray, List.set_cons_zero, List.set_cons_succ]
      refine wpAnyH_norm (l2 := #[true, true, true, true, true, true, true, true, true, true, true, true, true, true, true, true, true, true, true, true, true, true, true, false, false, false, false]) (f2 := 4) (by kernel_rfl) (by kernel_rfl) ?_
      have hk := KEY62.out (a3, n3, c3, a7, c7, a11, c11, a14, c14, a17, n17, c17, a20, n20, c20, bz) U ⟨hB2, Row.same r3 hcell, Row.same r7 hcell, Row.same r11 hcell, Row.same r14 hcell, Row.same r17 hcell, Row.same r20 hcell, mk_row hh⟩
      simp only [List.getElem_toArray, List.getElem_cons_succ, List.getElem_cons_zero, Act.put, List.setIfInBounds_toArray, List.set_cons_zero, List.set_cons_succ] at hk
      exact hk
    · go_simp
      go_wp2_with (first | (go_at_call 45; refine (HC23.out _ hB).mono ?_; rintro e U ⟨a23, n23, c23, rfl, ho, hb⟩))
      have hB2 := below_call hB hb
      refine hK.out _ _ (HS.out _ hB2) (fun hHeld => ?_)
      clear hK K
      simp only [List.getElem_toArray, List.getElem_cons_succ, List.getElem_cons_zero, Act.put, List.setIfInBounds_toArray, List.set_cons_zero, List.set_cons_succ]
      refine wpAnyH_norm (l2 := #[true, false, true, true, true, true, true, true, true, true, true, true, true, true, true, true, true, true, true, true, true, true, true, true, false, false, false]) (f2 := 4) (by kernel_rfl) (by kernel_rfl) ?_
      have hk := KEY71.out (a3, n3, c3, a7, c7, a11, c11, a14, c14, a17, n17, c17, a20, n20, c20, a23, n23, c23, bz) U ⟨hB2, Row.later hb r3, Row.later hb r7, Row.later hb r11, Row.later hb r14, Row.later hb r17, Row.later hb r20, ho.read, ⟨by rw [hb.block _ (Array.getElem?_eq_some_iff.1 hz.1).1]; exact hz.1, hz.2⟩⟩
      simp only [List.getElem_toArray, List.getElem_cons_succ, List.getElem_cons_zero, Act.put, List.setIfInBounds_toArray, List.set_cons_zero, List.set_cons_succ] at hk
      exact hk
  refine share (Option Addr × Nat × Nat × Option Addr × Nat × Option Addr × Nat × Option Addr × Nat × Option Addr × Nat × Nat × Option Addr × Nat × Nat × Option Addr × Nat × Nat) 5 #[false, false, true, true, true, true, true, true, true, true, true, true, true, true, true, true, true, true, true, true, true, true, true, true, false, false, false] (fun a0 x => (((((((a0).put (some 8) (.slice x.1 x.2.1 x.2.2.1)).put (some 12) (.slice x.2.2.2.1 8 x.2.2.2.2.1)).put (some 16) (.slice x.2.2.2.2.2.1 4 x.2.2.2.2.2.2.1)).put (some 19) (.slice x.2.2.2.2.2.2.2.1 2 x.2.2.2.2.2.2.2.2.1)).put (some 22) (.slice x.2.2.2.2.2.2.2.2.2.1 x.2.2.2.2.2.2.2.2.2.2.1 x.2.2.2.2.2.2.2.2.2.2.2.1)).put (some 25) (.slice x.2.2.2.2.2.2.2.2.2.2.2.2.1 x.2.2.2.2.2.2.2.2.2.2.2.2.2.1 x.2.2.2.2.2.2.2.2.2.2.2.2.2.2.1)).put (some 28) (.slice x.2.2.2.2.2.2.2.2.2.2.2.2.2.2.2.1 x.2.2.2.2.2.2.2.2.2.2.2.2.2.2.2.2.1 x.2.2.2.2.2.2.2.2.2.2.2.2.2.2.2.2.2)) (fun x u => Below W.heap.size W u ∧ Row u x.1 x.2.1 x.2.2.1 lc ∧ Row u x.2.2.2.1 8 x.2.2.2.2.1 lx ∧ Row u x.2.2.2.2.2.1 4 x.2.2.2.2.2.2.1 lp ∧ Row u x.2.2.2.2.2.2.2.1 2 x.2.2.2.2.2.2.2.2.1 lt ∧ Row u x.2.2.2.2.2.2.2.2.2.1 x.2.2.2.2.2.2.2.2.2.2.1 x.2.2.2.2.2.2.2.2.2.2.2.1 lo ∧ Row u x.2.2.2.2.2.2.2.2.2.2.2.2.1 x.2.2.2.2.2.2.2.2.2.2.2.2.2.1 x.2.2.2.2.2.2.2.2.2.2.2.2.2.2.1 lk ∧ Row u x.2.2.2.2.2.2.2.2.2.2.2.2.2.2.2.1 x.2.2.2.2.2.2.2.2.2.2.2.2.2.2.2.2.1 x.2.2.2.2.2.2.2.2.2.2.2.2.2.2.2.2.2 ls) ?_ (fun KEY70 => ?_)
  · intro x u hpre
    obtain ⟨a3, n3, c3, a7, c7, a11, c11, a14, c14, a17, n17, c17, a20, n20, c20, a23, n23, c23⟩ := x
    obtain ⟨hB, r3, r7, r11, r14, r17, r20, r23⟩ := hpre
    simp only [List.getElem_toArray, List.getElem_cons_succ, List.getElem_cons_zero, Act.put, List.setIfInBounds_toArray, List.set_cons_zero, List.set_cons_succ]
    refine wpAnyH_norm (l2 := #[false, false, true, true, true, true, true, true, true, true, true, true, true, true, true, true, true, true, true, true, true, true, true, true, false, false, false]) (f2 := 5) (by kernel_rfl) (by kernel_rfl) ?_
    refine wpAnyH_ready (rs := [0]) (by kernel_rfl) (by simp) ?_
    refine AllReadyH.cons rfl (fun K hK => ?_) AllReadyH.nil
    go_simp
    obtain ⟨U, hU⟩ : ∃ U, U = u.alloc (Obj.cells mkA 5) := ⟨_, rfl⟩
    have hb : Below (u).heap.size u U := by rw [hU]; exact below1 _ _
    have hz : U.heap[(u).heap.size]? = some (.cells mkA 5 (0, 0)) := by rw [hU]; exact heap_alloc_new _ _
    have hB2 := below_call hB hb
    have hB3 := hB2
    rw [hU] at hB3
    refine hK.out _ _ (HS.out _ hB3) (fun hHeld => ?_)
    clear hK K
    simp only [List.getElem_toArray, List.getElem_cons_succ, List.getElem_cons_zero, Act.put, List.setIfInBounds_toArray, List.set_cons_zero, List.set_cons_succ]
    obtain ⟨bz, hbz⟩ : ∃ bz, bz = (u).heap.size := ⟨_, rfl⟩
    rw [← hbz] at hz
    have hbs : W.heap.size ≤ bz := by rw [hbz]; exact hB.size
    refine wpAnyH_norm (l2 := #[true, false, true, true, true, true, true, true, true, true, true, true, true, true, true, true, true, true, true, true, true, true, true, true, false, false, false]) (f2 := 4) (by kernel_rfl) (by kernel_rfl) ?_
    have hk := KEY71.out (a3, n3, c3, a7, c7, a11, c11, a14, c14, a17, n17, c17, a20, n20, c20, a23, n23, c23, bz) U ⟨hB2, Row.later hb r3, Row.later hb r7, Row.later hb r11, Row.later hb r14, Row.later hb r17, Row.later hb r20, Row.later hb r23, ⟨hz, hbs⟩⟩
    simp only [List.getElem_toArray, List.getElem_cons_succ, List.getElem_cons_zero, Act.put, List.setIfInBounds_toArray, List.set_cons_zero, List.set_cons_succ] at hk
    rw [hU, hbz] at hk
    exact hk
  refine share (Option Addr × Nat × Nat × Option Addr × Nat × Option Addr × Nat × Option Addr × Nat × Nat) 6 #[true, true, true, true, true, true, true, true, true, true, true, true, true, true, true, true, true, false, true, true, false, true, true, false, false, false, false] (fun a0 x => ((((((a0).put (some 8) (.slice x.1 x.2.1 x.2.2.1)).put (some 12) (.slice x.2.2.2.1 8 x.2.2.2.2.1)).put (some 16) (.slice x.2.2.2.2.2.1 4 x.2.2.2.2.2.2.1)).put (some 19) (.slice x.2.2.2.2.2.2.2.1 2 x.2.2.2.2.2.2.2.2.1)).put (some 5) (.slice (some ⟨x.2.2.2.2.2.2.2.2.2, 0, none⟩) 8 8)).put (some 6) (.slice (some ⟨x.2.2.2.2.2.2.2.2.2, 0, none⟩) 8 8)) (fun x u => Below W.heap.size W u ∧ Row u x.1 x.2.1 x.2.2.1 lc ∧ Row u x.2.2.2.1 8 x.2.2.2.2.1 lx ∧ Row u x.2.2.2.2.2.1 4 x.2.2.2.2.2.2.1 lp ∧ Row u x.2.2.2.2.2.2.2.1 2 x.2.2.2.2.2.2.2.2.1 lt ∧ Row u (some ⟨x.2.2.2.2.2.2.2.2.2, 0, none⟩) 8 8 mkB) ?_ (fun KEY42 => ?_)
  · intro x u hpre
    obtain ⟨a3, n3, c3, a7, c7, a11, c11, a14, c14, bz⟩ := x
    obtain ⟨hB, r3, r7, r11, r14, hz⟩ := hpre
    simp only [List.getElem_toArray, List.getElem_cons_succ, List.getElem_cons_zero, Act.put, List.setIfInBounds_toArray, List.set_cons_zero, List.set_cons_succ]
    refine wpAnyH_norm (l2 := #[true, true, true, true, true, true, true, true, true, true, true, true, true, true, true, true, true, false, true, true, false, true, true, false, false, false, false]) (f2 := 6) (by kernel_rfl) (by kernel_rfl) ?_
    refine wpAnyH_ready (rs := [17]) (by kernel_rfl) (by simp) ?_
    refine AllReadyH.cons rfl (fun K hK => ?_) AllReadyH.nil
    go_simp
    go_wp2_with (first | (go_at_call 43; refine (HC17.out _ hB).mono ?_; rintro e U ⟨a17, n17, c17, rfl, ho, hb⟩))
    have hB2 := below_call hB hb
    refine hK.out _ _ (HS.out _ hB2) (fun hHeld => ?_)
    clear hK K
    simp only [List.getElem_toArray, List.getElem_cons_succ, List.getElem_cons_zero, Act.put, List.setIfInBounds_toArray, List.set_cons_zero, List.set_cons_succ]
    refine wpAnyH_norm (l2 := #[true, true, true, true, true, true, true, true, true, true, true, true, true, true, true, true, true, true, true, true, false, true, true, false, false, false, false]) (f2 := 5) (by kernel_rfl) (by kernel_rfl) ?_
    have hk := KEY52.out (a3, n3, c3, a7, c7, a11, c11, a14, c14, a17, n17, c17, bz) U ⟨hB2, Row.later hb r3, Row.later hb r7, Row.later hb r11, Row.later hb r14, ho.read, Row.later hb hz⟩
    simp only [List.getElem_toArray, List.getElem_cons_succ, List.getElem_cons_zero, Act.put, List.setIfInBounds_toArray, List.set_cons_zero, List.set_cons_succ] at hk
    exact hk
  refine share (Option Addr × Nat × Nat × Option Addr × Nat × Option Addr × Nat × Option Addr × Nat × Option Addr × Nat × Nat × Nat) 6 #[true, false, true, true, true, true, true, true, true, true, true, true, true, true, true, true, true, true, true, true, false, true, true, false, false, false, false] (fun a0 x => ((((((a0).put (some 8) (.slice x.1 x.2.1 x.2.2.1)).put (some 12) (.slice x.2.2.2.1 8 x.2.2.2.2.1)).put (some 16) (.slice x.2.2.2.2.2.1 4 x.2.2.2.2.2.2.1)).put (some 19) (.slice x.2.2.2.2.2.2.2.1 2 x.2.2.2.2.2.2.2.2.1)).put (some 22) (.slice x.2.2.2.2.2.2.2.2.2.1 x.2.2.2.2.2.2.2.2.2.2.1 x.2.2.2.2.2.2.2.2.2.2.2.1)).put (some 5) (.slice (some ⟨x.2.2.2.2.2.2.2.2.2.2.2.2, 0, none⟩) 8 8)) (fun x u => Below W.heap.size W u ∧ Row u x.1 x.2.1 x.2.2.1 lc ∧ Row u x.2.2.2.1 8 x.2.2.2.2.1 lx ∧ Row u x.2.2.2.2.2.1 4 x.2.2.2.2.2.2.1 lp ∧ Row u x.2.2.2.2.2.2.2.1 2 x.2.2.2.2.2.2.2.2.1 lt ∧ Row u x.2.2.2.2.2.2.2.2.2.1 x.2.2.2.2.2.2.2.2.2.2.1 x.2.2.2.2.2.2.2.2.2.2.2.1 lo ∧ (u.heap[x.2.2.2.2.2.2.2.2.2.2.2.2]? = some (.cells mkA 5 (0, 0)) ∧ W.heap.size ≤ x.2.2.2.2.2.2.2.2.2.2.2.2)) ?_ (fun KEY51 => ?_)
  · intro x u hpre
    obtain ⟨a3, n3, c3, a7, c7, a11, c11, a14, c14, a17, n17, c17, bz⟩ := x
    obtain ⟨hB, r3, r7, r11, r14, r17, hz⟩ := hpre
    simp only [List.getElem_toArray, List.getElem_cons_succ, List.getElem_cons_zero, Act.put, List.setIfInBounds_toArray, List.set_cons_zero, List.set_cons_succ]
    refine wpAnyH_norm (l2 := #[true, false, true, true, true, true, true, true, true, true, true, true, true, true, true, true, true, true, true, true, false, true, true, false, false, false, false]) (f2 := 6) (by kernel_rfl) (by kernel_rfl) ?_
    refine wpAnyH_ready (rs := [1, 20]) (by kernel_rfl) (by simp) ?_
    refine AllReadyH.cons rfl (fun K hK => ?_) (AllReadyH.cons rfl (fun K hK => ?_) AllReadyH.nil)
    · obtain ⟨U, hcv, hh, hcell, hbut⟩ := conv_mark hz.1
      refine wp_conv (.tmp 5) 30 30 rfl _ rfl _ _ hcv ?_
      have hB2 := But.below hB hbut (fun k hk => by rw [hk]; exact hz.2)
      refine hK.out _ _ (HS.out _ hB2) (fun hHeld => ?_)
      clear hK K
      simp only [List.getElem_toArray, List.getElem_cons_succ, List.getElem_cons_zero, Act.put, List.setIfInBounds_toArray, List.set_cons_zero, List.set_cons_succ]
      refine wpAnyH_norm (l2 := #[true, true, true, true, true, true, true, true, true, true, true, true, true, true, true, true, true, true, true, true, false, true, true, false, false, false, false]) (f2 := 5) (by kernel_rfl) (by kernel_rfl) ?_
      have hk := KEY52.out (a3, n3, c3, a7, c7, a11, c11, a14, c14, a17, n17, c17, bz) U ⟨hB2, Row.same r3 hcell, Row.same r7 hcell, Row.same r11 hcell, Row.same r14 hcell, Row.same r17 hcell, mk_row hh⟩
      simp only [List.getElem_toArray, List.getElem_cons_succ, List.getElem_cons_zero, Act.put, List.setIfInBounds_toArray, List.set_cons_zero, List.set_cons_succ] at hk
      exact hk
    · go_simp
      go_wp2_with (first | (go_at_call 44; refine (HC20.out _ hB).mono ?_; rintro e U ⟨a20, n20, c20, rfl, ho, hb⟩))
      have hB2 := below_call hB hb
      refine hK.out _ _ (HS.out _ hB2) (fun hHeld => ?_)
      clear hK K
      simp only [List.getElem_toArray, List.getElem_cons_succ, List.getElem_cons_zero, Act.put, List.setIfInBounds_toArray, List.set_cons_zero, List.set_cons_succ]
      refine wpAnyH_norm (l2 := #[true, false, true, true, true, true, true, true, true, true, true, true, true, true, true, true, true, true, true, true, true, true, true, false, false, false, false]) (f2 := 5) (by kernel_rfl) (by kernel_rfl) ?_
      have hk := KEY61.out (a3, n3, c3, a7, c7, a11, c11, a14, c14, a17, n17, c17, a20, n20, c20, bz) U ⟨hB2, Row.later hb r3, Row.later hb r7, Row.later hb r11, Row.later hb r14, Row.later hb r17, ho.read, ⟨by rw [hb.block _ (Array.getElem?_eq_some_iff.1 hz.1).1]; exact hz.1, hz.2⟩⟩
      simp only [List.getElem_toArray, List.getElem_cons_succ, List.getElem_cons_zero, Act.put, List.setIfInBounds_toArray, List.set_cons_zero, List.set_cons_succ] at hk
      exact hk
  refine share (Option Addr × Nat × Nat × Option Addr × Nat × Option Addr × Nat × Option Addr × Nat × Option Addr × Nat × Nat × Option Addr × Nat × Nat) 6 #[false, false, true, true, true, true, true, true, true, true, true, true, true, true, true, true, true, true, true, true, true, true, true, false, false, false, false] (fun a0 x => ((((((a0).put (some 8) (.slice x.1 x.2.1 x.2.2.1)).put (some 12) (.slice x.2.2.2.1 8 x.2.2.2.2.1)).put (some 16) (.slice x.2.2.2.2.2.1 4 x.2.2.2.2.2.2.1)).put (some 19) (.slice x.2.2.2.2.2.2.2.1 2 x.2.2.2.2.2.2.2.2.1)).put (some 22) (.slice x.2.2.2.2.2.2.2.2.2.1 x.2.2.2.2.2.2.2.2.2.2.1 x.2.2.2.2.2.2.2.2.2.2.2.1)).put (some 25) (.slice x.2.2.2.2.2.2.2.2.2.2.2.2.1 x.2.2.2.2.2.2.2.2.2.2.2.2.2.1 x.2.2.2.2.2.2.2.2.2.2.2.2.2.2)) (fun x u => Below W.heap.size W u ∧ Row u x.1 x.2.1 x.2.2.1 lc ∧ Row u x.2.2.2.1 8 x.2.2.2.2.1 lx ∧ Row u x.2.2.2.2.2.1 4 x.2.2.2.2.2.2.1 lp ∧ Row u x.2.2.2.2.2.2.2.1 2 x.2.2.2.2.2.2.2.2.1 lt ∧ Row u x.2.2.2.2.2.2.2.2.2.1 x.2.2.2.2.2.2.2.2.2.2.1 x.2.2.2.2.2.2.2.2.2.2.2.1 lo ∧ Row u x.2.2.2.2.2.2.2.2.2.2.2.2.1 x.2.2.2.2.2.2.2.2.2.2.2.2.2.1 x.2.2.2.2.2.2.2.2.2.2.2.2.2.2 lk) ?_ (fun KEY60 => ?_)
  · intro x u hpre
    obtain ⟨a3, n3, c3, a7, c7, a11, c11, a14, c14, a17, n17, c17, a20, n20, c20⟩ := x
    obtain ⟨hB, r3, r7, r11, r14, r17, r20⟩ := hpre
    simp only [List.getElem_toArray, List.getElem_cons_succ, List.getElem_cons_zero, Act.put, List.setIfInBounds_toArray, List.set_cons_zero, List.set_cons_succ]
    refine wpAnyH_norm (l2 := #[false, false, true, true, true, true, true, true, true, true, true, true, true, true, true, true, true, true, true, true, true, true, true, false, false, false, false]) (f2 := 6) (by kernel_rfl) (by kernel_rfl) ?_
    refine wpAnyH_ready (rs := [0, 23]) (by kernel_rfl) (by simp) ?_
    refine AllReadyH.cons rfl (fun K hK => ?_) (AllReadyH.cons rfl (fun K hK => ?_) AllReadyH.nil)
    · go_simp
      obtain ⟨U, hU⟩ : ∃ U, U = u.alloc (Obj.cells mkA 5) := ⟨_, rfl⟩
      have hb : Below (u).heap.size u U := by rw [hU]; exact below1 _ _
      have hz : U.heap[(u).heap.size]? = some (.cells mkA 5 (0, 0)) := by rw [hU]; exact heap_alloc_new _ _
      have hB2 := below_call hB hb
      have hB3 := hB2
      rw [hU] at hB3
      refine hK.out _ _ (HS.out _ hB3) (fun hHeld => ?_)
      clear hK K
      simp only [List.getElem_toArray, List.getElem_cons_succ, List.getElem_cons_zero, Act.put, List.setIfInBounds_toArray, List.set_cons_zero, List.set_cons_succ]
      obtain ⟨bz, hbz⟩ : ∃ bz, bz = (u).heap.size := ⟨_, rfl⟩
      rw [← hbz] at hz
      have hbs : W.heap.size ≤ bz := by rw [hbz]; exact hB.size
      refine wpAnyH_norm (l2 := #[true, false, true, true, true, true, true, true, true, true, true, true, true, true, true, true, true, true, true, true, true, true, true, false, false, false, false]) (f2 := 5) (by kernel_rfl) (by kernel_rfl) ?_
      have hk := KEY61.out (a3, n3, c3, a7, c7, a11, c11, a14, c14, a17, n17, c17, a20, n20, c20, bz) U ⟨hB2, Row.later hb r3, Row.later hb r7, Row.later hb r11, Row.later hb r14, Row.later hb r17, Row.later hb r20, ⟨hz, hbs⟩⟩
      simp only [List.getElem_toArray, List.getElem_cons_succ, List.getElem_cons_zero, Act.put, List.setIfInBounds_toArray, List.set_cons_zero, List.set_cons_succ] at hk
      rw [hU, hbz] at hk
      exact hk
    · go_simp
      go_wp2_with (first | (go_at_call 45; refine (HC23.out _ hB).mono ?_; rintro e U ⟨a23, n23, c23, rfl, ho, hb⟩))
      have hB2 := below_call hB hb
      refine hK.out _ _ (HS.out _ hB2) (fun hHeld => ?_)
      clear hK K
      simp only [List.getElem_toArray, List.getElem_cons_succ, List.getElem_cons_zero, Act.put, List.setIfInBounds_toArray, List.set_cons_zero, List.set_cons_succ]
      refine wpAnyH_norm (l2 := #[false, false, true, true, true, true, true, true, true, true, true, true, true, true, true, true, true, true, true, true, true, true, true, true, false, false, false]) (f2 := 5) (by kernel_rfl) (by kernel_rfl) ?_
      have hk := KEY70.out (a3, n3, c3, a7, c7, a11, c11, a14, c14, a17, n17, c17, a20, n20, c20, a23, n23, c23) U ⟨hB2, Row.later hb r3, Row.later hb r7, Row.later hb r11, Row.later hb r14, Row.later hb r17, Row.later hb r20, ho.read⟩
      simp only [List.getElem_toArray, List.getElem_cons_succ, List.getElem_cons_zero, Act.put, List.setIfInBounds_toArray, List.set_cons_zero, List.set_cons_succ] at hk
      exact hk
  refine share (Option Addr × Nat × Nat × Option Addr × Nat × Option Addr × Nat × Nat) 7 #[true, true, true, true, true, true, true, true, true, true, true, true, true, true, false, true, true, false, true, true, false, true, true, false, false, false, false] (fun a0 x => (((((a0).put (some 8) (.slice x.1 x.2.1 x.2.2.1)).put (some 12) (.slice x.2.2.2.1 8 x.2.2.2.2.1)).put (some 16) (.slice x.2.2.2.2.2.1 4 x.2.2.2.2.2.2.1)).put (some 5) (.slice (some ⟨x.2.2.2.2.2.2.2, 0, none⟩) 8 8)).put (some 6) (.slice (some ⟨x.2.2.2.2.2.2.2, 0, none⟩) 8 8)) (fun x u => Below W.heap.size W u ∧ Row u x.1 x.2.1 x.2.2.1 lc ∧ Row u x.2.2.2.1 8 x.2.2.2.2.1 lx ∧ Row u x.2.2.2.2.2.1 4 x.2.2.2.2.2.2.1 lp ∧ Row u (some ⟨x.2.2.2.2.2.2.2, 0, none⟩) 8 8 mkB) ?_ (fun KEY32 => ?_)
  · intro x u hpre
    obtain ⟨a3, n3, c3, a7, c7, a11, c11, bz⟩ := x
    obtain ⟨hB, r3, r7, r11, hz⟩ := hpre
    simp only [List.getElem_toArray, List.getElem_cons_succ, List.getElem_cons_zero, Act.put, List.setIfInBounds_toArray, List.set_cons_zero, List.set_cons_succ]
    refine wpAnyH_norm (l2 := #[true, true, true, true, true, true, true, true, true, true, true, true, true, true, false, true, true, false, true, true, false, true, true, false, false, false, false]) (f2 := 7) (by kernel_rfl) (by kernel_rfl) ?_
    refine wpAnyH_ready (rs := [14]) (by kernel_rfl) (by simp) ?_
    refine AllReadyH.cons rfl (fun K hK => ?_) AllReadyH.nil
    go_simp
    go_wp2_with (first | (go_at_call 42; refine (HC14.out _ hB).mono ?_; rintro e U ⟨a14, c14, rfl, ho, hb⟩))
    have hB2 := below_call hB hb
    refine hK.out _ _ (HS.out _ hB2) (fun hHeld => ?_)
    clear hK K
    simp only [List.getElem_toArray, List.getElem_cons_succ, List.getElem_cons_zero, Act.put, List.setIfInBounds_toArray, List.set_cons_zero, List.set_cons_succ]
    refine wpAnyH_norm (l2 := #[true, true, true, true, true, true, true, true, true, true, true, true, true, true, true, true, true, false, true, true, false, true, true, false, false, false, false]) (f2 := 6) (by kernel_rfl) (by kernel_rfl) ?_
    have hk := KEY42.out (a3, n3, c3, a7, c7, a11, c11, a14, c14, bz) U ⟨hB2, Row.later hb r3, Row.later hb r7, Row.later hb r11, ho.read, Row.later hb hz⟩
    simp only [List.getElem_toArray, List.getElem_cons_succ, List.getElem_cons_zero, Act.put, List.setIfInBounds_toArray, List.set_cons_zero, List.set_cons_succ] at hk
    exact hk
  refine share (Option Addr × Nat × Nat × Option Addr × Nat × Option Addr × Nat × Option Addr × Nat × Nat) 7 #[true, false, true, true, true, true, true, true, true, true, true, true, true, true, true, true, true, false, true, true, false, true, true, false, false, false, false] (fun a0 x => (((((a0).put (some 8) (.slice x.1 x.2.1 x.2.2.1)).put (some 12) (.slice x.2.2.2.1 8 x.2.2.2.2.1)).put (some 16) (.slice x.2.2.2.2.2.1 4 x.2.2.2.2.2.2.1)).put (some 19) (.slice x.2.2.2.2.2.2.2.1 2 x.2.2.2.2.2.2.2.2.1)).put (some 5) (.slice (some ⟨x.2.2.2.2.2.2.2.2.2, 0, none⟩) 8 8)) (fun x u => Below W.heap.size W u ∧ Row u x.1 x.2.1 x.2.2.1 lc ∧ Row u x.2.2.2.1 8 x.2.2.2.2.1 lx ∧ Row u x.2.2.2.2.2.1 4 x.2.2.2.2.2.2.1 lp ∧ Row u x.2.2.2.2.2.2.2.1 2 x.2.2.2.2.2.2.2.2.1 lt ∧ (u.heap[x.2.2.2.2.2.2.2.2.2]? = some (.cells mkA 5 (0, 0)) ∧ W.heap.size ≤ x.2.2.2.2.2.2.2.2.2)) ?_ (fun KEY41 => ?_)
  · intro x u hpre
    obtain ⟨a3, n3, c3, a7, c7, a11, c11, a14, c14, bz⟩ := x
    obtain ⟨hB, r3, r7, r11, r14, hz⟩ := hpre
    simp only [List.getElem_toArray, List.getElem_cons_succ, List.getElem_cons_zero, Act.put, List.setIfInBounds_toArray, List.set_cons_zero, List.set_cons_succ]
    refine wpAnyH_norm (l2 := #[true, false, true, true, true, true, true, true, true, true, true, true, true, true, true, true, true, false, true, true, false, true, true, false, false, false, false]) (f2 := 7) (by kernel_rfl) (by kernel_rfl) ?_
    refine wpAnyH_ready (rs := [1, 17]) (by kernel_rfl) (by simp) ?_
    refine AllReadyH.cons rfl (fun K hK => ?_) (AllReadyH.cons rfl (fun K hK => ?_) AllReadyH.nil)
    · obtain ⟨U, hcv, hh, hcell, hbut⟩ := conv_mark hz.1
      refine wp_conv (.tmp 5) 30 30 rfl _ rfl _ _ hcv ?_
      have hB2 := But.below hB hbut (fun k hk => by rw [hk]; exact hz.2)
      refine hK.out _ _ (HS.out _ hB2) (fun hHeld => ?_)
      clear hK K
      simp only [List.getElem_toArray, List.getElem_cons_succ, List.getElem_cons_zero, Act.put, List.setIfInBounds_toArray, List.set_cons_zero, List.set_cons_succ]
      refine wpAnyH_norm (l2 := #[true, true, true, true, true, true, true, true, true, true, true, true, true, true, true, true, true, false, true, true, false, true, true, false, false, false, false]) (f2 := 6) (by kernel_rfl) (by kernel_rfl) ?_
      have hk := KEY42.out (a3, n3, c3, a7, c7, a11, c11, a14, c14, bz) U ⟨hB2, Row.same r3 hcell, Row.same r7 hcell, Row.same r11 hcell, Row.same r14 hcell, mk_row hh⟩
      simp only [List.getElem_toArray, List.getElem_cons_succ, List.getElem_cons_zero, Act.put, List.setIfInBounds_toArray, List.set_cons_zero, List.set_cons_succ] at hk
      exact hk
    · go_simp
      go_wp2_with (first | (go_at_call 43; refine (HC17.out _ hB).mono ?_; rintro e U ⟨a17, n17, c17, rfl, ho, hb⟩))
      have hB2 := below_call hB hb
      refine hK.out _ _ (HS.out _ hB2) (fun hHeld => ?_)
      clear hK K
      simp only [List.getElem_toArray, List.getElem_cons_succ, List.getElem_cons_zero, Act.put, List.setIfInBounds_toArray, List.set_cons_zero, List.set_cons_succ]
      refine wpAnyH_norm (l2 := #[true, false, true, true, true, true, true, true, true, true, true, true, true, true, true, true, true, true, true, true, false, true, true, false, false, false, false]) (f2 := 6) (by kernel_rfl) (by kernel_rfl) ?_
      have hk := KEY51.out (a3, n3, c3, a7, c7, a11, c11, a14, c14, a17, n17, c17, bz) U ⟨hB2, Row.later hb r3, Row.later hb r7, Row.later hb r11, Row.later hb r14, ho.read, ⟨by rw [hb.block _ (Array.getElem?_eq_some_iff.1 hz.1).1]; exact hz.1, hz.2⟩⟩
      simp only [List.getElem_toArray, List.getElem_cons_succ, List.getElem_cons_zero, Act.put, List.setIfInBounds_toArray, List.set_cons_zero, List.set_cons_succ] at hk
      exact hk
  refine share (Option Addr × Nat × Nat × Option Addr × Nat × Option Addr × Nat × Option Addr × Nat × Option Addr × Nat × Nat) 7 #[false, false, true, true, true, true, true, true, true, true, true, true, true, true, true, true, true, true, true, true, false, true, true, false, false, false, false] (fun a0 x => (((((a0).put (some 8) (.slice x.1 x.2.1 x.2.2.1)).put (some 12) (.slice x.2.2.2.1 8 x.2.2.2.2.1)).put (some 16) (.slice x.2.2.2.2.2.1 4 x.2.2.2.2.2.2.1)).put (some 19) (.slice x.2.2.2.2.2.2.2.1 2 x.2.2.2.2.2.2.2.2.1)).put (some 22) (.slice x.2.2.2.2.2.2.2.2.2.1 x.2.2.2.2.2.2.2.2.2.2.1 x.2.2.2.2.2.2.2.2.2.2.2)) (fun x u => Below W.heap.size W u ∧ Row u x.1 x.2.1 x.2.2.1 lc ∧ Row u x.2.2.2.1 8 x.2.2.2.2.1 lx ∧ Row u x.2.2.2.2.2.1 4 x.2.2.2.2.2.2.1 lp ∧ Row u x.2.2.2.2.2.2.2.1 2 x.2.2.2.2.2.2.2.2.1 lt ∧ Row u x.2.2.2.2.2.2.2.2.2.1 x.2.2.2.2.2.2.2.2.2.2.1 x.2.2.2.2.2.2.2.2.2.2.2 lo) ?_ (fun KEY50 => ?_)
  · intro x u hpre
    obtain ⟨a3, n3, c3, a7, c7, a11, c11, a14, c14, a17, n17, c17⟩ := x
    obtain ⟨hB, r3, r7, r11, r14, r17⟩ := hpre
    simp only [List.getElem_toArray, List.getElem_cons_succ, List.getElem_cons_zero, Act.put, List.setIfInBounds_toArray, List.set_cons_zero, List.set_cons_succ]
    refine wpAnyH_norm (l2 := #[false, false, true, true, true, true, true, true, true, true, true, true, true, true, true, true, true, true, true, true, false, true, true, false, false, false, false]) (f2 := 7) (by kernel_rfl) (by kernel_rfl) ?_
    refine wpAnyH_ready (rs := [0, 20]) (by kernel_rfl) (by simp) ?_
    refine AllReadyH.cons rfl (fun K hK => ?_) (AllReadyH.cons rfl (fun K hK => ?_) AllReadyH.nil)
    · go_simp
      obtain ⟨U, hU⟩ : ∃ U, U = u.alloc (Obj.cells mkA 5) := ⟨_, rfl⟩
      have hb : Below (u).heap.size u U := by rw [hU]; exact below1 _ _
      have hz : U.heap[(u).heap.size]? = some (.cells mkA 5 (0, 0)) := by rw [hU]; exact heap_alloc_new _ _
      have hB2 := below_call hB hb
      have hB3 := hB2
      rw [hU] at hB3
      refine hK.out _ _ (HS.out _ hB3) (fun hHeld => ?_)
      clear hK K
      simp only [List.getElem_toArray, List.getElem_cons_succ, List.getElem_cons_zero, Act.put, List.setIfInBounds_toArray, List.set_cons_zero, List.set_cons_succ]
      obtain ⟨bz, hbz⟩ : ∃ bz, bz = (u).heap.size := ⟨_, rfl⟩
      rw [← hbz] at hz
      have hbs : W.heap.size ≤ bz := by rw [hbz]; exact hB.size
      refine wpAnyH_norm (l2 := #[true, false, true, true, true, true, true, true, true, true, true, true, true, true, true, true, true, true, true, true, false, true, true, false, false, false, false]) (f2 := 6) (by kernel_rfl) (by kernel_rfl) ?_
      have hk := KEY51.out (a3, n3, c3, a7, c7, a11, c11, a14, c14, a17, n17, c17, bz) U ⟨hB2, Row.later hb r3, Row.later hb r7, Row.later hb r11, Row.later hb r14, Row.later hb r17, ⟨hz, hbs⟩⟩
      simp only [List.getElem_toArray, List.getElem_cons_succ, List.getElem_cons_zero, Act.put, List.setIfInBounds_toArray, List.set_cons_zero, List.set_cons_succ] at hk
      rw [hU, hbz] at hk
      exact hk
    · go_simp
      go_wp2_with (first | (go_at_call 44; refine (HC20.out _ hB).mono ?_; rintro e U ⟨a20, n20, c20, rfl, ho, hb⟩))
      have hB2 := below_call hB hb
      refine hK.out _ _ (HS.out _ hB2) (fun hHeld => ?_)
      clear hK K
      simp only [List.getElem_toArray, List.getElem_cons_succ, List.getElem_cons_zero, Act.put, List.setIfInBounds_toArray, List.set_cons_zero, List.set_cons_succ]
      refine wpAnyH_norm (l2 := #[false, false, true, true, true, true, true, true, true, true, true, true, true, true, true, true, true, true, true, true, true, true, true, false, false, false, false]) (f2 := 6) (by kernel_rfl) (by kernel_rfl) ?_
      have hk := KEY60.out (a3, n3, c3, a7, c7, a11, c11, a14, c14, a17, n17, c17, a20, n20, c20) U ⟨hB2, Row.later hb r3, Row.later hb r7, Row.later hb r11, Row.later hb r14, Row.later hb r17, ho.read⟩
      simp only [List.getElem_toArray, List.getElem_cons_succ, List.getElem_cons_zero, Act.put, List.setIfInBounds_toArray, List.set_cons_zero, List.set_cons_succ] at hk
      exact hk
  refine share (Option Addr × Nat × Nat × Option Addr × Nat × Nat) 8 #[true, true, true, true, true, true, true, true, true, true, true, false, true, true, false, true, true, false, true, true, false, true, true, false, false, false, false] (fun a0 x => ((((a0).put (some 8) (.slice x.1 x.2.1 x.2.2.1)).put (some 12) (.slice x.2.2.2.1 8 x.2.2.2.2.1)).put (some 5) (.slice (some ⟨x.2.2.2.2.2, 0, none⟩) 8 8)).put (some 6) (.slice (some ⟨x.2.2.2.2.2, 0, none⟩) 8 8)) (fun x u => Below W.heap.size W u ∧ Row u x.1 x.2.1 x.2.2.1 lc ∧ Row u x.2.2.2.1 8 x.2.2.2.2.1 lx ∧ Row u (some ⟨x.2.2.2.2.2, 0, none⟩) 8 8 mkB) ?_ (fun KEY22 => ?_)
  · intro x u hpre
    obtain ⟨a3, n3, c3, a7, c7, bz⟩ := x
    obtain ⟨hB, r3, r7, hz⟩ := hpre
    simp only [List.getElem_toArray, List.getElem_cons_succ, List.getElem_cons_zero, Act.put, List.setIfInBounds_toArray, List.set_cons_zero, List.set_cons_succ]
    refine wpAnyH_norm (l2 := #[true, true, true, true, true, true, true, true, true, true, true, false, true, true, false, true, true, false, true, true, false, true, true, false, false, false, false]) (f2 := 8) (by kernel_rfl) (by kernel_rfl) ?_
    refine wpAnyH_ready (rs := [11]) (by kernel_rfl) (by simp) ?_
    refine AllReadyH.cons rfl (fun K hK => ?_) AllReadyH.nil
    go_simp
    go_wp2_with (first | (go_at_call 41; refine (HC11.out _ hB).mono ?_; rintro e U ⟨a11, c11, rfl, ho, hb⟩))
    have hB2 := below_call hB hb
    refine hK.out _ _ (HS.out _ hB2) (fun hHeld => ?_)
    clear hK K
    simp only [List.getElem_toArray, List.getElem_cons_succ, List.getElem_cons_zero, Act.put, List.setIfInBounds_toArray, List.set_cons_zero, List.set_cons_succ]
    refine wpAnyH_norm (l2 := #[true, true, true, true, true, true, true, true, true, true, true, true, true, true, false, true, true, false, true, true, false, true, true, false, false, false, false]) (f2 := 7) (by kernel_rfl) (by kernel_rfl) ?_
    have hk := KEY32.out (a3, n3, c3, a7, c7, a11, c11, bz) U ⟨hB2, Row.later hb r3, Row.later hb r7, ho.read, Row.later hb hz⟩
    simp only [List.getElem_toArray, List.getElem_cons_succ, List.getElem_cons_zero, Act.put, List.setIfInBounds_toArray, List.set_cons_zero, List.set_cons_succ] at hk
    exact hk
  refine share (Option Addr × Nat × Nat × Option Addr × Nat × Option Addr × Nat × Nat) 8 #[true, false, true, true, true, true, true, true, true, true, true, true, true, true, false, true, true, false, true, true, false, true, true, false, false, false, false] (fun a0 x => ((((a0).put (some 8) (.slice x.1 x.2.1 x.2.2.1)).put (some 12) (.slice x.2.2.2.1 8 x.2.2.2.2.1)).put (some 16) (.slice x.2.2.2.2.2.1 4 x.2.2.2.2.2.2.1)).put (some 5) (.slice (some ⟨x.2.2.2.2.2.2.2, 0, none⟩) 8 8)) (fun x u => Below W.heap.size W u ∧ Row u x.1 x.2.1 x.2.2.1 lc ∧ Row u x.2.2.2.1 8 x.2.2.2.2.1 lx ∧ Row u x.2.2.2.2.2.1 4 x.2.2.2.2.2.2.1 lp ∧ (u.heap[x.2.2.2.2.2.2.2]? = some (.cells mkA 5 (0, 0)) ∧ W.heap.size ≤ x.2.2.2.2.2.2.2)) ?_ (fun KEY31 => ?_)
  · intro x u hpre
    obtain ⟨a3, n3, c3, a7, c7, a11, c11, bz⟩ := x
    obtain ⟨hB, r3, r7, r11, hz⟩ := hpre
    simp only [List.getElem_toArray, List.getElem_cons_succ, List.getElem_cons_zero, Act.put, List.setIfInBounds_toArray, List.set_cons_zero, List.set_cons_succ]
    refine wpAnyH_norm (l2 := #[true, false, true, true, true, true, true, true, true, true, true, true, true, true, false, true, true, false, true, true, false, true, true, false, false, false, false]) (f2 := 8) (by kernel_rfl) (by kernel_rfl) ?_
    refine wpAnyH_ready (rs := [1, 14]) (by kernel_rfl) (by simp) ?_
    refine AllReadyH.cons rfl (fun K hK => ?_) (AllReadyH.cons rfl (fun K hK => ?_) AllReadyH.nil)
    · obtain ⟨U, hcv, hh, hcell, hbut⟩ := conv_mark hz.1
      refine wp_conv (.tmp 5) 30 30 rfl _ rfl _ _ hcv ?_
      have hB2 := But.below hB hbut (fun k hk => by rw [hk]; exact hz.2)
      refine hK.out _ _ (HS.out _ hB2) (fun hHeld => ?_)
      clear hK K
      simp only [List.getElem_toArray, List.getElem_cons_succ, List.getElem_cons_zero, Act.put, List.setIfInBounds_toArray, List.set_cons_zero, List.set_cons_succ]
      refine wpAnyH_norm (l2 := #[true, true, true, true, true, true, true, true, true, true, true, true, true, true, false, true, true, false, true, true, false, true, true, false, false, false, false]) (f2 := 7) (by kernel_rfl) (by kernel_rfl) ?_
      have hk := KEY32.out (a3, n3, c3, a7, c7, a11, c11, bz) U ⟨hB2, Row.same r3 hcell, Row.same r7 hcell, Row.same r11 hcell, mk_row hh⟩
      simp only [List.getElem_toArray, List.getElem_cons_succ, List.getElem_cons_zero, Act.put, List.setIfInBounds_toArray, List.set_cons_zero, List.set_cons_succ] at hk
      exact hk
    · go_simp
      go_wp2_with (first | (go_at_call 42; refine (HC14.out _ hB).mono ?_; rintro e U ⟨a14, c14, rfl, ho, hb⟩))
      have hB2 := below_call hB hb
      refine hK.out _ _ (HS.out _ hB2) (fun hHeld => ?_)
      clear hK K
      simp only [List.getElem_toArray, List.getElem_cons_succ, List.getElem_cons_zero, Act.put, List.setIfInBounds_toArray, List.set_cons_zero, List.set_cons_succ]
      refine wpAnyH_norm (l2 := #[true, false, true, true, true, true, true, true, true, true, true, true, true, true, true, true, true, false, true, true, false, true, true, false, false, false, false]) (f2 := 7) (by kernel_rfl) (by kernel_rfl) ?_
      have hk := KEY41.out (a3, n3, c3, a7, c7, a11, c11, a14, c14, bz) U ⟨hB2, Row.later hb r3, Row.later hb r7, Row.later hb r11, ho.read, ⟨by rw [hb.block _ (Array.getElem?_eq_some_iff.1 hz.1).1]; exact hz.1, hz.2⟩⟩
      simp only [List.getElem_toArray, List.getElem_cons_succ, List.getElem_cons_zero, Act.put, List.setIfInBounds_toArray, List.set_cons_zero, List.set_cons_succ] at hk
      exact hk
  refine share (Option Addr × Nat × Nat × Option Addr × Nat × Option Addr × Nat × Option Addr × Nat) 8 #[false, false, true, true, true, true, true, true, true, true, true, true, true, true, true, true, true, false, true, true, false, true, true, false, false, false, false] (fun a0 x => ((((a0).put (some 8) (.slice x.1 x.2.1 x.2.2.1)).put (some 12) (.slice x.2.2.2.1 8 x.2.2.2.2.1)).put (some 16) (.slice x.2.2.2.2.2.1 4 x.2.2.2.2.2.2.1)).put (some 19) (.slice x.2.2.2.2.2.2.2.1 2 x.2.2.2.2.2.2.2.2)) (fun x u => Below W.heap.size W u ∧ Row u x.1 x.2.1 x.2.2.1 lc ∧ Row u x.2.2.2.1 8 x.2.2.2.2.1 lx ∧ Row u x.2.2.2.2.2.1 4 x.2.2.2.2.2.2.1 lp ∧ Row u x.2.2.2.2.2.2.2.1 2 x.2.2.2.2.2.2.2.2 lt) ?_ (fun KEY40 => ?_)
  · intro x u hpre
    obtain ⟨a3, n3, c3, a7, c7, a11, c11, a14, c14⟩ := x
    obtain ⟨hB, r3, r7, r11, r14⟩ := hpre
    simp only [List.getElem_toArray, List.getElem_cons_succ, List.getElem_cons_zero, Act.put, List.setIfInBounds_toArray, List.set_cons_zero, List.set_cons_succ]
    refine wpAnyH_norm (l2 := #[false, false, true, true, true, true, true, true, true, true, true, true, true, true, true, true, true, false, true, true, false, true, true, false, false, false, false]) (f2 := 8) (by kernel_rfl) (by kernel_rfl) ?_
    refine wpAnyH_ready (rs := [0, 17]) (by kernel_rfl) (by simp) ?_
    refine AllReadyH.cons rfl (fun K hK => ?_) (AllReadyH.cons rfl (fun K hK => ?_) AllReadyH.nil)
    · go_simp
      obtain ⟨U, hU⟩ : ∃ U, U = u.alloc (Obj.cells mkA 5) := ⟨_, rfl⟩
      have hb : Below (u).heap.size u U := by rw [hU]; exact below1 _ _
      have hz : U.heap[(u).heap.size]? = some (.cells mkA 5 (0, 0)) := by rw [hU]; exact heap_alloc_new _ _
      have hB2 := below_call hB hb
      have hB3 := hB2
      rw [hU] at hB3
      refine hK.out _ _ (HS.out _ hB3) (fun hHeld => ?_)
      clear hK K
      simp only [List.getElem_toArray, List.getElem_cons_succ, List.getElem_cons_zero, Act.put, List.setIfInBounds_toArray, List.set_cons_zero, List.set_cons_succ]
      obtain ⟨bz, hbz⟩ : ∃ bz, bz = (u).heap.size := ⟨_, rfl⟩
      rw [← hbz] at hz
      have hbs : W.heap.size ≤ bz := by rw [hbz]; exact hB.size
      refine wpAnyH_norm (l2 := #[true, false, true, true, true, true, true, true, true, true, true, true, true, true, true, true, true, false, true, true, false, true, true, false, false, false, false]) (f2 := 7) (by kernel_rfl) (by kernel_rfl) ?_
      have hk := KEY41.out (a3, n3, c3, a7, c7, a11, c11, a14, c14, bz) U ⟨hB2, Row.later hb r3, Row.later hb r7, Row.later hb r11, Row.later hb r14, ⟨hz, hbs⟩⟩
      simp only [List.getElem_toArray, List.getElem_cons_succ, List.getElem_cons_zero, Act.put, List.setIfInBounds_toArray, List.set_cons_zero, List.set_cons_succ] at hk
      rw [hU, hbz] at hk
      exact hk
    · go_simp
      go_wp2_with (first | (go_at_call 43; refine (HC17.out _ hB).mono ?_; rintro e U ⟨a17, n17, c17, rfl, ho, hb⟩))
      have hB2 := below_call hB hb
      refine hK.out _ _ (HS.out _ hB2) (fun hHeld => ?_)
      clear hK K
      simp only [List.getElem_toArray, List.getElem_cons_succ, List.getElem_cons_zero, Act.put, List.setIfInBounds_toArray, List.set_cons_zero, List.set_cons_succ]
      refine wpAnyH_norm (l2 := #[false, false, true, true, true, true, true, true, true, true, true, true, true, true, true, true, true, true, true, true, false, true, true, false, false, false, false]) (f2 := 7) (by kernel_rfl) (by kernel_rfl) ?_
      have hk := KEY50.out (a3, n3, c3, a7, c7, a11, c11, a14, c14, a17, n17, c17) U ⟨hB2, Row.later hb r3, Row.later hb r7, Row.later hb r11, Row.later hb r14, ho.read⟩
      simp only [List.getElem_toArray, List.getElem_cons_succ, List.getElem_cons_zero, Act.put, List.setIfInBounds_toArray, List.set_cons_zero, List.set_cons_succ] at hk
      exact hk
  refine share (Option Addr × Nat × Nat × Nat) 9 #[true, true, true, true, true, true, true, false, true, true, true, false, true, true, false, true, true, false, true, true, false, true, true, false, false, false, false] (fun a0 x => (((a0).put (some 8) (.slice x.1 x.2.1 x.2.2.1)).put (some 5) (.slice (some ⟨x.2.2.2, 0, none⟩) 8 8)).put (some 6) (.slice (some ⟨x.2.2.2, 0, none⟩) 8 8)) (fun x u => Below W.heap.size W u ∧ Row u x.1 x.2.1 x.2.2.1 lc ∧ Row u (some ⟨x.2.2.2, 0, none⟩) 8 8 mkB) ?_ (fun KEY12 => ?_)
  · intro x u hpre
    obtain ⟨a3, n3, c3, bz⟩ := x
    obtain ⟨hB, r3, hz⟩ := hpre
    simp only [List.getElem_toArray, List.getElem_cons_succ, List.getElem_cons_zero, Act.put, List.setIfInBounds_toArray, List.set_cons_zero, List.set_cons_succ]
    refine wpAnyH_norm (l2 := #[true, true, true, true, true, true, true, false, true, true, true, false, true, true, false, true, true, false, true, true, false, true, true, false, false, false, false]) (f2 := 9) (by kernel_rfl) (by kernel_rfl) ?_
    refine wpAnyH_ready (rs := [7]) (by kernel_rfl) (by simp) ?_
    refine AllReadyH.cons rfl (fun K hK => ?_) AllReadyH.nil
    go_simp
    go_wp2_with (first | (go_at_call 40; refine (HC7.out _ hB).mono ?_; rintro e U ⟨a7, c7, rfl, ho, hb⟩))
    have hB2 := below_call hB hb
    refine hK.out _ _ (HS.out _ hB2) (fun hHeld => ?_)
    clear hK K
    simp only [List.getElem_toArray, List.getElem_cons_succ, List.getElem_cons_zero, Act.put, List.setIfInBounds_toArray, List.set_cons_zero, List.set_cons_succ]
    refine wpAnyH_norm (l2 := #[true, true, true, true, true, true, true, true, true, true, true, false, true, true, false, true, true, false, true, true, false, true, true, false, false, false, false]) (f2 := 8) (by kernel_rfl) (by kernel_rfl) ?_
    have hk := KEY22.out (a3, n3, c3, a7, c7, bz) U ⟨hB2, Row.later hb r3, ho.read, Row.later hb hz⟩
    simp only [List.getElem_toArray, List.getElem_cons_succ, List.getElem_cons_zero, Act.put, List.setIfInBounds_toArray, List.set_cons_zero, List.set_cons_succ] at hk
    exact hk
  refine share (Option Addr × Nat × Nat × Option Addr × Nat × Nat) 9 #[true, false, true, true, true, true, true, true, true, true, true, false, true, true, false, true, true, false, true, true, false, true, true, false, false, false, false] (fun a0 x => (((a0).put (some 8) (.slice x.1 x.2.1 x.2.2.1)).put (some 12) (.slice x.2.2.2.1 8 x.2.2.2.2.1)).put (some 5) (.slice (some ⟨x.2.2.2.2.2, 0, none⟩) 8 8)) (fun x u => Below W.heap.size W u ∧ Row u x.1 x.2.1 x.2.2.1 lc ∧ Row u x.2.2.2.1 8 x.2.2.2.2.1 lx ∧ (u.heap[x.2.2.2.2.2]? = some (.cells mkA 5 (0, 0)) ∧ W.heap.size ≤ x.2.2.2.2.2)) ?_ (fun KEY21 => ?_)
  · intro x u hpre
    obtain ⟨a3, n3, c3, a7, c7, bz⟩ := x
    obtain ⟨hB, r3, r7, hz⟩ := hpre
    simp only [List.getElem_toArray, List.getElem_cons_succ, List.getElem_cons_zero, Act.put, List.setIfInBounds_toArray, List.set_cons_zero, List.set_cons_succ]
    refine wpAnyH_norm (l2 := #[true, false, true, true, true, true, true, true, true, true, true, false, true, true, false, true, true, false, true, true, false, true, true, false, false, false, false]) (f2 := 9) (by kernel_rfl) (by kernel_rfl) ?_
    refine wpAnyH_ready (rs := [1, 11]) (by kernel_rfl) (by simp) ?_
    refine AllReadyH.cons rfl (fun K hK => ?_) (AllReadyH.cons rfl (fun K hK => ?_) AllReadyH.nil)
    · obtain ⟨U, hcv, hh, hcell, hbut⟩ := conv_mark hz.1
      refine wp_conv (.tmp 5) 30 30 rfl _ rfl _ _ hcv ?_
      have hB2 := But.below hB hbut (fun k hk => by rw [hk]; exact hz.2)
      refine hK.out _ _ (HS.out _ hB2) (fun hHeld => ?_)
      clear hK K
      simp only [List.getElem_toArray, List.getElem_cons_succ, List.getElem_cons_zero, Act.put, List.setIfInBounds_toArray, List.set_cons_zero, List.set_cons_succ]
      refine wpAnyH_norm (l2 := #[true, true, true, true, true, true, true, true, true, true, true, false, true, true, false, true, true, false, true, true, false, true, true, false, false, false, false]) (f2 := 8) (by kernel_rfl) (by kernel_rfl) ?_
      have hk := KEY22.out (a3, n3, c3, a7, c7, bz) U ⟨hB2, Row.same r3 hcell, Row.same r7 hcell, mk_row hh⟩
      simp only [List.getElem_toArray, List.getElem_cons_succ, List.getElem_cons_zero, Act.put, List.setIfInBounds_toArray, List.set_cons_zero, List.set_cons_succ] at hk
      exact hk
    · go_simp
      go_wp2_with (first | (go_at_call 41; refine (HC11.out _ hB).mono ?_; rintro e U ⟨a11, c11, rfl, ho, hb⟩))
      have hB2 := below_call hB hb
      refine hK.out _ _ (HS.out _ hB2) (fun hHeld => ?_)
      clear hK K
      simp only [List.getElem_toArray, List.getElem_cons_succ, List.getElem_cons_zero, Act.put, List.setIfInBounds_toArray, List.set_cons_zero, List.set_cons_succ]
      refine wpAnyH_norm (l2 := #[true, false, true, true, true, true, true, true, true, true, true, true, true, true, false, true, true, false, true, true, false, true, true, false, false, false, false]) (f2 := 8) (by kernel_rfl) (by kernel_rfl) ?_
      have hk := KEY31.out (a3, n3, c3, a7, c7, a11, c11, bz) U ⟨hB2, Row.later hb r3, Row.later hb r7, ho.read, ⟨by rw [hb.block _ (Array.getElem?_eq_some_iff.1 hz.1).1]; exact hz.1, hz.2⟩⟩
      simp only [List.getElem_toArray, List.getElem_cons_succ, List.getElem_cons_zero, Act.put, List.setIfInBounds_toArray, List.set_cons_zero, List.set_cons_succ] at hk
      exact hk
  refine share (Option Addr × Nat × Nat × Option Addr × Nat × Option Addr × Nat) 9 #[false, false, true, true, true, true, true, true, true, true, true, true, true, true, false, true, true, false, true, true, false, true, true, false, false, false, false] (fun a0 x => (((a0).put (some 8) (.slice x.1 x.2.1 x.2.2.1)).put (some 12) (.slice x.2.2.2.1 8 x.2.2.2.2.1)).put (some 16) (.slice x.2.2.2.2.2.1 4 x.2.2.2.2.2.2)) (fun x u => Below W.heap.size W u ∧ Row u x.1 x.2.1 x.2.2.1 lc ∧ Row u x.2.2.2.1 8 x.2.2.2.2.1 lx ∧ Row u x.2.2.2.2.2.1 4 x.2.2.2.2.2.2 lp) ?_ (fun KEY30 => ?_)
  · intro x u hpre
    obtain ⟨a3, n3, c3, a7, c7, a11, c11⟩ := x
    obtain ⟨hB, r3, r7, r11⟩ := hpre
    simp only [List.getElem_toArray, List.getElem_cons_succ, List.getElem_cons_zero, Act.put, List.setIfInBounds_toArray, List.set_cons_zero, List.set_cons_succ]
    refine wpAnyH_norm (l2 := #[false, false, true, true, true, true, true, true, true, true, true, true, true, true, false, true, true, false, true, true, false, true, true, false, false, false, false]) (f2 := 9) (by kernel_rfl) (by kernel_rfl) ?_
    refine wpAnyH_ready (rs := [0, 14]) (by kernel_rfl) (by simp) ?_
    refine AllReadyH.cons rfl (fun K hK => ?_) (AllReadyH.cons rfl (fun K hK => ?_) AllReadyH.nil)
    · go_simp
      obtain ⟨U, hU⟩ : ∃ U, U = u.alloc (Obj.cells mkA 5) := ⟨_, rfl⟩
      have hb : Below (u).heap.size u U := by rw [hU]; exact below1 _ _
      have hz : U.heap[(u).heap.size]? = some (.cells mkA 5 (0, 0)) := by rw [hU]; exact heap_alloc_new _ _
      have hB2 := below_call hB hb
      have hB3 := hB2
      rw [hU] at hB3
      refine hK.out _ _ (HS.out _ hB3) (fun hHeld => ?_)
      clear hK K
      simp only [List.getElem_toArray, List.getElem_cons_succ, List.getElem_cons_zero, Act.put, List.setIfInBounds_toArray, List.set_cons_zero, List.set_cons_succ]
      obtain ⟨bz, hbz⟩ : ∃ bz, bz = (u).heap.size := ⟨_, rfl⟩
      rw [← hbz] at hz
      have hbs : W.heap.size ≤ bz := by rw [hbz]; exact hB.size
      refine wpAnyH_norm (l2 := #[true, false, true, true, true, true, true, true, true, true, true, true, true, true, false, true, true, false, true, true, false, true, true, false, false, false, false]) (f2 := 8) (by kernel_rfl) (by kernel_rfl) ?_
      have hk := KEY31.out (a3, n3, c3, a7, c7, a11, c11, bz) U ⟨hB2, Row.later hb r3, Row.later hb r7, Row.later hb r11, ⟨hz, hbs⟩⟩
      simp only [List.getElem_toArray, List.getElem_cons_succ, List.getElem_cons_zero, Act.put, List.setIfInBounds_toArray, List.set_cons_zero, List.set_cons_succ] at hk
      rw [hU, hbz] at hk
      exact hk
    · go_simp
      go_wp2_with (first | (go_at_call 42; refine (HC14.out _ hB).mono ?_; rintro e U ⟨a14, c14, rfl, ho, hb⟩))
      have hB2 := below_call hB hb
      refine hK.out _ _ (HS.out _ hB2) (fun hHeld => ?_)
      clear hK K
      simp only [List.getElem_toArray, List.getElem_cons_succ, List.getElem_cons_zero, Act.put, List.setIfInBounds_toArray, List.set_cons_zero, List.set_cons_succ]
      refine wpAnyH_norm (l2 := #[false, false, true, true, true, true, true, true, true, true, true, true, true, true, true, true, true, false, true, true, false, true, true, false, false, false, false]) (f2 := 8) (by kernel_rfl) (by kernel_rfl) ?_
      have hk := KEY40.out (a3, n3, c3, a7, c7, a11, c11, a14, c14) U ⟨hB2, Row.later hb r3, Row.later hb r7, Row.later hb r11, ho.read⟩
      simp only [List.getElem_toArray, List.getElem_cons_succ, List.getElem_cons_zero, Act.put, List.setIfInBounds_toArray, List.set_cons_zero, List.set_cons_succ] at hk
      exact hk
  refine share (Nat) 10 #[true, true, true, false, true, true, true, false, true, true, true, false, true, true, false, true, true, false, true, true, false, true, true, false, false, false, false] (fun a0 x => ((a0).put (some 5) (.slice (some ⟨x, 0, none⟩) 8 8)).put (some 6) (.slice (some ⟨x, 0, none⟩) 8 8)) (fun x u => Below W.heap.size W u ∧ Row u (some ⟨x, 0, none⟩) 8 8 mkB) ?_ (fun KEY02 => ?_)
  · intro bz u hpre
    obtain ⟨hB, hz⟩ := hpre
    simp only [List.getElem_toArray, List.getElem_cons_succ, List.getElem_cons_zero, Act.put, List.setIfInBounds_toArray, List.set_cons_zero, List.set_cons_succ]
    refine wpAnyH_norm (l2 := #[true, true, true, false, true, true, true, false, true, true, true, false, true, true, false, true, true, false, true, true, false, true, true, false, false, false, false]) (f2 := 10) (by kernel_rfl) (by kernel_rfl) ?_
    refine wpAnyH_ready (rs := [3]) (by kernel_rfl) (by simp) ?_
    refine AllReadyH.cons rfl (fun K hK => ?_) AllReadyH.nil
    go_simp
    go_wp2_with (first | (go_at_call 39; refine (HC3.out _ hB).mono ?_; rintro e U ⟨a3, n3, c3, rfl, ho, hb⟩))
    have hB2 := below_call hB hb
    refine hK.out _ _ (HS.out _ hB2) (fun hHeld => ?_)
    clear hK K
    simp only [List.getElem_toArray, List.getElem_cons_succ, List.getElem_cons_zero, Act.put, List.setIfInBounds_toArray, List.set_cons_zero, List.set_cons_succ]
    refine wpAnyH_norm (l2 := #[true, true, true, true, true, true, true, false, true, true, true, false, true, true, false, true, true, false, true, true, false, true, true, false, false, false, false]) (f2 := 9) (by kernel_rfl) (by kernel_rfl) ?_
    have hk := KEY12.out (a3, n3, c3, bz) U ⟨hB2, ho.read, Row.later hb hz⟩
    simp only [List.getElem_toArray, List.getElem_cons_succ, List.getElem_cons_zero, Act.put, List.setIfInBounds_toArray, List.set_cons_zero, List.set_cons_succ] at hk
    exact hk
  refine share (Option Addr × Nat × Nat × Nat) 10 #[true, false, true, true, true, true, true, false, true, true, true, false, true, true, false, true, true, false, true, true, false, true, true, false, false, false, false] (fun a0 x => ((a0).put (some 8) (.slice x.1 x.2.1 x.2.2.1)).put (some 5) (.slice (some ⟨x.2.2.2, 0, none⟩) 8 8)) (fun x u => Below W.heap.size W u ∧ Row u x.1 x.2.1 x.2.2.1 lc ∧ (u.heap[x.2.2.2]? = some (.cells mkA 5 (0, 0)) ∧ W.heap.size ≤ x.2.2.2)) ?_ (fun KEY11 => ?_)
  · intro x u hpre
    obtain ⟨a3, n3, c3, bz⟩ := x
    obtain ⟨hB, r3, hz⟩ := hpre
    simp only [List.getElem_toArray, List.getElem_cons_succ, List.getElem_cons_zero, Act.put, List.setIfInBounds_toArray, List.set_cons_zero, List.set_cons_succ]
    refine wpAnyH_norm (l2 := #[true, false, true, true, true, true, true, false, true, true, true, false, true, true, false, true, true, false, true, true, false, true, true, false, false, false, false]) (f2 := 10) (by kernel_rfl) (by kernel_rfl) ?_
    refine wpAnyH_ready (rs := [1, 7]) (by kernel_rfl) (by simp) ?_
    refine AllReadyH.cons rfl (fun K hK => ?_) (AllReadyH.cons rfl (fun K hK => ?_) AllReadyH.nil)
    · obtain ⟨U, hcv, hh, hcell, hbut⟩ := conv_mark hz.1
      refine wp_conv (.tmp 5) 30 30 rfl _ rfl _ _ hcv ?_
      have hB2 := But.below hB hbut (fun k hk => by rw [hk]; exact hz.2)
      refine hK.out _ _ (HS.out _ hB2) (fun hHeld => ?_)
      clear hK K
      simp only [List.getElem_toArray, List.getElem_cons_succ, List.getElem_cons_zero, Act.put, List.setIfInBounds_toArray, List.set_cons_zero, List.set_cons_succ]
      refine wpAnyH_norm (l2 := #[true, true, true, true, true, true, true, false, true, true, true, false, true, true, false, true, true, false, true, true, false, true, true, false, false, false, false]) (f2 := 9) (by kernel_rfl) (by kernel_rfl) ?_
      have hk := KEY12.out (a3, n3, c3, bz) U ⟨hB2, Row.same r3 hcell, mk_row hh⟩
      simp only [List.getElem_toArray, List.getElem_cons_succ, List.getElem_cons_zero, Act.put, List.setIfInBounds_toArray, List.set_cons_zero, List.set_cons_succ] at hk
      exact hk
    · go_simp
      go_wp2_with (first | (go_at_call 40; refine (HC7.out _ hB).mono ?_; rintro e U ⟨a7, c7, rfl, ho, hb⟩))
      have hB2 := below_call hB hb
      refine hK.out _ _ (HS.out _ hB2) (fun hHeld => ?_)
      clear hK K
      simp only [List.getElem_toArray, List.getElem_cons_succ, List.getElem_cons_zero, Act.put, List.setIfInBounds_toArray, List.set_cons_zero, List.set_cons_succ]
      refine wpAnyH_norm (l2 := #[true, false, true, true, true, true, true, true, true, true, true, false, true, true, false, true, true, false, true, true, false, true, true, false, false, false, false]) (f2 := 9) (by kernel_rfl) (by kernel_rfl) ?_
      have hk := KEY21.out (a3, n3, c3, a7, c7, bz) U ⟨hB2, Row.later hb r3, ho.read, ⟨by rw [hb.block _ (Array.getElem?_eq_some_iff.1 hz.1).1]; exact hz.1, hz.2⟩⟩
      simp only [List.getElem_toArray, List.getElem_cons_succ, List.getElem_cons_zero, Act.put, List.setIfInBounds_toArray, List.set_cons_zero, List.set_cons_succ] at hk
      exact hk
  refine share (Option Addr × Nat × Nat × Option Addr × Nat) 10 #[false, false, true, true, true, true, true, true, true, true, true, false, true, true, false, true, true, false, true, true, false, true, true, false, false, false, false] (fun a0 x => ((a0).put (some 8) (.slice x.1 x.2.1 x.2.2.1)).put (some 12) (.slice x.2.2.2.1 8 x.2.2.2.2)) (fun x u => Below W.heap.size W u ∧ Row u x.1 x.2.1 x.2.2.1 lc ∧ Row u x.2.2.2.1 8 x.2.2.2.2 lx) ?_ (fun KEY20 => ?_)
  · intro x u hpre
    obtain ⟨a3, n3, c3, a7, c7⟩ := x
    obtain ⟨hB, r3, r7⟩ := hpre
    simp only [List.getElem_toArray, List.getElem_cons_succ, List.getElem_cons_zero, Act.put, List.setIfInBounds_toArray, List.set_cons_zero, List.set_cons_succ]
    refine wpAnyH_norm (l2 := #[false, false, true, true, true, true, true, true, true, true, true, false, true, true, false, true, true, false, true, true, false, true, true, false, false, false, false]) (f2 := 10) (by kernel_rfl) (by kernel_rfl) ?_
    refine wpAnyH_ready (rs := [0, 11]) (by kernel_rfl) (by simp) ?_
    refine AllReadyH.cons rfl (fun K hK => ?_) (AllReadyH.cons rfl (fun K hK => ?_) AllReadyH.nil)
    · go_simp
      obtain ⟨U, hU⟩ : ∃ U, U = u.alloc (Obj.cells mkA 5) := ⟨_, rfl⟩
      have hb : Below (u).heap.size u U := by rw [hU]; exact below1 _ _
      have hz : U.heap[(u).heap.size]? = some (.cells mkA 5 (0, 0)) := by rw [hU]; exact heap_alloc_new _ _
      have hB2 := below_call hB hb
      have hB3 := hB2
      rw [hU] at hB3
      refine hK.out _ _ (HS.out _ hB3) (fun hHeld => ?_)
      clear hK K
      simp only [List.getElem_toArray, List.getElem_cons_succ, List.getElem_cons_zero, Act.put, List.setIfInBounds_toArray, List.set_cons_zero, List.set_cons_succ]
      obtain ⟨bz, hbz⟩ : ∃ bz, bz = (u).heap.size := ⟨_, rfl⟩
      rw [← hbz] at hz
      have hbs : W.heap.size ≤ bz := by rw [hbz]; exact hB.size
      refine wpAnyH_norm (l2 := #[true, false, true, true, true, true, true, true, true, true, true, false, true, true, false, true, true, false, true, true, false, true, true, false, false, false, false]) (f2 := 9) (by kernel_rfl) (by kernel_rfl) ?_
      have hk := KEY21.out (a3, n3, c3, a7, c7, bz) U ⟨hB2, Row.later hb r3, Row.later hb r7, ⟨hz, hbs⟩⟩
      simp only [List.getElem_toArray, List.getElem_cons_succ, List.getElem_cons_zero, Act.put, List.setIfInBounds_toArray, List.set_cons_zero, List.set_cons_succ] at hk
      rw [hU, hbz] at hk
      exact hk
    · go_simp
      go_wp2_with (first | (go_at_call 41; refine (HC11.out _ hB).mono ?_; rintro e U ⟨a11, c11, rfl, ho, hb⟩))
      have hB2 := below_call hB hb
      refine hK.out _ _ (HS.out _ hB2) (fun hHeld => ?_)
      clear hK K
      simp only [List.getElem_toArray, List.getElem_cons_succ, List.getElem_cons_zero, Act.put, List.setIfInBounds_toArray, List.set_cons_zero, List.set_cons_succ]
      refine wpAnyH_norm (l2 := #[false, false, true, true, true, true, true, true, true, true, true, true, true, true, false, true, true, false, true, true, false, true, true, false, false, false, false]) (f2 := 9) (by kernel_rfl) (by kernel_rfl) ?_
      have hk := KEY30.out (a3, n3, c3, a7, c7, a11, c11) U ⟨hB2, Row.later hb r3, Row.later hb r7, ho.read⟩
      simp only [List.getElem_toArray, List.getElem_cons_succ, List.getElem_cons_zero, Act.put, List.setIfInBounds_toArray, List.set_cons_zero, List.set_cons_succ] at hk
      exact hk
  refine share (Nat) 11 #[true, false, true, false, true, true, true, false, true, true, true, false, true, true, false, true, true, false, true, true, false, true, true, false, false, false, false] (fun a0 x => (a0).put (some 5) (.slice (some ⟨x, 0, none⟩) 8 8)) (fun x u => Below W.heap.size W u ∧ (u.heap[x]? = some (.cells mkA 5 (0, 0)) ∧ W.heap.size ≤ x)) ?_ (fun KEY01 => ?_)
  · intro bz u hpre
    obtain ⟨hB, hz⟩ := hpre
    simp only [List.getElem_toArray, List.getElem_cons_succ, List.getElem_cons_zero, Act.put, List.setIfInBounds_toArray, List.set_cons_zero, List.set_cons_succ]
    refine wpAnyH_norm (l2 := #[true, false, true, false, true, true, true, false, true, true, true, false, true, true, false, true, true, false, true, true, false, true, true, false, false, false, false]) (f2 := 11) (by kernel_rfl) (by kernel_rfl) ?_
    refine wpAnyH_ready (rs := [1, 3]) (by kernel_rfl) (by simp) ?_
    refine AllReadyH.cons rfl (fun K hK => ?_) (AllReadyH.cons rfl (fun K hK => ?_) AllReadyH.nil)
    · obtain ⟨U, hcv, hh, hcell, hbut⟩ := conv_mark hz.1
      refine wp_conv (.tmp 5) 30 30 rfl _ rfl _ _ hcv ?_
      have hB2 := But.below hB hbut (fun k hk => by rw [hk]; exact hz.2)
      refine hK.out _ _ (HS.out _ hB2) (fun hHeld => ?_)
      clear hK K
      simp only [List.getElem_toArray, List.getElem_cons_succ, List.getElem_cons_zero, Act.put, List.setIfInBounds_toArray, List.set_cons_zero, List.set_cons_succ]
      refine wpAnyH_norm (l2 := #[true, true, true, false, true, true, true, false, true, true, true, false, true, true, false, true, true, false, true, true, false, true, true, false, false, false, false]) (f2 := 10) (by kernel_rfl) (by kernel_rfl) ?_
      have hk := KEY02.out bz U ⟨hB2, mk_row hh⟩
      simp only [List.getElem_toArray, List.getElem_cons_succ, List.getElem_cons_zero, Act.put, List.setIfInBounds_toArray, List.set_cons_zero, List.set_cons_succ] at hk
      exact hk
    · go_simp
      go_wp2_with (first | (go_at_call 39; refine (HC3.out _ hB).mono ?_; rintro e U ⟨a3, n3, c3, rfl, ho, hb⟩))
      have hB2 := below_call hB hb
      refine hK.out _ _ (HS.out _ hB2) (fun hHeld => ?_)
      clear hK K
      simp only [List.getElem_toArray, List.getElem_cons_succ, List.getElem_cons_zero, Act.put, List.setIfInBounds_toArray, List.set_cons_zero, List.set_cons_succ]
      refine wpAnyH_norm (l2 := #[true, false, true, true, true, true, true, false, true, true, true, false, true, true, false, true, true, false, true, true, false, true, true, false, false, false, false]) (f2 := 10) (by kernel_rfl) (by kernel_rfl) ?_
      have hk := KEY11.out (a3, n3, c3, bz) U ⟨hB2, ho.read, ⟨by rw [hb.block _ (Array.getElem?_eq_some_iff.1 hz.1).1]; exact hz.1, hz.2⟩⟩
      simp only [List.getElem_toArray, List.getElem_cons_succ, List.getElem_cons_zero, Act.put, List.setIfInBounds_toArray, List.set_cons_zero, List.set_cons_succ] at hk
      exact hk
  refine share (Option Addr × Nat × Nat) 11 #[false, false, true, true, true, true, true, false, true, true, true, false, true, true, false, true, true, false, true, true, false, true, true, false, false, false, false] (fun a0 x => (a0).put (some 8) (.slice x.1 x.2.1 x.2.2)) (fun x u => Below W.heap.size W u ∧ Row u x.1 x.2.1 x.2.2 lc) ?_ (fun KEY10 => ?_)
  · intro x u hpre
    obtain ⟨a3, n3, c3⟩ := x
    obtain ⟨hB, r3⟩ := hpre
    simp only [List.getElem_toArray, List.getElem_cons_succ, List.getElem_cons_zero, Act.put, List.setIfInBounds_toArray, List.set_cons_zero, List.set_cons_succ]
    refine wpAnyH_norm (l2 := #[false, false, true, true, true, true, true, false, true, true, true, false, true, true, false, true, true, false, true, true, false, true, true, false, false, false, false]) (f2 := 11) (by kernel_rfl) (by kernel_rfl) ?_
    refine wpAnyH_ready (rs := [0, 7]) (by kernel_rfl) (by simp) ?_
    refine AllReadyH.cons rfl (fun K hK => ?_) (AllReadyH.cons rfl (fun K hK => ?_) AllReadyH.nil)
    · go_simp
      obtain ⟨U, hU⟩ : ∃ U, U = u.alloc (Obj.cells mkA 5) := ⟨_, rfl⟩
      have hb : Below (u).heap.size u U := by rw [hU]; exact below1 _ _
      have hz : U.heap[(u).heap.size]? = some (.cells mkA 5 (0, 0)) := by rw [hU]; exact heap_alloc_new _ _
      have hB2 := below_call hB hb
      have hB3 := hB2
      rw [hU] at hB3
      refine hK.out _ _ (HS.out _ hB3) (fun hHeld => ?_)
      clear hK K
      simp only [List.getElem_toArray, List.getElem_cons_succ, List.getElem_cons_zero, Act.put, List.setIfInBounds_toArray, List.set_cons_zero, List.set_cons_succ]
      obtain ⟨bz, hbz⟩ : ∃ bz, bz = (u).heap.size := ⟨_, rfl⟩
      rw [← hbz] at hz
      have hbs : W.heap.size ≤ bz := by rw [hbz]; exact hB.size
      refine wpAnyH_norm (l2 := #[true, false, true, true, true, true, true, false, true, true, true, false, true, true, false, true, true, false, true, true, false, true, true, false, false, false, false]) (f2 := 10) (by kernel_rfl) (by kernel_rfl) ?_
      have hk := KEY11.out (a3, n3, c3, bz) U ⟨hB2, Row.later hb r3, ⟨hz, hbs⟩⟩
      simp only [List.getElem_toArray, List.getElem_cons_succ, List.getElem_cons_zero, Act.put, List.setIfInBounds_toArray, List.set_cons_zero, List.set_cons_succ] at hk
      rw [hU, hbz] at hk
      exact hk
    · go_simp
      go_wp2_with (first | (go_at_call 40; refine (HC7.out _ hB).mono ?_; rintro e U ⟨a7, c7, rfl, ho, hb⟩))
      have hB2 := below_call hB hb
      refine hK.out _ _ (HS.out _ hB2) (fun hHeld => ?_)
      clear hK K
      simp only [List.getElem_toArray, List.getElem_cons_succ, List.getElem_cons_zero, Act.put, List.setIfInBounds_toArray, List.set_cons_zero, List.set_cons_succ]
      refine wpAnyH_norm (l2 := #[false, false, true, true, true, true, true, true, true, true, true, false, true, true, false, true, true, false, true, true, false, true, true, false, false, false, false]) (f2 := 10) (by kernel_rfl) (by kernel_rfl) ?_
      have hk := KEY20.out (a3, n3, c3, a7, c7) U ⟨hB2, Row.later hb r3, ho.read⟩
      simp only [List.getElem_toArray, List.getElem_cons_succ, List.getElem_cons_zero, Act.put, List.setIfInBounds_toArray, List.set_cons_zero, List.set_cons_succ] at hk
      exact hk
  have hB : Below W.heap.size W W.drew := (Below.refl _ _).drew
  refine wpAnyH_norm (l2 := #[false, false, true, false, true, true, true, false, true, true, true, false, true, true, false, true, true, false, true, true, false, true, true, false, false, false, false]) (f2 := 12) (by kernel_rfl) (by kernel_rfl) ?_
  refine wpAnyH_ready (rs := [0, 3]) (by kernel_rfl) (by simp) ?_
  refine AllReadyH.cons rfl (fun K hK => ?_) (AllReadyH.cons rfl (fun K hK => ?_) AllReadyH.nil)
  · go_simp
    obtain ⟨U, hU⟩ : ∃ U, U = W.drew.alloc (Obj.cells mkA 5) := ⟨_, rfl⟩
    have hb : Below (W.drew).heap.size W.drew U := by rw [hU]; exact below1 _ _
    have hz : U.heap[(W.drew).heap.size]? = some (.cells mkA 5 (0, 0)) := by rw [hU]; exact heap_alloc_new _ _
    have hB2 := below_call hB hb
    have hB3 := hB2
    rw [hU] at hB3
    refine hK.out _ _ (HS.out _ hB3) (fun hHeld => ?_)
    clear hK K
    simp only [List.getElem_toArray, List.getElem_cons_succ, List.getElem_cons_zero, Act.put, List.setIfInBounds_toArray, List.set_cons_zero, List.set_cons_succ]
    obtain ⟨bz, hbz⟩ : ∃ bz, bz = (W.drew).heap.size := ⟨_, rfl⟩
    rw [← hbz] at hz
    have hbs : W.heap.size ≤ bz := by rw [hbz]; exact hB.size
    refine wpAnyH_norm (l2 := #[true, false, true, false, true, true, true, false, true, true, true, false, true, true, false, true, true, false, true, true, false, true, true, false, false, false, false]) (f2 := 11) (by kernel_rfl) (by kernel_rfl) ?_
    have hk := KEY01.out bz U ⟨hB2, ⟨hz, hbs⟩⟩
    simp only [List.getElem_toArray, List.getElem_cons_succ, List.getElem_cons_zero, Act.put, List.setIfInBounds_toArray, List.set_cons_zero, List.set_cons_succ] at hk
    rw [hU, hbz] at hk
    exact hk
  · go_simp
    go_wp2_with (first | (go_at_call 39; refine (HC3.out _ hB).mono ?_; rintro e U ⟨a3, n3, c3, rfl, ho, hb⟩))
    have hB2 := below_call hB hb
    refine hK.out _ _ (HS.out _ hB2) (fun hHeld => ?_)
    clear hK K
    simp only [List.getElem_toArray, List.getElem_cons_succ, List.getElem_cons_zero, Act.put, List.setIfInBounds_toArray, List.set_cons_zero, List.set_cons_succ]
    refine wpAnyH_norm (l2 := #[false, false, true, true, true, true, true, false, true, true, true, false, true, true, false, true, true, false, true, true, false, true, true, false, false, false, false]) (f2 := 11) (by kernel_rfl) (by kernel_rfl) ?_
    have hk := KEY10.out (a3, n3, c3) U ⟨hB2, ho.read⟩
    simp only [List.getElem_toArray, List.getElem_cons_succ, List.getElem_cons_zero, Act.put, List.setIfInBounds_toArray, List.set_cons_zero, List.set_cons_succ] at hk
    exact hk
end Go.Proofs.Ythfmmfphnimlnaa
