import Derived.Test.YthfmmfphnimlnaaKO
namespace Go.Proofs.Ythfmmfphnimlnaa
open Go.RowKit
set_option linter.unusedVariables false
set_option linter.unusedSimpArgs false
/-! The document's tape. -/
theorem add_blk (x : Addr) (j : Nat) : (x.add j).block = x.block := by unfold Addr.add; split <;> rfl
theorem Row.butB {S : Nat → Prop} {w w' : World} {a : Option Addr} {n cap : Nat} {L : List Nat} (h : Row w a n cap L) (hb : But S w w') (hn : 0 < n → ∀ k, Blk a k → ¬ S k) : Row w' a n cap L :=
  ⟨h.len, h.cap_, h.none_, fun x hx j u hu => by
    have hk := h.cells x hx j u hu
    have hj := (List.getElem?_eq_some_iff.1 hu).1
    rw [u8s_length, h.len] at hj
    rw [World.cell?_of_block (w := w) (hb.block (x.add j).block (World.block_lt_of_cell? _ _ hk) (by rw [add_blk]; exact hn (by omega) _ ⟨x, hx, rfl⟩))]
    exact hk, h.small⟩
theorem Row.lt {w : World} {a : Option Addr} {n cap : Nat} {L : List Nat} (h : Row w a n cap L) (hn : 0 < n) : ∀ k, Blk a k → k < w.heap.size := fun k hk => by
  obtain ⟨b, o, rfl, hc⟩ := h.plain hn
  obtain ⟨x, hx, rfl⟩ := hk
  cases hx
  exact World.block_lt_of_cell? _ _ (hc 0 (by rw [h.len]; exact hn))
structure Tp (w : World) (g : Nat) (a : Option Addr) (n c : Nat) (L : List Nat) (q : Qs) : Prop where
  c0 : Lies w ⟨g, 0, none⟩ (.slice a n c)
  c1 : ∃ k : Nat, k ≤ n ∧ q.1 = L.drop k ∧ Lies w ⟨g, 1, none⟩ (.int .i64 (k : Int))
  c2 : Lies w ⟨g, 2, none⟩ (.bool q.2)
  row : Row w a n c L
  ap : 0 < n → ¬ Blk a g
  mx : n ≤ 140737488355328
theorem Tp.but {S : Nat → Prop} {w w' : World} {g : Nat} {a : Option Addr} {n c : Nat} {L : List Nat} {q : Qs} (h : Tp w g a n c L q) (hb : But S w w') (h1 : ¬ S g) (h2 : 0 < n → ∀ k, Blk a k → ¬ S k) : Tp w' g a n c L q := by
  obtain ⟨k, hk, hq, hl⟩ := h.c1
  exact ⟨h.c0.but hb h1, ⟨k, hk, hq, hl.but hb h1⟩, h.c2.but hb h1, h.row.butB hb h2, h.ap, h.mx⟩
theorem Tp.later {w w' : World} {g : Nat} {a : Option Addr} {n c : Nat} {L : List Nat} {q : Qs} (h : Tp w g a n c L q) (hb : Below w.heap.size w w') : Tp w' g a n c L q := h.but (S := fun _ => False) (But.of hb) (fun h => h) (fun _ _ _ h => h)
theorem Tp.lt {w : World} {g : Nat} {a : Option Addr} {n c : Nat} {L : List Nat} {q : Qs} (h : Tp w g a n c L q) : g < w.heap.size := World.block_lt_of_cell? _ _ h.c0.1
theorem Tp.small {w : World} {g : Nat} {a : Option Addr} {n c : Nat} {L : List Nat} {q : Qs} (h : Tp w g a n c L q) : ∀ x ∈ q.1, x < 256 := by
  obtain ⟨k, hk, hq, hl⟩ := h.c1
  rw [hq]
  exact fun x hx => h.row.small x (List.mem_of_mem_drop hx)
theorem Lies.keep {w : World} {p p' : Addr} {v u : Value} (h : Lies w p v) (hne : p' ≠ p) : Lies (w.setCell p' u) p v :=
  ⟨by rw [World.cell?_setCell_other _ _ _ _ hne]; exact h.1, by rw [World.frozen?_setCell]; exact h.2⟩
theorem but_set {w U : World} (hU : Below w.heap.size w U) (g o : Nat) (u : Value) : But (· = g) w (U.setCell ⟨g, o, none⟩ u) := (But.of (S := (· = g)) hU).setCell (p := ⟨g, o, none⟩) rfl u
theorem Tp.bad {w : World} {g : Nat} {a : Option Addr} {n c : Nat} {L : List Nat} {q : Qs} (h : Tp w g a n c L q) (b : Bool) : Tp (w.setCell ⟨g, 2, none⟩ (.bool b)) g a n c L (q.1, b) := by
  obtain ⟨k, hk, hq, hl⟩ := h.c1
  exact ⟨h.c0.keep (by simp), ⟨k, hk, hq, hl.keep (by simp)⟩, h.c2.put, h.row.butB (but_set (Below.refl _ _) g _ _) (fun h0 k hk e => h.ap h0 (e ▸ hk)), h.ap, h.mx⟩
theorem Tp.to {w : World} {g : Nat} {a : Option Addr} {n c : Nat} {L : List Nat} {q : Qs} (h : Tp w g a n c L q) {k : Nat} (hk : k ≤ n) : Tp (w.setCell ⟨g, 1, none⟩ (.int .i64 (k : Int))) g a n c L (L.drop k, q.2) := by
  obtain ⟨k', hk', hq, hl⟩ := h.c1
  exact ⟨h.c0.keep (by simp), ⟨k, hk, rfl, hl.put⟩, h.c2.keep (by simp), h.row.butB (but_set (Below.refl _ _) g _ _) (fun h0 k hk e => h.ap h0 (e ▸ hk)), h.ap, h.mx⟩
def dV (q : Qs) (m : Nat) : Int := if q.1.length < m then 0 else IntKind.i64.wrap (valL (q.1.take m) : Int)
def dS (q : Qs) (m : Nat) : Qs := if q.1.length < m then (q.1, true) else (q.1.drop m, q.2)
theorem val_drop (M : List Nat) (i : Nat) (h : i < M.length) : valL (M.drop i) = M[i] + 256 * valL (M.drop (i + 1)) := by
  rw [List.drop_eq_getElem_cons h]; rfl
theorem or_i64 (V b : Nat) (hV : V < 72057594037927936) (hb : b < 256) : bits .or .i64 (wrap64 (wrap64 (V : Int) * 256)) (wrap64 (b : Int)) = IntKind.i64.wrap ((b + 256 * V : Nat) : Int) := by
  show IntKind.i64.wrap ((BitVec.ofInt 64 (wrap64 (wrap64 (V : Int) * 256)) ||| BitVec.ofInt 64 (wrap64 (b : Int))).toNat : Int) = _
  have e1 : (BitVec.ofInt 64 (wrap64 (wrap64 (V : Int) * 256))).toNat = V * 256 ^ 1 := by
    rw [BitVec.toNat_ofInt]; unfold wrap64; simp; omega
  have e2 : (BitVec.ofInt 64 (wrap64 (b : Int))).toNat = b := by
    rw [BitVec.toNat_ofInt]; unfold wrap64; simp; omega
  rw [BitVec.toNat_or, e1, e2, Nat.or_comm, join8 (by omega)]
  congr 2
  omega
set_option maxRecDepth 100000 in
set_option maxHeartbeats 4000000 in
theorem dtake_any (m : Nat) (h1 : 1 ≤ m) (h8 : m ≤ 8) (g : Nat) (a : Option Addr) (n c : Nat) (L : List Nat) (q : Qs) (w : World) (h : Tp w g a n c L q) :
    Calls Try.prog 26 #[.pointer (some ⟨g, 0, none⟩), .int .i64 (m : Int)] w fun x w' => x = .returned (.int .i64 (dV q m)) ∧ Tp w' g a n c L (dS q m) ∧ But (· = g) w w' := by
  obtain ⟨k, hk, hq, hl⟩ := h.c1
  have hn := h.row.len
  have hm := h.mx
  have hql : q.1.length = n - k := by rw [hq, List.length_drop, hn]
  have z0 := h.c0.1
  have z1 := hl.1
  have z2 := h.c2.1
  have f1 := hl.2
  have f2 := h.c2.2
  have HH := hid h
  have ew : IntKind.i64.wrap ((n : Int) - (k : Int)) = (n : Int) - (k : Int) := by rw [IntKind.wrap_i64]; omega
  by_cases hs : n - k < m
  · have hd : decide ((n : Int) - (k : Int) < (m : Int)) = true := by simp; omega
    have e1 : dV q m = 0 := by unfold dV; rw [if_pos (by omega)]
    have e2 : dS q m = (q.1, true) := by unfold dS; rw [if_pos (by omega)]
    rw [e1, e2]
    have HQ : Hid (∀ U, Below w.heap.size w U → Tp (U.setCell ⟨g, 2, none⟩ (.bool true)) g a n c L (q.1, true)) := fun U hU => (HH.out.later hU).bad true
    clear h hl hq
    go_enter Try.func26, Try.ntmps26
    go_upto_region 1 with fail
    go_quiet (fail)
    go_wp2
    go_ret
    exact ⟨rfl, HQ.out _ (below_drewN (Below.refl _ _) _), but_set (below_drewN (Below.refl _ _) _) g _ _⟩
  · have hd : decide ((n : Int) - (k : Int) < (m : Int)) = false := by simp; omega
    have e1 : dV q m = IntKind.i64.wrap (valL (q.1.take m) : Int) := by unfold dV; rw [if_neg (by omega)]
    have e2 : dS q m = (L.drop (k + m), q.2) := by unfold dS; rw [if_neg (by omega), hq, List.drop_drop]
    rw [e1, e2]
    have HQ : Hid (∀ U, Below w.heap.size w U → Tp (U.setCell ⟨g, 1, none⟩ (.int .i64 ((k + m : Nat) : Int))) g a n c L (L.drop (k + m), q.2)) := fun U hU => (HH.out.later hU).to (by omega)
    obtain ⟨b, o, rfl, hc⟩ := h.row.plain (by omega)
    have HC := hid hc
    have HSm : Hid (∀ x ∈ q.1.take m, x < 256) := fun x hx => HH.out.small x (List.mem_of_mem_take hx)
    have HMl : Hid ((q.1.take m).length = m) := by unfold Hid; rw [List.length_take, hql]; omega
    have HMg : Hid (∀ i (hi : i < m), ∃ h2 : k + i < L.length, ∀ h3 : i < (q.1.take m).length, (q.1.take m)[i] = L[k + i]) := fun i hi => ⟨by omega, fun h3 => by simp [hq]⟩
    generalize q.1.take m = M at HSm HMl HMg ⊢
    have ew2 : IntKind.i64.wrap ((k : Int) + (m : Int)) = ((k + m : Nat) : Int) := by rw [IntKind.wrap_i64]; omega
    have ew3 : IntKind.i64.wrap ((m : Int) - 1) = (m : Int) - 1 := by rw [IntKind.wrap_i64]; omega
    clear h hl hq hc e1 e2
    go_enter Try.func26, Try.ntmps26
    go_upto_region 1 with fail
    go_quiet (fail)
    go_upto_region 6 with fail
    go_loopw [5, 6] (fun v i U => ∃ j : Nat, i = .int .i64 ((j : Int) - 1) ∧ j ≤ m ∧ v = .int .i64 (IntKind.i64.wrap (valL (M.drop j) : Int)) ∧ Below w.heap.size w U) (fun _ i _ => (intOf i + 1).toNat)
    case atStart => exact ⟨m, rfl, Nat.le_refl _, by rw [List.drop_eq_nil_of_le (by rw [HMl.out]; exact Nat.le_refl _)]; rfl, below_drewN (Below.refl _ _) _⟩
    case round =>
      obtain ⟨j, rfl, hj, rfl, hB⟩ := hrel
      have HB := hid hB
      have y0 := cell_later hB z0
      have y1 := cell_later hB z1
      have HF1 := hid (Lies.later hB ⟨z1, f1⟩).2
      clear hB z0 z1 z2 f1 f2
      cases j with
      | zero =>
        have f1 := HF1.out
        have hd2 : decide ((0 : Int) ≤ ((0 : Nat) : Int) - 1) = false := by simp
        go_wp2
        go_ret
        exact ⟨rfl, HQ.out _ HB.out, but_set HB.out g _ _⟩
      | succ i =>
        have ei : ((i + 1 : Nat) : Int) - 1 = (i : Int) := by omega
        rw [ei]
        have hd2 : decide ((0 : Int) ≤ (i : Int)) = true := by simp
        have ewi : IntKind.i64.wrap ((k : Int) + (i : Int)) = ((k + i : Nat) : Int) := by rw [IntKind.wrap_i64]; omega
        obtain ⟨hki, hMi⟩ := HMg.out i (by omega)
        have hx : ((k + i : Nat) : Int) < (n : Int) := by omega
        have hx0 : (0 : Int) ≤ ((k + i : Nat) : Int) := by omega
        have y5 := cell_later HB.out (HC.out (k + i) hki)
        have hMi := hMi (by rw [HMl.out]; omega)
        go_upto_region 8 with fail
        go_quiet (fail)
        go_wp2
        have hV : valL (M.drop (i + 1)) < 72057594037927936 := by
          have h1 := valL_lt (M.drop (i + 1)) (fun x hx => HSm.out x (List.mem_of_mem_drop hx))
          rw [List.length_drop, HMl.out] at h1
          have h2 : (256 : Nat) ^ (m - (i + 1)) ≤ 256 ^ 7 := Nat.pow_le_pow_right (by omega) (by omega)
          have h3 : (256 : Nat) ^ 7 = 72057594037927936 := by decide
          omega
        have hb : L[k + i] < 256 := by rw [← hMi]; exact HSm.out _ (List.getElem_mem _)
        refine ⟨⟨i, rfl, by omega, ?_, below_drewN HB.out _⟩, by simp [intOf]⟩
        rw [or_i64 _ _ hV hb, ← hMi, ← val_drop]
end Go.Proofs.Ythfmmfphnimlnaa
namespace Go.Proofs.Ythfmmfphnimlnaa
open Go.RowKit
set_option linter.unusedVariables false
set_option linter.unusedSimpArgs false
def rD (q : Qs) (m : Nat) : List Nat := if q.1.length < m then [] else q.1.take m
theorem add_add' (x : Addr) (i j : Nat) : (x.add i).add j = x.add (i + j) := by
  unfold Addr.add
  by_cases h1 : i = 0
  · subst h1; simp
  · by_cases h2 : j = 0
    · subst h2; simp
    · simp [h1, h2]
      omega
/-- A part of a row. -/
theorem Row.cut {w : World} {a : Option Addr} {n c : Nat} {L : List Nat} (h : Row w a n c L) {k m : Nat} (hk : k + m ≤ n) : Row w (if c = k then a else a.map (fun x => x.add k)) m (c - k) ((L.drop k).take m) := by
  have hl := h.len
  have hc := h.cap_
  refine ⟨by rw [List.length_take, List.length_drop]; omega, by omega, fun e => ?_, fun x hx j u hu => ?_, fun x hx => h.small x (List.mem_of_mem_drop (List.mem_of_mem_take hx))⟩
  · have ha : a = none := by
      split at e
      · exact e
      · simpa using e
    have := h.none_ ha
    omega
  · have hj := (List.getElem?_eq_some_iff.1 hu).1
    rw [u8s_length, List.length_take, List.length_drop] at hj
    rw [if_neg (by omega)] at hx
    simp only [Option.map_eq_some_iff] at hx
    obtain ⟨x0, hx0, rfl⟩ := hx
    rw [add_add']
    refine h.cells x0 hx0 (k + j) u ?_
    rw [← hu]
    simp only [u8s, List.getElem?_map, List.getElem?_take, List.getElem?_drop]
    rw [if_pos (by omega)]
set_option maxRecDepth 100000 in
set_option maxHeartbeats 4000000 in
theorem drow_any (m : Nat) (g : Nat) (a : Option Addr) (n c : Nat) (L : List Nat) (q : Qs) (w : World) (h : Tp w g a n c L q) (hmm : m ≤ 65535) :
    Calls Try.prog 25 #[.pointer (some ⟨g, 0, none⟩), .int .i64 (m : Int)] w fun x w' => ∃ a' m' c', x = .returned (.slice a' m' c') ∧ Own w' w.heap.size a' m' c' (rD q m) ∧ Tp w' g a n c L (dS q m) ∧ But (· = g) w w' := by
  obtain ⟨k, hk, hq, hl⟩ := h.c1
  have hn := h.row.len
  have hm := h.mx
  have hcap := h.row.cap_
  have hql : q.1.length = n - k := by rw [hq, List.length_drop, hn]
  have z0 := h.c0.1
  have z1 := hl.1
  have z2 := h.c2.1
  have f1 := hl.2
  have f2 := h.c2.2
  have HH := hid h
  have ew : IntKind.i64.wrap ((n : Int) - (k : Int)) = (n : Int) - (k : Int) := by rw [IntKind.wrap_i64]; omega
  by_cases hs : n - k < m
  · have hd : decide ((n : Int) - (k : Int) < (m : Int)) = true := by simp; omega
    have e1 : rD q m = [] := by unfold rD; rw [if_pos (by omega)]
    have e2 : dS q m = (q.1, true) := by unfold dS; rw [if_pos (by omega)]
    rw [e1, e2]
    have HQ : Hid (∀ U, Below w.heap.size w U → Tp (U.setCell ⟨g, 2, none⟩ (.bool true)) g a n c L (q.1, true)) := fun U hU => (HH.out.later hU).bad true
    clear h hl hq
    go_enter Try.func25, Try.ntmps25
    go_upto_region 1 with fail
    go_quiet (fail)
    go_wp2
    go_ret
    exact ⟨none, 0, 0, rfl, Own.nil _ _, HQ.out _ (below_drewN (Below.refl _ _) _), but_set (below_drewN (Below.refl _ _) _) g _ _⟩
  · have hd : decide ((n : Int) - (k : Int) < (m : Int)) = false := by simp; omega
    have e1 : rD q m = (L.drop k).take m := by unfold rD; rw [if_neg (by omega), hq]
    have e2 : dS q m = (L.drop (k + m), q.2) := by unfold dS; rw [if_neg (by omega), hq, List.drop_drop]
    rw [e1, e2]
    have HQ : Hid (∀ U, Tp U g a n c L q → Tp (U.setCell ⟨g, 1, none⟩ (.int .i64 ((k : Int) + (m : Int)))) g a n c L (L.drop (k + m), q.2)) := fun U hU => hU.to (k := k + m) (by omega)
    obtain ⟨A, hA⟩ : ∃ A, A = (if c = k then a else a.map (fun x => x.add k)) := ⟨_, rfl⟩
    have HA := hid hA
    have HCu : Hid (∀ U, Below w.heap.size w U → Row U A m (c - k) ((L.drop k).take m)) := fun U hU => by rw [hA]; exact (HH.out.row.later hU).cut (by omega)
    clear hA
    have ew2 : IntKind.i64.wrap ((k : Int) + (m : Int)) = ((k + m : Nat) : Int) := by rw [IntKind.wrap_i64]; omega
    have HCl : Hid (∀ U, Below w.heap.size w U → U.cell? ⟨g, 0, none⟩ = some (.slice a n c) ∧ U.cell? ⟨g, 1, none⟩ = some (.int .i64 (k : Int))) := fun U hU => ⟨cell_later hU z0, cell_later hU z1⟩
    have HF1 := hid (Lies.later (w1 := w) (Below.refl _ _) ⟨z1, f1⟩)
    have hi1 : (k : Int) ≤ ((k + m : Nat) : Int) := by omega
    have hi2 : ((k + m : Nat) : Int) ≤ (c : Int) := by omega
    have hi3 : (0 : Int) ≤ (k : Int) := by omega
    have HRo : Hid (∀ U, Below w.heap.size w U → ∀ s : Sl, Row U s.a s.n s.c ((L.drop k).take m) → ∃ a' c' U', (Builtin.append_ #[30, 30] 30 #[.slice none 0 0, .slice s.a s.n s.c]).run Try.prog U = .ok (.slice a' s.n c') U' ∧ Own U' w.heap.size a' s.n c' ((L.drop k).take m) ∧ Below w.heap.size w U') := fun U hU s hR => by
      have hlen := hR.len
      rw [List.length_take, List.length_drop] at hlen
      obtain ⟨a', c', U', h1, h2, h3⟩ := append_any (Own.nil U w.heap.size) hR hU.size (by omega)
      simp only [Nat.zero_add, List.nil_append] at h1 h2
      exact ⟨a', c', U', h1, h2, But.below hU h3.but (fun j hj => by obtain ⟨x, hx, _⟩ := hj; cases hx)⟩
    clear h hl hq e1 e2
    go_enter Try.func25, Try.ntmps25
    go_upto_region 1 with fail
    go_quiet (fail)
    go_upto_region 5 with fail
    clear z0 z1 z2 f1 f2
    refine wp_region_held_drew (S := (fun U : World => U.cell? ⟨g, 0, none⟩ = some (.slice a n c) ∧ U.cell? ⟨g, 1, none⟩ = some (.int .i64 (k : Int)))) (by kernel_rfl) (HCl.out _ (below_drewN (below_drewN (Below.refl _ _) _) _)) (fun hHeld => ?_)
    refine wpAnyH_norm (l2 := #[false, false, false, false, false, false, false, false, false, false, false, false, false, false, false, false, false, false]) (f2 := 18) (by kernel_rfl) (by kernel_rfl) ?_
    refine wpAnyH_take (i := 0) (oi := _) (v := ?_) rfl (by kernel_rfl) (by kernel_rfl) (by kernel_rfl) (fun _ _ _ h => h) (Or.inl ⟨by rfl, ?_⟩) (by assumption) ?_
    rotate_left
    · (intro w hSw; (try dsimp only at hSw); go_simp; try with_reducible rfl)
    simp only [List.getElem_toArray, List.getElem_cons_succ, List.getElem_cons_zero, Act.put, List.setIfInBounds_toArray, List.set_cons_zero, List.set_cons_succ]
    refine wpAnyH_norm (l2 := #[true, false, false, false, false, false, false, false, false, false, false, false, false, false, false, false, false, false]) (f2 := 17) (by kernel_rfl) (by kernel_rfl) ?_
    refine wpAnyH_take (i := 1) (oi := _) (v := ?_) rfl (by kernel_rfl) (by kernel_rfl) (by kernel_rfl) (fun _ _ _ h => h) (Or.inl ⟨by rfl, ?_⟩) (by assumption) ?_
    rotate_left
    · (intro w hSw; (try dsimp only at hSw); go_simp; try with_reducible rfl)
    simp only [List.getElem_toArray, List.getElem_cons_succ, List.getElem_cons_zero, Act.put, List.setIfInBounds_toArray, List.set_cons_zero, List.set_cons_succ]
    refine wpAnyH_norm (l2 := #[true, true, false, false, false, false, false, false, false, false, false, false, false, false, false, false, false, false]) (f2 := 16) (by kernel_rfl) (by kernel_rfl) ?_
    refine wpAnyH_take (i := 2) (oi := _) (v := ?_) rfl (by kernel_rfl) (by kernel_rfl) (by kernel_rfl) (fun _ _ _ h => h) (Or.inl ⟨by rfl, ?_⟩) (by assumption) ?_
    rotate_left
    · (intro w hSw; (try dsimp only at hSw); go_simp; try with_reducible rfl)
    simp only [List.getElem_toArray, List.getElem_cons_succ, List.getElem_cons_zero, Act.put, List.setIfInBounds_toArray, List.set_cons_zero, List.set_cons_succ]
    refine wpAnyH_norm (l2 := #[true, true, true, false, false, false, false, false, false, false, false, false, false, false, false, false, false, false]) (f2 := 15) (by kernel_rfl) (by kernel_rfl) ?_
    refine wpAnyH_take (i := 3) (oi := _) (v := ?_) rfl (by kernel_rfl) (by kernel_rfl) (by kernel_rfl) (fun _ _ _ h => h) (Or.inl ⟨by rfl, ?_⟩) (by assumption) ?_
    rotate_left
    · (intro w hSw; (try dsimp only at hSw); go_simp; try with_reducible rfl)
    simp only [List.getElem_toArray, List.getElem_cons_succ, List.getElem_cons_zero, Act.put, List.setIfInBounds_toArray, List.set_cons_zero, List.set_cons_succ]
    refine wpAnyH_norm (l2 := #[true, true, true, true, false, false, false, false, false, false, false, false, false, false, false, false, false, false]) (f2 := 14) (by kernel_rfl) (by kernel_rfl) ?_
    refine wpAnyH_take (i := 4) (oi := _) (v := ?_) rfl (by kernel_rfl) (by kernel_rfl) (by kernel_rfl) (fun _ _ _ h => h) (Or.inl ⟨by rfl, ?_⟩) (by assumption) ?_
    rotate_left
    · (intro w hSw; have z0 := hSw.1; go_simp; try with_reducible rfl)
    simp only [List.getElem_toArray, List.getElem_cons_succ, List.getElem_cons_zero, Act.put, List.setIfInBounds_toArray, List.set_cons_zero, List.set_cons_succ]
    refine wpAnyH_norm (l2 := #[true, true, true, true, true, false, false, false, false, false, false, false, false, false, false, false, false, false]) (f2 := 13) (by kernel_rfl) (by kernel_rfl) ?_
    refine wpAnyH_take (i := 5) (oi := _) (v := ?_) rfl (by kernel_rfl) (by kernel_rfl) (by kernel_rfl) (fun _ _ _ h => h) (Or.inl ⟨by rfl, ?_⟩) (by assumption) ?_
    rotate_left
    · (intro w hSw; (try dsimp only at hSw); go_simp; try with_reducible rfl)
    simp only [List.getElem_toArray, List.getElem_cons_succ, List.getElem_cons_zero, Act.put, List.setIfInBounds_toArray, List.set_cons_zero, List.set_cons_succ]
    refine wpAnyH_norm (l2 := #[true, true, true, true, true, true, false, false, false, false, false, false, false, false, false, false, false, false]) (f2 := 12) (by kernel_rfl) (by kernel_rfl) ?_
    refine wpAnyH_take (i := 6) (oi := _) (v := ?_) rfl (by kernel_rfl) (by kernel_rfl) (by kernel_rfl) (fun _ _ _ h => h) (Or.inl ⟨by rfl, ?_⟩) (by assumption) ?_
    rotate_left
    · (intro w hSw; (try dsimp only at hSw); go_simp; try with_reducible rfl)
    simp only [List.getElem_toArray, List.getElem_cons_succ, List.getElem_cons_zero, Act.put, List.setIfInBounds_toArray, List.set_cons_zero, List.set_cons_succ]
    refine wpAnyH_norm (l2 := #[true, true, true, true, true, true, true, false, false, false, false, false, false, false, false, false, false, false]) (f2 := 11) (by kernel_rfl) (by kernel_rfl) ?_
    refine wpAnyH_take (i := 7) (oi := _) (v := ?_) rfl (by kernel_rfl) (by kernel_rfl) (by kernel_rfl) (fun _ _ _ h => h) (Or.inl ⟨by rfl, ?_⟩) (by assumption) ?_
    rotate_left
    · (intro w hSw; (try dsimp only at hSw); go_simp; try with_reducible rfl)
    simp only [List.getElem_toArray, List.getElem_cons_succ, List.getElem_cons_zero, Act.put, List.setIfInBounds_toArray, List.set_cons_zero, List.set_cons_succ]
    refine wpAnyH_norm (l2 := #[true, true, true, true, true, true, true, true, false, false, false, false, false, false, false, false, false, false]) (f2 := 10) (by kernel_rfl) (by kernel_rfl) ?_
    refine wpAnyH_take (i := 8) (oi := _) (v := ?_) rfl (by kernel_rfl) (by kernel_rfl) (by kernel_rfl) (fun _ _ _ h => h) (Or.inl ⟨by rfl, ?_⟩) (by assumption) ?_
    rotate_left
    · (intro w hSw; have z1 := hSw.2; go_simp; try with_reducible rfl)
    simp only [List.getElem_toArray, List.getElem_cons_succ, List.getElem_cons_zero, Act.put, List.setIfInBounds_toArray, List.set_cons_zero, List.set_cons_succ]
    refine wpAnyH_norm (l2 := #[true, true, true, true, true, true, true, true, true, false, false, false, false, false, false, false, false, false]) (f2 := 9) (by kernel_rfl) (by kernel_rfl) ?_
    refine wpAnyH_take (i := 9) (oi := _) (v := ?_) rfl (by kernel_rfl) (by kernel_rfl) (by kernel_rfl) (fun _ _ _ h => h) (Or.inl ⟨by rfl, ?_⟩) (by assumption) ?_
    rotate_left
    · (intro w hSw; (try dsimp only at hSw); go_simp; try with_reducible rfl)
    simp only [List.getElem_toArray, List.getElem_cons_succ, List.getElem_cons_zero, Act.put, List.setIfInBounds_toArray, List.set_cons_zero, List.set_cons_succ]
    refine wpAnyH_norm (l2 := #[true, true, true, true, true, true, true, true, true, true, false, false, false, false, false, false, false, false]) (f2 := 8) (by kernel_rfl) (by kernel_rfl) ?_
    refine wpAnyH_take (i := 10) (oi := _) (v := ?_) rfl (by kernel_rfl) (by kernel_rfl) (by kernel_rfl) (fun _ _ _ h => h) (Or.inl ⟨by rfl, ?_⟩) (by assumption) ?_
    rotate_left
    · (intro w hSw; (try dsimp only at hSw); go_simp; try with_reducible rfl)
    simp only [List.getElem_toArray, List.getElem_cons_succ, List.getElem_cons_zero, Act.put, List.setIfInBounds_toArray, List.set_cons_zero, List.set_cons_succ]
    refine wpAnyH_norm (l2 := #[true, true, true, true, true, true, true, true, true, true, true, false, false, false, false, false, false, false]) (f2 := 7) (by kernel_rfl) (by kernel_rfl) ?_
    refine wpAnyH_take (i := 11) (oi := _) (v := ?_) rfl (by kernel_rfl) (by kernel_rfl) (by kernel_rfl) (fun _ _ _ h => h) (Or.inl ⟨by rfl, ?_⟩) (by assumption) ?_
    rotate_left
    · (intro w hSw; (try dsimp only at hSw); go_simp; try with_reducible rfl)
    simp only [List.getElem_toArray, List.getElem_cons_succ, List.getElem_cons_zero, Act.put, List.setIfInBounds_toArray, List.set_cons_zero, List.set_cons_succ]
    refine wpAnyH_norm (l2 := #[true, true, true, true, true, true, true, true, true, true, true, true, false, false, false, false, false, false]) (f2 := 6) (by kernel_rfl) (by kernel_rfl) ?_
    refine wpAnyH_take (i := 12) (oi := _) (v := ?_) rfl (by kernel_rfl) (by kernel_rfl) (by kernel_rfl) (fun _ _ _ h => h) (Or.inl ⟨by rfl, ?_⟩) (by assumption) ?_
    rotate_left
    · (intro w hSw; have z1 := hSw.2; go_simp; try with_reducible rfl)
    simp only [List.getElem_toArray, List.getElem_cons_succ, List.getElem_cons_zero, Act.put, List.setIfInBounds_toArray, List.set_cons_zero, List.set_cons_succ]
    refine wpAnyH_norm (l2 := #[true, true, true, true, true, true, true, true, true, true, true, true, true, false, false, false, false, false]) (f2 := 5) (by kernel_rfl) (by kernel_rfl) ?_
    refine wpAnyH_take (i := 13) (oi := _) (v := ?_) rfl (by kernel_rfl) (by kernel_rfl) (by kernel_rfl) (fun _ _ _ h => h) (Or.inl ⟨by rfl, ?_⟩) (by assumption) ?_
    rotate_left
    · (intro w hSw; (try dsimp only at hSw); go_simp; try with_reducible rfl)
    simp only [List.getElem_toArray, List.getElem_cons_succ, List.getElem_cons_zero, Act.put, List.setIfInBounds_toArray, List.set_cons_zero, List.set_cons_succ]
    refine wpAnyH_norm (l2 := #[true, true, true, true, true, true, true, true, true, true, true, true, true, true, false, false, false, false]) (f2 := 4) (by kernel_rfl) (by kernel_rfl) ?_
    refine wpAnyH_take (i := 14) (oi := _) (v := ?_) rfl (by kernel_rfl) (by kernel_rfl) (by kernel_rfl) (fun _ _ _ h => h) (Or.inl ⟨by rfl, ?_⟩) (by assumption) ?_
    rotate_left
    · (intro w hSw; (try dsimp only at hSw); go_simp; try with_reducible rfl)
    simp only [List.getElem_toArray, List.getElem_cons_succ, List.getElem_cons_zero, Act.put, List.setIfInBounds_toArray, List.set_cons_zero, List.set_cons_succ]
    refine wpAnyH_norm (l2 := #[true, true, true, true, true, true, true, true, true, true, true, true, true, true, true, false, false, false]) (f2 := 3) (by kernel_rfl) (by kernel_rfl) ?_
    refine wpAnyH_take (i := 15) (oi := _) (v := .slice A m (c - k)) rfl (by kernel_rfl) (by kernel_rfl) (by kernel_rfl) (fun _ _ _ h => h) (Or.inl ⟨by rfl, ?_⟩) (by assumption) ?_
    · (intro w hSw; (try dsimp only at hSw); go_simp; rw [HA.out, if_pos ⟨by omega, by omega⟩, if_pos (by omega), show ((k : Int) + (m : Int)).toNat - k = m by omega])
    simp only [List.getElem_toArray, List.getElem_cons_succ, List.getElem_cons_zero, Act.put, List.setIfInBounds_toArray, List.set_cons_zero, List.set_cons_succ]
    refine wpAnyH_norm (l2 := #[true, true, true, true, true, true, true, true, true, true, true, true, true, true, true, true, false, false]) (f2 := 2) (by kernel_rfl) (by kernel_rfl) ?_
    refine wpAnyH_ready (rs := [16]) (by kernel_rfl) (by simp) ?_
    refine AllReadyH.cons rfl (fun K hK => ?_) AllReadyH.nil
    obtain ⟨a4, c4, w4, hrun4, ho4, hb4⟩ := HRo.out (w.drewN (nq + 1)) (below_drewN (Below.refl _ _) _) ⟨A, m, c - k⟩ (HCu.out _ (below_drewN (Below.refl _ _) _))
    refine wp_append_known (.tmp 21) (.tmp 36) 30 rfl _ _ rfl rfl _ w4 hrun4 ?_
    have HO4 := hid ho4
    have HB4 := hid hb4
    clear hrun4 ho4 hb4
    refine hK.out _ _ (HCl.out _ HB4.out) (fun hHeld => ?_)
    clear hK K
    simp only [List.getElem_toArray, List.getElem_cons_succ, List.getElem_cons_zero, Act.put, List.setIfInBounds_toArray, List.set_cons_zero, List.set_cons_succ]
    refine wpAnyH_norm (l2 := #[true, true, true, true, true, true, true, true, true, true, true, true, true, true, true, true, true, false]) (f2 := 1) (by kernel_rfl) (by kernel_rfl) ?_
    refine wpAnyH_take (i := 17) (oi := _) (v := ?_) rfl (by kernel_rfl) (by kernel_rfl) (by kernel_rfl) (fun _ _ _ h => h) (Or.inl ⟨by rfl, ?_⟩) (by assumption) ?_
    rotate_left
    · (intro w hSw; (try dsimp only at hSw); go_simp; try with_reducible rfl)
    simp only [List.getElem_toArray, List.getElem_cons_succ, List.getElem_cons_zero, Act.put, List.setIfInBounds_toArray, List.set_cons_zero, List.set_cons_succ]
    refine wpAnyH_norm (l2 := #[true, true, true, true, true, true, true, true, true, true, true, true, true, true, true, true, true, true]) (f2 := 0) (by kernel_rfl) (by kernel_rfl) ?_
    refine wpAnyH_done (by kernel_rfl) ?_ _
    have f1 := (HF1.out.later HB4.out).2
    have z1 := (HF1.out.later HB4.out).1
    go_wp2
    go_ret
    refine ⟨a4, m, c4, rfl, HO4.out.but2 (but_set (Below.refl _ _) g _ _) (fun j hj e => ?_), HQ.out _ (HH.out.later HB4.out), but_set HB4.out g _ _⟩
    have := HO4.out.blk j hj
    have := HH.out.lt
    omega
end Go.Proofs.Ythfmmfphnimlnaa
namespace Go.Proofs.Ythfmmfphnimlnaa.W
open Go.RowKit
set_option linter.unusedVariables false
set_option linter.unusedSimpArgs false
theorem ane {b o b' o' : Nat} (h : b ≠ b' ∨ o ≠ o') : (⟨b, o, none⟩ : Addr) ≠ ⟨b', o', none⟩ := fun e => by
  simp at e
  omega
theorem bit_byte (N k : Nat) : byteN N (k / 8) / 2 ^ (k % 8) % 2 = bitN N k := by
  unfold byteN bitN
  have e : (256 : Nat) ^ (k / 8) = 2 ^ (8 * (k / 8)) := pow_two8 _
  have e2 : k = 8 * (k / 8) + k % 8 := by omega
  have hlt : k % 8 < 8 := Nat.mod_lt _ (by omega)
  generalize k / 8 = q at *
  generalize k % 8 = r at *
  subst e2
  rw [e, Nat.pow_add, ← Nat.div_div_eq_div_mul]
  generalize N / 2 ^ (8 * q) = x
  obtain ⟨d, hd⟩ : ∃ d, 256 = 2 ^ r * (2 * 2 ^ d) := ⟨7 - r, by
    have : (2 : Nat) * 2 ^ (7 - r) = 2 ^ (7 - r + 1) := by rw [Nat.pow_succ, Nat.mul_comm]
    rw [this, ← Nat.pow_add]
    have : r + (7 - r + 1) = 8 := by omega
    rw [this]⟩
  have hx : x = 256 * (x / 256) + x % 256 := (Nat.div_add_mod x 256).symm
  generalize x / 256 = y at hx
  generalize x % 256 = z at hx
  subst hx
  rw [hd, Nat.mul_assoc, Nat.mul_add_div (Nat.two_pow_pos r), Nat.mul_assoc, Nat.mul_add_mod]
theorem bit_tmod (x r : Nat) : ((x : Int) / 2 ^ r).tmod 2 = ((x / 2 ^ r % 2 : Nat) : Int) := by
  have e1 : ((2 : Int) ^ r) = ((2 ^ r : Nat) : Int) := by simp
  rw [e1, ← Int.natCast_ediv]
  generalize x / 2 ^ r = q
  rw [Int.tmod_eq_emod_of_nonneg (Int.natCast_nonneg _)]; omega
theorem byte_valL : ∀ (M : List Nat), (∀ x ∈ M, x < 256) → ∀ i (hi : i < M.length), byteN (valL M) i = M[i]
  | [], _, i, hi => by simp at hi
  | x :: M, h, 0, _ => by
    have := h x List.mem_cons_self
    simp [byteN, valL]
    omega
  | x :: M, h, i + 1, hi => by
    have hx := h x List.mem_cons_self
    have := byte_valL M (fun y hy => h y (List.mem_cons_of_mem _ hy)) i (by simpa using hi)
    rw [List.getElem_cons_succ, ← this]
    unfold byteN
    rw [Nat.pow_succ, Nat.mul_comm, ← Nat.div_div_eq_div_mul, show valL (x :: M) = x + 256 * valL M from rfl, show (x + 256 * valL M) / 256 = valL M by omega]
structure ParseAt (w w' : World) (N : Nat) : Prop where
  below : Below w.heap.size w w'
  res0 : Lies w' ⟨w.heap.size, 0, none⟩ (.int .u64 0)
  res1 : Lies w' ⟨w.heap.size, 1, none⟩ (.int .u64 0)
  word : ∃ c d : Int, IsV c d N ∧ Lies w' ⟨w.heap.size + 1, 0, none⟩ (.int .u64 c) ∧ Lies w' ⟨w.heap.size + 1, 1, none⟩ (.int .u64 d)
theorem ParseAt.start (w : World) : ParseAt w ((w.alloc (Obj.cells #[Value.int IntKind.u64 0, Value.int IntKind.u64 0] 63)).alloc (Obj.cells #[Value.int IntKind.u64 0, Value.int IntKind.u64 0] 63)) 0 := by
  refine ⟨below2 _ _ _, ?_, ?_, 0, 0, IsV.zero, ?_, ?_⟩
  · exact (lies_new (by simp)).alloc _
  · exact (lies_new (by simp)).alloc _
  · have := lies_new (w := w.alloc (Obj.cells #[Value.int IntKind.u64 0, Value.int IntKind.u64 0] 63)) (c := #[Value.int IntKind.u64 0, Value.int IntKind.u64 0]) (t := 63) (i := 0) (v := Value.int IntKind.u64 0) (by simp)
    simpa using this
  · have := lies_new (w := w.alloc (Obj.cells #[Value.int IntKind.u64 0, Value.int IntKind.u64 0] 63)) (c := #[Value.int IntKind.u64 0, Value.int IntKind.u64 0]) (t := 63) (i := 1) (v := Value.int IntKind.u64 0) (by simp)
    simpa using this
theorem ParseAt.next {w w' W w1 : World} {N M : Nat} {c d c0 d0 : Int} (h : ParseAt w w' N) (hW : Below w'.heap.size w' W) (h1 : Below W.heap.size W w1)
    (hw0 : Lies w1 ⟨w.heap.size + 1, 0, none⟩ (.int .u64 c0)) (hw1 : Lies w1 ⟨w.heap.size + 1, 1, none⟩ (.int .u64 d0)) (hv : IsV c d M) :
    ParseAt w ((w1.setCell ⟨w.heap.size + 1, 0, none⟩ (.int .u64 c)).setCell ⟨w.heap.size + 1, 1, none⟩ (.int .u64 d)) M := by
  refine ⟨?_, ?_, ?_, c, d, hv, ?_, ?_⟩
  · exact ((below_call (below_call h.below hW) h1).setCell (Nat.le_succ _) _).setCell (Nat.le_succ _) _
  · exact (((h.res0.later hW).later h1).keep (ane (.inl (by omega)))).keep (ane (.inl (by omega)))
  · exact (((h.res1.later hW).later h1).keep (ane (.inl (by omega)))).keep (ane (.inl (by omega)))
  · exact hw0.put.keep (ane (.inr (by omega)))
  · exact (hw1.keep (ane (.inr (by omega)))).put
def OfRel (w : World) (N : Nat) (t : Value) (w' : World) : Prop :=
  ∃ k : Nat, k ≤ 128 ∧ t = .int .i64 (k : Int) ∧ ParseAt w w' (N % 2 ^ k)
set_option maxRecDepth 100000 in
set_option maxHeartbeats 1000000 in
theorem rOf_any (a : Option Addr) (n cap : Nat) (M : List Nat) (w : World) (hR : Row w a n cap M) (hl : n = 16) :
    Calls Try.prog 54 #[.slice a n cap] w fun e w' => ∃ c d : Int, e = .returned (.tuple #[.agg #[.int .u64 c, .int .u64 d], .int .i64 0]) ∧ IsV c d (valL M) ∧ Below w.heap.size w w' := by
  have hlen := hR.len
  obtain ⟨g, o, rfl, hc⟩ := hR.plain (by omega)
  have h1 : ¬ (n : Int) < 16 := by omega
  have HC := hid hc
  have HF : Hid (∀ i (hi : i < M.length), byteN (valL M) i = M[i]) := byte_valL M hR.small
  have HN : Hid (valL M < 2 ^ 128) := by
    unfold Hid
    have := valL_lt M hR.small
    rw [hlen, hl, show (256 : Nat) ^ 16 = 2 ^ 128 by decide] at this
    exact this
  obtain ⟨N, hN⟩ : ∃ N, N = valL M := ⟨_, rfl⟩
  rw [← hN] at HF HN ⊢
  clear hc hR hN
  have H0 : Hid _ := ParseAt.start w
  go_enter Try.func54, Try.ntmps54
  go_wp2
  go_loopw [5] (OfRel w N) (fun t _ => 128 - (intOf t).toNat)
  case atStart => exact ⟨0, by omega, rfl, by rw [Nat.pow_zero, Nat.mod_one]; exact H0.out⟩
  case round =>
    clear H0
    obtain ⟨k, hk, rfl, hP⟩ := hrel
    obtain ⟨c, d, hcd, X0, X1⟩ := hP.word
    have HP : Hid _ := hP
    by_cases hlt : k < 128
    · have hq : k / 8 < M.length := by omega
      have c0 := cell_later hP.below (HC.out (k / 8) hq)
      have hfb := HF.out (k / 8) hq
      have hql : ((k / 8 : Nat) : Int) < (n : Int) := by omega
      clear hP
      generalize M[k / 8] = f at c0 hfb
      have hbv : ((f : Int) / 2 ^ (k % 8)).tmod 2 = (bitN N k : Int) := by rw [bit_tmod, ← hfb, bit_byte]
      by_cases hv : bitN N k = 1
      · have hv' : (((f : Int) / 2 ^ (k % 8)).tmod 2 == 1) = true := by rw [hbv, hv]; rfl
        have HM : Hid (N % 2 ^ (k + 1) = N % 2 ^ k + 2 ^ k) := by unfold Hid; rw [mod_succ, hv, Nat.one_mul]
        clear hv hbv hfb
        obtain ⟨x0, x0'⟩ := X0
        obtain ⟨x1, x1'⟩ := X1
        go_wp2_with (first | (go_at_call 80; refine (set_any _ _ _ _ _ hcd hlt (bit_mod_zero N k)).mono ?_; rintro e w2 ⟨c', d', rfl, hcd', hb2⟩; obtain ⟨z0, z0'⟩ := Lies.later hb2 ⟨x0, x0'⟩; obtain ⟨z1, z1'⟩ := Lies.later hb2 ⟨x1, x1'⟩))
        rw [← HM.out] at hcd'
        exact ⟨⟨k + 1, by omega, by go_num, HP.out.next (Below.refl _ _) hb2 ⟨z0, z0'⟩ ⟨z1, z1'⟩ hcd'⟩, by simp [intOf]; omega⟩
      · have hv' : (((f : Int) / 2 ^ (k % 8)).tmod 2 == 1) = false := by rw [hbv]; simp; omega
        have HM : Hid (N % 2 ^ (k + 1) = N % 2 ^ k) := by
          unfold Hid
          have : bitN N k = 0 := by have := bitN_lt N k; omega
          rw [mod_succ, this, Nat.zero_mul, Nat.add_zero]
        clear hv hbv hfb
        go_wp2
        exact ⟨⟨k + 1, by omega, by go_num, by rw [HM.out]; exact HP.out⟩, by simp [intOf]; omega⟩
    · obtain rfl : k = 128 := by omega
      have HE : Hid (N % 2 ^ 128 = N) := Nat.mod_eq_of_lt HN.out
      rw [HE.out] at hcd
      obtain ⟨x0, x0'⟩ := X0
      obtain ⟨x1, x1'⟩ := X1
      obtain ⟨y0, y0'⟩ := hP.res0
      obtain ⟨y1, y1'⟩ := hP.res1
      have hB := hP.below
      clear hP HP
      go_wp2
      exact bodyPost_ret (v := .tuple #[.agg #[.int .u64 c, .int .u64 d], .int .i64 0]) (by simp [results, Try.results54, go_sem, y0, y1]) rfl ⟨c, d, rfl, hcd, (hB.setCell (Nat.le_refl _) _).setCell (Nat.le_refl _) _⟩
end Go.Proofs.Ythfmmfphnimlnaa.W
namespace Go.Proofs.Ythfmmfphnimlnaa
open Go.RowKit
set_option linter.unusedVariables false
set_option linter.unusedSimpArgs false
theorem dtake8 (g : Nat) (a : Option Addr) (n c : Nat) (L : List Nat) (q : Qs) (w : World) (h : Tp w g a n c L q) : Calls Try.prog 26 #[.pointer (some ⟨g, 0, none⟩), .int .i64 8] w fun x w' => x = .returned (.int .i64 (dV q 8)) ∧ Tp w' g a n c L (dS q 8) ∧ But (· = g) w w' := dtake_any 8 (by omega) (by omega) g a n c L q w h
theorem dtake4 (g : Nat) (a : Option Addr) (n c : Nat) (L : List Nat) (q : Qs) (w : World) (h : Tp w g a n c L q) : Calls Try.prog 26 #[.pointer (some ⟨g, 0, none⟩), .int .i64 4] w fun x w' => x = .returned (.int .i64 (dV q 4)) ∧ Tp w' g a n c L (dS q 4) ∧ But (· = g) w w' := dtake_any 4 (by omega) (by omega) g a n c L q w h
theorem dtake2 (g : Nat) (a : Option Addr) (n c : Nat) (L : List Nat) (q : Qs) (w : World) (h : Tp w g a n c L q) : Calls Try.prog 26 #[.pointer (some ⟨g, 0, none⟩), .int .i64 2] w fun x w' => x = .returned (.int .i64 (dV q 2)) ∧ Tp w' g a n c L (dS q 2) ∧ But (· = g) w w' := dtake_any 2 (by omega) (by omega) g a n c L q w h
theorem dtake1 (g : Nat) (a : Option Addr) (n c : Nat) (L : List Nat) (q : Qs) (w : World) (h : Tp w g a n c L q) : Calls Try.prog 26 #[.pointer (some ⟨g, 0, none⟩), .int .i64 1] w fun x w' => x = .returned (.int .i64 (dV q 1)) ∧ Tp w' g a n c L (dS q 1) ∧ But (· = g) w w' := dtake_any 1 (by omega) (by omega) g a n c L q w h
theorem drow16 (g : Nat) (a : Option Addr) (n c : Nat) (L : List Nat) (q : Qs) (w : World) (h : Tp w g a n c L q) : Calls Try.prog 25 #[.pointer (some ⟨g, 0, none⟩), .int .i64 16] w fun x w' => ∃ a' m' c', x = .returned (.slice a' m' c') ∧ Own w' w.heap.size a' m' c' (rD q 16) ∧ Tp w' g a n c L (dS q 16) ∧ But (· = g) w w' := drow_any 16 g a n c L q w h (by omega)
theorem drow8 (g : Nat) (a : Option Addr) (n c : Nat) (L : List Nat) (q : Qs) (w : World) (h : Tp w g a n c L q) : Calls Try.prog 25 #[.pointer (some ⟨g, 0, none⟩), .int .i64 8] w fun x w' => ∃ a' m' c', x = .returned (.slice a' m' c') ∧ Own w' w.heap.size a' m' c' (rD q 8) ∧ Tp w' g a n c L (dS q 8) ∧ But (· = g) w w' := drow_any 8 g a n c L q w h (by omega)
def cDV (q : Qs) : Cp := if (dS (dS q 8) 16).2 = true then ⟨dV q 8, 0, 0⟩ else ⟨dV q 8, valL (rD (dS q 8) 16) / B64, valL (rD (dS q 8) 16) % B64⟩
def cDS (q : Qs) : Qs := dS (dS q 8) 16
theorem rD_len {q : Qs} {m : Nat} (h : (dS q m).2 = false) : (rD q m).length = m := by
  unfold dS at h
  unfold rD
  by_cases hl : q.1.length < m
  · rw [if_pos hl] at h; simp at h
  · rw [if_neg hl, List.length_take]; omega
theorem isV_word {c d : Int} {N : Nat} (h : W.IsV c d N) : c = ((N / B64 : Nat) : Int) ∧ d = ((N % B64 : Nat) : Int) := by
  obtain ⟨x, y, rfl, rfl, h⟩ := h
  have e1 := W.word_div h
  have e2 := h.hn
  have e3 := h.hb
  refine ⟨by rw [e1], ?_⟩
  congr 1
  rw [e2, show B64 = 18446744073709551616 from rfl] at *
  omega
set_option maxRecDepth 100000 in
set_option maxHeartbeats 4000000 in
theorem dcap_any (g : Nat) (a : Option Addr) (n c : Nat) (L : List Nat) (q : Qs) (w : World) (h : Tp w g a n c L q) :
    Calls Try.prog 28 #[.pointer (some ⟨g, 0, none⟩)] w fun x w' => x = .returned (.agg #[.int .i64 (cDV q).o, .int .u64 ((cDV q).h : Int), .int .u64 ((cDV q).l : Int)]) ∧ Tp w' g a n c L (cDS q) ∧ But (· = g) w w' := by
  obtain ⟨W, hW⟩ : ∃ W, W = w.alloc (Obj.cells #[.int .i64 0, .int .u64 0, .int .u64 0] 65) := ⟨_, rfl⟩
  have hB : Below w.heap.size w W := by rw [hW]; exact below1 _ _
  have HX0 : Hid (Bx W w.heap.size [.int .i64 0, .int .u64 0, .int .u64 0]) := by rw [hW]; exact Bx.new w [.int .i64 0, .int .u64 0, .int .u64 0] _
  have HSz : Hid (W.heap.size = w.heap.size + 1) := by unfold Hid; rw [hW]; simp
  have HG : Hid (g < w.heap.size) := h.lt
  have HAb := hid h.row.lt
  have HT := hid (dtake8 g a n c L q W (h.later hB))
  have HRw := hid (drow16 g a n c L (dS q 8))
  have HLn := hid (rD_len (q := dS q 8) (m := 16))
  have HB := hid hB
  have HW := hid hW
  unfold cDV cDS
  generalize rD (dS q 8) 16 = M at HRw HLn ⊢
  generalize dS (dS q 8) 16 = q2 at HRw HLn ⊢
  generalize dS q 8 = q1 at HT HRw
  generalize dV q 8 = o at HT ⊢
  obtain ⟨cv, hcv⟩ : ∃ cv : Cp, cv = (if q2.2 = true then ⟨o, 0, 0⟩ else ⟨o, valL M / B64, valL M % B64⟩) := ⟨_, rfl⟩
  rw [← hcv]
  have HCv := hid hcv
  clear h hB hW hcv
  go_enter Try.func28, Try.ntmps28
  go_upto_region 1 with fail
  rw [← HW.out]
  go_upto_region 2 with (first | (go_at_call 26; refine HT.out.mono ?_; rintro x w2 ⟨rfl, ht2, hb2⟩; have HT2 := hid ht2; have HB2 := hid hb2; clear ht2 hb2))
  obtain ⟨V, hV⟩ : ∃ V, V = w2.alloc (Obj.cells #[.int .i64 o, .int .u64 0, .int .u64 0] 65) := ⟨_, rfl⟩
  have HBV : Hid (Below w2.heap.size w2 V) := by rw [hV]; exact below1 _ _
  have HX1 : Hid (Bx V w2.heap.size [.int .i64 o, .int .u64 0, .int .u64 0]) := by rw [hV]; exact Bx.new w2 [.int .i64 o, .int .u64 0, .int .u64 0] _
  rw [← hV]
  obtain ⟨k, hk⟩ : ∃ k, k = w2.heap.size := ⟨_, rfl⟩
  have HK : Hid (w.heap.size < k ∧ g < k ∧ k < V.heap.size) := by
    have h1 := HB2.out.size
    have h2 := HSz.out
    have h3 := HG.out
    refine ⟨by omega, by omega, by rw [hk, hV]; simp⟩
  have HTV := hid (HT2.out.later HBV.out)
  have HBw := hid ((HB2.out.call HBV.out))
  rw [← hk] at HX1 ⊢
  clear hV hk HBV HT2 HB2
  go_upto_region 3 with (first | (go_at_call 25; refine (HRw.out V HTV.out).mono ?_; rintro x w3 ⟨a3, m3, c3, rfl, ho3, ht3, hb3⟩; have HO3 := hid ho3; have HT3 := hid ht3; have HB3 := hid hb3; clear ho3 ht3 hb3))
  have HX03 := hid ((HX0.out.but HBw.out (by have := HG.out; omega)).but HB3.out (by have := HG.out; omega))
  have HX13 := hid (HX1.out.but HB3.out (by have := HK.out; omega))
  have HB03 := hid (((But.of HB.out).trans HBw.out).trans HB3.out)
  clear HX0 HX1 HBw HTV HW
  have hne : w.heap.size ≠ k := by have := HK.out; omega
  have hne2 : k ≠ w.heap.size := by have := HK.out; omega
  obtain ⟨t2, u2⟩ := HT3.out.c2
  cases hq : q2.2 with
  | true =>
    rw [hq] at t2
    obtain ⟨z0, f0⟩ : w3.cell? ⟨w.heap.size, 0, none⟩ = some (.int .i64 0) ∧ w3.frozen? ⟨w.heap.size, 0, none⟩ = false := ⟨HX03.out.cell 0 rfl, by have := (HX03.out.there 0 (by simp)).2; rwa [Nat.zero_add] at this⟩
    obtain ⟨z1, f1⟩ : w3.cell? ⟨w.heap.size, 1, none⟩ = some (.int .u64 0) ∧ w3.frozen? ⟨w.heap.size, 1, none⟩ = false := ⟨HX03.out.cell 1 rfl, by have := (HX03.out.there 1 (by simp)).2; rwa [Nat.zero_add] at this⟩
    obtain ⟨z2, f2⟩ : w3.cell? ⟨w.heap.size, 2, none⟩ = some (.int .u64 0) ∧ w3.frozen? ⟨w.heap.size, 2, none⟩ = false := ⟨HX03.out.cell 2 rfl, by have := (HX03.out.there 2 (by simp)).2; rwa [Nat.zero_add] at this⟩
    have x0 := HX13.out.cell 0 rfl
    have x1 := HX13.out.cell 1 rfl
    have x2 := HX13.out.cell 2 rfl
    go_wp2
    have hbS : But (fun k => k = w.heap.size) w3 (((w3.setCell ⟨w.heap.size, 0, none⟩ (.int .i64 o)).setCell ⟨w.heap.size, 1, none⟩ (.int .u64 0)).setCell ⟨w.heap.size, 2, none⟩ (.int .u64 0)) := (((But.refl (fun k => k = w.heap.size) w3).setCell rfl _).setCell rfl _).setCell rfl _
    exact bodyPost_ret (v := .agg #[.int .i64 o, .int .u64 0, .int .u64 0]) (by simp [results, Try.results28, go_sem, z0, z1, z2]) rfl ⟨by rw [HCv.out, if_pos hq]; rfl, HT3.out.but hbS (fun e => by have := HG.out; omega) (fun h0 k hk e => by have := HAb.out h0 k hk; omega), HB03.out.comp hbS (fun i hi => .inr (by rw [hi]; exact Nat.le_refl _))⟩
  | false =>
    rw [hq] at t2
    have HRo3 := hid ((_root_.Go.Proofs.Ythfmmfphnimlnaa.W.rOf_any a3 m3 c3 M w3 HO3.out.read (by rw [← HO3.out.len]; exact HLn.out hq)))
    go_upto_region 5 with (first | (go_at_call 54; refine HRo3.out.mono ?_; rintro x w4 ⟨wc, wd, rfl, hv4, hb4⟩; have HV4 := hid (isV_word hv4); have HB4 := hid hb4; clear hv4 hb4))
    obtain ⟨V5, hV5⟩ : ∃ V, V = w4.alloc (Obj.cells #[.int .u64 wc, .int .u64 wd] 63) := ⟨_, rfl⟩
    have HB5 : Hid (Below w3.heap.size w3 V5) := by rw [hV5]; exact below_call HB4.out (below1 _ _)
    have HX5 : Hid (Bx V5 w4.heap.size [.int .u64 wc, .int .u64 wd]) := by rw [hV5]; exact Bx.new w4 [.int .u64 wc, .int .u64 wd] _
    rw [← hV5]
    obtain ⟨k5, hk5⟩ : ∃ k, k = w4.heap.size := ⟨_, rfl⟩
    rw [← hk5] at HX5 ⊢
    clear hV5 hk5 t2 u2
    have y0 := HX5.out.cell 0 rfl
    have y1 := HX5.out.cell 1 rfl
    have HX05 := hid (HX03.out.later HB5.out)
    have HX15 := hid (HX13.out.later HB5.out)
    obtain ⟨z0, f0⟩ : V5.cell? ⟨w.heap.size, 0, none⟩ = some (.int .i64 0) ∧ V5.frozen? ⟨w.heap.size, 0, none⟩ = false := ⟨HX05.out.cell 0 rfl, by have := (HX05.out.there 0 (by simp)).2; rwa [Nat.zero_add] at this⟩
    obtain ⟨z1, f1⟩ : V5.cell? ⟨w.heap.size, 1, none⟩ = some (.int .u64 0) ∧ V5.frozen? ⟨w.heap.size, 1, none⟩ = false := ⟨HX05.out.cell 1 rfl, by have := (HX05.out.there 1 (by simp)).2; rwa [Nat.zero_add] at this⟩
    obtain ⟨z2, f2⟩ : V5.cell? ⟨w.heap.size, 2, none⟩ = some (.int .u64 0) ∧ V5.frozen? ⟨w.heap.size, 2, none⟩ = false := ⟨HX05.out.cell 2 rfl, by have := (HX05.out.there 2 (by simp)).2; rwa [Nat.zero_add] at this⟩
    have x0 := HX15.out.cell 0 rfl
    obtain ⟨x1, g1⟩ : V5.cell? ⟨k, 1, none⟩ = some (.int .u64 0) ∧ V5.frozen? ⟨k, 1, none⟩ = false := ⟨HX15.out.cell 1 rfl, by have := (HX15.out.there 1 (by simp)).2; rwa [Nat.zero_add] at this⟩
    obtain ⟨x2, g2⟩ : V5.cell? ⟨k, 2, none⟩ = some (.int .u64 0) ∧ V5.frozen? ⟨k, 2, none⟩ = false := ⟨HX15.out.cell 2 rfl, by have := (HX15.out.there 2 (by simp)).2; rwa [Nat.zero_add] at this⟩
    go_wp2
    have hbS : But (fun j => j = w.heap.size ∨ j = k) V5 (((((V5.setCell ⟨k, 1, none⟩ (.int .u64 wc)).setCell ⟨k, 2, none⟩ (.int .u64 wd)).setCell ⟨w.heap.size, 0, none⟩ (.int .i64 o)).setCell ⟨w.heap.size, 1, none⟩ (.int .u64 wc)).setCell ⟨w.heap.size, 2, none⟩ (.int .u64 wd)) := (((((But.refl (fun j => j = w.heap.size ∨ j = k) V5).setCell (.inr rfl) _).setCell (.inr rfl) _).setCell (.inl rfl) _).setCell (.inl rfl) _).setCell (.inl rfl) _
    exact bodyPost_ret (v := .agg #[.int .i64 o, .int .u64 wc, .int .u64 wd]) (by simp [results, Try.results28, go_sem, z0, z1, z2, hne, hne2]) rfl ⟨by rw [HCv.out, if_neg (by rw [hq]; simp), HV4.out.1, HV4.out.2], (HT3.out.later HB5.out).but hbS (fun e => by have := HG.out; have := HK.out; omega) (fun h0 j hj e => by have := HAb.out h0 j hj; have := HK.out; omega), (HB03.out.call HB5.out).comp hbS (fun i hi => .inr (by have := HK.out; omega))⟩
end Go.Proofs.Ythfmmfphnimlnaa
namespace Go.Proofs.Ythfmmfphnimlnaa
open Go.RowKit
set_option linter.unusedVariables false
set_option linter.unusedSimpArgs false
def pDV (x : Int) : Int := if x = 65535 then -1 else x
def tDV (q : Qs) : Tk := ⟨cDV q, dV (cDS q) 1, pDV (dV (dS (cDS q) 1) 2)⟩
def tDS (q : Qs) : Qs := dS (dS (cDS q) 1) 2
set_option maxRecDepth 100000 in
set_option maxHeartbeats 4000000 in
theorem dtok_any (g : Nat) (a : Option Addr) (n c : Nat) (L : List Nat) (q : Qs) (w : World) (h : Tp w g a n c L q) :
    Calls Try.prog 27 #[.pointer (some ⟨g, 0, none⟩)] w fun x w' => x = .returned (.agg #[.int .i64 (tDV q).c.o, .int .u64 ((tDV q).c.h : Int), .int .u64 ((tDV q).c.l : Int), .int .i64 (tDV q).r, .int .i64 (tDV q).p]) ∧ Tp w' g a n c L (tDS q) ∧ But (· = g) w w' := by
  obtain ⟨W, hW⟩ : ∃ W, W = w.alloc (Obj.cells #[.int .i64 0, .int .u64 0, .int .u64 0, .int .i64 0, .int .i64 0] 67) := ⟨_, rfl⟩
  have hB : Below w.heap.size w W := by rw [hW]; exact below1 _ _
  have HX0 : Hid (Bx W w.heap.size [.int .i64 0, .int .u64 0, .int .u64 0, .int .i64 0, .int .i64 0]) := by rw [hW]; exact Bx.new w [.int .i64 0, .int .u64 0, .int .u64 0, .int .i64 0, .int .i64 0] _
  have HSz : Hid (W.heap.size = w.heap.size + 1) := by unfold Hid; rw [hW]; simp
  have HG : Hid (g < w.heap.size) := h.lt
  have HAb := hid h.row.lt
  have HC := hid (dcap_any g a n c L q W (h.later hB))
  have HT1 := hid (dtake1 g a n c L (cDS q))
  have HT2 := hid (dtake2 g a n c L (dS (cDS q) 1))
  have HB := hid hB
  have HW := hid hW
  unfold tDV tDS
  simp only
  generalize dV (dS (cDS q) 1) 2 = p at HT2 ⊢
  generalize dS (dS (cDS q) 1) 2 = q3 at HT2 ⊢
  generalize dV (cDS q) 1 = r at HT1 ⊢
  generalize dS (cDS q) 1 = q2 at HT1 HT2
  generalize cDS q = q1 at HC HT1
  generalize cDV q = cv at HC ⊢
  obtain ⟨co, ch, cl⟩ := cv
  simp only at HC ⊢
  have HPd : Hid (pDV p = if p = 65535 then -1 else p) := rfl
  generalize pDV p = pp at HPd ⊢
  clear h hB hW
  go_enter Try.func27, Try.ntmps27
  go_upto_region 1 with fail
  rw [← HW.out]
  go_upto_region 2 with (first | (go_at_call 28; refine HC.out.mono ?_; rintro x w2 ⟨rfl, ht2, hb2⟩; have HTw2 := hid ht2; have HB2 := hid hb2; clear ht2 hb2))
  obtain ⟨V, hV⟩ : ∃ V, V = w2.alloc (Obj.cells #[.int .i64 co, .int .u64 (ch : Int), .int .u64 (cl : Int), .int .i64 0, .int .i64 0] 67) := ⟨_, rfl⟩
  have HBV : Hid (Below w2.heap.size w2 V) := by rw [hV]; exact below1 _ _
  have HX1 : Hid (Bx V w2.heap.size [.int .i64 co, .int .u64 (ch : Int), .int .u64 (cl : Int), .int .i64 0, .int .i64 0]) := by rw [hV]; exact Bx.new w2 [.int .i64 co, .int .u64 (ch : Int), .int .u64 (cl : Int), .int .i64 0, .int .i64 0] _
  rw [← hV]
  obtain ⟨k, hk⟩ : ∃ k, k = w2.heap.size := ⟨_, rfl⟩
  have HK : Hid (w.heap.size < k ∧ g < k ∧ k < V.heap.size) := by
    have h1 := HB2.out.size
    have h2 := HSz.out
    have h3 := HG.out
    refine ⟨by omega, by omega, by rw [hk, hV]; simp⟩
  have HTV := hid (HTw2.out.later HBV.out)
  have HBw := hid ((HB2.out.call HBV.out))
  rw [← hk] at HX1 ⊢
  clear hV hk HBV HTw2 HB2
  go_upto_region 3 with (first | (go_at_call 26; refine (HT1.out V HTV.out).mono ?_; rintro x w3 ⟨rfl, ht3, hb3⟩; have HTw3 := hid ht3; have HB3 := hid hb3; have HX13 := hid (HX1.out.but hb3 (by have := HK.out; omega)); (have x3 := HX13.out.cell 3 rfl); (have g3 : w3.frozen? ⟨k, 3, none⟩ = false := by have := (HX13.out.there 3 (by simp)).2; rwa [Nat.zero_add] at this); clear ht3 hb3))
  obtain ⟨U3, hU3⟩ : ∃ U, U = w3.setCell ⟨k, 3, none⟩ (.int .i64 r) := ⟨_, rfl⟩
  have HBu : Hid (But (· = k) w3 U3) := by rw [hU3]; exact but_set (Below.refl _ _) k 3 _
  have HXu : Hid (Bx U3 k [.int .i64 co, .int .u64 (ch : Int), .int .u64 (cl : Int), .int .i64 r, .int .i64 0]) := by rw [hU3]; exact HX13.out.set1 3 _ (by simp)
  rw [← hU3]
  have HTu := hid (HTw3.out.but HBu.out (by have := HK.out; omega) (fun h0 j hj e => by have := HAb.out h0 j hj; have := HK.out; omega))
  clear hU3 x3 g3 HX13 HTw3
  go_upto_region 4 with (first | (go_at_call 26; refine (HT2.out U3 HTu.out).mono ?_; rintro x w4 ⟨rfl, ht4, hb4⟩; have HTw4 := hid ht4; have HB4 := hid hb4; have HX14 := hid (HXu.out.but hb4 (by have := HK.out; omega)); (have x4 := HX14.out.cell 4 rfl); (have g4 : w4.frozen? ⟨k, 4, none⟩ = false := by have := (HX14.out.there 4 (by simp)).2; rwa [Nat.zero_add] at this); clear ht4 hb4))
  obtain ⟨U4, hU4⟩ : ∃ U, U = w4.setCell ⟨k, 4, none⟩ (.int .i64 p) := ⟨_, rfl⟩
  have HBu4 : Hid (But (· = k) w4 U4) := by rw [hU4]; exact but_set (Below.refl _ _) k 4 _
  have HX4 : Hid (Bx U4 k [.int .i64 co, .int .u64 (ch : Int), .int .u64 (cl : Int), .int .i64 r, .int .i64 p]) := by rw [hU4]; exact HX14.out.set1 4 _ (by simp)
  rw [← hU4]
  have HT4 := hid (HTw4.out.but HBu4.out (by have := HK.out; omega) (fun h0 j hj e => by have := HAb.out h0 j hj; have := HK.out; omega))
  have hsz : w.heap.size ≠ k ∧ w.heap.size ≠ g := by have := HK.out; have := HG.out; omega
  have HX04 := hid ((((((HX0.out.but HBw.out hsz.2).but HB3.out hsz.2).but HBu.out hsz.1).but HB4.out hsz.2).but HBu4.out hsz.1))
  have HB04 : Hid (But (· = g) w U4) := (((((But.of HB.out).trans HBw.out).trans HB3.out).comp HBu.out (fun i hi => .inr (by have := HK.out; omega))).trans HB4.out).comp HBu4.out (fun i hi => .inr (by have := HK.out; omega))
  clear hU4 x4 g4 HX14 HTw4 HX0 HX1 HBw HTV HW HBu HXu HTu HB3 HB4 HBu4
  have hne := hsz.1
  have hne2 : k ≠ w.heap.size := fun e => hne e.symm
  clear hsz
  obtain ⟨z0, f0⟩ : U4.cell? ⟨w.heap.size, 0, none⟩ = some (.int .i64 0) ∧ U4.frozen? ⟨w.heap.size, 0, none⟩ = false := ⟨HX04.out.cell 0 rfl, by have := (HX04.out.there 0 (by simp)).2; rwa [Nat.zero_add] at this⟩
  obtain ⟨z1, f1⟩ : U4.cell? ⟨w.heap.size, 1, none⟩ = some (.int .u64 0) ∧ U4.frozen? ⟨w.heap.size, 1, none⟩ = false := ⟨HX04.out.cell 1 rfl, by have := (HX04.out.there 1 (by simp)).2; rwa [Nat.zero_add] at this⟩
  obtain ⟨z2, f2⟩ : U4.cell? ⟨w.heap.size, 2, none⟩ = some (.int .u64 0) ∧ U4.frozen? ⟨w.heap.size, 2, none⟩ = false := ⟨HX04.out.cell 2 rfl, by have := (HX04.out.there 2 (by simp)).2; rwa [Nat.zero_add] at this⟩
  obtain ⟨z3, f3⟩ : U4.cell? ⟨w.heap.size, 3, none⟩ = some (.int .i64 0) ∧ U4.frozen? ⟨w.heap.size, 3, none⟩ = false := ⟨HX04.out.cell 3 rfl, by have := (HX04.out.there 3 (by simp)).2; rwa [Nat.zero_add] at this⟩
  obtain ⟨z4, f4⟩ : U4.cell? ⟨w.heap.size, 4, none⟩ = some (.int .i64 0) ∧ U4.frozen? ⟨w.heap.size, 4, none⟩ = false := ⟨HX04.out.cell 4 rfl, by have := (HX04.out.there 4 (by simp)).2; rwa [Nat.zero_add] at this⟩
  obtain ⟨x0, g0⟩ : U4.cell? ⟨k, 0, none⟩ = some (.int .i64 co) ∧ U4.frozen? ⟨k, 0, none⟩ = false := ⟨HX4.out.cell 0 rfl, by have := (HX4.out.there 0 (by simp)).2; rwa [Nat.zero_add] at this⟩
  obtain ⟨x1, g1⟩ : U4.cell? ⟨k, 1, none⟩ = some (.int .u64 (ch : Int)) ∧ U4.frozen? ⟨k, 1, none⟩ = false := ⟨HX4.out.cell 1 rfl, by have := (HX4.out.there 1 (by simp)).2; rwa [Nat.zero_add] at this⟩
  obtain ⟨x2, g2⟩ : U4.cell? ⟨k, 2, none⟩ = some (.int .u64 (cl : Int)) ∧ U4.frozen? ⟨k, 2, none⟩ = false := ⟨HX4.out.cell 2 rfl, by have := (HX4.out.there 2 (by simp)).2; rwa [Nat.zero_add] at this⟩
  obtain ⟨x3, g3⟩ : U4.cell? ⟨k, 3, none⟩ = some (.int .i64 r) ∧ U4.frozen? ⟨k, 3, none⟩ = false := ⟨HX4.out.cell 3 rfl, by have := (HX4.out.there 3 (by simp)).2; rwa [Nat.zero_add] at this⟩
  obtain ⟨x4, g4⟩ : U4.cell? ⟨k, 4, none⟩ = some (.int .i64 p) ∧ U4.frozen? ⟨k, 4, none⟩ = false := ⟨HX4.out.cell 4 rfl, by have := (HX4.out.there 4 (by simp)).2; rwa [Nat.zero_add] at this⟩
  by_cases hp : p = 65535
  · have hd : (p == 65535) = true := by simp [hp]
    go_wp2
    have hbS : But (fun j => j = w.heap.size ∨ j = k) U4 ((((((U4.setCell ⟨k, 4, none⟩ (.int .i64 (-1))).setCell ⟨w.heap.size, 0, none⟩ (.int .i64 co)).setCell ⟨w.heap.size, 1, none⟩ (.int .u64 (ch : Int))).setCell ⟨w.heap.size, 2, none⟩ (.int .u64 (cl : Int))).setCell ⟨w.heap.size, 3, none⟩ (.int .i64 r)).setCell ⟨w.heap.size, 4, none⟩ (.int .i64 (-1))) := (((((((But.refl (fun j => j = w.heap.size ∨ j = k) U4).setCell (p := ⟨k, 4, none⟩) (.inr rfl) _).setCell (p := ⟨w.heap.size, 0, none⟩) (.inl rfl) _).setCell (p := ⟨w.heap.size, 1, none⟩) (.inl rfl) _).setCell (p := ⟨w.heap.size, 2, none⟩) (.inl rfl) _).setCell (p := ⟨w.heap.size, 3, none⟩) (.inl rfl) _).setCell (p := ⟨w.heap.size, 4, none⟩) (.inl rfl) _)
    exact bodyPost_ret (v := .agg #[.int .i64 co, .int .u64 (ch : Int), .int .u64 (cl : Int), .int .i64 r, .int .i64 (-1)]) (by simp [results, Try.results27, go_sem, z0, z1, z2, z3, z4, hne, hne2]) rfl ⟨by rw [HPd.out, if_pos hp], HT4.out.but hbS (fun e => by have := HG.out; have := HK.out; omega) (fun h0 j hj e => by have := HAb.out h0 j hj; have := HK.out; omega), HB04.out.comp hbS (fun i hi => .inr (by have := HK.out; omega))⟩
  · have hd : (p == 65535) = false := by simp [hp]
    go_wp2
    have hbS : But (fun j => j = w.heap.size ∨ j = k) U4 (((((U4.setCell ⟨w.heap.size, 0, none⟩ (.int .i64 co)).setCell ⟨w.heap.size, 1, none⟩ (.int .u64 (ch : Int))).setCell ⟨w.heap.size, 2, none⟩ (.int .u64 (cl : Int))).setCell ⟨w.heap.size, 3, none⟩ (.int .i64 r)).setCell ⟨w.heap.size, 4, none⟩ (.int .i64 p)) := ((((((But.refl (fun j => j = w.heap.size ∨ j = k) U4).setCell (p := ⟨w.heap.size, 0, none⟩) (.inl rfl) _).setCell (p := ⟨w.heap.size, 1, none⟩) (.inl rfl) _).setCell (p := ⟨w.heap.size, 2, none⟩) (.inl rfl) _).setCell (p := ⟨w.heap.size, 3, none⟩) (.inl rfl) _).setCell (p := ⟨w.heap.size, 4, none⟩) (.inl rfl) _)
    exact bodyPost_ret (v := .agg #[.int .i64 co, .int .u64 (ch : Int), .int .u64 (cl : Int), .int .i64 r, .int .i64 p]) (by simp [results, Try.results27, go_sem, z0, z1, z2, z3, z4, hne, hne2]) rfl ⟨by rw [HPd.out, if_neg hp], HT4.out.but hbS (fun e => by have := HG.out; have := HK.out; omega) (fun h0 j hj e => by have := HAb.out h0 j hj; have := HK.out; omega), HB04.out.comp hbS (fun i hi => .inr (by have := HK.out; omega))⟩
end Go.Proofs.Ythfmmfphnimlnaa
namespace Go.Proofs.Ythfmmfphnimlnaa
open Go.RowKit
set_option linter.unusedVariables false
set_option linter.unusedSimpArgs false
/-! What the document's reading tells, purely. -/
def rdD {α : Type} (f : Qs → α × Qs) : Nat → Qs → List α × Qs
  | 0, q => ([], q)
  | n + 1, q => if q.2 = true then ([], q) else ((f q).1 :: (rdD f n (f q).2).1, (rdD f n (f q).2).2)
theorem rdD_bad {α : Type} {f : Qs → α × Qs} {q : Qs} (h : q.2 = true) : ∀ n, rdD f n q = ([], q)
  | 0 => rfl
  | n + 1 => by rw [rdD, if_pos h]
theorem rdD_step {α : Type} {f : Qs → α × Qs} {n j : Nat} {q0 qj : Qs} {L : List α} (h : rdD f n q0 = (L ++ (rdD f (n - j) qj).1, (rdD f (n - j) qj).2)) (hj : j < n) (hb : qj.2 = false) :
    rdD f n q0 = ((L ++ [(f qj).1]) ++ (rdD f (n - (j + 1)) (f qj).2).1, (rdD f (n - (j + 1)) (f qj).2).2) := by
  rw [h, show n - j = (n - (j + 1)) + 1 by omega, rdD, if_neg (by rw [hb]; simp)]
  simp
theorem rdD_all {α : Type} {f : Qs → α × Qs} {P : α → Prop} {I : Qs → Prop} (hf : ∀ q, I q → P (f q).1 ∧ I (f q).2) : ∀ n q, I q → (∀ x ∈ (rdD f n q).1, P x) ∧ I (rdD f n q).2
  | 0, q, h => ⟨fun x hx => absurd hx (by simp [rdD]), h⟩
  | n + 1, q, h => by
    rw [rdD]
    by_cases hb : q.2 = true
    · rw [if_pos hb]; exact ⟨fun x hx => absurd hx (by simp), h⟩
    · rw [if_neg hb]
      obtain ⟨h1, h2⟩ := hf q h
      obtain ⟨h3, h4⟩ := rdD_all hf n (f q).2 h2
      refine ⟨fun x hx => ?_, h4⟩
      rcases List.mem_cons.1 hx with hx | hx
      · rw [hx]; exact h1
      · exact h3 x hx
theorem rdD_len {α : Type} (f : Qs → α × Qs) : ∀ n q, (rdD f n q).1.length ≤ n
  | 0, q => Nat.le_refl _
  | n + 1, q => by
    rw [rdD]
    by_cases hb : q.2 = true
    · rw [if_pos hb]; simp
    · rw [if_neg hb]; have := rdD_len f n (f q).2; simp; omega
def dK (q : Qs) (m : Nat) : Nat := if q.1.length < m then 0 else valL (q.1.take m)
def Sml (q : Qs) : Prop := ∀ x ∈ q.1, x < 256
theorem dK_lt {q : Qs} (h : Sml q) (m : Nat) : dK q m < 256 ^ m := by
  unfold dK
  by_cases hl : q.1.length < m
  · rw [if_pos hl]; exact Nat.pow_pos (by omega)
  · rw [if_neg hl]; exact valL_take_lt q.1 m (by omega) h
theorem dV_dK {q : Qs} (h : Sml q) {m : Nat} (hm : m ≤ 7) : dV q m = (dK q m : Int) := by
  have h1 := dK_lt h m
  have h2 : (256 : Nat) ^ m ≤ 256 ^ 7 := Nat.pow_le_pow_right (by omega) hm
  have h3 : (256 : Nat) ^ 7 = 72057594037927936 := by decide
  unfold dV dK at *
  by_cases hl : q.1.length < m
  · rw [if_pos hl, if_pos hl]; rfl
  · rw [if_neg hl] at *
    rw [if_neg hl, IntKind.wrap_i64]
    omega
theorem Sml.dS {q : Qs} (h : Sml q) (m : Nat) : Sml (dS q m) := by
  unfold Ythfmmfphnimlnaa.dS
  by_cases hl : q.1.length < m
  · rw [if_pos hl]; exact h
  · rw [if_neg hl]; exact fun x hx => h x (List.mem_of_mem_drop hx)
theorem Sml.cDS {q : Qs} (h : Sml q) : Sml (cDS q) := (h.dS 8).dS 16
theorem Sml.tDS {q : Qs} (h : Sml q) : Sml (tDS q) := (h.cDS.dS 1).dS 2
theorem rD_sml {q : Qs} (h : Sml q) (m : Nat) : ∀ x ∈ rD q m, x < 256 := by
  unfold rD
  by_cases hl : q.1.length < m
  · rw [if_pos hl]; exact fun x hx => absurd hx (by simp)
  · rw [if_neg hl]; exact fun x hx => h x (List.mem_of_mem_take hx)
theorem rD_le (q : Qs) (m : Nat) : (rD q m).length ≤ m := by
  unfold rD
  by_cases hl : q.1.length < m
  · rw [if_pos hl]; simp
  · rw [if_neg hl, List.length_take]; omega
theorem cDV_ok {q : Qs} (h : Sml q) : (cDV q).ok := by
  unfold cDV
  by_cases hb : (Ythfmmfphnimlnaa.dS (Ythfmmfphnimlnaa.dS q 8) 16).2 = true
  · rw [if_pos hb]; exact ⟨by simp, by simp⟩
  · rw [if_neg hb]
    have h1 := valL_lt (rD (Ythfmmfphnimlnaa.dS q 8) 16) (rD_sml (h.dS 8) 16)
    rw [rD_len (by simpa using hb), show (256 : Nat) ^ 16 = 18446744073709551616 * 18446744073709551616 by decide] at h1
    refine ⟨?_, ?_⟩
    · show _ / B64 < _
      exact Nat.div_lt_of_lt_mul h1
    · exact Nat.mod_lt _ (by decide)
def oD (q : Qs) : Ob × Qs := (⟨dV q 8, rD (dS (dS q 8) 2) (dK (dS q 8) 2)⟩, dS (dS (dS q 8) 2) (dK (dS q 8) 2))
def tD (q : Qs) : Tk × Qs := (tDV q, tDS q)
def cD (q : Qs) : Cp × Qs := (cDV q, cDS q)
def pD (q : Qs) : Pc × Qs := (⟨dV q 2, (rdD cD (dK (dS q 2) 1) (dS (dS q 2) 1)).1⟩, (rdD cD (dK (dS q 2) 1) (dS (dS q 2) 1)).2)
theorem oD_all {q : Qs} (h : Sml q) : (oD q).1.b.length ≤ 65535 ∧ Sml (oD q).2 := ⟨by have h1 := dK_lt (h.dS 8) 2; have := rD_le (dS (dS q 8) 2) (dK (dS q 8) 2); show (rD _ _).length ≤ _; omega, ((h.dS 8).dS 2).dS _⟩
theorem tD_all {q : Qs} (h : Sml q) : (tD q).1.c.ok ∧ Sml (tD q).2 := ⟨cDV_ok h, h.tDS⟩
theorem cD_all {q : Qs} (h : Sml q) : (cD q).1.ok ∧ Sml (cD q).2 := ⟨cDV_ok h, h.cDS⟩
theorem pD_all {q : Qs} (h : Sml q) : ((∀ x ∈ (pD q).1.l, x.ok) ∧ (pD q).1.l.length ≤ 255) ∧ Sml (pD q).2 := by
  have h1 := rdD_all (f := cD) (P := Cp.ok) (I := Sml) (fun q h => cD_all h) (dK (dS q 2) 1) _ ((h.dS 2).dS 1)
  have h2 := rdD_len cD (dK (dS q 2) 1) (dS (dS q 2) 1)
  have h3 := dK_lt (h.dS 2) 1
  exact ⟨⟨h1.1, by show (rdD _ _ _).1.length ≤ _; omega⟩, h1.2⟩
def dcS (q : Qs) : Nat → Qs
  | 0 => q
  | n + 1 => dS (dcS q n) 2
def dCf (q : Qs) : Cf := ⟨dV (dcS q 0) 2, dV (dcS q 1) 2, dV (dcS q 2) 2, dV (dcS q 3) 2, dV (dcS q 4) 2, dV (dcS q 5) 2, dV (dcS q 6) 2, dV (dcS q 7) 2, dV (dcS q 8) 2, dV (dcS q 9) 2⟩
def d1 (L : List Nat) : Qs := dS (L, false) 8
def d10 (L : List Nat) : Qs := dcS (d1 L) 10
def d11 (L : List Nat) : Qs := dS (d10 L) 8
def d12 (L : List Nat) : Qs := dS (d11 L) 4
def d13 (L : List Nat) : Qs := dS (d12 L) 2
def d14 (L : List Nat) : Qs := dS (d13 L) 2
def dO (L : List Nat) : List Ob × Qs := rdD oD (dK (d13 L) 2) (d14 L)
def d15 (L : List Nat) : Qs := dS (dO L).2 2
def dT (L : List Nat) : List Tk × Qs := rdD tD (dK (dO L).2 2) (d15 L)
def d16 (L : List Nat) : Qs := dS (dT L).2 2
def dP (L : List Nat) : List Pc × Qs := rdD pD (dK (dT L).2 2) (d16 L)
def dC (L : List Nat) : Cf := dCf (d1 L)
def dSt (L : List Nat) : St := ⟨(dO L).1, (dT L).1, (dP L).1, dV (d10 L) 8, dV (d11 L) 4, dV (d12 L) 2⟩
def dB (L : List Nat) : Bool := !(dP L).2.2 && (decide (rD (L, false) 8 = mkB) && (decide ((dP L).2.1 = []) && decide (chk (dC L) (dSt L) 4096 = 0)))
theorem dcS_sml {q : Qs} (h : Sml q) : ∀ n, Sml (dcS q n)
  | 0 => h
  | n + 1 => (dcS_sml h n).dS 2
/-! Memory. -/
abbrev GS (g gs : Nat) (k : Nat) : Prop := k = g ∨ k = gs
def Z10 : List Value := [.int .i64 0, .int .i64 0, .int .i64 0, .int .i64 0, .int .i64 0, .int .i64 0, .int .i64 0, .int .i64 0, .int .i64 0, .int .i64 0]
def Z6 : List Value := [.slice none 0 0, .slice none 0 0, .slice none 0 0, .int .i64 0, .int .i64 0, .int .i64 0]
structure Pd (w U : World) (g gc gs : Nat) (a : Option Addr) (n c : Nat) (L : List Nat) (q : Qs) (LC LS : List Value) : Prop where
  tp : Tp U g a n c L q
  bt : Below w.heap.size w U
  r2 : Bx U w.heap.size Z10
  r3 : Bx U (w.heap.size + 1) Z6
  bc : Bx U gc LC
  bs : Bx U gs LS
  o1 : w.heap.size + 1 < g
  o2 : g < gc
  o3 : gc < gs
  ab : 0 < n → ∀ k, Blk a k → k < w.heap.size
theorem Pd.gs {w U U2 : World} {g gc gs : Nat} {a : Option Addr} {n c : Nat} {L : List Nat} {q q2 : Qs} {LC LS LS2 : List Value} (h : Pd w U g gc gs a n c L q LC LS) (hb : But (GS g gs) U U2) (ht : Tp U2 g a n c L q2) (hs : Bx U2 gs LS2) : Pd w U2 g gc gs a n c L q2 LC LS2 := by
  have h1 := h.o1
  have h2 := h.o2
  have h3 := h.o3
  exact ⟨ht, But.below h.bt hb (fun k hk => by rcases hk with rfl | rfl <;> omega), h.r2.but hb (fun hk => by rcases hk with hk | hk <;> omega), h.r3.but hb (fun hk => by rcases hk with hk | hk <;> omega), h.bc.but hb (fun hk => by rcases hk with hk | hk <;> omega), hs, h1, h2, h3, h.ab⟩
theorem Pd.went {w U U2 : World} {g gc gs : Nat} {a : Option Addr} {n c : Nat} {L : List Nat} {q q2 : Qs} {LC LS : List Value} (h : Pd w U g gc gs a n c L q LC LS) (hb : But (· = g) U U2) (ht : Tp U2 g a n c L q2) : Pd w U2 g gc gs a n c L q2 LC LS :=
  h.gs (hb.mono (fun k hk => .inl hk)) ht (h.bs.but hb (by have := h.o2; have := h.o3; omega))
theorem Pd.goC {w U U2 : World} {g gc gs : Nat} {a : Option Addr} {n c : Nat} {L : List Nat} {q q2 : Qs} {LC LS : List Value} (h : Pd w U g gc gs a n c L q LC LS) (j : Nat) (v y : Value) (hy : LC[j]? = some y) (hb : But (· = g) U U2) (ht : Tp U2 g a n c L q2) :
    (U2.cell? ⟨gc, j, none⟩ = some y ∧ U2.frozen? ⟨gc, j, none⟩ = false) ∧ Pd w (U2.setCell ⟨gc, j, none⟩ v) g gc gs a n c L q2 (LC.set j v) LS := by
  have h2 := h.went hb ht
  have hj := (List.getElem?_eq_some_iff.1 hy).1
  have e1 := h.o1
  have e2 := h.o2
  have e3 := h.o3
  have hbS : But (· = gc) U2 (U2.setCell ⟨gc, j, none⟩ v) := but_set (Below.refl _ _) gc j v
  exact ⟨⟨h2.bc.cell j hy, by have := (h2.bc.there j hj).2; rwa [Nat.zero_add] at this⟩, ⟨h2.tp.but hbS (by omega) (fun h0 k hk e => by have := h.ab h0 k hk; omega), But.below h2.bt hbS (fun k hk => by omega), h2.r2.but hbS (by omega), h2.r3.but hbS (by omega), h2.bc.set1 j v hj, h2.bs.but hbS (by omega), e1, e2, e3, h.ab⟩⟩
theorem Pd.putS {w U : World} {g gc gs : Nat} {a : Option Addr} {n c : Nat} {L : List Nat} {q : Qs} {LC LS : List Value} (h : Pd w U g gc gs a n c L q LC LS) (j : Nat) (v : Value) (hj : j < LS.length) : Pd w (U.setCell ⟨gs, j, none⟩ v) g gc gs a n c L q LC (LS.set j v) := by
  have e1 := h.o1
  have e2 := h.o2
  have e3 := h.o3
  have hbS : But (· = gs) U (U.setCell ⟨gs, j, none⟩ v) := but_set (Below.refl _ _) gs j v
  exact h.gs (hbS.mono (fun k hk => .inr hk)) (h.tp.but hbS (by omega) (fun h0 k hk e => by have := h.ab h0 k hk; omega)) (h.bs.set1 j v hj)
theorem Pd.goS {w U U2 : World} {g gc gs : Nat} {a : Option Addr} {n c : Nat} {L : List Nat} {q q2 : Qs} {LC LS : List Value} (h : Pd w U g gc gs a n c L q LC LS) (j : Nat) (v y : Value) (hy : LS[j]? = some y) (hb : But (· = g) U U2) (ht : Tp U2 g a n c L q2) :
    (U2.cell? ⟨gs, j, none⟩ = some y ∧ U2.frozen? ⟨gs, j, none⟩ = false) ∧ Pd w (U2.setCell ⟨gs, j, none⟩ v) g gc gs a n c L q2 LC (LS.set j v) := by
  have h2 := h.went hb ht
  have hj := (List.getElem?_eq_some_iff.1 hy).1
  exact ⟨⟨h2.bs.cell j hy, by have := (h2.bs.there j hj).2; rwa [Nat.zero_add] at this⟩, h2.putS j v hj⟩
/-- One is appended to a list that was begun at X. -/
theorem ow_app (t e : TypeId) (z : Value) (k by_ : Nat) (ht : Try.prog.underlying t = some (.slice e)) (hinf : (Try.prog.info? e).map (fun i => (i.zero, i.size, i.bytes)) = some (some z, k, by_)) (hzs : z.cells.size = k) (hk : 0 < k) (hby : by_ ≤ 1000)
    {U U4 : World} {S : Nat → Prop} {base : Nat} {a : Option Addr} {n c : Nat} {L cs : List Value} (hO : Ow U base e k a n c L) (hbU : base ≤ U.heap.size) (hb : But S U U4) (hS : ∀ k, S k → k < base) (hl : cs.length = k) (h1 : ∀ u ∈ cs, u.oneCell' = true) (hn : n + 1 ≤ 100000) :
    ∃ a5 c5 w5, (Builtin.append_ #[t, t] t #[.slice a n c, .slice (some ⟨U4.heap.size, 0, none⟩) 1 1]).run Try.prog (U4.alloc (Obj.cells cs.toArray e)) = .ok (.slice a5 (n + 1) c5) w5 ∧ Ow w5 base e k a5 (n + 1) c5 (L ++ cs) ∧ But (Blk a) U4 w5 ∧ (∀ j, Blk a j → base ≤ j ∧ j < U.heap.size) ∧ Ow U4 base e k a n c L := by
  have hO4 := hO.but hb (fun j hj hk2 => by have := hO.blk j hj; have := hS j hk2; omega)
  obtain ⟨a5, c5, w5, hrun, hO5, hbut, _⟩ := ow_snoc t e z k by_ ht hinf hzs hk (cs := cs) hO4 hl h1 (Nat.le_trans hbU hb.size) hn hby
  exact ⟨a5, c5, w5, hrun, hO5, hbut, fun j hj => hO.blk j hj, hO4⟩
structure PrD (w : World) (base : Nat) (a : Option Addr) (n c : Nat) (Q : List (Pc × Sl)) : Prop where
  len : Q.length = n
  row : Ow w base 51 2 a n c (Q.map encP).flatten
  each : ∀ p ∈ Q, p.2.n ≤ 255 ∧ Ow w base 65 3 p.2.a p.2.n p.2.c (p.1.l.map encC).flatten
theorem PrD.but {S : Nat → Prop} {w w' : World} {base : Nat} {a : Option Addr} {n c : Nat} {Q : List (Pc × Sl)} (h : PrD w base a n c Q) (hb : But S w w') (hS : ∀ k, base ≤ k → k < w.heap.size → ¬ S k) : PrD w' base a n c Q :=
  ⟨h.len, h.row.but hb (fun j hj => hS j (h.row.blk j hj).1 (h.row.blk j hj).2), fun p hp => ⟨(h.each p hp).1, (h.each p hp).2.but hb (fun k hk => hS k ((h.each p hp).2.blk k hk).1 ((h.each p hp).2.blk k hk).2)⟩⟩
end Go.Proofs.Ythfmmfphnimlnaa
namespace Go.Proofs.Ythfmmfphnimlnaa
open Go.RowKit
set_option linter.unusedVariables false
set_option linter.unusedSimpArgs false
theorem oTake (g : Nat) (a : Option Addr) (n c : Nat) (L : List Nat) (q : Qs) (hs : Sml q) :
    (∀ U, Tp U g a n c L q → Calls Try.prog 26 #[.pointer (some ⟨g, 0, none⟩), .int .i64 8] U fun x w' => x = .returned (.int .i64 (dV q 8)) ∧ Tp w' g a n c L (dS q 8) ∧ But (· = g) U w')
    ∧ (∀ U, Tp U g a n c L (dS q 8) → Calls Try.prog 26 #[.pointer (some ⟨g, 0, none⟩), .int .i64 2] U fun x w' => x = .returned (.int .i64 (dK (dS q 8) 2 : Int)) ∧ Tp w' g a n c L (dS (dS q 8) 2) ∧ But (· = g) U w')
    ∧ (∀ U, Tp U g a n c L (dS (dS q 8) 2) → Calls Try.prog 25 #[.pointer (some ⟨g, 0, none⟩), .int .i64 (dK (dS q 8) 2 : Int)] U fun x w' => ∃ a' m' c', x = .returned (.slice a' m' c') ∧ Own w' U.heap.size a' m' c' (rD (dS (dS q 8) 2) (dK (dS q 8) 2)) ∧ Tp w' g a n c L (dS (dS (dS q 8) 2) (dK (dS q 8) 2)) ∧ But (· = g) U w') := by
  refine ⟨fun U hU => dtake8 g a n c L q U hU, fun U hU => ?_, fun U hU => drow_any _ g a n c L _ U hU (by have := dK_lt (hs.dS 8) 2; omega)⟩
  have := dtake2 g a n c L (dS q 8) U hU
  rw [dV_dK (hs.dS 8) (by omega)] at this
  exact this
theorem ob_app {X U U4 : World} {g : Nat} {a : Option Addr} {j c : Nat} {Q : List (Ob × Sl)} (hX : X.heap.size ≤ U.heap.size) (hO : ObO U X.heap.size a j c Q) (hb : But (· = g) U U4) (hg : g < X.heap.size) (id : Int) (B : List Nat) (a4 : Option Addr) (m4 c4 : Nat) (ho4 : Own U4 U.heap.size a4 m4 c4 B) (hj : j + 1 ≤ 100000) :
    ∃ a5 c5 w5, (Builtin.append_ #[24, 24] 24 #[.slice a j c, .slice (some ⟨U4.heap.size, 0, none⟩) 1 1]).run Try.prog (U4.alloc (Obj.cells #[.int .i64 id, .slice a4 m4 c4] 60)) = .ok (.slice a5 (j + 1) c5) w5 ∧ ObO w5 X.heap.size a5 (j + 1) c5 (Q ++ [(⟨id, B⟩, ⟨a4, m4, c4⟩)]) ∧ But (Blk a) U4 w5 ∧ ∀ k, Blk a k → X.heap.size ≤ k := by
  obtain ⟨a5, c5, w5, hrun, hO5, hbut, hge, hO4⟩ := ow_app 24 60 _ 2 32 Try.underlying24 info2 rfl (by omega) (by omega) (cs := [.int .i64 id, .slice a4 m4 c4]) hO.row hX hb (fun k hk => by omega) rfl (one2 _ _ _ _) hj
  refine ⟨a5, c5, w5, hrun, ⟨by simp [hO.len], by rw [List.map_append, List.flatten_append]; simpa [encO] using hO5, fun p hp => ?_⟩, hbut, fun k hk => (hge k hk).1⟩
  have hap : ∀ {x : Option Addr} {m c' : Nat} {B : List Nat}, Own U4 X.heap.size x m c' B → Own w5 X.heap.size x m c' B := fun hx => hx.but2 hbut (fun k hk hk2 => own_apart hx.row hO4 (by decide) k (Blk.of.2 hk) (Blk.of.2 hk2))
  rcases List.mem_append.1 hp with hp | hp
  · exact hap ((hO.each p hp).but2 hb (fun k hk hk2 => by have := (hO.each p hp).blk k hk; omega))
  · rw [List.mem_singleton.1 hp]
    exact hap (ho4.mono hX)
theorem pr_app {X U U4 : World} {g : Nat} {a : Option Addr} {j c : Nat} {Q : List (Pc × Sl)} (hX : X.heap.size ≤ U.heap.size) (hO : PrD U X.heap.size a j c Q) (hb : But (· = g) U U4) (hg : g < X.heap.size) (id : Int) (B : List Cp) (a4 : Option Addr) (m4 c4 : Nat) (hm4 : m4 ≤ 255) (ho4 : Ow U4 U.heap.size 65 3 a4 m4 c4 (B.map encC).flatten) (hj : j + 1 ≤ 100000) :
    ∃ a5 c5 w5, (Builtin.append_ #[26, 26] 26 #[.slice a j c, .slice (some ⟨U4.heap.size, 0, none⟩) 1 1]).run Try.prog (U4.alloc (Obj.cells #[.int .i64 id, .slice a4 m4 c4] 51)) = .ok (.slice a5 (j + 1) c5) w5 ∧ PrD w5 X.heap.size a5 (j + 1) c5 (Q ++ [(⟨id, B⟩, ⟨a4, m4, c4⟩)]) ∧ But (Blk a) U4 w5 ∧ ∀ k, Blk a k → X.heap.size ≤ k := by
  obtain ⟨a5, c5, w5, hrun, hO5, hbut, hge, hO4⟩ := ow_app 26 51 _ 2 32 Try.underlying26 info2p rfl (by omega) (by omega) (cs := [.int .i64 id, .slice a4 m4 c4]) hO.row hX hb (fun k hk => by omega) rfl (one2 _ _ _ _) hj
  refine ⟨a5, c5, w5, hrun, ⟨by simp [hO.len], by rw [List.map_append, List.flatten_append]; simpa [encP] using hO5, fun p hp => ?_⟩, hbut, fun k hk => (hge k hk).1⟩
  have hap : ∀ {x : Option Addr} {m c' : Nat} {B : List Value}, Ow U4 X.heap.size 65 3 x m c' B → Ow w5 X.heap.size 65 3 x m c' B := fun hx => hx.but hbut (fun k hk hk2 => own_apart hx hO4 (by decide) k (Blk.of.2 hk) (Blk.of.2 hk2))
  rcases List.mem_append.1 hp with hp | hp
  · exact ⟨(hO.each p hp).1, hap ((hO.each p hp).2.but hb (fun k hk hk2 => by have := (hO.each p hp).2.blk k hk; omega))⟩
  · rw [List.mem_singleton.1 hp]
    exact ⟨hm4, hap (ho4.mono hX)⟩
theorem pTake (g : Nat) (a : Option Addr) (n c : Nat) (L : List Nat) (q : Qs) (hs : Sml q) :
    (∀ U, Tp U g a n c L q → Calls Try.prog 26 #[.pointer (some ⟨g, 0, none⟩), .int .i64 2] U fun x w' => x = .returned (.int .i64 (dV q 2)) ∧ Tp w' g a n c L (dS q 2) ∧ But (· = g) U w')
    ∧ (∀ U, Tp U g a n c L (dS q 2) → Calls Try.prog 26 #[.pointer (some ⟨g, 0, none⟩), .int .i64 1] U fun x w' => x = .returned (.int .i64 (dK (dS q 2) 1 : Int)) ∧ Tp w' g a n c L (dS (dS q 2) 1) ∧ But (· = g) U w') := by
  refine ⟨fun U hU => dtake2 g a n c L q U hU, fun U hU => ?_⟩
  have := dtake1 g a n c L (dS q 2) U hU
  rw [dV_dK (hs.dS 2) (by omega)] at this
  exact this
theorem nTake (g : Nat) (a : Option Addr) (n c : Nat) (L : List Nat) (q : Qs) (hs : Sml q) :
    ∀ U, Tp U g a n c L q → Calls Try.prog 26 #[.pointer (some ⟨g, 0, none⟩), .int .i64 2] U fun x w' => x = .returned (.int .i64 (dK q 2 : Int)) ∧ Tp w' g a n c L (dS q 2) ∧ But (· = g) U w' := fun U hU => by
  have := dtake2 g a n c L q U hU
  rw [dV_dK hs (by omega)] at this
  exact this
/-- The lists that were read are a state's. -/
theorem sm_d {U : World} {b1 b2 b3 : Nat} {s : St} {a b d : Sl} {Q : List (Ob × Sl)} {R : List (Pc × Sl)} (hO : ObO U b1 a.a a.n a.c Q) (hT : Ow U b2 67 5 b.a b.n b.c (s.T.map encT).flatten) (hP : PrD U b3 d.a d.n d.c R) (e1 : Q.map Prod.fst = s.O) (e3 : R.map Prod.fst = s.P) (n1 : a.n < 65536) (n2 : b.n < 65536) (n3 : d.n < 65536)
    (o1 : ∀ x ∈ s.O, x.b.length ≤ 65535) (o2 : ∀ x ∈ s.T, x.c.ok) (o3 : ∀ x ∈ s.P, (∀ y ∈ x.l, y.ok) ∧ x.l.length ≤ 255) : Sm U s a b d Q R := by
  have hQ : ∀ p ∈ Q, p.1 ∈ s.O := fun p hp => by rw [← e1]; exact List.mem_map.2 ⟨p, hp, rfl⟩
  have hR : ∀ p ∈ R, p.1 ∈ s.P := fun p hp => by rw [← e3]; exact List.mem_map.2 ⟨p, hp, rfl⟩
  refine ⟨e1, hO.row.at_ (len2 Q encO (fun _ => rfl)) (Nat.succ_pos _), fun p hp => (hO.each p hp).read, hT.at_ (fun x hx => by obtain ⟨y, _, rfl⟩ := List.mem_map.1 hx; rfl) (Nat.succ_pos _), e3, hP.row.at_ (len2 R encP (fun _ => rfl)) (Nat.succ_pos _), fun p hq => (hP.each p hq).2.at_ (fun x hx => by obtain ⟨y, _, rfl⟩ := List.mem_map.1 hx; rfl) (Nat.succ_pos _), o2, fun p hq => (o3 p.1 (hR p hq)).1, by omega, by omega, by omega, fun p hq => ?_, fun p hq => by have := (hP.each p hq).1; omega⟩
  rw [← (hO.each p hq).len]
  have := o1 p.1 (hQ p hq)
  omega
theorem sm_fin {Zw Z2 : World} {g gs bX bY bZ : Nat} {s : St} {a b d : Sl} {Q : List (Ob × Sl)} {R : List (Pc × Sl)} (hO : ObO Zw bX a.a a.n a.c Q) (hT : Ow Zw bY 67 5 b.a b.n b.c (s.T.map encT).flatten) (hb : But (GS g gs) Zw Z2) (hP : PrD Z2 bZ d.a d.n d.c R) (hg : g < bX) (hgs : gs < bX) (l1 : bX ≤ bY) (l2 : bY ≤ bZ) (e1 : Q.map Prod.fst = s.O) (e3 : R.map Prod.fst = s.P) (n1 : a.n < 65536) (n2 : b.n < 65536) (n3 : d.n < 65536)
    (o1 : ∀ x ∈ s.O, x.b.length ≤ 65535) (o2 : ∀ x ∈ s.T, x.c.ok) (o3 : ∀ x ∈ s.P, (∀ y ∈ x.l, y.ok) ∧ x.l.length ≤ 255) : ∀ (S : Nat → Prop) (U' : World), But S Z2 U' → (∀ k, bX ≤ k → ¬ S k) → Sm U' s a b d Q R := by
  intro S U' hbu hS
  have hO2 := (hO.but hb (fun k h1 _ e => by rcases e with e | e <;> omega)).but hbu (fun k h1 _ e => hS k h1 e)
  have hT1 := hT.but hb (fun i hi e => by have := hT.blk i hi; rcases e with e | e <;> omega)
  have hT2 := hT1.but hbu (fun i hi e => hS i (by have := hT1.blk i hi; omega) e)
  have hP2 := hP.but hbu (fun k h1 _ e => hS k (by omega) e)
  exact sm_d hO2 hT2 hP2 e1 e3 n1 n2 n3 o1 o2 o3
end Go.Proofs.Ythfmmfphnimlnaa
namespace Go.Proofs.Ythfmmfphnimlnaa
open Go.RowKit
set_option linter.unusedVariables false
set_option linter.unusedSimpArgs false
/-! Both readings agree. -/
theorem dS_mono {q : Qs} {m : Nat} (h : (dS q m).2 = false) : q.2 = false ∧ ¬ q.1.length < m := by
  unfold dS at h
  by_cases hl : q.1.length < m
  · rw [if_pos hl] at h; simp at h
  · rw [if_neg hl] at h; exact ⟨h, hl⟩
theorem dS_ok {q : Qs} {m : Nat} (hl : ¬ q.1.length < m) : dS q m = (q.1.drop m, q.2) := by unfold dS; rw [if_neg hl]
theorem dV_ok {q : Qs} {m : Nat} (hl : ¬ q.1.length < m) : dV q m = IntKind.i64.wrap (valL (q.1.take m) : Int) := by unfold dV; rw [if_neg hl]
theorem val_lt8 {q : Qs} (hs : Sml q) {k : Nat} (hk : k ≤ 8) (hl : ¬ q.1.length < k) : valL (q.1.take k) < 18446744073709551616 := by
  have h1 := valL_take_lt q.1 k (by omega) hs
  have h2 : (256 : Nat) ^ k ≤ 256 ^ 8 := Nat.pow_le_pow_right (by omega) hk
  have h3 : (256 : Nat) ^ 8 = 18446744073709551616 := by decide
  omega
theorem nm_form {q : Qs} {k : Nat} {m : Int} (hk : okW (k : Int)) (hm : 0 ≤ m) :
    (q.1.length < k → intE q.1 k m ≠ 0) ∧ (¬ q.1.length < k → (intE q.1 k m = 0 ↔ (valL (q.1.take k) : Int) ≤ m) ∧ ((valL (q.1.take k) : Int) ≤ m → nmV q k m = valL (q.1.take k) ∧ nmS q k m = (q.1.drop k, q.2))) := by
  have e1 : lookE q.1 k = getE q.1 k := by unfold lookE; rw [if_pos hk]; simp
  have e2 : lookV q.1 k = getV q.1 k := by unfold lookV; rw [if_pos hk]; simp
  constructor
  · intro hl
    have g := get_short hl
    unfold intE
    rw [if_neg (by omega), e1, g.2]
    simp
  · intro hl
    have g := get_full hl
    have e3 : intE q.1 k m = if m < ((valL (q.1.take k) : Nat) : Int) then 5 else 0 := by
      unfold intE
      rw [if_neg (by omega), e1, g.2, e2, g.1]
      simp
    refine ⟨?_, fun hle => ?_⟩
    · rw [e3]
      by_cases h : m < ((valL (q.1.take k) : Nat) : Int)
      · rw [if_pos h]; simp; omega
      · rw [if_neg h]; simp; omega
    · have e4 : intE q.1 k m = 0 := by rw [e3, if_neg (by omega)]
      constructor
      · unfold nmV intV; rw [if_pos e4, e2, g.1]
      · unfold nmS intN
        rw [e4, if_pos rfl]
        simp
theorem nm_s {q : Qs} {k : Nat} {m : Int} (hk : okW (k : Int)) (hm : 0 ≤ m) (hM : m < 9223372036854775808) (hs : Sml q) (h : (nmS q k m).2 = false) : q.2 = false ∧ dV q k = (nmV q k m : Int) ∧ dS q k = nmS q k m := by
  have f := nm_form (q := q) hk hm
  have h' : (q.2 || decide (intE q.1 k m ≠ 0)) = false := h
  rw [Bool.or_eq_false_iff, decide_eq_false_iff_not, Decidable.not_not] at h'
  have hl : ¬ q.1.length < k := fun hl => f.1 hl h'.2
  have hle := ((f.2 hl).1).1 h'.2
  obtain ⟨e1, e2⟩ := (f.2 hl).2 hle
  refine ⟨h'.1, ?_, ?_⟩
  · rw [dV_ok hl, e1, IntKind.wrap_i64]; omega
  · rw [dS_ok hl, e2]
theorem nm_c {q : Qs} {k : Nat} {m : Int} (hk : okW (k : Int)) (hm : 0 ≤ m) (hM : m < 9223372036854775808) (hs : Sml q) (h : (dS q k).2 = false) (h0 : 0 ≤ dV q k) (h1 : dV q k ≤ m) : (nmV q k m : Int) = dV q k ∧ nmS q k m = dS q k := by
  have f := nm_form (q := q) hk hm
  obtain ⟨hq, hl⟩ := dS_mono h
  have hk8 : k ≤ 8 := by rcases hk with h | h | h | h <;> omega
  have hv := val_lt8 hs hk8 hl
  rw [dV_ok hl, IntKind.wrap_i64] at h0 h1
  have hle : (valL (q.1.take k) : Int) ≤ m := by omega
  obtain ⟨e1, e2⟩ := (f.2 hl).2 hle
  exact ⟨by rw [dV_ok hl, e1, IntKind.wrap_i64]; omega, by rw [dS_ok hl, e2]⟩
theorem ok1 : okW ((1 : Nat) : Int) := .inl rfl
theorem ok2 : okW ((2 : Nat) : Int) := .inr (.inl rfl)
theorem ok4 : okW ((4 : Nat) : Int) := .inr (.inr (.inl rfl))
theorem ok8 : okW ((8 : Nat) : Int) := .inr (.inr (.inr rfl))
theorem nm2_c {q : Qs} (hs : Sml q) (h : (dS q 2).2 = false) : (nmV q 2 65535 : Int) = dV q 2 ∧ nmS q 2 65535 = dS q 2 := by
  have h1 := dK_lt hs 2
  have h2 := dV_dK hs (m := 2) (by omega)
  exact nm_c (k := 2) (m := 65535) ok2 (by omega) (by omega) hs h (by omega) (by omega)
theorem row_form {q : Qs} (m : Nat) : (q.1.length < m → rowE q.1 m ≠ 0) ∧ (¬ q.1.length < m → rowE q.1 m = 0 ∧ rwN q m = m ∧ rwS q m = (q.1.drop m, q.2)) := by
  constructor
  · intro hl
    unfold rowE
    rw [if_neg (by omega), if_pos (by omega)]
    simp
  · intro hl
    have e : rowE q.1 m = 0 := by unfold rowE; rw [if_neg (by omega), if_neg (by omega)]
    refine ⟨e, by unfold rwN rowN; rw [if_pos e]; simp, ?_⟩
    unfold rwS rowN
    rw [e, if_pos rfl]
    simp
theorem row_s {q : Qs} {m : Nat} (h : (rwS q m).2 = false) : q.2 = false ∧ rD q m = q.1.take (rwN q m) ∧ dS q m = rwS q m := by
  have f := row_form (q := q) m
  have h' : (q.2 || decide (rowE q.1 m ≠ 0)) = false := h
  rw [Bool.or_eq_false_iff, decide_eq_false_iff_not, Decidable.not_not] at h'
  have hl : ¬ q.1.length < m := fun hl => f.1 hl h'.2
  obtain ⟨_, e1, e2⟩ := f.2 hl
  exact ⟨h'.1, by unfold rD; rw [if_neg hl, e1], by rw [dS_ok hl, e2]⟩
theorem row_c {q : Qs} {m : Nat} (h : (dS q m).2 = false) : rD q m = q.1.take (rwN q m) ∧ dS q m = rwS q m := by
  obtain ⟨hq, hl⟩ := dS_mono h
  obtain ⟨_, e1, e2⟩ := (row_form (q := q) m).2 hl
  exact ⟨by unfold rD; rw [if_neg hl, e1], by rw [dS_ok hl, e2]⟩
theorem cap_form {q : Qs} (hs : Sml q) (hl : ¬ q.1.length < 24) : cDS q = (q.1.drop 24, q.2) ∧ (q.2 = false → cDV q = ⟨IntKind.i64.wrap (loV q.1 : Int), hiV (q.1.drop 8), loV (q.1.drop 8)⟩) := by
  have e1 : dS q 8 = (q.1.drop 8, q.2) := dS_ok (by omega)
  have hl2 : ¬ (q.1.drop 8).length < 16 := by rw [List.length_drop]; omega
  have e2 : dS (q.1.drop 8, q.2) 16 = (q.1.drop 24, q.2) := by rw [dS_ok (q := (q.1.drop 8, q.2)) hl2]; simp [List.drop_drop]
  have e3 : rD (q.1.drop 8, q.2) 16 = (q.1.drop 8).take 16 := by unfold rD; rw [if_neg hl2]
  refine ⟨by unfold cDS; rw [e1, e2], fun hq => ?_⟩
  unfold cDV
  rw [e1, e2, if_neg (by simp [hq]), e3, dV_ok (q := q) (by omega)]
  have hs8 : ∀ x ∈ q.1.drop 8, x < 256 := fun x hx => hs x (List.mem_of_mem_drop hx)
  have hsp : valL ((q.1.drop 8).take 16) = loV (q.1.drop 8) + 18446744073709551616 * hiV (q.1.drop 8) := by
    have e : (q.1.drop 8).take 16 = (q.1.drop 8).take 8 ++ ((q.1.drop 8).drop 8).take 8 := by
      rw [show (16 : Nat) = 8 + 8 from rfl, List.take_add]
    rw [e, valL_append, List.length_take, show min 8 (q.1.drop 8).length = 8 by omega]
    rfl
  have h1 : loV (q.1.drop 8) < 18446744073709551616 := val8 hs8
  rw [hsp, show B64 = 18446744073709551616 from rfl]
  congr 1
  · omega
  · omega
theorem cp_s {q : Qs} (hs : Sml q) (h : (cpS q).2 = false) : q.2 = false ∧ cDV q = cpV q ∧ cDS q = cpS q := by
  have h' : (q.2 || decide (capE q.1 ≠ 0)) = false := h
  rw [Bool.or_eq_false_iff, decide_eq_false_iff_not, Decidable.not_not] at h'
  obtain ⟨hq, hE⟩ := h'
  have hE' := hE
  unfold capE at hE'
  by_cases hl : q.1.length < 24
  · rw [if_pos hl] at hE'; simp at hE'
  · rw [if_neg hl] at hE'
    by_cases hm : 4611686018427387904 < loV q.1
    · rw [if_pos hm] at hE'; simp at hE'
    · obtain ⟨e1, e2⟩ := cap_form hs hl
      refine ⟨hq, ?_, ?_⟩
      · rw [e2 hq]
        unfold cpV capObj capHi capLo
        have ew : IntKind.i64.wrap (loV q.1 : Int) = (loV q.1 : Int) := by rw [IntKind.wrap_i64]; omega
        rw [if_pos hE, if_pos hE, if_pos hE, ew]
      · rw [e1]; unfold cpS capN; rw [hE, if_pos rfl]; simp
theorem cp_c {q : Qs} (hs : Sml q) (h : (cDS q).2 = false) (h0 : 0 ≤ (cDV q).o) (h1 : (cDV q).o ≤ MI) : cpV q = cDV q ∧ cpS q = cDS q := by
  obtain ⟨ha, hb⟩ := dS_mono h
  obtain ⟨hq, hc⟩ := dS_mono ha
  have hl : ¬ q.1.length < 24 := by
    rw [dS_ok hc] at hb
    simp at hb
    omega
  obtain ⟨e1, e2⟩ := cap_form hs hl
  have hv : loV q.1 < 18446744073709551616 := val8 hs
  rw [e2 hq] at h0 h1
  simp only [IntKind.wrap_i64, show MI = 4611686018427387904 from rfl] at h0 h1
  have hE : capE q.1 = 0 := by unfold capE; rw [if_neg hl, if_neg (by omega)]
  refine ⟨?_, ?_⟩
  · rw [e2 hq]
    unfold cpV capObj capHi capLo
    have ew : IntKind.i64.wrap (loV q.1 : Int) = (loV q.1 : Int) := by rw [IntKind.wrap_i64]; omega
    rw [if_pos hE, if_pos hE, if_pos hE, ew]
  · rw [e1]; unfold cpS capN; rw [hE, if_pos rfl]; simp
theorem rd_s {α : Type} {fi fd : Qs → α × Qs} (hi : ∀ q, Sml q → (fi q).2.2 = false → q.2 = false ∧ fd q = fi q) (hsm : ∀ q, Sml q → Sml (fi q).2) : ∀ n q, Sml q → (rdL fi n q).2.2 = false → q.2 = false ∧ rdD fd n q = rdL fi n q
  | 0, q, hs, h => ⟨h, rfl⟩
  | n + 1, q, hs, h => by
    obtain ⟨h1, h2⟩ := rd_s hi hsm n (fi q).2 (hsm q hs) h
    obtain ⟨h3, h4⟩ := hi q hs h1
    refine ⟨h3, ?_⟩
    rw [rdD, if_neg (by rw [h3]; simp), h4, h2]
    rfl
theorem rd_c {α : Type} {fi fd : Qs → α × Qs} {P : α → Prop} (hc : ∀ q, Sml q → (fd q).2.2 = false → P (fd q).1 → q.2 = false ∧ fi q = fd q) (hmo : ∀ q, (fd q).2.2 = false → q.2 = false) (hsm : ∀ q, Sml q → Sml (fd q).2) : ∀ n q, Sml q → (rdD fd n q).2.2 = false → (∀ x ∈ (rdD fd n q).1, P x) → q.2 = false ∧ rdL fi n q = rdD fd n q ∧ (rdD fd n q).1.length = n
  | 0, q, hs, h, _ => ⟨h, rfl, rfl⟩
  | n + 1, q, hs, h, hP => by
    rw [rdD] at h hP ⊢
    by_cases hb : q.2 = true
    · rw [if_pos hb] at h; rw [h] at hb; simp at hb
    · rw [if_neg hb] at h hP ⊢
      obtain ⟨h1, h2, h3⟩ := rd_c hc hmo hsm n (fd q).2 (hsm q hs) h (fun x hx => hP x (List.mem_cons_of_mem _ hx))
      obtain ⟨h4, h5⟩ := hc q hs h1 (hP _ List.mem_cons_self)
      refine ⟨h4, ?_, by simp [h3]⟩
      rw [rdL, h5, h2]
theorem rdD_mono {α : Type} {fd : Qs → α × Qs} (hmo : ∀ q, (fd q).2.2 = false → q.2 = false) : ∀ n q, (rdD fd n q).2.2 = false → q.2 = false
  | 0, q, h => h
  | n + 1, q, h => by
    rw [rdD] at h
    by_cases hb : q.2 = true
    · rw [if_pos hb] at h; exact h
    · simpa using hb
theorem cS_sml {q : Qs} (h : Sml q) (k m : Int) : Sml (nmS q k m) := nm_sm h
theorem ob_s (q : Qs) (hs : Sml q) (h : (rdO q).2.2 = false) : q.2 = false ∧ oD q = rdO q := by
  have s1 : Sml (oq1 q) := cS_sml hs _ _
  have s2 : Sml (oq2 q) := cS_sml s1 _ _
  obtain ⟨a1, a2, a3⟩ := row_s (q := oq2 q) (m := onB q) h
  obtain ⟨b1, b2, b3⟩ := nm_s (q := oq1 q) (k := 2) (m := 4096) ok2 (by omega) (by omega) s1 a1
  obtain ⟨c1, c2, c3⟩ := nm_s (q := q) (k := 8) (m := MI) ok8 (by decide) (by decide) hs b1
  have e1 : dS q 8 = oq1 q := c3
  have e2 : dS (oq1 q) 2 = oq2 q := b3
  have e3 : dK (oq1 q) 2 = onB q := by
    have := dV_dK s1 (m := 2) (by omega)
    rw [b2] at this
    exact (Int.ofNat.inj this).symm
  refine ⟨c1, ?_⟩
  unfold oD rdO
  rw [e1, e2, e3, a2, a3, c2]
  rfl
def PO (o : Ob) : Prop := 0 ≤ o.id ∧ o.id ≤ MI ∧ o.b.length ≤ 4096
theorem ob_c (q : Qs) (hs : Sml q) (h : (oD q).2.2 = false) (hP : PO (oD q).1) : q.2 = false ∧ rdO q = oD q := by
  obtain ⟨a1, a2⟩ := dS_mono (q := dS (dS q 8) 2) (m := dK (dS q 8) 2) h
  obtain ⟨b1, b2⟩ := dS_mono (q := dS q 8) (m := 2) a1
  obtain ⟨c1, c2⟩ := dS_mono (q := q) (m := 8) b1
  have s1 : Sml (dS q 8) := hs.dS 8
  obtain ⟨p1, p2, p3⟩ := hP
  have hrl : (rD (dS (dS q 8) 2) (dK (dS q 8) 2)).length = dK (dS q 8) 2 := rD_len h
  have p3' : dK (dS q 8) 2 ≤ 4096 := by rw [← hrl]; exact p3
  obtain ⟨f1, f2⟩ := nm_c (q := q) (k := 8) (m := MI) ok8 (by decide) (by decide) hs b1 p1 p2
  have hv := dV_dK s1 (m := 2) (by omega)
  obtain ⟨g1, g2⟩ := nm_c (q := dS q 8) (k := 2) (m := 4096) ok2 (by omega) (by omega) s1 a1 (by omega) (by omega)
  obtain ⟨r1, r2⟩ := row_c (q := dS (dS q 8) 2) (m := dK (dS q 8) 2) h
  have e1 : oq1 q = dS q 8 := f2
  have e2 : oq2 q = dS (dS q 8) 2 := by unfold oq2; rw [e1]; exact g2
  have e3 : onB q = dK (dS q 8) 2 := by
    unfold onB
    rw [e1]
    rw [hv] at g1
    exact Int.ofNat.inj g1
  have f1' : (nmV q 8 MI : Int) = dV q 8 := f1
  refine ⟨c1, ?_⟩
  unfold oD rdO
  rw [e2, e3, ← r1, ← r2, f1']
theorem tk_s (q : Qs) (hs : Sml q) (h : (rdT q).2.2 = false) : q.2 = false ∧ tD q = rdT q := by
  have s1 : Sml (cpS q) := cp_sm hs
  have s2 : Sml (nmS (cpS q) 1 255) := cS_sml s1 _ _
  obtain ⟨a1, a2, a3⟩ := nm_s (q := nmS (cpS q) 1 255) (k := 2) (m := 65535) ok2 (by omega) (by omega) s2 h
  obtain ⟨b1, b2, b3⟩ := nm_s (q := cpS q) (k := 1) (m := 255) ok1 (by omega) (by omega) s1 a1
  obtain ⟨c1, c2, c3⟩ := cp_s hs b1
  refine ⟨c1, ?_⟩
  have b2' : dV (cpS q) 1 = (nmV (cpS q) 1 255 : Int) := b2
  have b3' : dS (cpS q) 1 = nmS (cpS q) 1 255 := b3
  have a2' : dV (nmS (cpS q) 1 255) 2 = (nmV (nmS (cpS q) 1 255) 2 65535 : Int) := a2
  have a3' : dS (nmS (cpS q) 1 255) 2 = nmS (nmS (cpS q) 1 255) 2 65535 := a3
  unfold tD tDV tDS rdT
  rw [c2, c3, b3', b2', a3', a2']
  have : pDV (nmV (nmS (cpS q) 1 255) 2 65535 : Int) = paV (nmS (cpS q) 1 255) := by
    unfold pDV paV
    by_cases e : nmV (nmS (cpS q) 1 255) 2 65535 = 65535
    · rw [if_pos e, if_pos (by omega)]
    · rw [if_neg e, if_neg (by omega)]
  rw [this]
def PT (t : Tk) : Prop := 0 ≤ t.c.o ∧ t.c.o ≤ MI
theorem tk_c (q : Qs) (hs : Sml q) (h : (tD q).2.2 = false) (hP : PT (tD q).1) : q.2 = false ∧ rdT q = tD q := by
  obtain ⟨a1, a2⟩ := dS_mono (q := dS (cDS q) 1) (m := 2) h
  obtain ⟨b1, b2⟩ := dS_mono (q := cDS q) (m := 1) a1
  have c1 := (dS_mono (dS_mono (q := dS q 8) (m := 16) b1).1).1
  obtain ⟨f1, f2⟩ := cp_c hs b1 hP.1 hP.2
  have s1 : Sml (cDS q) := hs.cDS
  have k1 := dV_dK s1 (m := 1) (by omega)
  have k2 := dK_lt s1 1
  obtain ⟨g1, g2⟩ := nm_c (q := cDS q) (k := 1) (m := 255) ok1 (by omega) (by omega) s1 a1 (by omega) (by omega)
  obtain ⟨r1, r2⟩ := nm2_c (q := dS (cDS q) 1) (s1.dS 1) h
  have g1' : (nmV (cDS q) 1 255 : Int) = dV (cDS q) 1 := g1
  have g2' : nmS (cDS q) 1 255 = dS (cDS q) 1 := g2
  refine ⟨c1, ?_⟩
  unfold tD tDV tDS rdT
  rw [f1, f2, g2', g1', r2]
  have : paV (dS (cDS q) 1) = pDV (dV (dS (cDS q) 1) 2) := by
    unfold pDV paV
    rw [← r1]
    by_cases e : nmV (dS (cDS q) 1) 2 65535 = 65535
    · rw [if_pos e, if_pos (by omega)]
    · rw [if_neg e, if_neg (by omega)]
  rw [this]
theorem c_s (q : Qs) (hs : Sml q) (h : (rdC q).2.2 = false) : q.2 = false ∧ cD q = rdC q := by
  obtain ⟨a, b, c⟩ := cp_s hs h
  exact ⟨a, by unfold cD rdC; rw [b, c]⟩
theorem cD_mono (q : Qs) (h : (cD q).2.2 = false) : q.2 = false := (dS_mono (dS_mono (q := dS q 8) (m := 16) h).1).1
theorem oD_mono (q : Qs) (h : (oD q).2.2 = false) : q.2 = false := (dS_mono (dS_mono (dS_mono (q := dS (dS q 8) 2) h).1).1).1
theorem tD_mono (q : Qs) (h : (tD q).2.2 = false) : q.2 = false := cD_mono q (dS_mono (dS_mono (q := dS (cDS q) 1) (m := 2) h).1).1
theorem pD_mono (q : Qs) (h : (pD q).2.2 = false) : q.2 = false := (dS_mono (dS_mono (rdD_mono cD_mono _ _ h)).1).1
def PCp (x : Cp) : Prop := 0 ≤ x.o ∧ x.o ≤ MI
theorem c_c (q : Qs) (hs : Sml q) (h : (cD q).2.2 = false) (hP : PCp (cD q).1) : q.2 = false ∧ rdC q = cD q := by
  obtain ⟨a, b⟩ := cp_c hs h hP.1 hP.2
  exact ⟨cD_mono q h, by unfold cD rdC; rw [a, b]⟩
theorem p_s (q : Qs) (hs : Sml q) (h : (rdP q).2.2 = false) : q.2 = false ∧ pD q = rdP q := by
  have s1 : Sml (nmS q 2 65535) := cS_sml hs _ _
  have s2 : Sml (nmS (nmS q 2 65535) 1 32) := cS_sml s1 _ _
  obtain ⟨a1, a2⟩ := rd_s (fi := rdC) (fd := cD) c_s (fun q h => cp_sm h) (nmV (nmS q 2 65535) 1 32) (nmS (nmS q 2 65535) 1 32) s2 h
  obtain ⟨b1, b2, b3⟩ := nm_s (q := nmS q 2 65535) (k := 1) (m := 32) ok1 (by omega) (by omega) s1 a1
  obtain ⟨c1, c2, c3⟩ := nm_s (q := q) (k := 2) (m := 65535) ok2 (by omega) (by omega) hs b1
  have c2' : dV q 2 = (nmV q 2 65535 : Int) := c2
  have c3' : dS q 2 = nmS q 2 65535 := c3
  have b3' : dS (nmS q 2 65535) 1 = nmS (nmS q 2 65535) 1 32 := b3
  have e3 : dK (nmS q 2 65535) 1 = nmV (nmS q 2 65535) 1 32 := by
    have := dV_dK s1 (m := 1) (by omega)
    rw [b2] at this
    exact (Int.ofNat.inj this).symm
  refine ⟨c1, ?_⟩
  unfold pD rdP lsV lsS
  rw [c2', c3', b3', e3, a2]
def PP (p : Pc) : Prop := p.l.length ≤ 32 ∧ ∀ x ∈ p.l, PCp x
theorem p_c (q : Qs) (hs : Sml q) (h : (pD q).2.2 = false) (hP : PP (pD q).1) : q.2 = false ∧ rdP q = pD q := by
  have s1 : Sml (dS q 2) := hs.dS 2
  have h' : (rdD cD (dK (dS q 2) 1) (dS (dS q 2) 1)).2.2 = false := h
  obtain ⟨a1, a2, a3⟩ := rd_c (fi := rdC) (fd := cD) (P := PCp) c_c cD_mono (fun q h => h.cDS) (dK (dS q 2) 1) (dS (dS q 2) 1) (s1.dS 1) h' hP.2
  obtain ⟨b1, b2⟩ := dS_mono (q := dS q 2) (m := 1) a1
  obtain ⟨f1, f2⟩ := nm2_c hs b1
  have hk : dK (dS q 2) 1 ≤ 32 := by rw [← a3]; exact hP.1
  have hv := dV_dK s1 (m := 1) (by omega)
  obtain ⟨g1, g2⟩ := nm_c (q := dS q 2) (k := 1) (m := 32) ok1 (by omega) (by omega) s1 a1 (by omega) (by omega)
  have g2' : nmS (dS q 2) 1 32 = dS (dS q 2) 1 := g2
  have e3 : nmV (dS q 2) 1 32 = dK (dS q 2) 1 := by rw [hv] at g1; exact Int.ofNat.inj g1
  refine ⟨(dS_mono b1).1, ?_⟩
  unfold pD rdP lsV lsS
  rw [f1, f2, g2', e3, a2]
theorem cfg_s {q : Qs} (hs : Sml q) : ∀ n, (cS q n).2 = false → q.2 = false ∧ (∀ i, i ≤ n → dcS q i = cS q i) ∧ ∀ i, i < n → dV (dcS q i) 2 = (nmV (cS q i) 2 65535 : Int)
  | 0, h => ⟨h, fun i hi => by obtain rfl : i = 0 := by omega
                               rfl, fun i hi => by omega⟩
  | n + 1, h => by
    have s1 : ∀ n, Sml (cS q n) := fun n => by
      induction n with
      | zero => exact hs
      | succ n ih => exact cS_sml ih _ _
    obtain ⟨b1, b2, b3⟩ := nm_s (q := cS q n) (k := 2) (m := 65535) ok2 (by omega) (by omega) (s1 n) h
    obtain ⟨c1, c2, c3⟩ := cfg_s hs n b1
    refine ⟨c1, fun i hi => ?_, fun i hi => ?_⟩
    · by_cases e : i = n + 1
      · subst e
        show dS (dcS q n) 2 = nmS (cS q n) 2 65535
        rw [c2 n (Nat.le_refl _)]
        exact b3
      · exact c2 i (by omega)
    · by_cases e : i = n
      · subst e
        rw [c2 i (Nat.le_refl _)]
        exact b2
      · exact c3 i (by omega)
theorem cfg_c {q : Qs} (hs : Sml q) : ∀ n, (dcS q n).2 = false → q.2 = false ∧ (∀ i, i ≤ n → cS q i = dcS q i) ∧ ∀ i, i < n → (nmV (cS q i) 2 65535 : Int) = dV (dcS q i) 2
  | 0, h => ⟨h, fun i hi => by obtain rfl : i = 0 := by omega
                               rfl, fun i hi => by omega⟩
  | n + 1, h => by
    have h' : (dS (dcS q n) 2).2 = false := h
    obtain ⟨b2, b3⟩ := nm2_c (dcS_sml hs n) h'
    obtain ⟨c1, c2, c3⟩ := cfg_c hs n (dS_mono h').1
    refine ⟨c1, fun i hi => ?_, fun i hi => ?_⟩
    · by_cases e : i = n + 1
      · subst e
        show nmS (cS q n) 2 65535 = dS (dcS q n) 2
        rw [c2 n (Nat.le_refl _)]
        exact b3
      · exact c2 i (by omega)
    · by_cases e : i = n
      · subst e
        rw [c2 i (Nat.le_refl _)]
        exact b2
      · exact c3 i (by omega)
end Go.Proofs.Ythfmmfphnimlnaa
