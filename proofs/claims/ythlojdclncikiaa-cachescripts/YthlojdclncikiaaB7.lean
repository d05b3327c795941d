import Derived.Test.YthlojdclncikiaaB6
namespace Go.Proofs.Ythlojdclncikiaa
open Go.RowKit
set_option linter.unusedVariables false
set_option linter.unusedSimpArgs false
variable {w w' : World} {g s n k : Nat} {R : Nat → List Pl} {e hi mi : Int}

/-- One set is laid anew. -/
def upd (R : Nat → List Pl) (r : Nat) (Q : List Pl) : Nat → List Pl := fun x => if x = r then Q else R x
/-- What a Put leaves. -/
def putR (s n k : Nat) (R : Nat → List Pl) (c : Cp) (m : Int) : Nat → List Pl :=
  if s = 0 then R else upd R (rowN k s c) ((true, c, m) :: (R (rowN k s c)).eraseIdx (spotP (R (rowN k s c)) c n))
theorem Ca.laid (h : Ca w g s n k R e hi mi) {r : Nat} (hr : r < 16) {Q : List Pl} (hQ : Q.length = 4) : Ca (w.setCells g (3 + r * 20) (plc Q)) g s n k (upd R r Q) e hi mi := by
  have hl : (plc Q).length = 20 := by rw [plc_length, hQ]
  have hn : ∀ j, j < 3 + r * 20 ∨ 3 + r * 20 + 20 ≤ j → (w.setCells g (3 + r * 20) (plc Q)).cell? ⟨g, j, none⟩ = w.cell? ⟨g, j, none⟩ := fun j hj => World.cell?_setCells_out g _ _ _ ⟨g, j, none⟩ (fun _ _ => by rw [hl]; exact hj)
  have hf : ∀ j, (w.setCells g (3 + r * 20) (plc Q)).frozen? ⟨g, j, none⟩ = w.frozen? ⟨g, j, none⟩ := fun j => World.frozen?_setCells _ _ _ _ _
  refine ⟨by rw [hn _ (by omega)]; exact h.c0, by rw [hn _ (by omega)]; exact h.c1, by rw [hn _ (by omega)]; exact h.c2, fun x hx => ?_, World.there_setCells h.th _ _ _, fun x => ?_, ⟨by rw [hn _ (by omega)]; exact h.ce.1, by rw [hf]; exact h.ce.2⟩, ⟨by rw [hn _ (by omega)]; exact h.ch.1, by rw [hf]; exact h.ch.2⟩, ⟨by rw [hn _ (by omega)]; exact h.cm.1, by rw [hf]; exact h.cm.2⟩, h.ls, h.n1, h.n4, h.lk⟩
  · unfold upd
    by_cases e : x = r
    · subst e
      rw [if_pos rfl]
      refine World.rangeAt_setCells_same _ _ _ _ (fun j hj => ?_)
      rw [hl] at hj
      have := h.th (x * 20 + j) (by omega)
      rw [← Nat.add_assoc] at this
      exact this
    · rw [if_neg e]
      refine World.rangeAt_setCells_apart (h.at_ x hx) _ _ _ (.inr ?_)
      rw [plc_length, h.len, hl]
      omega
  · unfold upd
    split
    · exact hQ
    · exact h.len x
set_option maxRecDepth 100000 in
theorem put_none (h : Ca w g s n k R e hi mi) (c : Cp) (m : Int) (hs : s = 0) :
    Calls Try.prog 9 #[.pointer (some ⟨g, 0, none⟩), .agg #[.int .i64 c.1, .int .u64 (c.2.1 : Int), .int .u64 (c.2.2 : Int)], .int .i64 m] w fun e w' => e = .returned (.tuple #[]) ∧ Below w.heap.size w w' := by
  subst hs
  have c0 := (h.later (below1 w (Obj.cells #[.int .i64 c.1, .int .u64 (c.2.1 : Int), .int .u64 (c.2.2 : Int)] 34))).c0
  clear h
  go_enter Try.func9, Try.ntmps9
  go_wp2
  exact bodyPost_ret (by simp [results, Try.results9, go_sem]) rfl ⟨rfl, below1 _ _⟩
set_option maxRecDepth 100000 in
set_option maxHeartbeats 1000000 in
theorem put_ok (h : Ca w g s n k R e hi mi) (c : Cp) (m : Int) (hc : okC c) (hs : 0 < s) {r : Nat} (hr : r = rowN k s c) {i : Nat} (hi_ : i = spotP (R r) c n) :
    Calls Try.prog 9 #[.pointer (some ⟨g, 0, none⟩), .agg #[.int .i64 c.1, .int .u64 (c.2.1 : Int), .int .u64 (c.2.2 : Int)], .int .i64 m] w fun x w' => x = .returned (.tuple #[]) ∧ Ca w' g s n k (upd R r ((true, c, m) :: (R r).eraseIdx i)) e hi mi ∧ But (fun k => k = g) w w' := by
  obtain ⟨w1, hw1⟩ : ∃ w1, w1 = w.alloc (Obj.cells #[.int .i64 c.1, .int .u64 (c.2.1 : Int), .int .u64 (c.2.2 : Int)] 34) := ⟨_, rfl⟩
  have hB1 : Below w.heap.size w w1 := by rw [hw1]; exact below1 _ _
  have HH := hid (h.later hB1)
  have c0 := HH.out.c0
  rw [hw1] at c0
  have hz0 : ((s : Int) == 0) = false := by simp; omega
  have hr16 : (r : Int) < 16 := by have := h.ls; have := rowN_lt (k := k) c hs; omega
  have hrn : r < 16 := by omega
  have hi4 : i < 4 := by rw [hi_]; exact spot_lt (h.len r) h.n1 h.n4
  have HRow : Hid (∀ U : World, Below w1.heap.size w1 U → Calls Try.prog 20 #[.pointer (some ⟨g, 0, none⟩), .agg #[.int .i64 c.1, .int .u64 (c.2.1 : Int), .int .u64 (c.2.2 : Int)]] U fun e w' => e = .returned (.int .i64 (r : Int)) ∧ Below U.heap.size U w') := fun U hU => by
    rw [hr]; exact row_any (HH.out.later hU) c hc hs
  obtain ⟨A, hA⟩ : ∃ A, A = plc (R r) := ⟨_, rfl⟩
  have HAl : Hid (A.length = 20) := by rw [hA, plc_length, h.len]; rfl
  have HA1 : Hid (∀ v ∈ A, v.oneCell' = true) := by rw [hA]; exact plc_one _
  have HLD : Hid (∀ U : World, Below w1.heap.size w1 U → (Instr.loadAt 58 (.pointer (some ⟨g, 3 + r * 20, none⟩))).run Try.prog U = .ok (.agg A.toArray) U) := fun U hU => load58 (by rw [hA]; exact (HH.out.later hU).at_ r hrn) HAl.out
  have HSp : Hid (∀ U : World, Calls Try.prog 22 #[.agg A.toArray, .agg #[.int .i64 c.1, .int .u64 (c.2.1 : Int), .int .u64 (c.2.2 : Int)], .int .i64 (n : Int)] U fun e w' => e = .returned (.int .i64 (i : Int)) ∧ Below U.heap.size U w') := fun U => by
    rw [hi_, hA]; exact spot_any (R r) c n U (h.len r) h.n1 h.n4
  obtain ⟨N, hN⟩ : ∃ N, N = plc ((true, c, m) :: (R r).eraseIdx i) := ⟨_, rfl⟩
  have hQ : ((true, c, m) :: (R r).eraseIdx i).length = 4 := by rw [List.length_cons, List.length_eraseIdx, h.len, if_pos hi4]
  have HNl : Hid (N.length = 20) := by rw [hN, plc_length, hQ]; rfl
  have HNs : Hid (N.toArray.size = 20) := by rw [List.size_toArray]; exact HNl.out
  have HN1 : Hid (∀ v ∈ N, v.oneCell' = true) := by rw [hN]; exact plc_one _
  have HLe : Hid (∀ U : World, Calls Try.prog 21 #[.agg A.toArray, .agg #[.bool true, .int .i64 c.1, .int .u64 (c.2.1 : Int), .int .u64 (c.2.2 : Int), .int .i64 m], .int .i64 (i : Int)] U fun e w' => e = .returned (.agg N.toArray) ∧ Below U.heap.size U w') := fun U => by
    rw [hN, hA]; exact lead_any (R r) (true, c, m) i U (h.len r) hi4
  have HLaid : Hid (∀ U : World, Below w1.heap.size w1 U → Ca (U.setCells g (3 + r * 20) N) g s n k (upd R r ((true, c, m) :: (R r).eraseIdx i)) e hi mi ∧ U.there g (3 + r * 20) 20) := fun U hU => by
    have hU2 := HH.out.later hU
    refine ⟨by rw [hN]; exact hU2.laid hrn hQ, fun j hj => ?_⟩
    have := hU2.th (r * 20 + j) (by omega)
    rw [← Nat.add_assoc] at this
    exact this
  have hz := fun W => zero_of zinfo58 W
  obtain ⟨Z, hZ⟩ : ∃ Z, Z = (plc (List.replicate 4 fr)).toArray := ⟨_, rfl⟩
  rw [← hZ] at hz
  have HZs : Hid (Z.size = 20) := by rw [hZ, List.size_toArray, plc_length]; rfl
  have HG : Hid (g < w.heap.size) := h.lt
  have HC1 : Hid (∀ U : World, Below w1.heap.size w1 U → U.cell? ⟨w.heap.size, 0, none⟩ = some (.int .i64 c.1) ∧ U.cell? ⟨w.heap.size, 1, none⟩ = some (.int .u64 (c.2.1 : Int)) ∧ U.cell? ⟨w.heap.size, 2, none⟩ = some (.int .u64 (c.2.2 : Int)) ∧ U.cell? ⟨g, 1, none⟩ = some (.int .i64 (n : Int))) := fun U hU =>
    ⟨cell_later hU (by rw [hw1]; simp [go_sem]), cell_later hU (by rw [hw1]; simp [go_sem]), cell_later hU (by rw [hw1]; simp [go_sem]), (HH.out.later hU).c1⟩
  clear hA hZ hi_ hr h hN hQ hi4
  go_enter Try.func9, Try.ntmps9
  go_upto_region 2 with fail
  rw [← hw1]
  have HB1 := hid hB1
  clear hw1 hB1 c0 hz0
  obtain ⟨c1, c2, c3, _⟩ := HC1.out w1 (Below.refl _ _)
  go_upto_region 3 with (first | (go_at_call 20; refine (HRow.out _ (Below.refl _ _)).mono ?_; rintro e w2 ⟨rfl, hb2⟩; have HB2 := hid hb2; clear hb2))
  clear c1 c2 c3
  have HLD2 := hid (HLD.out w2 HB2.out)
  have hAl := HAl.out
  have HTN := hid (there_new w2 Z 58 20 HZs.out)
  have HST := stc (L := A) (n := 20) HTN.out HAl.out HA1.out
  have HB3 : Hid (Below w1.heap.size w1 ((w2.alloc (Obj.cells Z 58)).setCells w2.heap.size 0 A)) := set_new (below_call HB2.out (below1 _ _)) HB2.out.size 0 A
  have HR3 : Hid (((w2.alloc (Obj.cells Z 58)).setCells w2.heap.size 0 A).rangeAt w2.heap.size 0 A) := World.rangeAt_setCells_same _ _ _ _ (by rw [hAl]; exact HTN.out)
  generalize (w2.alloc (Obj.cells Z 58)).setCells w2.heap.size 0 A = w3 at HST HB3 HR3
  clear HTN
  go_upto_region 4 with (first | ((with_reducible refine ld_arm HLD2.out ?_ ?_); · rfl))
  clear HST HLD2 hz
  have HLD3 : Hid (∀ U : World, But (fun x => x = g) w3 U → (Instr.loadAt 58 (.pointer (some ⟨w2.heap.size, 0, none⟩))).run Try.prog U = .ok (.agg A.toArray) U) := fun U hU => load58 (range_but HR3.out hU (by have := HG.out; have := HB1.out.size; have := HB2.out.size; omega)) HAl.out
  have HC : Hid (∀ U : World, Below w3.heap.size w3 U → (U.cell? ⟨w.heap.size, 0, none⟩ = some (.int .i64 c.1) ∧ U.cell? ⟨w.heap.size, 1, none⟩ = some (.int .u64 (c.2.1 : Int)) ∧ U.cell? ⟨w.heap.size, 2, none⟩ = some (.int .u64 (c.2.2 : Int)) ∧ U.cell? ⟨g, 1, none⟩ = some (.int .i64 (n : Int))) ∧ But (fun x => x = g) w3 U) := fun U hU => ⟨HC1.out U (below_call HB3.out hU), But.of hU⟩
  have HD : Hid (∀ U : World, Below w3.heap.size w3 U → (((U.setCells g (3 + r * 20) N).cell? ⟨w.heap.size, 0, none⟩ = some (.int .i64 c.1) ∧ (U.setCells g (3 + r * 20) N).cell? ⟨w.heap.size, 1, none⟩ = some (.int .u64 (c.2.1 : Int)) ∧ (U.setCells g (3 + r * 20) N).cell? ⟨w.heap.size, 2, none⟩ = some (.int .u64 (c.2.2 : Int)) ∧ (U.setCells g (3 + r * 20) N).cell? ⟨g, 1, none⟩ = some (.int .i64 (n : Int))) ∧ But (fun x => x = g) w3 (U.setCells g (3 + r * 20) N))) := fun U hU => by
    obtain ⟨a1, a2, a3, _⟩ := HC1.out U (below_call HB3.out hU)
    have hb : But (fun x => x = g) U (U.setCells g (3 + r * 20) N) := But.setCells (S := fun x => x = g) rfl N _ (But.refl _ _)
    have hne : ¬ w.heap.size = g := by have := HG.out; omega
    exact ⟨⟨cell_but hb a1 hne, cell_but hb a2 hne, cell_but hb a3 hne, (HLaid.out U (below_call HB3.out hU)).1.c1⟩, (But.of hU).trans hb⟩
  refine wp_region_held_drew (S := (fun U : World => (U.cell? ⟨w.heap.size, 0, none⟩ = some (.int .i64 c.1) ∧ U.cell? ⟨w.heap.size, 1, none⟩ = some (.int .u64 (c.2.1 : Int)) ∧ U.cell? ⟨w.heap.size, 2, none⟩ = some (.int .u64 (c.2.2 : Int)) ∧ U.cell? ⟨g, 1, none⟩ = some (.int .i64 (n : Int))) ∧ But (fun x => x = g) w3 U)) (by kernel_rfl) (HC.out _ (Below.refl w3.heap.size w3).drew) (fun hHeld => ?_)
  refine wpAnyH_norm (l2 := #[false, false, false, false, false, false, false, false, false, false, false, false, false, false, false, false, false, false]) (f2 := 18) (by kernel_rfl) (by kernel_rfl) ?_
  refine wpAnyH_take (i := 0) (oi := _) (v := ?_) rfl (by kernel_rfl) (by kernel_rfl) (by kernel_rfl) (fun _ _ _ h => h) (Or.inl ⟨by rfl, ?_⟩) (by assumption) ?_
  rotate_left
  · (intro w hSw; (try dsimp only at hSw); go_simp; try with_reducible rfl)
  simp only [List.getElem_toArray, List.getElem_cons_succ, List.getElem_cons_zero, Act.put, List.setIfInBounds_toArray, List.set_cons_zero, List.set_cons_succ]
  refine wpAnyH_norm (l2 := #[true, false, false, false, false, false, false, false, false, false, false, false, false, false, false, false, false, false]) (f2 := 17) (by kernel_rfl) (by kernel_rfl) ?_
  refine wpAnyH_take (i := 1) (oi := _) (v := ?_) rfl (by kernel_rfl) (by kernel_rfl) (by kernel_rfl) (fun _ _ _ h => h) (Or.inl ⟨by rfl, ?_⟩) (by assumption) ?_
  rotate_left
  · (intro w hSw; (try dsimp only at hSw); go_simp; try with_reducible rfl)
  simp only [List.getElem_toArray, List.getElem_cons_succ, List.getElem_cons_zero, Act.put, List.setIfInBounds_toArray, List.set_cons_zero, List.set_cons_succ]
  refine wpAnyH_norm (l2 := #[true, true, false, false, false, false, false, false, false, false, false, false, false, false, false, false, false, false]) (f2 := 16) (by kernel_rfl) (by kernel_rfl) ?_
  refine wpAnyH_take (i := 2) (oi := _) (v := .agg A.toArray) rfl (by kernel_rfl) (by kernel_rfl) (by kernel_rfl) (fun _ _ _ h => h) (Or.inl ⟨by rfl, ?_⟩) (by assumption) ?_
  · (intro w hSw; (try dsimp only at hSw); exact ex_load rfl rfl (HLD3.out _ hSw.2))
  simp only [List.getElem_toArray, List.getElem_cons_succ, List.getElem_cons_zero, Act.put, List.setIfInBounds_toArray, List.set_cons_zero, List.set_cons_succ]
  refine wpAnyH_norm (l2 := #[true, true, true, false, false, false, false, false, false, false, false, false, false, false, false, false, false, false]) (f2 := 15) (by kernel_rfl) (by kernel_rfl) ?_
  refine wpAnyH_take (i := 3) (oi := _) (v := ?_) rfl (by kernel_rfl) (by kernel_rfl) (by kernel_rfl) (fun _ _ _ h => h) (Or.inl ⟨by rfl, ?_⟩) (by assumption) ?_
  rotate_left
  · (intro w hSw; (try dsimp only at hSw); go_simp; try with_reducible rfl)
  simp only [List.getElem_toArray, List.getElem_cons_succ, List.getElem_cons_zero, Act.put, List.setIfInBounds_toArray, List.set_cons_zero, List.set_cons_succ]
  refine wpAnyH_norm (l2 := #[true, true, true, true, false, false, false, false, false, false, false, false, false, false, false, false, false, false]) (f2 := 14) (by kernel_rfl) (by kernel_rfl) ?_
  refine wpAnyH_take (i := 4) (oi := _) (v := ?_) rfl (by kernel_rfl) (by kernel_rfl) (by kernel_rfl) (fun _ _ _ h => h) (Or.inl ⟨by rfl, ?_⟩) (by assumption) ?_
  rotate_left
  · (intro w hSw; (try dsimp only at hSw); go_simp; try with_reducible rfl)
  simp only [List.getElem_toArray, List.getElem_cons_succ, List.getElem_cons_zero, Act.put, List.setIfInBounds_toArray, List.set_cons_zero, List.set_cons_succ]
  refine wpAnyH_norm (l2 := #[true, true, true, true, true, false, false, false, false, false, false, false, false, false, false, false, false, false]) (f2 := 13) (by kernel_rfl) (by kernel_rfl) ?_
  refine wpAnyH_take (i := 5) (oi := _) (v := ?_) rfl (by kernel_rfl) (by kernel_rfl) (by kernel_rfl) (fun _ _ _ h => h) (Or.inl ⟨by rfl, ?_⟩) (by assumption) ?_
  rotate_left
  · (intro w hSw; (try dsimp only at hSw); go_simp; try with_reducible rfl)
  simp only [List.getElem_toArray, List.getElem_cons_succ, List.getElem_cons_zero, Act.put, List.setIfInBounds_toArray, List.set_cons_zero, List.set_cons_succ]
  refine wpAnyH_norm (l2 := #[true, true, true, true, true, true, false, false, false, false, false, false, false, false, false, false, false, false]) (f2 := 12) (by kernel_rfl) (by kernel_rfl) ?_
  refine wpAnyH_take (i := 6) (oi := _) (v := .agg A.toArray) rfl (by kernel_rfl) (by kernel_rfl) (by kernel_rfl) (fun _ _ _ h => h) (Or.inl ⟨by rfl, ?_⟩) (by assumption) ?_
  · (intro w hSw; (try dsimp only at hSw); exact ex_load rfl rfl (HLD3.out _ hSw.2))
  simp only [List.getElem_toArray, List.getElem_cons_succ, List.getElem_cons_zero, Act.put, List.setIfInBounds_toArray, List.set_cons_zero, List.set_cons_succ]
  refine wpAnyH_norm (l2 := #[true, true, true, true, true, true, true, false, false, false, false, false, false, false, false, false, false, false]) (f2 := 11) (by kernel_rfl) (by kernel_rfl) ?_
  refine wpAnyH_take (i := 7) (oi := _) (v := ?_) rfl (by kernel_rfl) (by kernel_rfl) (by kernel_rfl) (fun _ _ _ h => h) (Or.inl ⟨by rfl, ?_⟩) (by assumption) ?_
  rotate_left
  · (intro w hSw; (try dsimp only at hSw); go_simp; try with_reducible rfl)
  simp only [List.getElem_toArray, List.getElem_cons_succ, List.getElem_cons_zero, Act.put, List.setIfInBounds_toArray, List.set_cons_zero, List.set_cons_succ]
  refine wpAnyH_norm (l2 := #[true, true, true, true, true, true, true, true, false, false, false, false, false, false, false, false, false, false]) (f2 := 10) (by kernel_rfl) (by kernel_rfl) ?_
  refine wpAnyH_take (i := 8) (oi := _) (v := ?_) rfl (by kernel_rfl) (by kernel_rfl) (by kernel_rfl) (fun _ _ _ h => h) (Or.inl ⟨by rfl, ?_⟩) (by assumption) ?_
  rotate_left
  · (intro w hSw; (try dsimp only at hSw); go_simp; try with_reducible rfl)
  simp only [List.getElem_toArray, List.getElem_cons_succ, List.getElem_cons_zero, Act.put, List.setIfInBounds_toArray, List.set_cons_zero, List.set_cons_succ]
  refine wpAnyH_norm (l2 := #[true, true, true, true, true, true, true, true, true, false, false, false, false, false, false, false, false, false]) (f2 := 9) (by kernel_rfl) (by kernel_rfl) ?_
  refine wpAnyH_take (i := 9) (oi := _) (v := ?_) rfl (by kernel_rfl) (by kernel_rfl) (by kernel_rfl) (fun _ _ _ h => h) (Or.inl ⟨by rfl, ?_⟩) (by assumption) ?_
  rotate_left
  · (intro w hSw; (try dsimp only at hSw); go_simp; try with_reducible rfl)
  simp only [List.getElem_toArray, List.getElem_cons_succ, List.getElem_cons_zero, Act.put, List.setIfInBounds_toArray, List.set_cons_zero, List.set_cons_succ]
  refine wpAnyH_norm (l2 := #[true, true, true, true, true, true, true, true, true, true, false, false, false, false, false, false, false, false]) (f2 := 8) (by kernel_rfl) (by kernel_rfl) ?_
  refine wpAnyH_take (i := 10) (oi := _) (v := ?_) rfl (by kernel_rfl) (by kernel_rfl) (by kernel_rfl) (fun _ _ _ h => h) (Or.inl ⟨by rfl, ?_⟩) (by assumption) ?_
  rotate_left
  · (intro w hSw; (try dsimp only at hSw); go_simp; try with_reducible rfl)
  simp only [List.getElem_toArray, List.getElem_cons_succ, List.getElem_cons_zero, Act.put, List.setIfInBounds_toArray, List.set_cons_zero, List.set_cons_succ]
  refine wpAnyH_norm (l2 := #[true, true, true, true, true, true, true, true, true, true, true, false, false, false, false, false, false, false]) (f2 := 7) (by kernel_rfl) (by kernel_rfl) ?_
  refine wpAnyH_take (i := 11) (oi := _) (v := ?_) rfl (by kernel_rfl) (by kernel_rfl) (by kernel_rfl) (fun _ _ _ h => h) (Or.inl ⟨by rfl, ?_⟩) (by assumption) ?_
  rotate_left
  · (intro w hSw; (try dsimp only at hSw); go_simp; try with_reducible rfl)
  simp only [List.getElem_toArray, List.getElem_cons_succ, List.getElem_cons_zero, Act.put, List.setIfInBounds_toArray, List.set_cons_zero, List.set_cons_succ]
  refine wpAnyH_norm (l2 := #[true, true, true, true, true, true, true, true, true, true, true, true, false, false, false, false, false, false]) (f2 := 6) (by kernel_rfl) (by kernel_rfl) ?_
  refine wpAnyH_take (i := 14) (oi := _) (v := ?_) rfl (by kernel_rfl) (by kernel_rfl) (by kernel_rfl) (fun _ _ _ h => h) (Or.inl ⟨by rfl, ?_⟩) (by assumption) ?_
  rotate_left
  · (intro w hSw; (try dsimp only at hSw); go_simp; try with_reducible rfl)
  simp only [List.getElem_toArray, List.getElem_cons_succ, List.getElem_cons_zero, Act.put, List.setIfInBounds_toArray, List.set_cons_zero, List.set_cons_succ]
  refine wpAnyH_norm (l2 := #[true, true, true, true, true, true, true, true, true, true, true, true, false, false, true, false, false, false]) (f2 := 5) (by kernel_rfl) (by kernel_rfl) ?_
  refine wpAnyH_take (i := 15) (oi := _) (v := ?_) rfl (by kernel_rfl) (by kernel_rfl) (by kernel_rfl) (fun _ _ _ h => h) (Or.inl ⟨by rfl, ?_⟩) (by assumption) ?_
  rotate_left
  · (intro w hSw; (try dsimp only at hSw); go_simp; try with_reducible rfl)
  simp only [List.getElem_toArray, List.getElem_cons_succ, List.getElem_cons_zero, Act.put, List.setIfInBounds_toArray, List.set_cons_zero, List.set_cons_succ]
  refine wpAnyH_norm (l2 := #[true, true, true, true, true, true, true, true, true, true, true, true, false, false, true, true, false, false]) (f2 := 4) (by kernel_rfl) (by kernel_rfl) ?_
  refine wpAnyH_ready (rs := [12]) (by kernel_rfl) (by simp) ?_
  refine AllReadyH.cons rfl (fun K hK => ?_) AllReadyH.nil
  go_simp
  go_wp2_with (first | (go_at_call 22; refine (HSp.out _).mono ?_; rintro e w4 ⟨rfl, hb4⟩; have HB4 := hid (below_call (Below.refl w3.heap.size w3).drew hb4); clear hb4))
  refine hK.out _ _ (HC.out _ HB4.out) (fun hHeld => ?_)
  clear hK K
  simp only [List.getElem_toArray, List.getElem_cons_succ, List.getElem_cons_zero, Act.put, List.setIfInBounds_toArray, List.set_cons_zero, List.set_cons_succ]
  refine wpAnyH_norm (l2 := #[true, true, true, true, true, true, true, true, true, true, true, true, true, false, true, true, false, false]) (f2 := 3) (by kernel_rfl) (by kernel_rfl) ?_
  refine wpAnyH_ready (rs := [13]) (by kernel_rfl) (by simp) ?_
  refine AllReadyH.cons rfl (fun K hK => ?_) AllReadyH.nil
  go_simp
  go_wp2_with (first | (go_at_call 21; refine (HLe.out _).mono ?_; rintro e w5 ⟨rfl, hb5⟩; have HB5 := hid (below_call HB4.out hb5); clear hb5))
  refine hK.out _ _ (HC.out _ HB5.out) (fun hHeld => ?_)
  clear hK K
  simp only [List.getElem_toArray, List.getElem_cons_succ, List.getElem_cons_zero, Act.put, List.setIfInBounds_toArray, List.set_cons_zero, List.set_cons_succ]
  refine wpAnyH_norm (l2 := #[true, true, true, true, true, true, true, true, true, true, true, true, true, true, true, true, false, false]) (f2 := 2) (by kernel_rfl) (by kernel_rfl) ?_
  refine wpAnyH_take (i := 16) (oi := _) (v := ?_) rfl (by kernel_rfl) (by kernel_rfl) (by kernel_rfl) (fun _ _ _ h => h) (Or.inl ⟨by rfl, ?_⟩) (by assumption) ?_
  rotate_left
  · (intro w hSw; (try dsimp only at hSw); go_simp; try with_reducible rfl)
  simp only [List.getElem_toArray, List.getElem_cons_succ, List.getElem_cons_zero, Act.put, List.setIfInBounds_toArray, List.set_cons_zero, List.set_cons_succ]
  refine wpAnyH_norm (l2 := #[true, true, true, true, true, true, true, true, true, true, true, true, true, true, true, true, true, false]) (f2 := 1) (by kernel_rfl) (by kernel_rfl) ?_
  refine wpAnyH_ready (rs := [17]) (by kernel_rfl) (by simp) ?_
  refine AllReadyH.cons rfl (fun K hK => ?_) AllReadyH.nil
  refine wp_store_mid 58 (.tmp 38) (.tmp 35) rfl _ _ N.toArray rfl rfl (by rw [HNs.out]; exact (HLaid.out _ (below_call HB3.out HB5.out)).2) (by rw [info58, HNs.out]) (all_oneCell_toArray HN1.out) ?_
  refine hK.out _ _ (HD.out _ HB5.out) (fun hHeld => ?_)
  clear hK K
  simp only [List.getElem_toArray, List.getElem_cons_succ, List.getElem_cons_zero, Act.put, List.setIfInBounds_toArray, List.set_cons_zero, List.set_cons_succ]
  refine wpAnyH_norm (l2 := #[true, true, true, true, true, true, true, true, true, true, true, true, true, true, true, true, true, true]) (f2 := 0) (by kernel_rfl) (by kernel_rfl) ?_
  refine wpAnyH_done (by kernel_rfl) ?_ _
  go_wp2
  exact bodyPost_end (by simp [results, Try.results9, go_sem]) rfl ⟨rfl, (HLaid.out _ (below_call HB3.out HB5.out)).1, (But.of (S := fun k => k = g) (below_call HB1.out HB3.out)).trans hHeld.2⟩
theorem put_any (h : Ca w g s n k R e hi mi) (c : Cp) (m : Int) (hc : okC c) :
    Calls Try.prog 9 #[.pointer (some ⟨g, 0, none⟩), .agg #[.int .i64 c.1, .int .u64 (c.2.1 : Int), .int .u64 (c.2.2 : Int)], .int .i64 m] w fun x w' => x = .returned (.tuple #[]) ∧ Ca w' g s n k (putR s n k R c m) e hi mi ∧ But (fun k => k = g) w w' := by
  unfold putR
  by_cases hs : s = 0
  · rw [if_pos hs]
    refine (put_none h c m hs).mono ?_
    rintro x w' ⟨rfl, hb⟩
    exact ⟨rfl, h.later hb, But.of hb⟩
  · rw [if_neg hs]
    exact put_ok h c m hc (by omega) rfl rfl
end Go.Proofs.Ythlojdclncikiaa
