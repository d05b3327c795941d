import Derived.Test.YthlojdclncikiaaB5
namespace Go.Proofs.Ythlojdclncikiaa
open Go.RowKit
set_option linter.unusedVariables false
set_option linter.unusedSimpArgs false
variable {w w' : World} {g s n k : Nat} {R : Nat → List Pl} {e hi mi : Int}

/-- What is known of c: its rights, and whether it is known. -/
def see (s n k : Nat) (R : Nat → List Pl) (c : Cp) : Int × Bool :=
  if s = 0 then (0, false) else
    match (R (rowN k s c))[spotP (R (rowN k s c)) c n]? with
    | some p => (if hasP c p then p.2.2 else 0, hasP c p)
    | none => (0, false)
theorem spot_lt {P : List Pl} {c : Cp} (h : P.length = 4) (h1 : 1 ≤ n) (h4 : n ≤ 4) : spotP P c n < 4 := by unfold spotP; omega
theorem look_any (h : Ca w g s n k R e hi mi) (c : Cp) (hc : okC c) :
    Calls Try.prog 23 #[.pointer (some ⟨g, 0, none⟩), .agg #[.int .i64 c.1, .int .u64 (c.2.1 : Int), .int .u64 (c.2.2 : Int)]] w fun e w' => e = .returned (.tuple #[.int .i64 (see s n k R c).1, .bool (see s n k R c).2]) ∧ Below w.heap.size w w' := by
  unfold see
  by_cases hs : s = 0
  · rw [if_pos hs]
    exact look_none h c hs
  · rw [if_neg hs]
    have hl := h.len (rowN k s c)
    have hlt : spotP (R (rowN k s c)) c n < (R (rowN k s c)).length := by rw [hl]; exact spot_lt hl h.n1 h.n4
    have hp := List.getElem?_eq_getElem hlt
    rw [hp]
    exact look_ok h c hc (by omega) rfl rfl hp
theorem Ca.hit (h : Ca w g s n k R e hi mi) (x : Int) : Ca (w.setCell ⟨g, 324, none⟩ (.int .i64 x)) g s n k R e x mi := by
  have hn : ∀ j, j ≠ 324 → (w.setCell ⟨g, 324, none⟩ (.int .i64 x)).cell? ⟨g, j, none⟩ = w.cell? ⟨g, j, none⟩ := fun j hj => World.cell?_setCell_other _ _ _ _ (fun e => hj (by cases e; rfl))
  exact ⟨by rw [hn _ (by omega)]; exact h.c0, by rw [hn _ (by omega)]; exact h.c1, by rw [hn _ (by omega)]; exact h.c2, fun r hr => World.rangeAt_setCells_apart (h.at_ r hr) g 324 [.int .i64 x] (.inr (.inl (by rw [plc_length, h.len]; omega))), World.there_setCells h.th g 324 [.int .i64 x], h.len, h.ce.other (by simp), h.ch.put, h.cm.other (by simp), h.ls, h.n1, h.n4, h.lk⟩
theorem Ca.miss (h : Ca w g s n k R e hi mi) (x : Int) : Ca (w.setCell ⟨g, 325, none⟩ (.int .i64 x)) g s n k R e hi x := by
  have hn : ∀ j, j ≠ 325 → (w.setCell ⟨g, 325, none⟩ (.int .i64 x)).cell? ⟨g, j, none⟩ = w.cell? ⟨g, j, none⟩ := fun j hj => World.cell?_setCell_other _ _ _ _ (fun e => hj (by cases e; rfl))
  exact ⟨by rw [hn _ (by omega)]; exact h.c0, by rw [hn _ (by omega)]; exact h.c1, by rw [hn _ (by omega)]; exact h.c2, fun r hr => World.rangeAt_setCells_apart (h.at_ r hr) g 325 [.int .i64 x] (.inr (.inl (by rw [plc_length, h.len]; omega))), World.there_setCells h.th g 325 [.int .i64 x], h.len, h.ce.other (by simp), h.ch.other (by simp), h.cm.put, h.ls, h.n1, h.n4, h.lk⟩
set_option maxRecDepth 100000 in
set_option maxHeartbeats 1000000 in
theorem get_any (h : Ca w g s n k R e hi mi) (c : Cp) (hc : okC c) :
    Calls Try.prog 12 #[.pointer (some ⟨g, 0, none⟩), .agg #[.int .i64 c.1, .int .u64 (c.2.1 : Int), .int .u64 (c.2.2 : Int)]] w fun x w' => x = .returned (.tuple #[.int .i64 (see s n k R c).1, .bool (see s n k R c).2]) ∧ Ca w' g s n k R e (if (see s n k R c).2 then wrap64 (hi + 1) else hi) (if (see s n k R c).2 then mi else wrap64 (mi + 1)) ∧ But (fun k => k = g) w w' := by
  have HH := hid h
  have HL := hid (fun (U : World) (hU : Below w.heap.size w U) => look_any (h.later hU) c hc)
  clear h
  generalize see s n k R c = x at HL
  obtain ⟨x1, q⟩ := x
  cases q with
  | true =>
    go_enter Try.func12, Try.ntmps12
    go_upto_region 2 with (first | (go_at_call 23; refine (HL.out _ (below1 _ _)).mono ?_; rintro e w2 ⟨rfl, hb2⟩; have HB2 := hid (below_call (below1 _ _) hb2); clear hb2))
    have HH2 := hid (HH.out.later HB2.out)
    have d := HH2.out.ch.1
    have f := HH2.out.ch.2
    have HF := hid (HH2.out.hit (wrap64 (hi + 1)))
    go_wp2
    exact bodyPost_ret (v := .tuple #[.int .i64 x1, .bool true]) (by simp [results, Try.results12, go_sem]) rfl ⟨rfl, HF.out, (But.of (S := fun k => k = g) HB2.out).setCell (p := ⟨g, 324, none⟩) rfl _⟩
  | false =>
    go_enter Try.func12, Try.ntmps12
    go_upto_region 2 with (first | (go_at_call 23; refine (HL.out _ (below1 _ _)).mono ?_; rintro e w2 ⟨rfl, hb2⟩; have HB2 := hid (below_call (below1 _ _) hb2); clear hb2))
    have HH2 := hid (HH.out.later HB2.out)
    have d := HH2.out.cm.1
    have f := HH2.out.cm.2
    have HF := hid (HH2.out.miss (wrap64 (mi + 1)))
    go_wp2
    exact bodyPost_ret (v := .tuple #[.int .i64 x1, .bool false]) (by simp [results, Try.results12, go_sem]) rfl ⟨rfl, HF.out, (But.of (S := fun k => k = g) HB2.out).setCell (p := ⟨g, 325, none⟩) rfl _⟩
end Go.Proofs.Ythlojdclncikiaa
