import Derived.Test.YtlelglfdamakaaaD3
namespace Go.Proofs.Ytlelglfdamakaaa
open Go.RowKit H
set_option linter.unusedVariables false
set_option linter.unusedSimpArgs false
variable {w w' : World} {H : Hv} {X : List Tk} {l : Fo} {T : Nat → List K.Pu}

theorem cEq_iff (x y : Cp) : cEq x.1 (x.2.1 : Int) (x.2.2 : Int) y.1 (y.2.1 : Int) (y.2.2 : Int) = decide (x = y) := by
  by_cases h : x = y
  · subst h; simp [cEq]
  · rw [decide_eq_false h]
    refine decide_eq_false fun hq => h ?_
    obtain ⟨q1, q2, q3⟩ := hq
    exact Prod.ext q1 (Prod.ext (Int.ofNat.inj q2) (Int.ofNat.inj q3))
theorem eqCp (x y : Cp) (W : World) : (binOp .eql 32 (.agg #[.int .i64 x.1, .int .u64 (x.2.1 : Int), .int .u64 (x.2.2 : Int)]) (.agg #[.int .i64 y.1, .int .u64 (y.2.1 : Int), .int .u64 (y.2.2 : Int)])).run Try.prog W = .ok (.bool (decide (x = y))) W := by
  have := eqlC x.1 (x.2.1 : Int) (x.2.2 : Int) y.1 (y.2.1 : Int) (y.2.2 : Int) W
  rwa [cEq_iff] at this
theorem neCp (x y : Cp) (W : World) : (binOp .neq 32 (.agg #[.int .i64 x.1, .int .u64 (x.2.1 : Int), .int .u64 (x.2.2 : Int)]) (.agg #[.int .i64 y.1, .int .u64 (y.2.1 : Int), .int .u64 (y.2.2 : Int)])).run Try.prog W = .ok (.bool (!decide (x = y))) W := by
  have := neqC x.1 (x.2.1 : Int) (x.2.2 : Int) y.1 (y.2.1 : Int) (y.2.2 : Int) W
  rwa [cEq_iff] at this

/-! ### says -/
theorem part_or {need q : Int} (hq : validB q = true) (h1 : 1 ≤ need) (h2 : need ≤ 31) : ∃ n r : Nat, need = (n : Int) ∧ q = (r : Int) ∧ n < 32 ∧ r < 32 ∧ partB need q = decide (n ||| r = r) := by
  have h3 := validB_iff.1 hq
  refine ⟨need.toNat, q.toNat, by omega, by omega, by omega, by omega, ?_⟩
  rw [← or_of_and _ (by omega) _ (by omega)]
  unfold partB
  rw [validB_iff.2 ⟨h1, h2⟩, hq]
  rfl
theorem part_out {need q : Int} (h : need < 1 ∨ 31 < need) : partB need q = false := by
  unfold partB
  have : validB need = false := decide_eq_false (by omega)
  rw [this]; rfl
set_option maxRecDepth 100000 in
set_option maxHeartbeats 2000000 in
theorem says_any (h : Ds w H X l) (c : Cp) (need : Int) (hw : c.2.1 < B64 ∧ c.2.2 < B64) :
    Calls Try.prog 16 #[.pointer (some ⟨H.d, 0, none⟩), cpV c, .int .i64 need] w fun e w' => e = .returned (.int .i64 (givE X l need c)) ∧ Below w.heap.size w w' := by
  obtain ⟨o, hi, lo⟩ := c
  obtain ⟨w0, hw0⟩ : ∃ w0, w0 = w.alloc (Obj.cells #[.int .i64 o, .int .u64 (hi : Int), .int .u64 (lo : Int)] 32) := ⟨_, rfl⟩
  have hB0 : Below w.heap.size w w0 := by rw [hw0]; exact below1 _ _
  have HS : Hid (∀ U, Below w0.heap.size w0 U → (U.cell? ⟨H.d, 0, none⟩ = some (.pointer (some ⟨H.A.g, 0, none⟩)) ∧ U.cell? ⟨w.heap.size, 0, none⟩ = some (.int .i64 o) ∧ U.cell? ⟨w.heap.size, 1, none⟩ = some (.int .u64 (hi : Int)) ∧ U.cell? ⟨w.heap.size, 2, none⟩ = some (.int .u64 (lo : Int))) ∧ Below w0.heap.size w0 U) := fun U hU =>
    ⟨⟨cell_later hU (cell_later hB0 h.tp.c0), cell_later hU (by rw [hw0]; simp [go_sem]), cell_later hU (by rw [hw0]; simp [go_sem]), cell_later hU (by rw [hw0]; simp [go_sem])⟩, hU⟩
  have HB0 := hid hB0
  have HF := hid (fun (U : World) (hU : Below w0.heap.size w0 U) => vfind (h.vt.later (below_call hB0 hU)) (o, hi, lo) hw)
  rcases givE_cases X l need (o, hi, lo) with ⟨h1, h2⟩ | h12
  · rw [h1] at HF
    rw [h2]
    clear h h1 h2 hB0
    generalize findN X l (o, hi, lo) = m at *
    go_enter Try.func16, Try.ntmps16
    go_upto_region 1 with fail
    rw [← hw0]
    clear hw0
    go_region_held3 (fun U => (U.cell? ⟨H.d, 0, none⟩ = some (.pointer (some ⟨H.A.g, 0, none⟩)) ∧ U.cell? ⟨w.heap.size, 0, none⟩ = some (.int .i64 o) ∧ U.cell? ⟨w.heap.size, 1, none⟩ = some (.int .u64 (hi : Int)) ∧ U.cell? ⟨w.heap.size, 2, none⟩ = some (.int .u64 (lo : Int))) ∧ Below w0.heap.size w0 U) (first | exact HS.out _ HB2.out | exact HS.out _ (Below.refl _ _).drew) (first | (go_at_call 9; refine (HF.out _ (Below.refl _ _).drew).mono ?_; rintro e w2 ⟨rfl, hb2⟩; have HB2 := hid (below_call (Below.refl w0.heap.size w0).drew hb2); clear hb2))
    go_wp2
    go_ret
    exact ⟨rfl, below_call HB0.out HB2.out⟩
  · have hc' : hasC X l (o, hi, lo) = true := by rcases h12 with h | h <;> exact h.1
    have hvl := rgt_valid h.vt.inv hc'
    rw [hc'] at HF
    obtain ⟨hfn, hft⟩ := found h.vt.inv hc'
    obtain ⟨p, hp⟩ := mem_nums.1 hfn
    have HA := hid (fun (U : World) (hU : Below w0.heap.size w0 U) => at_in (h.vt.later (below_call hB0 hU)).cat.cm (findN X l (o, hi, lo)) p hp)
    rw [hft] at HA
    have hg : givE X l need (o, hi, lo) = if partB need (rgt X l (o, hi, lo)) = false then 4 else 0 := by unfold givE; rw [hc']; rfl
    rw [hg]
    clear hg
    have hrr : rg X (findN X l (o, hi, lo)) = rgt X l (o, hi, lo) := rfl
    rw [hrr] at HA
    unfold tokA at HA
    clear h h12 hB0 hfn hp hft hrr hc'
    generalize rgt X l (o, hi, lo) = q at *
    generalize findN X l (o, hi, lo) = m at *
    have hne := fun W => neCp (o, hi, lo) (o, hi, lo) W
    simp only [decide_true, Bool.not_true] at hne
    by_cases hn1 : need < 1
    · rw [part_out (.inl hn1)]
      have hd1 : decide (need < 1) = true := decide_eq_true hn1
      clear hn1
      simp only [if_true]
      go_enter Try.func16, Try.ntmps16
      go_upto_region 1 with fail
      rw [← hw0]
      clear hw0
      go_region_held3 (fun U => (U.cell? ⟨H.d, 0, none⟩ = some (.pointer (some ⟨H.A.g, 0, none⟩)) ∧ U.cell? ⟨w.heap.size, 0, none⟩ = some (.int .i64 o) ∧ U.cell? ⟨w.heap.size, 1, none⟩ = some (.int .u64 (hi : Int)) ∧ U.cell? ⟨w.heap.size, 2, none⟩ = some (.int .u64 (lo : Int))) ∧ Below w0.heap.size w0 U) (first | exact HS.out _ HB2.out | exact HS.out _ (Below.refl _ _).drew) (first | (go_at_call 9; refine (HF.out _ (Below.refl _ _).drew).mono ?_; rintro e w2 ⟨rfl, hb2⟩; have HB2 := hid (below_call (Below.refl w0.heap.size w0).drew hb2); clear hb2))
      obtain ⟨⟨x0, x1, x2, x3⟩, _⟩ := HS.out _ HB2.out
      go_upto_region 5 with (first | (go_at_call 32; refine (HA.out _ HB2.out).mono ?_; rintro e w3 ⟨rfl, hb3⟩; have HB3 := hid (below_call HB2.out hb3); clear hb3))
      clear x0 x1 x2 x3
      obtain ⟨⟨x0, x1, x2, x3⟩, _⟩ := HS.out _ (HB3.out.alloc HB3.out.size (Obj.cells #[.int .i64 o, .int .u64 (hi : Int), .int .u64 (lo : Int), .int .i64 q, .int .i64 p] 83))
      go_wp2
      go_ret
      exact ⟨rfl, below_call HB0.out (HB3.out.alloc HB3.out.size _)⟩
    · by_cases hn2 : 31 < need
      · rw [part_out (.inr hn2)]
        have hd1 : decide (need < 1) = false := decide_eq_false hn1
        have hd2 : decide (need > 31) = true := decide_eq_true hn2
        clear hn1 hn2
        simp only [if_true]
        go_enter Try.func16, Try.ntmps16
        go_upto_region 1 with fail
        rw [← hw0]
        clear hw0
        go_region_held3 (fun U => (U.cell? ⟨H.d, 0, none⟩ = some (.pointer (some ⟨H.A.g, 0, none⟩)) ∧ U.cell? ⟨w.heap.size, 0, none⟩ = some (.int .i64 o) ∧ U.cell? ⟨w.heap.size, 1, none⟩ = some (.int .u64 (hi : Int)) ∧ U.cell? ⟨w.heap.size, 2, none⟩ = some (.int .u64 (lo : Int))) ∧ Below w0.heap.size w0 U) (first | exact HS.out _ HB2.out | exact HS.out _ (Below.refl _ _).drew) (first | (go_at_call 9; refine (HF.out _ (Below.refl _ _).drew).mono ?_; rintro e w2 ⟨rfl, hb2⟩; have HB2 := hid (below_call (Below.refl w0.heap.size w0).drew hb2); clear hb2))
        obtain ⟨⟨x0, x1, x2, x3⟩, _⟩ := HS.out _ HB2.out
        go_upto_region 5 with (first | (go_at_call 32; refine (HA.out _ HB2.out).mono ?_; rintro e w3 ⟨rfl, hb3⟩; have HB3 := hid (below_call HB2.out hb3); clear hb3))
        clear x0 x1 x2 x3
        obtain ⟨⟨x0, x1, x2, x3⟩, _⟩ := HS.out _ (HB3.out.alloc HB3.out.size (Obj.cells #[.int .i64 o, .int .u64 (hi : Int), .int .u64 (lo : Int), .int .i64 q, .int .i64 p] 83))
        go_wp2
        go_ret
        exact ⟨rfl, below_call HB0.out (HB3.out.alloc HB3.out.size _)⟩
      · obtain ⟨n, r, rfl, rfl, hn, hr, hpo⟩ := part_or hvl (need := need) (by omega) (by omega)
        rw [hpo]
        have hd1 : decide ((n : Int) < 1) = false := decide_eq_false hn1
        have hd2 : decide ((n : Int) > 31) = false := decide_eq_false hn2
        have hd1' : decide (n < 1) = false := decide_eq_false (by omega)
        have hd2' : decide (31 < n) = false := decide_eq_false (by omega)
        have hor := i64_or_nat n r hn hr
        clear hpo hn1 hn2 hvl
        by_cases hz : n ||| r = r
        · simp only [hz, decide_true, Bool.true_eq_false, if_false]
          rw [hz] at hor
          clear hz
          go_enter Try.func16, Try.ntmps16
          go_upto_region 1 with fail
          rw [← hw0]
          clear hw0
          go_region_held3 (fun U => (U.cell? ⟨H.d, 0, none⟩ = some (.pointer (some ⟨H.A.g, 0, none⟩)) ∧ U.cell? ⟨w.heap.size, 0, none⟩ = some (.int .i64 o) ∧ U.cell? ⟨w.heap.size, 1, none⟩ = some (.int .u64 (hi : Int)) ∧ U.cell? ⟨w.heap.size, 2, none⟩ = some (.int .u64 (lo : Int))) ∧ Below w0.heap.size w0 U) (first | exact HS.out _ HB2.out | exact HS.out _ (Below.refl _ _).drew) (first | (go_at_call 9; refine (HF.out _ (Below.refl _ _).drew).mono ?_; rintro e w2 ⟨rfl, hb2⟩; have HB2 := hid (below_call (Below.refl w0.heap.size w0).drew hb2); clear hb2))
          obtain ⟨⟨x0, x1, x2, x3⟩, _⟩ := HS.out _ HB2.out
          go_upto_region 5 with (first | (go_at_call 32; refine (HA.out _ HB2.out).mono ?_; rintro e w3 ⟨rfl, hb3⟩; have HB3 := hid (below_call HB2.out hb3); clear hb3))
          clear x0 x1 x2 x3
          obtain ⟨⟨x0, x1, x2, x3⟩, _⟩ := HS.out _ (HB3.out.alloc HB3.out.size (Obj.cells #[.int .i64 o, .int .u64 (hi : Int), .int .u64 (lo : Int), .int .i64 (r : Int), .int .i64 p] 83))
          go_wp2
          go_ret
          exact ⟨rfl, below_call HB0.out (HB3.out.alloc HB3.out.size _)⟩
        · have hz2 : ((n ||| r : Nat) : Int) ≠ (r : Int) := fun e => hz (by exact_mod_cast e)
          have hz3 : (((n ||| r : Nat) : Int) != (r : Int)) = true := by simpa using hz2
          simp only [hz, decide_false, if_true]
          generalize n ||| r = z at *
          go_enter Try.func16, Try.ntmps16
          go_upto_region 1 with fail
          rw [← hw0]
          clear hw0
          go_region_held3 (fun U => (U.cell? ⟨H.d, 0, none⟩ = some (.pointer (some ⟨H.A.g, 0, none⟩)) ∧ U.cell? ⟨w.heap.size, 0, none⟩ = some (.int .i64 o) ∧ U.cell? ⟨w.heap.size, 1, none⟩ = some (.int .u64 (hi : Int)) ∧ U.cell? ⟨w.heap.size, 2, none⟩ = some (.int .u64 (lo : Int))) ∧ Below w0.heap.size w0 U) (first | exact HS.out _ HB2.out | exact HS.out _ (Below.refl _ _).drew) (first | (go_at_call 9; refine (HF.out _ (Below.refl _ _).drew).mono ?_; rintro e w2 ⟨rfl, hb2⟩; have HB2 := hid (below_call (Below.refl w0.heap.size w0).drew hb2); clear hb2))
          obtain ⟨⟨x0, x1, x2, x3⟩, _⟩ := HS.out _ HB2.out
          go_upto_region 5 with (first | (go_at_call 32; refine (HA.out _ HB2.out).mono ?_; rintro e w3 ⟨rfl, hb3⟩; have HB3 := hid (below_call HB2.out hb3); clear hb3))
          clear x0 x1 x2 x3
          obtain ⟨⟨x0, x1, x2, x3⟩, _⟩ := HS.out _ (HB3.out.alloc HB3.out.size (Obj.cells #[.int .i64 o, .int .u64 (hi : Int), .int .u64 (lo : Int), .int .i64 (r : Int), .int .i64 p] 83))
          go_wp2
          go_ret
          exact ⟨rfl, below_call HB0.out (HB3.out.alloc HB3.out.size _)⟩
end Go.Proofs.Ytlelglfdamakaaa
