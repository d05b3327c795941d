import Derived.Test.YtfeilkhlapnpoaaQ1
namespace Go.Proofs.Ytfeilkhlapnpoaa
open Go.RowKit Go.Maps
set_option linter.unusedVariables false

set_option maxRecDepth 100000 in
set_option maxHeartbeats 1000000 in
theorem may_any {w : World} {g b : Nat} {e a : Int} {L : List Int} (h : Qu w g b e a L) (x : Int) (hx : (Lit.int .i64 x).wf = true) :
    Calls Try.prog 18 #[.pointer (some ⟨g, 0, none⟩), .int .i64 x] w fun r w' => r = .returned (.int .i64 (may e a L x)) ∧ Below w.heap.size w w' := by
  have hof := hid (fun (U : World) (hU : Below w.heap.size w U) => of_any (h.later hU) x hx)
  have hal := hid (fun (U : World) (hU : Below w.heap.size w U) => all_any (h.later hU))
  have hm : Hid (may e a L x = if e ≤ (L.count x : Int) then 9 else if a ≤ (L.length : Int) then 10 else 0) := rfl
  have hC0 : Hid (∀ U : World, Below w.heap.size w U → (U.cell? ⟨g, 0, none⟩ = some (.int .i64 e)) ∧ Below w.heap.size w U) := fun U hU => ⟨cell_later hU h.c0, hU⟩
  have hC1 : Hid (∀ U : World, Below w.heap.size w U → (U.cell? ⟨g, 1, none⟩ = some (.int .i64 a)) ∧ Below w.heap.size w U) := fun U hU => ⟨cell_later hU h.c1, hU⟩
  clear h
  generalize (L.count x : Int) = c at *
  generalize (L.length : Int) = l at *
  have hr1 : Hid (e ≤ c → may e a L x = 9) := fun h1 => by rw [hm.out, if_pos h1]
  have hr2 : Hid (c < e → a ≤ l → may e a L x = 10) := fun h1 h2 => by rw [hm.out, if_neg (by omega), if_pos h2]
  have hr3 : Hid (c < e → l < a → may e a L x = 0) := fun h1 h2 => by rw [hm.out, if_neg (by omega), if_neg (by omega)]
  clear hm
  generalize may e a L x = mm at *
  go_enter Try.func18, Try.ntmps18
  go_upto_region 1 with fail
  go_region_held3 (fun U => (U.cell? ⟨g, 0, none⟩ = some (.int .i64 e)) ∧ Below w.heap.size w U) (first | exact hC0.out _ HB2.out | exact hC0.out _ (Below.refl _ _).drew) (first
    | (go_at_call 8; refine (hof.out _ (Below.refl _ _).drew).mono ?_; rintro e w2 ⟨rfl, hw2⟩; have HB2 : Hid (Below w.heap.size w w2) := (by unfold Hid; rw [hw2]; exact (Below.refl _ _).drew); clear hw2))
  by_cases h1 : e ≤ c
  · have hd : decide (c ≥ e) = true := decide_eq_true h1
    go_wp2
    go_ret
    exact ⟨by rw [hr1.out (by omega)]; rfl, HB2.out⟩
  · have hd : decide (c ≥ e) = false := decide_eq_false h1
    go_upto_region 3 with fail
    go_region_held3 (fun U => (U.cell? ⟨g, 1, none⟩ = some (.int .i64 a)) ∧ Below w.heap.size w U) (first | exact hC1.out _ HB3.out | exact hC1.out _ HB2.out.drew) (first
      | (go_at_call 9; refine (hal.out _ HB2.out.drew).mono ?_; rintro e w3 ⟨rfl, hb3⟩; have HB3 := hid (below_call HB2.out.drew hb3); clear hb3))
    by_cases h2 : a ≤ l
    · have hd : decide (l ≥ a) = true := decide_eq_true h2
      go_wp2
      go_ret
      exact ⟨by rw [hr2.out (by omega) (by omega)]; rfl, HB3.out⟩
    · have hd : decide (l ≥ a) = false := decide_eq_false h2
      go_wp2
      go_ret
      exact ⟨by rw [hr3.out (by omega) (by omega)]; rfl, HB3.out⟩
set_option maxRecDepth 100000 in
set_option maxHeartbeats 1000000 in
theorem add_any {w : World} {g b : Nat} {e a : Int} {L : List Int} (h : Qu w g b e a L) (x : Int) (hx : (Lit.int .i64 x).wf = true) :
    Calls Try.prog 11 #[.pointer (some ⟨g, 0, none⟩), .int .i64 x] w fun r w' => r = .returned (.int .i64 (may e a L x)) ∧ Qu w' g b e a (addL e a L x) ∧ But (fun k => k = b) w w' := by
  have hma := hid (may_any h x hx)
  by_cases hm : may e a L x = 0
  · have hA : addL e a L x = L ++ [x] := by unfold addL; rw [if_pos hm]
    have hS := hid (hA ▸ h.sz.add x)
    obtain ⟨h1, h2⟩ := may_zero hm
    have h3 := h.sz.e2
    rw [hm] at hma ⊢
    rw [hA]
    have hl1 := h.sz.len
    have hl2 := h.sz.a2
    have hQ := hid (fun (U : World) (hU : Below w.heap.size w U) => h.later hU)
    clear h hA hm
    go_enter Try.func11, Try.ntmps11
    go_upto_region 2 with (first | (go_at_call 18; refine hma.out.mono ?_; rintro e w1 ⟨rfl, hb1⟩; have HB1 := hid hb1; clear hb1))
    have HQ1 := hid (hQ.out _ HB1.out)
    obtain ⟨c0, c1, c2, ⟨D, hown, hcn⟩, _⟩ := HQ1.out
    have HC := hid hcn
    have hlm : L.length < maxLen := by unfold maxLen; omega
    clear hcn
    go_wp2_with (first
      | (at_lookup; refine wpList_lookup_own_int _ rfl _ _ 48 rfl 3 3 .i64 law Try.underlying48 Try.underlying3 (zeroE _) b _ _ rfl hown _ _ rfl (keyOf_int_mk Try.underlying3 hx) ?_; intro c hat hwc; have HA := hid hat; clear hat)
      | (at_mapUpdate; refine wpList_mapUpdate_own _ rfl _ _ _ 48 rfl 3 3 law Try.underlying48 _ b _ _ rfl hown hlm _ _ _ rfl rfl (keyOf_int_mk Try.underlying3 hx) _ [] (plainElem_int Try.underlying3 (wrap64_wf _)) ?_; intro w2 hown2 hg2; have HO2 := hid hown2; have HG2 := hid hg2; clear hown2 hg2))
    go_ret
    have hc := HA.out
    rw [HC.out.at_ x] at hc
    have hc := nu_inj hc
    have hw : wrap64 (c + 1) = c + 1 := by unfold wrap64; omega
    have ho := HO2.out
    rw [hw] at ho
    have hcn2 := HC.out.put (M := L ++ [x]) (x := x) (c := c + 1) hx (fun y hy => by simp [List.count_append, Ne.symm hy]) (by simp [List.count_append]; omega) (by omega)
    obtain ⟨r1, r2⟩ := HQ1.out.turn HG2.out ho hcn2 hS.out
    exact ⟨rfl, r1, (But.of HB1.out).trans r2⟩
  · have hA : addL e a L x = L := by unfold addL; rw [if_neg hm]
    rw [hA]
    have hQ := hid (fun (U : World) (hU : Below w.heap.size w U) => h.later hU)
    clear h hA
    generalize may e a L x = mm at *
    have hd : (mm != 0) = true := by simp [hm]
    go_enter Try.func11, Try.ntmps11
    go_wp2_with (first | (go_at_call 18; refine hma.out.mono ?_; rintro e w1 ⟨rfl, hb1⟩; have HB1 := hid hb1; clear hb1))
    go_ret
    exact ⟨rfl, hQ.out _ HB1.out, But.of HB1.out⟩
end Go.Proofs.Ytfeilkhlapnpoaa
