import Derived.Test.YtaffgoacbiedlaaR4
namespace Go.Proofs.Ytaffgoacbiedlaa
open Go.RowKit
set_option linter.unusedVariables false
set_option linter.unusedSimpArgs false

structure Fct2 (w w3 : World) (L : List Value) (g : Nat) (v u : Value) : Prop where
  cell : ∃ x, w3.cell? ⟨w.heap.size, 4, none⟩ = some x
  cell2 : ∃ x, w3.cell? ⟨w.heap.size, 5, none⟩ = some x
  free : w3.frozen? ⟨w.heap.size, 4, none⟩ = false
  free2 : w3.frozen? ⟨w.heap.size, 5, none⟩ = false
  len : ((L.set 4 v).set 5 u).length = 13
  ld : Hid ((Instr.loadAt 41 (.pointer (some ⟨w.heap.size, 0, none⟩))).run Try.prog ((w3.setCell ⟨w.heap.size, 4, none⟩ v).setCell ⟨w.heap.size, 5, none⟩ u) = .ok (.agg ((L.set 4 v).set 5 u).toArray) ((w3.setCell ⟨w.heap.size, 4, none⟩ v).setCell ⟨w.heap.size, 5, none⟩ u))
  st : (storeCells ⟨w.heap.size + 1, 0, none⟩ ((L.set 4 v).set 5 u)).run Try.prog ((w3.setCell ⟨w.heap.size, 4, none⟩ v).setCell ⟨w.heap.size, 5, none⟩ u) = .ok () (((w3.setCell ⟨w.heap.size, 4, none⟩ v).setCell ⟨w.heap.size, 5, none⟩ u).setCells (w.heap.size + 1) 0 ((L.set 4 v).set 5 u))
  lv : Hid ((loadVar 41 ⟨w.heap.size + 1, 0, none⟩).run Try.prog (((w3.setCell ⟨w.heap.size, 4, none⟩ v).setCell ⟨w.heap.size, 5, none⟩ u).setCells (w.heap.size + 1) 0 ((L.set 4 v).set 5 u)) = .ok (.agg ((L.set 4 v).set 5 u).toArray) (((w3.setCell ⟨w.heap.size, 4, none⟩ v).setCell ⟨w.heap.size, 5, none⟩ u).setCells (w.heap.size + 1) 0 ((L.set 4 v).set 5 u)))
  but : Hid (But (· = g) w (((w3.setCell ⟨w.heap.size, 4, none⟩ v).setCell ⟨w.heap.size, 5, none⟩ u).setCells (w.heap.size + 1) 0 ((L.set 4 v).set 5 u)))
  own : Hid (But (fun k => k = w.heap.size ∨ k = w.heap.size + 1) w3 (((w3.setCell ⟨w.heap.size, 4, none⟩ v).setCell ⟨w.heap.size, 5, none⟩ u).setCells (w.heap.size + 1) 0 ((L.set 4 v).set 5 u)))
theorem fct2 {w w3 : World} {L Z : List Value} {g : Nat} (hb : But (· = g) (two w L Z) w3) (hg : g < w.heap.size) (hl : L.length = 13) (hzl : Z.length = 13) (h1 : ∀ v ∈ L, v.oneCell' = true) (v u : Value) (hv : v.oneCell' = true) (hu : u.oneCell' = true) : Fct2 w w3 L g v u := by
  have A3 := Aft.of hb hg
  have A4 := A3.set1 4 v (by omega)
  have hl4 : (L.set 4 v).length = 13 := by rw [List.length_set]; exact hl
  have A5 := A4.set1 5 u (by omega)
  have hl5 : ((L.set 4 v).set 5 u).length = 13 := by rw [List.length_set]; exact hl4
  have HF := A5.fin (by rw [hl5, hzl])
  exact ⟨⟨_, A3.b1.cell 4 (List.getElem?_eq_getElem (by omega))⟩, ⟨_, A3.b1.cell 5 (List.getElem?_eq_getElem (by omega))⟩, A3.free 4 (by omega), A3.free 5 (by omega), hl5, ld41 A5.b1.range hl5, stc (by rw [← hzl]; exact A5.b2.there) hl5 (all_set (all_set h1 4 hv) 5 hu), lv41 HF.1.range hl5, HF.2, setCells_but (S := fun k => k = w.heap.size ∨ k = w.heap.size + 1) (.inr rfl) _ 0 (((But.refl (fun k => k = w.heap.size ∨ k = w.heap.size + 1) _).setCell (p := ⟨w.heap.size, 4, none⟩) (.inl rfl) _).setCell (p := ⟨w.heap.size, 5, none⟩) (.inl rfl) _)⟩
set_option maxRecDepth 100000 in
set_option maxHeartbeats 4000000 in
theorem part_ok2 (g gb base : Nat) (R : List Nat) (L : List Value) (c : Cl) (w : World) (h : Co w base L c) (hrd : Rd w g gb R) (hg : g < base) (hgb : gb < base) (hbs : base ≤ w.heap.size) (hr : ¬ R.length < 16) :
    Calls Try.prog 62 #[.pointer (some ⟨g, 0, none⟩), .agg L.toArray, .int .i64 2] w fun e w' => ∃ L', e = .returned (.agg L'.toArray) ∧ Co w' base L' { c with hi := valL ((R.drop 8).take 8), lo := valL (R.take 8) } ∧ Rd w' g gb (R.drop 16) ∧ But (· = g) w w' := by
  have h8 : valL ((R.drop 8).take 8) < 18446744073709551616 ∧ valL (R.take 8) < 18446744073709551616 := by
    have a1 := valL_take_lt R 8 (by omega) hrd.small
    have a2 := valL_take_lt (R.drop 8) 8 (by simp; omega) (fun x hx => hrd.small x (List.mem_of_mem_drop hx))
    omega
  have H8 := hid h8
  clear h8
  obtain ⟨Z, hZl, hZo, hZz, hz⟩ := zero41
  have hZ0 : (Z.toArray = #[]) = False := by simp; intro h; rw [h] at hZl; simp at hZl
  have HZL := hid hZl
  have hll := h.len
  have HC := hid h
  have HR : Hid (Rd (two w L Z) g gb R) := hrd.later (two_below w L Z)
  have HG : Hid (g < w.heap.size ∧ gb < w.heap.size ∧ g < base ∧ gb < base ∧ base ≤ w.heap.size) := ⟨by omega, by omega, hg, hgb, hbs⟩
  clear h hZl hZo hZz hrd hg hgb hbs
  have H := word_ok g gb R (two w L Z) HR.out hr
  clear hr
  generalize valL ((R.drop 8).take 8) = a at H H8 ⊢
  generalize valL (R.take 8) = b at H H8 ⊢
  go_enter Try.func62, Try.ntmps62
  go_wp2_with (first | ((with_reducible refine ld_arm HLD.out ?_ ?_); (· rfl)) | (go_at_call 89; refine H.mono ?_; rintro e w3 ⟨rfl, hrd3, HBT0⟩; have HR3 := hid hrd3; have HBT := hid HBT0; clear hrd3 HBT0) | (go_at_call 88; refine (must_word _ _ _).mono ?_; rintro e w4 ⟨rfl, hb4⟩; obtain ⟨⟨x, hcl⟩, ⟨x2, hcl2⟩, hfr, hfr2, hl4, HLD, hst, HLV, HBU, HOW⟩ := fct2 (HBT.out.call hb4) HG.out.1 hll HZL.out HC.out.one (.int .u64 (a : Int)) (.int .u64 (b : Int)) rfl rfl; have HR4 := hid (HR3.out.later hb4); clear hb4))
  have hlv := HLV.out
  refine bodyPost_ret (v := .agg ((L.set 4 (.int .u64 (a : Int))).set 5 (.int .u64 (b : Int))).toArray) (by simp [results, Try.results62, asAddr, hlv]) rfl ⟨_, rfl, ?_, ?_, HBU.out⟩
  · obtain ⟨d, gs, hL, h1, h2, h3, h4⟩ := (HC.out.but HBU.out (fun k hk e => by have := HG.out; omega)).ex
    subst hL
    exact ⟨d, gs, rfl, h1, h2, H8.out.1, H8.out.2⟩
  · exact HR4.out.but HOW.out (by have := HG.out; omega) (by have := HG.out; omega)
set_option maxRecDepth 100000 in
set_option maxHeartbeats 4000000 in
theorem part_bad2 (g gb base : Nat) (R : List Nat) (L : List Value) (c : Cl) (w : World) (h : Co w base L c) (hrd : Rd w g gb R) (hg : g < base) (hgb : gb < base) (hbs : base ≤ w.heap.size) (hr : R.length < 16) :
    Calls Try.prog 62 #[.pointer (some ⟨g, 0, none⟩), .agg L.toArray, .int .i64 2] w fun e w' => Gave e ∧ But (· = g) w w' := by
  obtain ⟨Z, hZl, hZo, hZz, hz⟩ := zero41
  have hZ0 : (Z.toArray = #[]) = False := by simp; intro h; rw [h] at hZl; simp at hZl
  have HZL := hid hZl
  have hll := h.len
  have HC := hid h
  have HR : Hid (Rd (two w L Z) g gb R) := hrd.later (two_below w L Z)
  have HG : Hid (g < w.heap.size ∧ gb < w.heap.size ∧ g < base ∧ gb < base ∧ base ≤ w.heap.size) := ⟨by omega, by omega, hg, hgb, hbs⟩
  clear h hZl hZo hZz hrd hg hgb hbs
  have H := word_bad g gb R (two w L Z) HR.out hr
  clear hr
  go_enter Try.func62, Try.ntmps62
  go_wp2_with (first | (go_at_call 89; refine H.mono ?_; rintro e w3 ⟨x, y, z, rfl, hy, HBT⟩) | (go_at_call 88; refine (must_word_bad _ _ _ hy _).mono ?_; rintro e w4 ⟨⟨z, rfl⟩, hb4⟩))
  exact ⟨rfl, ⟨_, rfl⟩, ((But.of (two_below w L Z)).trans HBT).call hb4⟩
set_option maxRecDepth 100000 in
set_option maxHeartbeats 4000000 in
theorem part_ok7 (g gb base : Nat) (R : List Nat) (L : List Value) (c : Cl) (w : World) (h : Co w base L c) (hrd : Rd w g gb R) (hg : g < base) (hgb : gb < base) (hbs : base ≤ w.heap.size) (hr : R.length ≤ 140737488355328) :
    Calls Try.prog 62 #[.pointer (some ⟨g, 0, none⟩), .agg L.toArray, .int .i64 7] w fun e w' => ∃ L', e = .returned (.agg L'.toArray) ∧ Co w' base L' { c with data := R.take (min R.length 1025) } ∧ Rd w' g gb (R.drop (min R.length 1025)) ∧ But (· = g) w w' := by
  obtain ⟨Z, hZl, hZo, hZz, hz⟩ := zero41
  have hZ0 : (Z.toArray = #[]) = False := by simp; intro h; rw [h] at hZl; simp at hZl
  have HZL := hid hZl
  have hll := h.len
  have HC := hid h
  have HR : Hid (Rd (two w L Z) g gb R) := hrd.later (two_below w L Z)
  have HG : Hid (g < w.heap.size ∧ gb < w.heap.size ∧ g < base ∧ gb < base ∧ base ≤ w.heap.size) := ⟨by omega, by omega, hg, hgb, hbs⟩
  clear h hZl hZo hZz hrd hg hgb hbs
  have H := rest_any g gb R 1025 (two w L Z) HR.out hr
  clear hr
  go_enter Try.func62, Try.ntmps62
  go_wp2_with (first | ((with_reducible refine ld_arm HLD.out ?_ ?_); (· rfl)) | (go_at_call 54; refine H.mono ?_; rintro e w3 ⟨a, n, cp, rfl, hown, hrd3, HBT⟩; obtain ⟨⟨x, hcl⟩, hfr, hl4, HLD, hst, HLV, HBU, HOW⟩ := fct HBT HG.out.1 hll HZL.out HC.out.one 10 (by omega) (.slice a n cp) rfl; have HR3 := hid hrd3; have HO := hid hown; clear hrd3 HBT hown))
  have hlv := HLV.out
  refine bodyPost_ret (v := .agg (L.set 10 (.slice a n cp)).toArray) (by simp [results, Try.results62, asAddr, hlv]) rfl ⟨_, rfl, ?_, ?_, HBU.out⟩
  · obtain ⟨d, gs, hL, h1, h2, h3, h4⟩ := (HC.out.but HBU.out (fun k hk e => by have := HG.out; omega)).ex
    subst hL
    exact ⟨⟨a, n, cp⟩, gs, rfl, (HO.out.but HOW.out (fun k hk e => by simp at hk; omega)).mono (by have := HG.out; simp; omega), h2, h3, h4⟩
  · exact HR3.out.but HOW.out (by have := HG.out; omega) (by have := HG.out; omega)
set_option maxRecDepth 100000 in
set_option maxHeartbeats 2000000 in
theorem readGifts_none (g gb : Nat) (R0 : List Nat) (w : World) (h : Rd w g gb R0) (hr : rdN 1 255 R0 = none) :
    Calls Try.prog 90 #[.pointer (some ⟨g, 0, none⟩)] w fun e w' => Gave e ∧ But (· = g) w w' := by
  have H := int_bad g gb R0 1 255 w h (by omega) (by omega) hr
  clear h hr
  go_enter Try.func90, Try.ntmps90
  go_wp2_with (first | (go_at_call 51; refine H.mono ?_; rintro e w3 ⟨x, y, rfl, hy, HBT⟩) | (go_at_call 50; refine (must_int_bad _ _ hy _).mono ?_; rintro e w9 ⟨⟨z, rfl⟩, hw9⟩; obtain rfl := hw9.symm))
  exact ⟨rfl, ⟨_, rfl⟩, HBT⟩
set_option maxRecDepth 100000 in
set_option maxHeartbeats 4000000 in
theorem part_ok9 (g gb base : Nat) (R : List Nat) (L : List Value) (c : Cl) (w : World) (h : Co w base L c) (hrd : Rd w g gb R) (hg : g < base) (hgb : gb < base) (hbs : base ≤ w.heap.size) {k : Nat} {R1 : List Nat} (hr : rdN 1 255 R = some (k, R1)) (hk : ¬ R1.length < 2 * k) :
    Calls Try.prog 62 #[.pointer (some ⟨g, 0, none⟩), .agg L.toArray, .int .i64 9] w fun e w' => ∃ L', e = .returned (.agg L'.toArray) ∧ Co w' base L' { c with gifts := gL R1 k } ∧ Rd w' g gb (R1.drop (2 * k)) ∧ But (· = g) w w' := by
  obtain ⟨Z, hZl, hZo, hZz, hz⟩ := zero41
  have hZ0 : (Z.toArray = #[]) = False := by simp; intro h; rw [h] at hZl; simp at hZl
  have HZL := hid hZl
  have hll := h.len
  have HC := hid h
  have HR : Hid (Rd (two w L Z) g gb R) := hrd.later (two_below w L Z)
  have HG : Hid (g < w.heap.size ∧ gb < w.heap.size ∧ g < base ∧ gb < base ∧ base ≤ w.heap.size) := ⟨by omega, by omega, hg, hgb, hbs⟩
  clear h hZl hZo hZz hrd hg hgb hbs
  have H := readGifts_all g gb R R1 k (two w L Z) HR.out hr (by have := HG.out; simp; omega) (by have := HG.out; simp; omega)
  clear hr
  go_enter Try.func62, Try.ntmps62
  go_wp2_with (first | ((with_reducible refine ld_arm HLD.out ?_ ?_); (· rfl)) | (go_at_call 90; refine H.mono ?_; rintro e w3 ⟨(⟨_, a, n, cp, rfl, hown, hrd3⟩ | ⟨hx, _⟩), HBT⟩; (rotate_left; (· exact absurd hx hk)); obtain ⟨⟨x, hcl⟩, hfr, hl4, HLD, hst, HLV, HBU, HOW⟩ := fct HBT HG.out.1 hll HZL.out HC.out.one 12 (by omega) (.slice a n cp) rfl; have HR3 := hid hrd3; have HO := hid hown; clear hrd3 HBT hown))
  have hlv := HLV.out
  refine bodyPost_ret (v := .agg (L.set 12 (.slice a n cp)).toArray) (by simp [results, Try.results62, asAddr, hlv]) rfl ⟨_, rfl, ?_, ?_, HBU.out⟩
  · obtain ⟨d, gs, hL, h1, h2, h3, h4⟩ := (HC.out.but HBU.out (fun k hk e => by have := HG.out; omega)).ex
    subst hL
    exact ⟨d, ⟨a, n, cp⟩, rfl, h1, (HO.out.but HOW.out (fun x hx e => by have := HO.out.blk x hx; simp at this; omega)).mono (by have := HG.out; simp; omega), h3, h4⟩
  · exact HR3.out.but HOW.out (by have := HG.out; omega) (by have := HG.out; omega)
set_option maxRecDepth 100000 in
set_option maxHeartbeats 4000000 in
theorem part_bad9 (g gb base : Nat) (R : List Nat) (L : List Value) (c : Cl) (w : World) (h : Co w base L c) (hrd : Rd w g gb R) (hg : g < base) (hgb : gb < base) (hbs : base ≤ w.heap.size) (hr : rdP 9 c R = none) :
    Calls Try.prog 62 #[.pointer (some ⟨g, 0, none⟩), .agg L.toArray, .int .i64 9] w fun e w' => Gave e ∧ But (· = g) w w' := by
  obtain ⟨Z, hZl, hZo, hZz, hz⟩ := zero41
  have hZ0 : (Z.toArray = #[]) = False := by simp; intro h; rw [h] at hZl; simp at hZl
  have HZL := hid hZl
  have hll := h.len
  have HC := hid h
  have HR : Hid (Rd (two w L Z) g gb R) := hrd.later (two_below w L Z)
  have HG : Hid (g < w.heap.size ∧ gb < w.heap.size ∧ g < base ∧ gb < base ∧ base ≤ w.heap.size) := ⟨by omega, by omega, hg, hgb, hbs⟩
  clear h hZl hZo hZz hrd hg hgb hbs
  have H : Calls Try.prog 90 #[.pointer (some ⟨g, 0, none⟩)] (two w L Z) fun e w' => Gave e ∧ But (· = g) (two w L Z) w' := by
    cases hn : rdN 1 255 R with
    | none => exact readGifts_none g gb R (two w L Z) HR.out hn
    | some x =>
      obtain ⟨k, R1⟩ := x
      refine (readGifts_all g gb R R1 k (two w L Z) HR.out hn (by have := HG.out; simp; omega) (by have := HG.out; simp; omega)).mono ?_
      rintro e w' ⟨(⟨h1, _⟩ | ⟨_, h2⟩), hb⟩
      · simp only [rdP, hn, show ¬ (9 : Nat) = 0 by omega, show ¬ (9 : Nat) = 1 by omega, show ¬ (9 : Nat) = 2 by omega, show ¬ (9 : Nat) = 3 by omega, show ¬ (9 : Nat) = 4 by omega, show ¬ (9 : Nat) = 5 by omega, show ¬ (9 : Nat) = 6 by omega, show ¬ (9 : Nat) = 7 by omega, show ¬ (9 : Nat) = 8 by omega, if_true, if_false] at hr
        rw [if_neg (by omega)] at hr
        cases hr
      · exact ⟨h2, hb⟩
  clear hr
  go_enter Try.func62, Try.ntmps62
  go_wp2_with (first | (go_at_call 90; refine H.mono ?_; rintro e w3 ⟨⟨x, rfl⟩, HBT⟩))
  exact ⟨rfl, ⟨_, rfl⟩, (But.of (two_below w L Z)).trans HBT⟩
end Go.Proofs.Ytaffgoacbiedlaa
