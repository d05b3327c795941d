import Derived.Test.YtaffgoacbiedlaaR3
namespace Go.Proofs.Ytaffgoacbiedlaa
open Go.RowKit
set_option linter.unusedVariables false
set_option linter.unusedSimpArgs false

set_option maxRecDepth 100000 in
set_option maxHeartbeats 4000000 in
theorem part_ok0 (g gb base : Nat) (R : List Nat) (L : List Value) (c : Cl) (w : World) (h : Co w base L c) (hrd : Rd w g gb R) (hg : g < base) (hgb : gb < base) (hbs : base ≤ w.heap.size) {v : Nat} {R2 : List Nat} (hr : rdN 4 4294967295 R = some (v, R2)) :
    Calls Try.prog 62 #[.pointer (some ⟨g, 0, none⟩), .agg L.toArray, .int .i64 0] w fun e w' => ∃ L', e = .returned (.agg L'.toArray) ∧ Co w' base L' { c with size := sI v } ∧ Rd w' g gb R2 ∧ But (· = g) w w' := by
  obtain ⟨Z, hZl, hZo, hZz, hz⟩ := zero41
  have hZ0 : (Z.toArray = #[]) = False := by simp; intro h; rw [h] at hZl; simp at hZl
  have HZL := hid hZl
  have hll := h.len
  have HC := hid h
  have HR : Hid (Rd (two w L Z) g gb R) := hrd.later (two_below w L Z)
  have HG : Hid (g < w.heap.size ∧ gb < w.heap.size ∧ g < base ∧ gb < base ∧ base ≤ w.heap.size) := ⟨by omega, by omega, hg, hgb, hbs⟩
  clear h hZl hZo hZz hrd hg hgb hbs
  have HS : Hid (∃ s, s = sI v) := ⟨_, rfl⟩
  obtain ⟨s, hs⟩ := HS.out
  have H := readSigned_ok g gb R (two w L Z) HR.out hr
  rw [← hs] at H ⊢
  clear hs hr HS
  go_enter Try.func62, Try.ntmps62
  go_wp2_with (first | ((with_reducible refine ld_arm HLD.out ?_ ?_); (· rfl)) | (go_at_call 87; refine H.mono ?_; rintro e w3 ⟨rfl, hrd3, HBT⟩; obtain ⟨⟨u, hcl⟩, hfr, hl4, HLD, hst, HLV, HBU, HOW⟩ := fct HBT HG.out.1 hll HZL.out HC.out.one 2 (by omega) (.int .i64 s) rfl; have HR3 := hid hrd3; clear hrd3 HBT))
  have hlv := HLV.out
  refine bodyPost_ret (v := .agg (L.set 2 (.int .i64 s)).toArray) (by simp [results, Try.results62, asAddr, hlv]) rfl ⟨_, rfl, ?_, ?_, HBU.out⟩
  · obtain ⟨d, gs, hL, h1, h2, h3, h4⟩ := (HC.out.but HBU.out (fun k hk e => by have := HG.out; omega)).ex
    subst hL
    exact ⟨d, gs, rfl, h1, h2, h3, h4⟩
  · exact HR3.out.but HOW.out (by have := HG.out; omega) (by have := HG.out; omega)
set_option maxRecDepth 100000 in
set_option maxHeartbeats 4000000 in
theorem part_bad0 (g gb base : Nat) (R : List Nat) (L : List Value) (c : Cl) (w : World) (h : Co w base L c) (hrd : Rd w g gb R) (hg : g < base) (hgb : gb < base) (hbs : base ≤ w.heap.size) (hr : rdN 4 4294967295 R = none) :
    Calls Try.prog 62 #[.pointer (some ⟨g, 0, none⟩), .agg L.toArray, .int .i64 0] w fun e w' => Gave e ∧ But (· = g) w w' := by
  obtain ⟨Z, hZl, hZo, hZz, hz⟩ := zero41
  have hZ0 : (Z.toArray = #[]) = False := by simp; intro h; rw [h] at hZl; simp at hZl
  have HZL := hid hZl
  have hll := h.len
  have HC := hid h
  have HR : Hid (Rd (two w L Z) g gb R) := hrd.later (two_below w L Z)
  have HG : Hid (g < w.heap.size ∧ gb < w.heap.size ∧ g < base ∧ gb < base ∧ base ≤ w.heap.size) := ⟨by omega, by omega, hg, hgb, hbs⟩
  clear h hZl hZo hZz hrd hg hgb hbs
  have H := readSigned_bad g gb R (two w L Z) HR.out hr
  clear hr
  go_enter Try.func62, Try.ntmps62
  go_wp2_with (first | (go_at_call 87; refine H.mono ?_; rintro e w3 ⟨⟨x, rfl⟩, HBT⟩))
  exact ⟨rfl, ⟨_, rfl⟩, (But.of (two_below w L Z)).trans HBT⟩
set_option maxRecDepth 100000 in
set_option maxHeartbeats 4000000 in
theorem part_ok1 (g gb base : Nat) (R : List Nat) (L : List Value) (c : Cl) (w : World) (h : Co w base L c) (hrd : Rd w g gb R) (hg : g < base) (hgb : gb < base) (hbs : base ≤ w.heap.size) {v : Nat} {R2 : List Nat} (hr : rdN 8 4611686018427387904 R = some (v, R2)) :
    Calls Try.prog 62 #[.pointer (some ⟨g, 0, none⟩), .agg L.toArray, .int .i64 1] w fun e w' => ∃ L', e = .returned (.agg L'.toArray) ∧ Co w' base L' { c with obj := (v : Int) } ∧ Rd w' g gb R2 ∧ But (· = g) w w' := by
  obtain ⟨Z, hZl, hZo, hZz, hz⟩ := zero41
  have hZ0 : (Z.toArray = #[]) = False := by simp; intro h; rw [h] at hZl; simp at hZl
  have HZL := hid hZl
  have hll := h.len
  have HC := hid h
  have HR : Hid (Rd (two w L Z) g gb R) := hrd.later (two_below w L Z)
  have HG : Hid (g < w.heap.size ∧ gb < w.heap.size ∧ g < base ∧ gb < base ∧ base ≤ w.heap.size) := ⟨by omega, by omega, hg, hgb, hbs⟩
  clear h hZl hZo hZz hrd hg hgb hbs
  have H := int_ok g gb R 8 4611686018427387904 (two w L Z) HR.out (by omega) (by omega) hr
  clear hr
  go_enter Try.func62, Try.ntmps62
  go_wp2_with (first | ((with_reducible refine ld_arm HLD.out ?_ ?_); (· rfl)) | (go_at_call 51; refine H.mono ?_; rintro e w3 ⟨rfl, hrd3, HBT⟩; obtain ⟨⟨u, hcl⟩, hfr, hl4, HLD, hst, HLV, HBU, HOW⟩ := fct HBT HG.out.1 hll HZL.out HC.out.one 3 (by omega) (.int .i64 (v : Int)) rfl; have HR3 := hid hrd3; clear hrd3 HBT) | (go_at_call 50; refine (must_int _ _).mono ?_; rintro e w9 ⟨rfl, hw9⟩; obtain rfl := hw9.symm))
  have hlv := HLV.out
  refine bodyPost_ret (v := .agg (L.set 3 (.int .i64 (v : Int))).toArray) (by simp [results, Try.results62, asAddr, hlv]) rfl ⟨_, rfl, ?_, ?_, HBU.out⟩
  · obtain ⟨d, gs, hL, h1, h2, h3, h4⟩ := (HC.out.but HBU.out (fun k hk e => by have := HG.out; omega)).ex
    subst hL
    exact ⟨d, gs, rfl, h1, h2, h3, h4⟩
  · exact HR3.out.but HOW.out (by have := HG.out; omega) (by have := HG.out; omega)
set_option maxRecDepth 100000 in
set_option maxHeartbeats 4000000 in
theorem part_bad1 (g gb base : Nat) (R : List Nat) (L : List Value) (c : Cl) (w : World) (h : Co w base L c) (hrd : Rd w g gb R) (hg : g < base) (hgb : gb < base) (hbs : base ≤ w.heap.size) (hr : rdN 8 4611686018427387904 R = none) :
    Calls Try.prog 62 #[.pointer (some ⟨g, 0, none⟩), .agg L.toArray, .int .i64 1] w fun e w' => Gave e ∧ But (· = g) w w' := by
  obtain ⟨Z, hZl, hZo, hZz, hz⟩ := zero41
  have hZ0 : (Z.toArray = #[]) = False := by simp; intro h; rw [h] at hZl; simp at hZl
  have HZL := hid hZl
  have hll := h.len
  have HC := hid h
  have HR : Hid (Rd (two w L Z) g gb R) := hrd.later (two_below w L Z)
  have HG : Hid (g < w.heap.size ∧ gb < w.heap.size ∧ g < base ∧ gb < base ∧ base ≤ w.heap.size) := ⟨by omega, by omega, hg, hgb, hbs⟩
  clear h hZl hZo hZz hrd hg hgb hbs
  have H := int_bad g gb R 8 4611686018427387904 (two w L Z) HR.out (by omega) (by omega) hr
  clear hr
  go_enter Try.func62, Try.ntmps62
  go_wp2_with (first | (go_at_call 51; refine H.mono ?_; rintro e w3 ⟨x, y, rfl, hy, HBT⟩) | (go_at_call 50; refine (must_int_bad _ _ hy _).mono ?_; rintro e w9 ⟨⟨z, rfl⟩, hw9⟩; obtain rfl := hw9.symm))
  exact ⟨rfl, ⟨_, rfl⟩, (But.of (two_below w L Z)).trans HBT⟩
set_option maxRecDepth 100000 in
set_option maxHeartbeats 4000000 in
theorem part_ok3 (g gb base : Nat) (R : List Nat) (L : List Value) (c : Cl) (w : World) (h : Co w base L c) (hrd : Rd w g gb R) (hg : g < base) (hgb : gb < base) (hbs : base ≤ w.heap.size) {v : Nat} {R2 : List Nat} (hr : rdN 1 1 R = some (v, R2)) :
    Calls Try.prog 62 #[.pointer (some ⟨g, 0, none⟩), .agg L.toArray, .int .i64 3] w fun e w' => ∃ L', e = .returned (.agg L'.toArray) ∧ Co w' base L' { c with given := decide (v = 1) } ∧ Rd w' g gb R2 ∧ But (· = g) w w' := by
  obtain ⟨Z, hZl, hZo, hZz, hz⟩ := zero41
  have hZ0 : (Z.toArray = #[]) = False := by simp; intro h; rw [h] at hZl; simp at hZl
  have HZL := hid hZl
  have hll := h.len
  have HC := hid h
  have HR : Hid (Rd (two w L Z) g gb R) := hrd.later (two_below w L Z)
  have HG : Hid (g < w.heap.size ∧ gb < w.heap.size ∧ g < base ∧ gb < base ∧ base ≤ w.heap.size) := ⟨by omega, by omega, hg, hgb, hbs⟩
  clear h hZl hZo hZz hrd hg hgb hbs
  have H := int_ok g gb R 1 1 (two w L Z) HR.out (by omega) (by omega) hr
  clear hr
  go_enter Try.func62, Try.ntmps62
  go_wp2_with (first | ((with_reducible refine ld_arm HLD.out ?_ ?_); (· rfl)) | (go_at_call 51; refine H.mono ?_; rintro e w3 ⟨rfl, hrd3, HBT⟩; obtain ⟨⟨u, hcl⟩, hfr, hl4, HLD, hst, HLV, HBU, HOW⟩ := fct HBT HG.out.1 hll HZL.out HC.out.one 6 (by omega) (.bool ((v : Int) == 1)) rfl; have HR3 := hid hrd3; clear hrd3 HBT) | (go_at_call 50; refine (must_int _ _).mono ?_; rintro e w9 ⟨rfl, hw9⟩; obtain rfl := hw9.symm))
  have hlv := HLV.out
  refine bodyPost_ret (v := .agg (L.set 6 (.bool ((v : Int) == 1))).toArray) (by simp [results, Try.results62, asAddr, hlv]) rfl ⟨_, rfl, ?_, ?_, HBU.out⟩
  · obtain ⟨d, gs, hL, h1, h2, h3, h4⟩ := (HC.out.but HBU.out (fun k hk e => by have := HG.out; omega)).ex
    subst hL
    exact ⟨d, gs, by simp only [cC, List.set, show ((v : Int) == 1) = decide (v = 1) from by rw [Bool.eq_iff_iff]; simp; omega], h1, h2, h3, h4⟩
  · exact HR3.out.but HOW.out (by have := HG.out; omega) (by have := HG.out; omega)
set_option maxRecDepth 100000 in
set_option maxHeartbeats 4000000 in
theorem part_bad3 (g gb base : Nat) (R : List Nat) (L : List Value) (c : Cl) (w : World) (h : Co w base L c) (hrd : Rd w g gb R) (hg : g < base) (hgb : gb < base) (hbs : base ≤ w.heap.size) (hr : rdN 1 1 R = none) :
    Calls Try.prog 62 #[.pointer (some ⟨g, 0, none⟩), .agg L.toArray, .int .i64 3] w fun e w' => Gave e ∧ But (· = g) w w' := by
  obtain ⟨Z, hZl, hZo, hZz, hz⟩ := zero41
  have hZ0 : (Z.toArray = #[]) = False := by simp; intro h; rw [h] at hZl; simp at hZl
  have HZL := hid hZl
  have hll := h.len
  have HC := hid h
  have HR : Hid (Rd (two w L Z) g gb R) := hrd.later (two_below w L Z)
  have HG : Hid (g < w.heap.size ∧ gb < w.heap.size ∧ g < base ∧ gb < base ∧ base ≤ w.heap.size) := ⟨by omega, by omega, hg, hgb, hbs⟩
  clear h hZl hZo hZz hrd hg hgb hbs
  have H := int_bad g gb R 1 1 (two w L Z) HR.out (by omega) (by omega) hr
  clear hr
  go_enter Try.func62, Try.ntmps62
  go_wp2_with (first | (go_at_call 51; refine H.mono ?_; rintro e w3 ⟨x, y, rfl, hy, HBT⟩) | (go_at_call 50; refine (must_int_bad _ _ hy _).mono ?_; rintro e w9 ⟨⟨z, rfl⟩, hw9⟩; obtain rfl := hw9.symm))
  exact ⟨rfl, ⟨_, rfl⟩, (But.of (two_below w L Z)).trans HBT⟩
set_option maxRecDepth 100000 in
set_option maxHeartbeats 4000000 in
theorem part_ok4 (g gb base : Nat) (R : List Nat) (L : List Value) (c : Cl) (w : World) (h : Co w base L c) (hrd : Rd w g gb R) (hg : g < base) (hgb : gb < base) (hbs : base ≤ w.heap.size) {v : Nat} {R2 : List Nat} (hr : rdN 1 255 R = some (v, R2)) :
    Calls Try.prog 62 #[.pointer (some ⟨g, 0, none⟩), .agg L.toArray, .int .i64 4] w fun e w' => ∃ L', e = .returned (.agg L'.toArray) ∧ Co w' base L' { c with rights := (v : Int) } ∧ Rd w' g gb R2 ∧ But (· = g) w w' := by
  obtain ⟨Z, hZl, hZo, hZz, hz⟩ := zero41
  have hZ0 : (Z.toArray = #[]) = False := by simp; intro h; rw [h] at hZl; simp at hZl
  have HZL := hid hZl
  have hll := h.len
  have HC := hid h
  have HR : Hid (Rd (two w L Z) g gb R) := hrd.later (two_below w L Z)
  have HG : Hid (g < w.heap.size ∧ gb < w.heap.size ∧ g < base ∧ gb < base ∧ base ≤ w.heap.size) := ⟨by omega, by omega, hg, hgb, hbs⟩
  clear h hZl hZo hZz hrd hg hgb hbs
  have H := int_ok g gb R 1 255 (two w L Z) HR.out (by omega) (by omega) hr
  clear hr
  go_enter Try.func62, Try.ntmps62
  go_wp2_with (first | ((with_reducible refine ld_arm HLD.out ?_ ?_); (· rfl)) | (go_at_call 51; refine H.mono ?_; rintro e w3 ⟨rfl, hrd3, HBT⟩; obtain ⟨⟨u, hcl⟩, hfr, hl4, HLD, hst, HLV, HBU, HOW⟩ := fct HBT HG.out.1 hll HZL.out HC.out.one 7 (by omega) (.int .i64 (v : Int)) rfl; have HR3 := hid hrd3; clear hrd3 HBT) | (go_at_call 50; refine (must_int _ _).mono ?_; rintro e w9 ⟨rfl, hw9⟩; obtain rfl := hw9.symm))
  have hlv := HLV.out
  refine bodyPost_ret (v := .agg (L.set 7 (.int .i64 (v : Int))).toArray) (by simp [results, Try.results62, asAddr, hlv]) rfl ⟨_, rfl, ?_, ?_, HBU.out⟩
  · obtain ⟨d, gs, hL, h1, h2, h3, h4⟩ := (HC.out.but HBU.out (fun k hk e => by have := HG.out; omega)).ex
    subst hL
    exact ⟨d, gs, rfl, h1, h2, h3, h4⟩
  · exact HR3.out.but HOW.out (by have := HG.out; omega) (by have := HG.out; omega)
set_option maxRecDepth 100000 in
set_option maxHeartbeats 4000000 in
theorem part_bad4 (g gb base : Nat) (R : List Nat) (L : List Value) (c : Cl) (w : World) (h : Co w base L c) (hrd : Rd w g gb R) (hg : g < base) (hgb : gb < base) (hbs : base ≤ w.heap.size) (hr : rdN 1 255 R = none) :
    Calls Try.prog 62 #[.pointer (some ⟨g, 0, none⟩), .agg L.toArray, .int .i64 4] w fun e w' => Gave e ∧ But (· = g) w w' := by
  obtain ⟨Z, hZl, hZo, hZz, hz⟩ := zero41
  have hZ0 : (Z.toArray = #[]) = False := by simp; intro h; rw [h] at hZl; simp at hZl
  have HZL := hid hZl
  have hll := h.len
  have HC := hid h
  have HR : Hid (Rd (two w L Z) g gb R) := hrd.later (two_below w L Z)
  have HG : Hid (g < w.heap.size ∧ gb < w.heap.size ∧ g < base ∧ gb < base ∧ base ≤ w.heap.size) := ⟨by omega, by omega, hg, hgb, hbs⟩
  clear h hZl hZo hZz hrd hg hgb hbs
  have H := int_bad g gb R 1 255 (two w L Z) HR.out (by omega) (by omega) hr
  clear hr
  go_enter Try.func62, Try.ntmps62
  go_wp2_with (first | (go_at_call 51; refine H.mono ?_; rintro e w3 ⟨x, y, rfl, hy, HBT⟩) | (go_at_call 50; refine (must_int_bad _ _ hy _).mono ?_; rintro e w9 ⟨⟨z, rfl⟩, hw9⟩; obtain rfl := hw9.symm))
  exact ⟨rfl, ⟨_, rfl⟩, (But.of (two_below w L Z)).trans HBT⟩
set_option maxRecDepth 100000 in
set_option maxHeartbeats 4000000 in
theorem part_ok5 (g gb base : Nat) (R : List Nat) (L : List Value) (c : Cl) (w : World) (h : Co w base L c) (hrd : Rd w g gb R) (hg : g < base) (hgb : gb < base) (hbs : base ≤ w.heap.size) {v : Nat} {R2 : List Nat} (hr : rdN 4 4294967295 R = some (v, R2)) :
    Calls Try.prog 62 #[.pointer (some ⟨g, 0, none⟩), .agg L.toArray, .int .i64 5] w fun e w' => ∃ L', e = .returned (.agg L'.toArray) ∧ Co w' base L' { c with off := sI v } ∧ Rd w' g gb R2 ∧ But (· = g) w w' := by
  obtain ⟨Z, hZl, hZo, hZz, hz⟩ := zero41
  have hZ0 : (Z.toArray = #[]) = False := by simp; intro h; rw [h] at hZl; simp at hZl
  have HZL := hid hZl
  have hll := h.len
  have HC := hid h
  have HR : Hid (Rd (two w L Z) g gb R) := hrd.later (two_below w L Z)
  have HG : Hid (g < w.heap.size ∧ gb < w.heap.size ∧ g < base ∧ gb < base ∧ base ≤ w.heap.size) := ⟨by omega, by omega, hg, hgb, hbs⟩
  clear h hZl hZo hZz hrd hg hgb hbs
  have HS : Hid (∃ s, s = sI v) := ⟨_, rfl⟩
  obtain ⟨s, hs⟩ := HS.out
  have H := readSigned_ok g gb R (two w L Z) HR.out hr
  rw [← hs] at H ⊢
  clear hs hr HS
  go_enter Try.func62, Try.ntmps62
  go_wp2_with (first | ((with_reducible refine ld_arm HLD.out ?_ ?_); (· rfl)) | (go_at_call 87; refine H.mono ?_; rintro e w3 ⟨rfl, hrd3, HBT⟩; obtain ⟨⟨u, hcl⟩, hfr, hl4, HLD, hst, HLV, HBU, HOW⟩ := fct HBT HG.out.1 hll HZL.out HC.out.one 8 (by omega) (.int .i64 s) rfl; have HR3 := hid hrd3; clear hrd3 HBT))
  have hlv := HLV.out
  refine bodyPost_ret (v := .agg (L.set 8 (.int .i64 s)).toArray) (by simp [results, Try.results62, asAddr, hlv]) rfl ⟨_, rfl, ?_, ?_, HBU.out⟩
  · obtain ⟨d, gs, hL, h1, h2, h3, h4⟩ := (HC.out.but HBU.out (fun k hk e => by have := HG.out; omega)).ex
    subst hL
    exact ⟨d, gs, rfl, h1, h2, h3, h4⟩
  · exact HR3.out.but HOW.out (by have := HG.out; omega) (by have := HG.out; omega)
set_option maxRecDepth 100000 in
set_option maxHeartbeats 4000000 in
theorem part_bad5 (g gb base : Nat) (R : List Nat) (L : List Value) (c : Cl) (w : World) (h : Co w base L c) (hrd : Rd w g gb R) (hg : g < base) (hgb : gb < base) (hbs : base ≤ w.heap.size) (hr : rdN 4 4294967295 R = none) :
    Calls Try.prog 62 #[.pointer (some ⟨g, 0, none⟩), .agg L.toArray, .int .i64 5] w fun e w' => Gave e ∧ But (· = g) w w' := by
  obtain ⟨Z, hZl, hZo, hZz, hz⟩ := zero41
  have hZ0 : (Z.toArray = #[]) = False := by simp; intro h; rw [h] at hZl; simp at hZl
  have HZL := hid hZl
  have hll := h.len
  have HC := hid h
  have HR : Hid (Rd (two w L Z) g gb R) := hrd.later (two_below w L Z)
  have HG : Hid (g < w.heap.size ∧ gb < w.heap.size ∧ g < base ∧ gb < base ∧ base ≤ w.heap.size) := ⟨by omega, by omega, hg, hgb, hbs⟩
  clear h hZl hZo hZz hrd hg hgb hbs
  have H := readSigned_bad g gb R (two w L Z) HR.out hr
  clear hr
  go_enter Try.func62, Try.ntmps62
  go_wp2_with (first | (go_at_call 87; refine H.mono ?_; rintro e w3 ⟨⟨x, rfl⟩, HBT⟩))
  exact ⟨rfl, ⟨_, rfl⟩, (But.of (two_below w L Z)).trans HBT⟩
set_option maxRecDepth 100000 in
set_option maxHeartbeats 4000000 in
theorem part_ok6 (g gb base : Nat) (R : List Nat) (L : List Value) (c : Cl) (w : World) (h : Co w base L c) (hrd : Rd w g gb R) (hg : g < base) (hgb : gb < base) (hbs : base ≤ w.heap.size) {v : Nat} {R2 : List Nat} (hr : rdN 4 4294967295 R = some (v, R2)) :
    Calls Try.prog 62 #[.pointer (some ⟨g, 0, none⟩), .agg L.toArray, .int .i64 6] w fun e w' => ∃ L', e = .returned (.agg L'.toArray) ∧ Co w' base L' { c with n := sI v } ∧ Rd w' g gb R2 ∧ But (· = g) w w' := by
  obtain ⟨Z, hZl, hZo, hZz, hz⟩ := zero41
  have hZ0 : (Z.toArray = #[]) = False := by simp; intro h; rw [h] at hZl; simp at hZl
  have HZL := hid hZl
  have hll := h.len
  have HC := hid h
  have HR : Hid (Rd (two w L Z) g gb R) := hrd.later (two_below w L Z)
  have HG : Hid (g < w.heap.size ∧ gb < w.heap.size ∧ g < base ∧ gb < base ∧ base ≤ w.heap.size) := ⟨by omega, by omega, hg, hgb, hbs⟩
  clear h hZl hZo hZz hrd hg hgb hbs
  have HS : Hid (∃ s, s = sI v) := ⟨_, rfl⟩
  obtain ⟨s, hs⟩ := HS.out
  have H := readSigned_ok g gb R (two w L Z) HR.out hr
  rw [← hs] at H ⊢
  clear hs hr HS
  go_enter Try.func62, Try.ntmps62
  go_wp2_with (first | ((with_reducible refine ld_arm HLD.out ?_ ?_); (· rfl)) | (go_at_call 87; refine H.mono ?_; rintro e w3 ⟨rfl, hrd3, HBT⟩; obtain ⟨⟨u, hcl⟩, hfr, hl4, HLD, hst, HLV, HBU, HOW⟩ := fct HBT HG.out.1 hll HZL.out HC.out.one 9 (by omega) (.int .i64 s) rfl; have HR3 := hid hrd3; clear hrd3 HBT))
  have hlv := HLV.out
  refine bodyPost_ret (v := .agg (L.set 9 (.int .i64 s)).toArray) (by simp [results, Try.results62, asAddr, hlv]) rfl ⟨_, rfl, ?_, ?_, HBU.out⟩
  · obtain ⟨d, gs, hL, h1, h2, h3, h4⟩ := (HC.out.but HBU.out (fun k hk e => by have := HG.out; omega)).ex
    subst hL
    exact ⟨d, gs, rfl, h1, h2, h3, h4⟩
  · exact HR3.out.but HOW.out (by have := HG.out; omega) (by have := HG.out; omega)
set_option maxRecDepth 100000 in
set_option maxHeartbeats 4000000 in
theorem part_bad6 (g gb base : Nat) (R : List Nat) (L : List Value) (c : Cl) (w : World) (h : Co w base L c) (hrd : Rd w g gb R) (hg : g < base) (hgb : gb < base) (hbs : base ≤ w.heap.size) (hr : rdN 4 4294967295 R = none) :
    Calls Try.prog 62 #[.pointer (some ⟨g, 0, none⟩), .agg L.toArray, .int .i64 6] w fun e w' => Gave e ∧ But (· = g) w w' := by
  obtain ⟨Z, hZl, hZo, hZz, hz⟩ := zero41
  have hZ0 : (Z.toArray = #[]) = False := by simp; intro h; rw [h] at hZl; simp at hZl
  have HZL := hid hZl
  have hll := h.len
  have HC := hid h
  have HR : Hid (Rd (two w L Z) g gb R) := hrd.later (two_below w L Z)
  have HG : Hid (g < w.heap.size ∧ gb < w.heap.size ∧ g < base ∧ gb < base ∧ base ≤ w.heap.size) := ⟨by omega, by omega, hg, hgb, hbs⟩
  clear h hZl hZo hZz hrd hg hgb hbs
  have H := readSigned_bad g gb R (two w L Z) HR.out hr
  clear hr
  go_enter Try.func62, Try.ntmps62
  go_wp2_with (first | (go_at_call 87; refine H.mono ?_; rintro e w3 ⟨⟨x, rfl⟩, HBT⟩))
  exact ⟨rfl, ⟨_, rfl⟩, (But.of (two_below w L Z)).trans HBT⟩
set_option maxRecDepth 100000 in
set_option maxHeartbeats 4000000 in
theorem part_ok8 (g gb base : Nat) (R : List Nat) (L : List Value) (c : Cl) (w : World) (h : Co w base L c) (hrd : Rd w g gb R) (hg : g < base) (hgb : gb < base) (hbs : base ≤ w.heap.size) {v : Nat} {R2 : List Nat} (hr : rdN 2 65535 R = some (v, R2)) :
    Calls Try.prog 62 #[.pointer (some ⟨g, 0, none⟩), .agg L.toArray, .int .i64 8] w fun e w' => ∃ L', e = .returned (.agg L'.toArray) ∧ Co w' base L' { c with index := (v : Int) } ∧ Rd w' g gb R2 ∧ But (· = g) w w' := by
  obtain ⟨Z, hZl, hZo, hZz, hz⟩ := zero41
  have hZ0 : (Z.toArray = #[]) = False := by simp; intro h; rw [h] at hZl; simp at hZl
  have HZL := hid hZl
  have hll := h.len
  have HC := hid h
  have HR : Hid (Rd (two w L Z) g gb R) := hrd.later (two_below w L Z)
  have HG : Hid (g < w.heap.size ∧ gb < w.heap.size ∧ g < base ∧ gb < base ∧ base ≤ w.heap.size) := ⟨by omega, by omega, hg, hgb, hbs⟩
  clear h hZl hZo hZz hrd hg hgb hbs
  have H := int_ok g gb R 2 65535 (two w L Z) HR.out (by omega) (by omega) hr
  clear hr
  go_enter Try.func62, Try.ntmps62
  go_wp2_with (first | ((with_reducible refine ld_arm HLD.out ?_ ?_); (· rfl)) | (go_at_call 51; refine H.mono ?_; rintro e w3 ⟨rfl, hrd3, HBT⟩; obtain ⟨⟨u, hcl⟩, hfr, hl4, HLD, hst, HLV, HBU, HOW⟩ := fct HBT HG.out.1 hll HZL.out HC.out.one 11 (by omega) (.int .i64 (v : Int)) rfl; have HR3 := hid hrd3; clear hrd3 HBT) | (go_at_call 50; refine (must_int _ _).mono ?_; rintro e w9 ⟨rfl, hw9⟩; obtain rfl := hw9.symm))
  have hlv := HLV.out
  refine bodyPost_ret (v := .agg (L.set 11 (.int .i64 (v : Int))).toArray) (by simp [results, Try.results62, asAddr, hlv]) rfl ⟨_, rfl, ?_, ?_, HBU.out⟩
  · obtain ⟨d, gs, hL, h1, h2, h3, h4⟩ := (HC.out.but HBU.out (fun k hk e => by have := HG.out; omega)).ex
    subst hL
    exact ⟨d, gs, rfl, h1, h2, h3, h4⟩
  · exact HR3.out.but HOW.out (by have := HG.out; omega) (by have := HG.out; omega)
set_option maxRecDepth 100000 in
set_option maxHeartbeats 4000000 in
theorem part_bad8 (g gb base : Nat) (R : List Nat) (L : List Value) (c : Cl) (w : World) (h : Co w base L c) (hrd : Rd w g gb R) (hg : g < base) (hgb : gb < base) (hbs : base ≤ w.heap.size) (hr : rdN 2 65535 R = none) :
    Calls Try.prog 62 #[.pointer (some ⟨g, 0, none⟩), .agg L.toArray, .int .i64 8] w fun e w' => Gave e ∧ But (· = g) w w' := by
  obtain ⟨Z, hZl, hZo, hZz, hz⟩ := zero41
  have hZ0 : (Z.toArray = #[]) = False := by simp; intro h; rw [h] at hZl; simp at hZl
  have HZL := hid hZl
  have hll := h.len
  have HC := hid h
  have HR : Hid (Rd (two w L Z) g gb R) := hrd.later (two_below w L Z)
  have HG : Hid (g < w.heap.size ∧ gb < w.heap.size ∧ g < base ∧ gb < base ∧ base ≤ w.heap.size) := ⟨by omega, by omega, hg, hgb, hbs⟩
  clear h hZl hZo hZz hrd hg hgb hbs
  have H := int_bad g gb R 2 65535 (two w L Z) HR.out (by omega) (by omega) hr
  clear hr
  go_enter Try.func62, Try.ntmps62
  go_wp2_with (first | (go_at_call 51; refine H.mono ?_; rintro e w3 ⟨x, y, rfl, hy, HBT⟩) | (go_at_call 50; refine (must_int_bad _ _ hy _).mono ?_; rintro e w9 ⟨⟨z, rfl⟩, hw9⟩; obtain rfl := hw9.symm))
  exact ⟨rfl, ⟨_, rfl⟩, (But.of (two_below w L Z)).trans HBT⟩
end Go.Proofs.Ytaffgoacbiedlaa
