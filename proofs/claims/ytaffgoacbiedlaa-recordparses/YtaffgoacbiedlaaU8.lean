import Derived.Test.YtaffgoacbiedlaaU7
import Derived.Test.YtaffgoacbiedlaaQ1
namespace Go.Proofs.Ytaffgoacbiedlaa
open Go.RowKit
set_option linter.unusedVariables false
set_option linter.unusedSimpArgs false

set_option maxRecDepth 100000 in
set_option maxHeartbeats 4000000 in
theorem rparse_some (a : Option Addr) (n cap : Nat) (R : List Nat) (w : World) (h : Row w a n cap R) (hn : n ≤ 140737488355328) {c : Cl} (hr : psC R = some c) :
    Calls Try.prog 23 #[.slice a n cap] w fun e w' => ∃ L, e = .returned (.tuple #[.agg L.toArray, .int .i64 0]) ∧ Cc w' L c ∧ Below w.heap.size w w' := by
  have hg := gs_ps h.small
  rw [hr] at hg
  split at hg
  case isFalse => cases hg
  rename_i hc
  obtain rfl := Option.some.inj hg
  obtain ⟨hfm, hly⟩ := hc
  have HF := hid hfm
  have HLY := hid hly
  clear hr hg hfm hly
  obtain ⟨Z, hZl, hZo, hZz, hz⟩ := zero41
  have hZ0 : (Z.toArray = #[]) = False := by simp; intro h; rw [h] at hZl; simp at hZl
  have X0 : Hid (Bx (w.alloc (Obj.cells Z.toArray 41)) w.heap.size Z) := Bx.new w Z 41
  have HRow : Hid (Row (w.alloc (Obj.cells Z.toArray 41)) a n cap R) := h.later (below1 _ _)
  have HR := hid h
  have HS := hid h.small
  have HZ := hid (And.intro hZz hZo)
  have HGB := hid (gs_gifts h.small)
  clear h hZz hZo
  go_enter Try.func23, Try.ntmps23
  go_wp2_with (first | ((with_reducible refine ld_arm HLD4.out ?_ ?_); (· rfl)) | ((with_reducible refine ld_arm HLD3.out ?_ ?_); (· rfl)) | (go_at_call 42; refine (guess_any a n cap R _ HRow.out hn).mono ?_; rintro e w2 ⟨L, rfl, hc, hb2⟩; have hll := hc.len; obtain ⟨w3, hst3, hx3, hb3⟩ := store_new w2 (Z := Z) (t := 41) (hll.trans hZl.symm) hc.one; have HLD3 := hid (ld41 hx3.range hll); have HX3 := hid hx3; have HC3 := hid (hc.cc.later hb3); have HCO3 := hid (hc.later hb3); have hsz2 : (w.alloc (Obj.cells Z.toArray 41)).heap.size = w.heap.size + 1 := (by simp); rw [hsz2] at HCO3; clear hsz2; have HO3 := hid hc.one; have HB3 := hid (below_call (below_call (below1 w _) hb2) hb3); have X3 := hid ((X0.out.later hb2).later hb3); clear hc hb2 hb3 hx3) | (go_at_call 20; refine (rbytes_ok L (gs R) _ HC3.out HF.out).mono ?_; rintro e w4 ⟨a4, n4, c4, rfl, hown, hb4⟩; have cv1 := hown.read.conv; have cv2 := (HR.out.later (below_call HB3.out hb4)).conv; rw [HLY.out] at cv1; have HLD4 := hid (ld41 (HX3.out.later hb4).range hll); have X4 := X3.out.later hb4; have hst4 := stc (n := 13) (by rw [← hZl]; exact X4.there) hll HO3.out; have HLV := hid (lv41 (X4.set (M := L) (hll.trans hZl.symm)).range hll); have HB5 : Hid (Below w.heap.size w (w4.setCells w.heap.size 0 L)) := (But.below (below_call HB3.out hb4) (setCells_but (S := (· = w.heap.size)) rfl L 0 (But.refl _ _)) (fun k hk => (by omega))); have HC5 : Hid (Cc (w4.setCells w.heap.size 0 L) L (gs R)) := ((HCO3.out.later hb4).but (setCells_but (S := (· = w.heap.size)) rfl L 0 (But.refl _ _)) (fun k hk e => (by omega))).cc; clear X4))
  exact bodyPost_ret (v := .tuple #[.agg L.toArray, .int .i64 0]) (by have hlv := HLV.out; simp [results, Try.results23, asAddr, hlv]) rfl ⟨L, rfl, HC5.out, HB5.out⟩
set_option maxRecDepth 100000 in
set_option maxHeartbeats 4000000 in
theorem rparse_bad (a : Option Addr) (n cap : Nat) (R : List Nat) (w : World) (h : Row w a n cap R) (hn : n ≤ 140737488355328) (hfm : fm (gs R) = false) :
    Calls Try.prog 23 #[.slice a n cap] w fun e w' => e = .returned (.tuple #[.agg z41.toArray, .int .i64 1]) ∧ Below w.heap.size w w' := by
  have HF := hid hfm
  clear hfm
  obtain ⟨Z, hZl, hZo, hZz, hz⟩ := zero41
  have hZ0 : (Z.toArray = #[]) = False := by simp; intro h; rw [h] at hZl; simp at hZl
  have X0 : Hid (Bx (w.alloc (Obj.cells Z.toArray 41)) w.heap.size Z) := Bx.new w Z 41
  have HRow : Hid (Row (w.alloc (Obj.cells Z.toArray 41)) a n cap R) := h.later (below1 _ _)
  have HR := hid h
  have HS := hid h.small
  have HZ := hid (And.intro hZz hZo)
  have HGB := hid (gs_gifts h.small)
  clear h hZz hZo
  go_enter Try.func23, Try.ntmps23
  go_wp2_with (first | ((with_reducible refine ld_arm HLD4.out ?_ ?_); (· rfl)) | ((with_reducible refine ld_arm HLD3.out ?_ ?_); (· rfl)) | (go_at_call 42; refine (guess_any a n cap R _ HRow.out hn).mono ?_; rintro e w2 ⟨L, rfl, hc, hb2⟩; have hll := hc.len; obtain ⟨w3, hst3, hx3, hb3⟩ := store_new w2 (Z := Z) (t := 41) (hll.trans hZl.symm) hc.one; have HLD3 := hid (ld41 hx3.range hll); have HX3 := hid hx3; have HC3 := hid (hc.cc.later hb3); have HCO3 := hid (hc.later hb3); have hsz2 : (w.alloc (Obj.cells Z.toArray 41)).heap.size = w.heap.size + 1 := (by simp); rw [hsz2] at HCO3; clear hsz2; have HO3 := hid hc.one; have HB3 := hid (below_call (below_call (below1 w _) hb2) hb3); have X3 := hid ((X0.out.later hb2).later hb3); clear hc hb2 hb3 hx3) | (go_at_call 20; refine (rbytes_bad L (gs R) _ HC3.out (Nat.le_trans HGB.out (by omega)) HF.out).mono ?_; rintro e w4 ⟨rfl, hb4⟩; have HLD4 := hid (ld41 (HX3.out.later hb4).range hll); have X4 := X3.out.later hb4; have hst4 := stc (n := 13) (by rw [← hZl]; exact X4.there) hZl HZ.out.2; have HLV := hid (lv41 (X4.set (M := Z) (hZl.trans hZl.symm)).range hZl); have HB5 : Hid (Below w.heap.size w (w4.setCells w.heap.size 0 Z)) := (But.below (below_call HB3.out hb4) (setCells_but (S := (· = w.heap.size)) rfl Z 0 (But.refl _ _)) (fun k hk => (by omega))); clear X4))
  exact bodyPost_ret (v := .tuple #[.agg Z.toArray, .int .i64 1]) (by have hlv := HLV.out; simp [results, Try.results23, asAddr, hlv]) rfl ⟨by rw [HZ.out.1], HB5.out⟩
set_option maxRecDepth 100000 in
set_option maxHeartbeats 4000000 in
theorem rparse_other (a : Option Addr) (n cap : Nat) (R : List Nat) (w : World) (h : Row w a n cap R) (hn : n ≤ 140737488355328) (hfm : fm (gs R) = true) (hly : ly (gs R) ≠ R) :
    Calls Try.prog 23 #[.slice a n cap] w fun e w' => e = .returned (.tuple #[.agg z41.toArray, .int .i64 1]) ∧ Below w.heap.size w w' := by
  have HF := hid hfm
  have HLY := hid hly
  clear hfm hly
  obtain ⟨Z, hZl, hZo, hZz, hz⟩ := zero41
  have hZ0 : (Z.toArray = #[]) = False := by simp; intro h; rw [h] at hZl; simp at hZl
  have X0 : Hid (Bx (w.alloc (Obj.cells Z.toArray 41)) w.heap.size Z) := Bx.new w Z 41
  have HRow : Hid (Row (w.alloc (Obj.cells Z.toArray 41)) a n cap R) := h.later (below1 _ _)
  have HR := hid h
  have HS := hid h.small
  have HZ := hid (And.intro hZz hZo)
  have HGB := hid (gs_gifts h.small)
  clear h hZz hZo
  go_enter Try.func23, Try.ntmps23
  go_wp2_with (first | ((with_reducible refine ld_arm HLD4.out ?_ ?_); (· rfl)) | ((with_reducible refine ld_arm HLD3.out ?_ ?_); (· rfl)) | (go_at_call 42; refine (guess_any a n cap R _ HRow.out hn).mono ?_; rintro e w2 ⟨L, rfl, hc, hb2⟩; have hll := hc.len; obtain ⟨w3, hst3, hx3, hb3⟩ := store_new w2 (Z := Z) (t := 41) (hll.trans hZl.symm) hc.one; have HLD3 := hid (ld41 hx3.range hll); have HX3 := hid hx3; have HC3 := hid (hc.cc.later hb3); have HCO3 := hid (hc.later hb3); have hsz2 : (w.alloc (Obj.cells Z.toArray 41)).heap.size = w.heap.size + 1 := (by simp); rw [hsz2] at HCO3; clear hsz2; have HO3 := hid hc.one; have HB3 := hid (below_call (below_call (below1 w _) hb2) hb3); have X3 := hid ((X0.out.later hb2).later hb3); clear hc hb2 hb3 hx3) | (go_at_call 20; refine (rbytes_ok L (gs R) _ HC3.out HF.out).mono ?_; rintro e w4 ⟨a4, n4, c4, rfl, hown, hb4⟩; have cv1 := hown.read.conv; have cv2 := (HR.out.later (below_call HB3.out hb4)).conv; have hnes := str_beq hown.small HS.out; rw [decide_eq_false HLY.out] at hnes; have hnet : (!(strB (ly (gs R))).toList == (strB R).toList) = true := (by rw [hnes]; rfl); clear hnes; have HLD4 := hid (ld41 (HX3.out.later hb4).range hll); have X4 := X3.out.later hb4; have hst4 := stc (n := 13) (by rw [← hZl]; exact X4.there) hZl HZ.out.2; have HLV := hid (lv41 (X4.set (M := Z) (hZl.trans hZl.symm)).range hZl); have HB5 : Hid (Below w.heap.size w (w4.setCells w.heap.size 0 Z)) := (But.below (below_call HB3.out hb4) (setCells_but (S := (· = w.heap.size)) rfl Z 0 (But.refl _ _)) (fun k hk => (by omega))); clear X4))
  exact bodyPost_ret (v := .tuple #[.agg Z.toArray, .int .i64 1]) (by have hlv := HLV.out; simp [results, Try.results23, asAddr, hlv]) rfl ⟨by rw [HZ.out.1], HB5.out⟩
theorem rparse_none (a : Option Addr) (n cap : Nat) (R : List Nat) (w : World) (h : Row w a n cap R) (hn : n ≤ 140737488355328) (hr : psC R = none) :
    Calls Try.prog 23 #[.slice a n cap] w fun e w' => e = .returned (.tuple #[.agg z41.toArray, .int .i64 1]) ∧ Below w.heap.size w w' := by
  have hg := gs_ps h.small
  rw [hr] at hg
  split at hg
  · cases hg
  · rename_i hc
    cases hf : fm (gs R) with
    | false => exact rparse_bad a n cap R w h hn hf
    | true => exact rparse_other a n cap R w h hn hf (fun e => hc ⟨hf, e⟩)
end Go.Proofs.Ytaffgoacbiedlaa
