import Derived.Test.YtaffgoacbiedlaaS1
import Derived.Test.YtaffgoacbiedlaaR3
namespace Go.Proofs.Ytaffgoacbiedlaa
open Go.RowKit
set_option linter.unusedVariables false
set_option linter.unusedSimpArgs false

/-- A reply as a list of cells, its list in memory of its own. -/
structure Ro (w : World) (base : Nat) (L : List Value) (r : Rp) : Prop where
  ex : ∃ d, L = rC r d ∧ Own w base d.a d.n d.c r.data ∧ r.hi < 18446744073709551616 ∧ r.lo < 18446744073709551616
theorem Ro.rr {w : World} {base : Nat} {L : List Value} {r : Rp} (h : Ro w base L r) : Rr w L r := by
  obtain ⟨d, e, h1, h2⟩ := h.ex
  exact ⟨d, e, h1.read, h2⟩
theorem Ro.len {w : World} {base : Nat} {L : List Value} {r : Rp} (h : Ro w base L r) : L.length = 6 := h.rr.len
theorem Ro.one {w : World} {base : Nat} {L : List Value} {r : Rp} (h : Ro w base L r) : ∀ v ∈ L, v.oneCell' = true := h.rr.one
theorem Ro.but {S : Nat → Prop} {w w' : World} {base : Nat} {L : List Value} {r : Rp} (hb : But S w w') (h : Ro w base L r) (hS : ∀ k, base ≤ k → ¬ S k) : Ro w' base L r := by
  obtain ⟨d, e, h1, h2⟩ := h.ex
  exact ⟨d, e, h1.but hb hS, h2⟩
theorem Ro.later {w w' : World} {base : Nat} {L : List Value} {r : Rp} (hb : Below w.heap.size w w') (h : Ro w base L r) : Ro w' base L r := h.but (S := fun _ => False) (But.of hb) (fun _ _ h => h)
theorem Ro.mono {w : World} {base b : Nat} {L : List Value} {r : Rp} (h : Ro w base L r) (hb : b ≤ base) : Ro w b L r := by
  obtain ⟨d, e, h1, h2⟩ := h.ex
  exact ⟨d, e, h1.mono hb, h2⟩
def z30 : List Value := rC (rpz 0) Sl.nil
/-- The result's box and the reply's own. -/
structure Two (w W : World) (g b : Nat) (L : List Value) : Prop where
  b0 : Bx W w.heap.size z30
  b5 : Bx W b L
  but : But (· = g) w W
  lt : w.heap.size < b
theorem Two.next {w W W' : World} {g b : Nat} {L : List Value} (h : Two w W g b L) (hb : But (· = g) W W') (hg : g < w.heap.size) : Two w W' g b L :=
  ⟨h.b0.but hb (by omega), h.b5.but hb (by have := h.lt; omega), h.but.trans hb, h.lt⟩
theorem Two.later {w W W' : World} {g b : Nat} {L : List Value} (h : Two w W g b L) (hb : Below W.heap.size W W') : Two w W' g b L :=
  ⟨h.b0.later hb, h.b5.later hb, h.but.call hb, h.lt⟩
theorem Two.set {w W : World} {g b : Nat} {L : List Value} (h : Two w W g b L) (j : Nat) (v : Value) (hj : j < L.length) : Two w (W.setCell ⟨b, j, none⟩ v) g b (L.set j v) := by
  have hS : But (· = b) W (W.setCell ⟨b, j, none⟩ v) := (But.refl (· = b) _).setCell (p := ⟨b, j, none⟩) rfl v
  have := h.lt
  exact ⟨h.b0.but hS (by omega), h.b5.set1 j v hj, h.but.comp hS (fun k hk => .inr (by omega)), h.lt⟩
/-- What the end of the call wants. -/
structure Fin (w W : World) (g b : Nat) (L : List Value) : Prop where
  ld : Hid ((Instr.loadAt 30 (.pointer (some ⟨b, 0, none⟩))).run Try.prog W = .ok (.agg L.toArray) W)
  st : (storeCells ⟨w.heap.size, 0, none⟩ L).run Try.prog W = .ok () (W.setCells w.heap.size 0 L)
  lv : Hid ((loadVar 30 ⟨w.heap.size, 0, none⟩).run Try.prog (W.setCells w.heap.size 0 L) = .ok (.agg L.toArray) (W.setCells w.heap.size 0 L))
  but : Hid (But (· = g) w (W.setCells w.heap.size 0 L))
  own : Hid (But (· = w.heap.size) W (W.setCells w.heap.size 0 L))
  len : L.length = 6
theorem Two.fin {w W : World} {g b : Nat} {L : List Value} (h : Two w W g b L) (hl : L.length = 6) (h1 : ∀ v ∈ L, v.oneCell' = true) : Fin w W g b L := by
  have hS : But (· = w.heap.size) W (W.setCells w.heap.size 0 L) := setCells_but (S := (· = w.heap.size)) rfl L 0 (But.refl _ _)
  exact ⟨ld30 h.b5.range hl, stc (n := 6) h.b0.there hl h1, lv30 (h.b0.set (by rw [hl]; rfl)).range hl, h.but.comp hS (fun k hk => .inr (by omega)), hS, hl⟩
theorem Two.cell {w W : World} {g b : Nat} {L : List Value} (h : Two w W g b L) (j : Nat) (hj : j < L.length) : (∃ u, W.cell? ⟨b, j, none⟩ = some u) ∧ W.frozen? ⟨b, j, none⟩ = false := by
  refine ⟨⟨_, h.b5.cell j (List.getElem?_eq_getElem hj)⟩, ?_⟩
  have := (h.b5.there j hj).2
  rwa [Nat.zero_add] at this
theorem two_new {w w2 : World} {g : Nat} (L : List Value) (hb : But (· = g) (w.alloc (Obj.cells z30.toArray 30)) w2) (hg : g < w.heap.size) : Two w (w2.alloc (Obj.cells L.toArray 30)) g w2.heap.size L := by
  have hs := hb.size
  simp at hs
  exact ⟨((Bx.new w z30 30).but hb (by omega)).later (below1 _ _), Bx.new w2 L 30, ((But.of (below1 _ _)).trans hb).call (below1 _ _), by omega⟩
theorem rdR_z {op : Int} {R R1 : List Nat} (h1 : rdN 2 65535 R = some (0, R1)) : rdR op R = (if op = 1 ∨ op = 3 then (if capE R1 = 0 then some (⟨0, (loV R1 : Int), hiV (R1.drop 8), loV (R1.drop 8), [], 0⟩, R1.drop 24) else none)
    else if op = 5 then some (⟨0, 0, 0, 0, R1.take (min R1.length 1024), 0⟩, R1.drop (min R1.length 1024))
    else if op = 9 then (match rdN 2 65535 R1 with | none => none | some (v, R2) => some (⟨0, 0, 0, 0, [], (v : Int)⟩, R2))
    else some (rpz 0, R1)) := by
  unfold rdR
  rw [h1]
  simp only [ne_eq, not_true_eq_false, if_false]
  rfl
set_option maxRecDepth 100000 in
set_option maxHeartbeats 4000000 in
theorem rr_none (op : Int) (g gb : Nat) (R : List Nat) (w : World) (h : Rd w g gb R) (hg : g < w.heap.size) (hgb : gb < w.heap.size) (hl : R.length ≤ 140737488355328) (h1 : rdN 2 65535 R = none) :
    Calls Try.prog 28 #[.int .i64 op, .pointer (some ⟨g, 0, none⟩)] w fun e w' => ((∃ r R' L, rdR op R = some (r, R') ∧ e = .returned (.agg L.toArray) ∧ Ro w' w.heap.size L r ∧ Rd w' g gb R') ∨ (rdR op R = none ∧ Gave e)) ∧ But (· = g) w w' := by
  have h0 : Rd (w.alloc (Obj.cells z30.toArray 30)) g gb R := h.later (below1 _ _)
  have HG := hid (And.intro hg hgb)
  have HB0 : Hid (Below w.heap.size w (w.alloc (Obj.cells z30.toArray 30))) := below1 _ _
  have hC : Hid (rdR op R = none) := by unfold Hid rdR; rw [h1]
  have H1 := int_bad g gb R 2 65535 _ h0 (by omega) (by omega) h1
  clear h h0 h1
  go_enter Try.func28, Try.ntmps28
  go_wp2_with (first | (go_at_call 51; refine H1.mono ?_; rintro e w1 ⟨x, y, rfl, hy, HBT⟩) | (go_at_call 50; refine (must_int_bad _ _ hy _).mono ?_; rintro e w9 ⟨⟨z, rfl⟩, hw9⟩; obtain rfl := hw9.symm))
  exact ⟨rfl, .inr ⟨hC.out, ⟨_, rfl⟩⟩, (But.of HB0.out).trans HBT⟩
set_option maxRecDepth 100000 in
set_option maxHeartbeats 4000000 in
theorem rr_code (op : Int) (g gb : Nat) (R : List Nat) (w : World) (h : Rd w g gb R) (hg : g < w.heap.size) (hgb : gb < w.heap.size) (hl : R.length ≤ 140737488355328) {cd : Nat} {R1 : List Nat} (h1 : rdN 2 65535 R = some (cd, R1)) (hcd : cd ≠ 0) :
    Calls Try.prog 28 #[.int .i64 op, .pointer (some ⟨g, 0, none⟩)] w fun e w' => ((∃ r R' L, rdR op R = some (r, R') ∧ e = .returned (.agg L.toArray) ∧ Ro w' w.heap.size L r ∧ Rd w' g gb R') ∨ (rdR op R = none ∧ Gave e)) ∧ But (· = g) w w' := by
  have h0 : Rd (w.alloc (Obj.cells z30.toArray 30)) g gb R := h.later (below1 _ _)
  have HG := hid (And.intro hg hgb)
  have HB0 : Hid (Below w.heap.size w (w.alloc (Obj.cells z30.toArray 30))) := below1 _ _
  have H1 := int_ok g gb R 2 65535 _ h0 (by omega) (by omega) h1
  have hC : Hid (rdR op R = some (rpz cd, R1)) := by unfold Hid rdR; rw [h1]; simp only; rw [if_pos hcd]
  have bz : ((cd : Int) != 0) = true := by simp; omega
  obtain ⟨M, hM⟩ : ∃ M, M = rC (rpz cd) Sl.nil := ⟨_, rfl⟩
  have HM := hid hM
  clear h h0 h1 hcd hM
  go_enter Try.func28, Try.ntmps28
  go_wp2_with (first | ((with_reducible refine ld_arm HLD.out ?_ ?_); (· rfl)) | (go_at_call 51; refine H1.mono ?_; rintro e w2 ⟨rfl, hrd2, HBT⟩; have HR2 := hid (hrd2.later (below1 _ (Obj.cells #[.int .i64 (cd : Int), .int .i64 0, .int .u64 0, .int .u64 0, .slice none 0 0, .int .i64 0] 30))); have HTM := hid (show Two w (w2.alloc (Obj.cells #[.int .i64 (cd : Int), .int .i64 0, .int .u64 0, .int .u64 0, .slice none 0 0, .int .i64 0] 30)) g w2.heap.size M from (by rw [HM.out]; exact two_new (rC (rpz (cd : Int)) Sl.nil) HBT HG.out.1)); obtain ⟨HLD, hst, HLV, HBU, HOW, hl6⟩ := HTM.out.fin (by rw [HM.out]; rfl) (by rw [HM.out]; exact rC_one _ _); clear hrd2 HBT) | (go_at_call 50; refine (must_int _ _).mono ?_; rintro e w9 ⟨rfl, hw9⟩; obtain rfl := hw9.symm))
  have hlv := HLV.out
  exact bodyPost_ret (v := .agg (M).toArray) (by simp [results, Try.results28, asAddr, hlv]) rfl ⟨.inl ⟨_, _, _, hC.out, rfl, ⟨Sl.nil, HM.out, Own.nil _ _, by simp [rpz], by simp [rpz]⟩, HR2.out.but HOW.out (by have := HG.out; omega) (by have := HG.out; omega)⟩, HBU.out⟩
set_option maxRecDepth 100000 in
set_option maxHeartbeats 4000000 in
theorem rr_else (op : Int) (g gb : Nat) (R : List Nat) (w : World) (h : Rd w g gb R) (hg : g < w.heap.size) (hgb : gb < w.heap.size) (hl : R.length ≤ 140737488355328) {R1 : List Nat} (h1 : rdN 2 65535 R = some (0, R1)) (o1 : ¬ op = 1) (o3 : ¬ op = 3) (o5 : ¬ op = 5) (o9 : ¬ op = 9) :
    Calls Try.prog 28 #[.int .i64 op, .pointer (some ⟨g, 0, none⟩)] w fun e w' => ((∃ r R' L, rdR op R = some (r, R') ∧ e = .returned (.agg L.toArray) ∧ Ro w' w.heap.size L r ∧ Rd w' g gb R') ∨ (rdR op R = none ∧ Gave e)) ∧ But (· = g) w w' := by
  have h0 : Rd (w.alloc (Obj.cells z30.toArray 30)) g gb R := h.later (below1 _ _)
  have HG := hid (And.intro hg hgb)
  have HB0 : Hid (Below w.heap.size w (w.alloc (Obj.cells z30.toArray 30))) := below1 _ _
  have H1 := int_ok g gb R 2 65535 _ h0 (by omega) (by omega) h1
  have hC : Hid (rdR op R = some (rpz 0, R1)) := by unfold Hid; rw [rdR_z h1, if_neg (by omega), if_neg o5, if_neg o9]
  have b1 : (op == 1) = false := by simpa using o1
  have b3 : (op == 3) = false := by simpa using o3
  have b5 : (op == 5) = false := by simpa using o5
  have b9 : (op == 9) = false := by simpa using o9
  obtain ⟨M, hM⟩ : ∃ M, M = rC (rpz 0) Sl.nil := ⟨_, rfl⟩
  have HM := hid hM
  clear h h0 h1 hM o1 o3 o5 o9
  go_enter Try.func28, Try.ntmps28
  go_wp2_with (first | ((with_reducible refine ld_arm HLD.out ?_ ?_); (· rfl)) | (go_at_call 51; refine H1.mono ?_; rintro e w2 ⟨rfl, hrd2, HBT⟩; have HR2 := hid (hrd2.later (below1 _ (Obj.cells #[.int .i64 0, .int .i64 0, .int .u64 0, .int .u64 0, .slice none 0 0, .int .i64 0] 30))); have HTM := hid (show Two w (w2.alloc (Obj.cells #[.int .i64 0, .int .i64 0, .int .u64 0, .int .u64 0, .slice none 0 0, .int .i64 0] 30)) g w2.heap.size M from (by rw [HM.out]; exact two_new (rC (rpz 0) Sl.nil) HBT HG.out.1)); obtain ⟨HLD, hst, HLV, HBU, HOW, hl6⟩ := HTM.out.fin (by rw [HM.out]; rfl) (by rw [HM.out]; exact rC_one _ _); clear hrd2 HBT) | (go_at_call 50; refine (must_int _ _).mono ?_; rintro e w9 ⟨rfl, hw9⟩; obtain rfl := hw9.symm))
  have hlv := HLV.out
  exact bodyPost_ret (v := .agg (M).toArray) (by simp [results, Try.results28, asAddr, hlv]) rfl ⟨.inl ⟨_, _, _, hC.out, rfl, ⟨Sl.nil, HM.out, Own.nil _ _, by simp [rpz], by simp [rpz]⟩, HR2.out.but HOW.out (by have := HG.out; omega) (by have := HG.out; omega)⟩, HBU.out⟩
set_option maxRecDepth 100000 in
set_option maxHeartbeats 4000000 in
theorem rr_data (g gb : Nat) (R : List Nat) (w : World) (h : Rd w g gb R) (hg : g < w.heap.size) (hgb : gb < w.heap.size) (hl : R.length ≤ 140737488355328) {R1 : List Nat} (h1 : rdN 2 65535 R = some (0, R1)) :
    Calls Try.prog 28 #[.int .i64 5, .pointer (some ⟨g, 0, none⟩)] w fun e w' => ((∃ r R' L, rdR 5 R = some (r, R') ∧ e = .returned (.agg L.toArray) ∧ Ro w' w.heap.size L r ∧ Rd w' g gb R') ∨ (rdR 5 R = none ∧ Gave e)) ∧ But (· = g) w w' := by
  have h0 : Rd (w.alloc (Obj.cells z30.toArray 30)) g gb R := h.later (below1 _ _)
  have HG := hid (And.intro hg hgb)
  have HB0 : Hid (Below w.heap.size w (w.alloc (Obj.cells z30.toArray 30))) := below1 _ _
  have H1 := int_ok g gb R 2 65535 _ h0 (by omega) (by omega) h1
  have hC : Hid (rdR 5 R = some (⟨0, 0, 0, 0, R1.take (min R1.length 1024), 0⟩, R1.drop (min R1.length 1024))) := by unfold Hid; rw [rdR_z h1, if_neg (by omega), if_pos rfl]
  have HL1 : Hid (R1.length ≤ 140737488355328) := by
    unfold Hid
    have := congrArg List.length (rdN_some h.small h1).1
    rw [List.length_append] at this
    omega
  obtain ⟨M, hM⟩ : ∃ M, M = rC (rpz 0) Sl.nil := ⟨_, rfl⟩
  have HM := hid hM
  clear h h0 h1 hM
  go_enter Try.func28, Try.ntmps28
  go_wp2_with (first | ((with_reducible refine ld_arm HLD.out ?_ ?_); (· rfl)) | (go_at_call 51; refine H1.mono ?_; rintro e w2 ⟨rfl, hrd2, HBT⟩; have HR2 := hid (hrd2.later (below1 _ (Obj.cells #[.int .i64 0, .int .i64 0, .int .u64 0, .int .u64 0, .slice none 0 0, .int .i64 0] 30))); have HTM := hid (show Two w (w2.alloc (Obj.cells #[.int .i64 0, .int .i64 0, .int .u64 0, .int .u64 0, .slice none 0 0, .int .i64 0] 30)) g w2.heap.size M from (by rw [HM.out]; exact two_new (rC (rpz 0) Sl.nil) HBT HG.out.1)); clear hrd2 HBT) | (go_at_call 50; refine (must_int _ _).mono ?_; rintro e w9 ⟨rfl, hw9⟩; obtain rfl := hw9.symm) | (go_at_call 54; refine (rest_any g gb R1 1024 _ HR2.out HL1.out).mono ?_; rintro e w3 ⟨a, n, cp, rfl, hown, hrd3, HBT3⟩; have HT3 := hid (HTM.out.next HBT3 HG.out.1); have hml : M.length = 6 := (by rw [HM.out]; rfl); obtain ⟨⟨u, hcl⟩, hfr⟩ := HT3.out.cell 4 (by omega); obtain ⟨HLD, hst, HLV, HBU, HOW, hl6⟩ := (HT3.out.set 4 (.slice a n cp) (by omega)).fin (by rw [List.length_set]; exact hml) (all_set (by rw [HM.out]; exact rC_one _ _) 4 rfl); have HO := hid (hown.mono (by simp) : Own w3 (w2.heap.size + 1) a n cp _); have HR3 := hid hrd3; clear hown hrd3 HBT3))
  have hb5 : But (· = w2.heap.size) w3 (w3.setCell ⟨w2.heap.size, 4, none⟩ (.slice a n cp)) := (But.refl (· = w2.heap.size) _).setCell (p := ⟨w2.heap.size, 4, none⟩) rfl _
  have hlt := HTM.out.lt
  have hO2 : Own ((w3.setCell ⟨w2.heap.size, 4, none⟩ (.slice a n cp)).setCells w.heap.size 0 (M.set 4 (.slice a n cp))) (w2.heap.size + 1) a n cp (R1.take (min R1.length 1024)) := (HO.out.but hb5 (fun k hk e => by omega)).but HOW.out (fun k hk e => by omega)
  have hlv := HLV.out
  exact bodyPost_ret (v := .agg (M.set 4 (.slice a n cp)).toArray) (by simp [results, Try.results28, asAddr, hlv]) rfl ⟨.inl ⟨_, _, _, hC.out, rfl, ⟨⟨a, n, cp⟩, by rw [HM.out]; rfl, hO2.mono (by omega), by simp, by simp⟩, (HR3.out.but hb5 (by have := HG.out; omega) (by have := HG.out; omega)).but HOW.out (by have := HG.out; omega) (by have := HG.out; omega)⟩, HBU.out⟩
set_option maxRecDepth 100000 in
set_option maxHeartbeats 4000000 in
theorem rr_num (g gb : Nat) (R : List Nat) (w : World) (h : Rd w g gb R) (hg : g < w.heap.size) (hgb : gb < w.heap.size) (hl : R.length ≤ 140737488355328) {R1 : List Nat} (h1 : rdN 2 65535 R = some (0, R1)) {v : Nat} {R2 : List Nat} (h2 : rdN 2 65535 R1 = some (v, R2)) :
    Calls Try.prog 28 #[.int .i64 9, .pointer (some ⟨g, 0, none⟩)] w fun e w' => ((∃ r R' L, rdR 9 R = some (r, R') ∧ e = .returned (.agg L.toArray) ∧ Ro w' w.heap.size L r ∧ Rd w' g gb R') ∨ (rdR 9 R = none ∧ Gave e)) ∧ But (· = g) w w' := by
  have h0 : Rd (w.alloc (Obj.cells z30.toArray 30)) g gb R := h.later (below1 _ _)
  have HG := hid (And.intro hg hgb)
  have HB0 : Hid (Below w.heap.size w (w.alloc (Obj.cells z30.toArray 30))) := below1 _ _
  have H1 := int_ok g gb R 2 65535 _ h0 (by omega) (by omega) h1
  have hC : Hid (rdR 9 R = some (⟨0, 0, 0, 0, [], (v : Int)⟩, R2)) := by unfold Hid; rw [rdR_z h1, if_neg (by omega), if_neg (by omega), if_pos rfl, h2]
  have H2 : Hid (∀ W, Rd W g gb R1 → _) := fun W hW => int_ok g gb R1 2 65535 W hW (by omega) (by omega) h2
  obtain ⟨M, hM⟩ : ∃ M, M = rC (rpz 0) Sl.nil := ⟨_, rfl⟩
  have HM := hid hM
  clear h h0 h1 h2 hM
  go_enter Try.func28, Try.ntmps28
  go_wp2_with (first | ((with_reducible refine ld_arm HLD.out ?_ ?_); (· rfl)) | (go_at_call 51; refine (H2.out _ HR2.out).mono ?_; rintro e w3 ⟨rfl, hrd3, HBT3⟩; have HT3 := hid (HTM.out.next HBT3 HG.out.1); have hml : M.length = 6 := (by rw [HM.out]; rfl); obtain ⟨⟨u, hcl⟩, hfr⟩ := HT3.out.cell 5 (by omega); obtain ⟨HLD, hst, HLV, HBU, HOW, hl6⟩ := (HT3.out.set 5 (.int .i64 (v : Int)) (by omega)).fin (by rw [List.length_set]; exact hml) (all_set (by rw [HM.out]; exact rC_one _ _) 5 rfl); have HR3 := hid hrd3; clear hrd3 HBT3) | (go_at_call 51; refine H1.mono ?_; rintro e w2 ⟨rfl, hrd2, HBT⟩; have HR2 := hid (hrd2.later (below1 _ (Obj.cells #[.int .i64 0, .int .i64 0, .int .u64 0, .int .u64 0, .slice none 0 0, .int .i64 0] 30))); have HTM := hid (show Two w (w2.alloc (Obj.cells #[.int .i64 0, .int .i64 0, .int .u64 0, .int .u64 0, .slice none 0 0, .int .i64 0] 30)) g w2.heap.size M from (by rw [HM.out]; exact two_new (rC (rpz 0) Sl.nil) HBT HG.out.1)); clear hrd2 HBT) | (go_at_call 50; refine (must_int _ _).mono ?_; rintro e w9 ⟨rfl, hw9⟩; obtain rfl := hw9.symm))
  have hb5 : But (· = w2.heap.size) w3 (w3.setCell ⟨w2.heap.size, 5, none⟩ (.int .i64 (v : Int))) := (But.refl (· = w2.heap.size) _).setCell (p := ⟨w2.heap.size, 5, none⟩) rfl _
  have hlt := HTM.out.lt
  have hlv := HLV.out
  exact bodyPost_ret (v := .agg (M.set 5 (.int .i64 (v : Int))).toArray) (by simp [results, Try.results28, asAddr, hlv]) rfl ⟨.inl ⟨_, _, _, hC.out, rfl, ⟨Sl.nil, by rw [HM.out]; rfl, Own.nil _ _, by simp, by simp⟩, (HR3.out.but hb5 (by have := HG.out; omega) (by have := HG.out; omega)).but HOW.out (by have := HG.out; omega) (by have := HG.out; omega)⟩, HBU.out⟩
set_option maxRecDepth 100000 in
set_option maxHeartbeats 4000000 in
theorem rr_num_bad (g gb : Nat) (R : List Nat) (w : World) (h : Rd w g gb R) (hg : g < w.heap.size) (hgb : gb < w.heap.size) (hl : R.length ≤ 140737488355328) {R1 : List Nat} (h1 : rdN 2 65535 R = some (0, R1)) (h2 : rdN 2 65535 R1 = none) :
    Calls Try.prog 28 #[.int .i64 9, .pointer (some ⟨g, 0, none⟩)] w fun e w' => ((∃ r R' L, rdR 9 R = some (r, R') ∧ e = .returned (.agg L.toArray) ∧ Ro w' w.heap.size L r ∧ Rd w' g gb R') ∨ (rdR 9 R = none ∧ Gave e)) ∧ But (· = g) w w' := by
  have h0 : Rd (w.alloc (Obj.cells z30.toArray 30)) g gb R := h.later (below1 _ _)
  have HG := hid (And.intro hg hgb)
  have HB0 : Hid (Below w.heap.size w (w.alloc (Obj.cells z30.toArray 30))) := below1 _ _
  have H1 := int_ok g gb R 2 65535 _ h0 (by omega) (by omega) h1
  have hC : Hid (rdR 9 R = none) := by unfold Hid; rw [rdR_z h1, if_neg (by omega), if_neg (by omega), if_pos rfl, h2]
  have H2 : Hid (∀ W, Rd W g gb R1 → _) := fun W hW => int_bad g gb R1 2 65535 W hW (by omega) (by omega) h2
  obtain ⟨M, hM⟩ : ∃ M, M = rC (rpz 0) Sl.nil := ⟨_, rfl⟩
  have HM := hid hM
  clear h h0 h1 h2 hM
  go_enter Try.func28, Try.ntmps28
  go_wp2_with (first | (go_at_call 51; refine (H2.out _ HR2.out).mono ?_; rintro e w3 ⟨x, y, rfl, hy, HBT3⟩) | (go_at_call 51; refine H1.mono ?_; rintro e w2 ⟨rfl, hrd2, HBT⟩; have HR2 := hid (hrd2.later (below1 _ (Obj.cells #[.int .i64 0, .int .i64 0, .int .u64 0, .int .u64 0, .slice none 0 0, .int .i64 0] 30))); have HTM := hid (show Two w (w2.alloc (Obj.cells #[.int .i64 0, .int .i64 0, .int .u64 0, .int .u64 0, .slice none 0 0, .int .i64 0] 30)) g w2.heap.size M from (by rw [HM.out]; exact two_new (rC (rpz 0) Sl.nil) HBT HG.out.1)); clear hrd2 HBT) | (go_at_call 50; refine (must_int_bad _ _ hy _).mono ?_; rintro e w9 ⟨⟨z, rfl⟩, hw9⟩; obtain rfl := hw9.symm) | (go_at_call 50; refine (must_int _ _).mono ?_; rintro e w9 ⟨rfl, hw9⟩; obtain rfl := hw9.symm))
  exact ⟨rfl, .inr ⟨hC.out, ⟨_, rfl⟩⟩, HTM.out.but.trans HBT3⟩
set_option maxRecDepth 100000 in
set_option maxHeartbeats 4000000 in
theorem rr_cap1 (g gb : Nat) (R : List Nat) (w : World) (h : Rd w g gb R) (hg : g < w.heap.size) (hgb : gb < w.heap.size) (hl : R.length ≤ 140737488355328) {R1 : List Nat} (h1 : rdN 2 65535 R = some (0, R1)) (h2 : capE R1 = 0) :
    Calls Try.prog 28 #[.int .i64 1, .pointer (some ⟨g, 0, none⟩)] w fun e w' => ((∃ r R' L, rdR 1 R = some (r, R') ∧ e = .returned (.agg L.toArray) ∧ Ro w' w.heap.size L r ∧ Rd w' g gb R') ∨ (rdR 1 R = none ∧ Gave e)) ∧ But (· = g) w w' := by
  have h0 : Rd (w.alloc (Obj.cells z30.toArray 30)) g gb R := h.later (below1 _ _)
  have HG := hid (And.intro hg hgb)
  have HB0 : Hid (Below w.heap.size w (w.alloc (Obj.cells z30.toArray 30))) := below1 _ _
  have H1 := int_ok g gb R 2 65535 _ h0 (by omega) (by omega) h1
  have hC : Hid (rdR 1 R = some (⟨0, (loV R1 : Int), hiV (R1.drop 8), loV (R1.drop 8), [], 0⟩, R1.drop 24)) := by unfold Hid; rw [rdR_z h1, if_pos (Or.inl rfl), if_pos h2]
  have hs1 : ∀ x ∈ R1, x < 256 := fun x hx => h.small x (by rw [(rdN_some h.small h1).1]; exact List.mem_append_right _ hx)
  have HV : Hid (hiV (R1.drop 8) < 18446744073709551616 ∧ loV (R1.drop 8) < 18446744073709551616) := by
    obtain ⟨c1, c2⟩ := (capE_iff R1).1 h2
    have s2 : ∀ x ∈ R1.drop 8, x < 256 := fun x hx => hs1 x (List.mem_of_mem_drop hx)
    have v2 := valL_take_lt (R1.drop 8) 8 (by simp; omega) s2
    have v3 := valL_take_lt ((R1.drop 8).drop 8) 8 (by simp; omega) (fun x hx => s2 x (List.mem_of_mem_drop hx))
    unfold Hid hiV loV
    omega
  have H2 : Hid (∀ W, Rd W g gb R1 → _) := fun W hW => capr_ok g gb R1 W hW h2
  obtain ⟨M, hM⟩ : ∃ M, M = rC (rpz 0) Sl.nil := ⟨_, rfl⟩
  have HM := hid hM
  clear h h0 h1 h2 hM hs1
  generalize loV R1 = q1 at hC H2
  generalize hiV (R1.drop 8) = q2 at hC H2 HV
  generalize loV (R1.drop 8) = q3 at hC H2 HV
  go_enter Try.func28, Try.ntmps28
  go_wp2_with (first | ((with_reducible refine ld_arm HLD.out ?_ ?_); (· rfl)) | (go_at_call 53; refine (H2.out _ HR2.out).mono ?_; rintro e w3 ⟨rfl, hrd3, HBT3⟩; have HT3 := hid (HTM.out.next HBT3 HG.out.1); have HR3 := hid hrd3; clear hrd3 HBT3) | (go_at_call 52; refine (must_cap _ _ _ _).mono ?_; rintro e w4 ⟨rfl, hb4⟩; have HT4 := hid (HT3.out.later hb4); have HR4 := hid (HR3.out.later hb4); have hml : M.length = 6 := (by rw [HM.out]; rfl); obtain ⟨⟨u1, hcl1⟩, hfr1⟩ := HT4.out.cell 1 (by omega); obtain ⟨⟨u2, hcl2⟩, hfr2⟩ := HT4.out.cell 2 (by omega); obtain ⟨⟨u3, hcl3⟩, hfr3⟩ := HT4.out.cell 3 (by omega); obtain ⟨HLD, hst, HLV, HBU, HOW, hl6⟩ := (((HT4.out.set 1 (.int .i64 (q1 : Int)) (by omega)).set 2 (.int .u64 (q2 : Int)) (by rw [List.length_set]; omega)).set 3 (.int .u64 (q3 : Int)) (by rw [List.length_set, List.length_set]; omega)).fin (by rw [List.length_set, List.length_set, List.length_set]; exact hml) (all_set (all_set (all_set (by rw [HM.out]; exact rC_one _ _) 1 rfl) 2 rfl) 3 rfl); clear hb4) | (go_at_call 51; refine H1.mono ?_; rintro e w2 ⟨rfl, hrd2, HBT⟩; have HR2 := hid (hrd2.later (below1 _ (Obj.cells #[.int .i64 0, .int .i64 0, .int .u64 0, .int .u64 0, .slice none 0 0, .int .i64 0] 30))); have HTM := hid (show Two w (w2.alloc (Obj.cells #[.int .i64 0, .int .i64 0, .int .u64 0, .int .u64 0, .slice none 0 0, .int .i64 0] 30)) g w2.heap.size M from (by rw [HM.out]; exact two_new (rC (rpz 0) Sl.nil) HBT HG.out.1)); clear hrd2 HBT) | (go_at_call 50; refine (must_int _ _).mono ?_; rintro e w9 ⟨rfl, hw9⟩; obtain rfl := hw9.symm))
  have hb5 : But (· = w2.heap.size) w4 (((w4.setCell ⟨w2.heap.size, 1, none⟩ (.int .i64 (q1 : Int))).setCell ⟨w2.heap.size, 2, none⟩ (.int .u64 (q2 : Int))).setCell ⟨w2.heap.size, 3, none⟩ (.int .u64 (q3 : Int))) := (((But.refl (· = w2.heap.size) _).setCell (p := ⟨w2.heap.size, 1, none⟩) rfl _).setCell (p := ⟨w2.heap.size, 2, none⟩) rfl _).setCell (p := ⟨w2.heap.size, 3, none⟩) rfl _
  have hlt := HTM.out.lt
  have hlv := HLV.out
  exact bodyPost_ret (v := .agg (((M.set 1 (.int .i64 (q1 : Int))).set 2 (.int .u64 (q2 : Int))).set 3 (.int .u64 (q3 : Int))).toArray) (by simp [results, Try.results28, asAddr, hlv]) rfl ⟨.inl ⟨_, _, _, hC.out, rfl, ⟨Sl.nil, by rw [HM.out]; rfl, Own.nil _ _, HV.out⟩, (HR4.out.but hb5 (by have := HG.out; omega) (by have := HG.out; omega)).but HOW.out (by have := HG.out; omega) (by have := HG.out; omega)⟩, HBU.out⟩
set_option maxRecDepth 100000 in
set_option maxHeartbeats 4000000 in
theorem rr_cap1_bad (g gb : Nat) (R : List Nat) (w : World) (h : Rd w g gb R) (hg : g < w.heap.size) (hgb : gb < w.heap.size) (hl : R.length ≤ 140737488355328) {R1 : List Nat} (h1 : rdN 2 65535 R = some (0, R1)) (h2 : capE R1 ≠ 0) :
    Calls Try.prog 28 #[.int .i64 1, .pointer (some ⟨g, 0, none⟩)] w fun e w' => ((∃ r R' L, rdR 1 R = some (r, R') ∧ e = .returned (.agg L.toArray) ∧ Ro w' w.heap.size L r ∧ Rd w' g gb R') ∨ (rdR 1 R = none ∧ Gave e)) ∧ But (· = g) w w' := by
  have h0 : Rd (w.alloc (Obj.cells z30.toArray 30)) g gb R := h.later (below1 _ _)
  have HG := hid (And.intro hg hgb)
  have HB0 : Hid (Below w.heap.size w (w.alloc (Obj.cells z30.toArray 30))) := below1 _ _
  have H1 := int_ok g gb R 2 65535 _ h0 (by omega) (by omega) h1
  have hC : Hid (rdR 1 R = none) := by unfold Hid; rw [rdR_z h1, if_pos (Or.inl rfl), if_neg h2]
  have H2 : Hid (∀ W, Rd W g gb R1 → _) := fun W hW => capr_bad g gb R1 W hW h2
  obtain ⟨M, hM⟩ : ∃ M, M = rC (rpz 0) Sl.nil := ⟨_, rfl⟩
  have HM := hid hM
  clear h h0 h1 h2 hM
  go_enter Try.func28, Try.ntmps28
  go_wp2_with (first | (go_at_call 53; refine (H2.out _ HR2.out).mono ?_; rintro e w3 ⟨x1, x2, x3, y, rfl, hy, HBT3⟩) | (go_at_call 52; refine (must_cap_bad _ _ _ _ hy _).mono ?_; rintro e w4 ⟨⟨z, rfl⟩, hb4⟩) | (go_at_call 51; refine H1.mono ?_; rintro e w2 ⟨rfl, hrd2, HBT⟩; have HR2 := hid (hrd2.later (below1 _ (Obj.cells #[.int .i64 0, .int .i64 0, .int .u64 0, .int .u64 0, .slice none 0 0, .int .i64 0] 30))); have HTM := hid (show Two w (w2.alloc (Obj.cells #[.int .i64 0, .int .i64 0, .int .u64 0, .int .u64 0, .slice none 0 0, .int .i64 0] 30)) g w2.heap.size M from (by rw [HM.out]; exact two_new (rC (rpz 0) Sl.nil) HBT HG.out.1)); clear hrd2 HBT) | (go_at_call 50; refine (must_int _ _).mono ?_; rintro e w9 ⟨rfl, hw9⟩; obtain rfl := hw9.symm))
  exact ⟨rfl, .inr ⟨hC.out, ⟨_, rfl⟩⟩, (HTM.out.but.trans HBT3).call hb4⟩
set_option maxRecDepth 100000 in
set_option maxHeartbeats 4000000 in
theorem rr_cap3 (g gb : Nat) (R : List Nat) (w : World) (h : Rd w g gb R) (hg : g < w.heap.size) (hgb : gb < w.heap.size) (hl : R.length ≤ 140737488355328) {R1 : List Nat} (h1 : rdN 2 65535 R = some (0, R1)) (h2 : capE R1 = 0) :
    Calls Try.prog 28 #[.int .i64 3, .pointer (some ⟨g, 0, none⟩)] w fun e w' => ((∃ r R' L, rdR 3 R = some (r, R') ∧ e = .returned (.agg L.toArray) ∧ Ro w' w.heap.size L r ∧ Rd w' g gb R') ∨ (rdR 3 R = none ∧ Gave e)) ∧ But (· = g) w w' := by
  have h0 : Rd (w.alloc (Obj.cells z30.toArray 30)) g gb R := h.later (below1 _ _)
  have HG := hid (And.intro hg hgb)
  have HB0 : Hid (Below w.heap.size w (w.alloc (Obj.cells z30.toArray 30))) := below1 _ _
  have H1 := int_ok g gb R 2 65535 _ h0 (by omega) (by omega) h1
  have hC : Hid (rdR 3 R = some (⟨0, (loV R1 : Int), hiV (R1.drop 8), loV (R1.drop 8), [], 0⟩, R1.drop 24)) := by unfold Hid; rw [rdR_z h1, if_pos (Or.inr rfl), if_pos h2]
  have hs1 : ∀ x ∈ R1, x < 256 := fun x hx => h.small x (by rw [(rdN_some h.small h1).1]; exact List.mem_append_right _ hx)
  have HV : Hid (hiV (R1.drop 8) < 18446744073709551616 ∧ loV (R1.drop 8) < 18446744073709551616) := by
    obtain ⟨c1, c2⟩ := (capE_iff R1).1 h2
    have s2 : ∀ x ∈ R1.drop 8, x < 256 := fun x hx => hs1 x (List.mem_of_mem_drop hx)
    have v2 := valL_take_lt (R1.drop 8) 8 (by simp; omega) s2
    have v3 := valL_take_lt ((R1.drop 8).drop 8) 8 (by simp; omega) (fun x hx => s2 x (List.mem_of_mem_drop hx))
    unfold Hid hiV loV
    omega
  have H2 : Hid (∀ W, Rd W g gb R1 → _) := fun W hW => capr_ok g gb R1 W hW h2
  obtain ⟨M, hM⟩ : ∃ M, M = rC (rpz 0) Sl.nil := ⟨_, rfl⟩
  have HM := hid hM
  clear h h0 h1 h2 hM hs1
  generalize loV R1 = q1 at hC H2
  generalize hiV (R1.drop 8) = q2 at hC H2 HV
  generalize loV (R1.drop 8) = q3 at hC H2 HV
  go_enter Try.func28, Try.ntmps28
  go_wp2_with (first | ((with_reducible refine ld_arm HLD.out ?_ ?_); (· rfl)) | (go_at_call 53; refine (H2.out _ HR2.out).mono ?_; rintro e w3 ⟨rfl, hrd3, HBT3⟩; have HT3 := hid (HTM.out.next HBT3 HG.out.1); have HR3 := hid hrd3; clear hrd3 HBT3) | (go_at_call 52; refine (must_cap _ _ _ _).mono ?_; rintro e w4 ⟨rfl, hb4⟩; have HT4 := hid (HT3.out.later hb4); have HR4 := hid (HR3.out.later hb4); have hml : M.length = 6 := (by rw [HM.out]; rfl); obtain ⟨⟨u1, hcl1⟩, hfr1⟩ := HT4.out.cell 1 (by omega); obtain ⟨⟨u2, hcl2⟩, hfr2⟩ := HT4.out.cell 2 (by omega); obtain ⟨⟨u3, hcl3⟩, hfr3⟩ := HT4.out.cell 3 (by omega); obtain ⟨HLD, hst, HLV, HBU, HOW, hl6⟩ := (((HT4.out.set 1 (.int .i64 (q1 : Int)) (by omega)).set 2 (.int .u64 (q2 : Int)) (by rw [List.length_set]; omega)).set 3 (.int .u64 (q3 : Int)) (by rw [List.length_set, List.length_set]; omega)).fin (by rw [List.length_set, List.length_set, List.length_set]; exact hml) (all_set (all_set (all_set (by rw [HM.out]; exact rC_one _ _) 1 rfl) 2 rfl) 3 rfl); clear hb4) | (go_at_call 51; refine H1.mono ?_; rintro e w2 ⟨rfl, hrd2, HBT⟩; have HR2 := hid (hrd2.later (below1 _ (Obj.cells #[.int .i64 0, .int .i64 0, .int .u64 0, .int .u64 0, .slice none 0 0, .int .i64 0] 30))); have HTM := hid (show Two w (w2.alloc (Obj.cells #[.int .i64 0, .int .i64 0, .int .u64 0, .int .u64 0, .slice none 0 0, .int .i64 0] 30)) g w2.heap.size M from (by rw [HM.out]; exact two_new (rC (rpz 0) Sl.nil) HBT HG.out.1)); clear hrd2 HBT) | (go_at_call 50; refine (must_int _ _).mono ?_; rintro e w9 ⟨rfl, hw9⟩; obtain rfl := hw9.symm))
  have hb5 : But (· = w2.heap.size) w4 (((w4.setCell ⟨w2.heap.size, 1, none⟩ (.int .i64 (q1 : Int))).setCell ⟨w2.heap.size, 2, none⟩ (.int .u64 (q2 : Int))).setCell ⟨w2.heap.size, 3, none⟩ (.int .u64 (q3 : Int))) := (((But.refl (· = w2.heap.size) _).setCell (p := ⟨w2.heap.size, 1, none⟩) rfl _).setCell (p := ⟨w2.heap.size, 2, none⟩) rfl _).setCell (p := ⟨w2.heap.size, 3, none⟩) rfl _
  have hlt := HTM.out.lt
  have hlv := HLV.out
  exact bodyPost_ret (v := .agg (((M.set 1 (.int .i64 (q1 : Int))).set 2 (.int .u64 (q2 : Int))).set 3 (.int .u64 (q3 : Int))).toArray) (by simp [results, Try.results28, asAddr, hlv]) rfl ⟨.inl ⟨_, _, _, hC.out, rfl, ⟨Sl.nil, by rw [HM.out]; rfl, Own.nil _ _, HV.out⟩, (HR4.out.but hb5 (by have := HG.out; omega) (by have := HG.out; omega)).but HOW.out (by have := HG.out; omega) (by have := HG.out; omega)⟩, HBU.out⟩
set_option maxRecDepth 100000 in
set_option maxHeartbeats 4000000 in
theorem rr_cap3_bad (g gb : Nat) (R : List Nat) (w : World) (h : Rd w g gb R) (hg : g < w.heap.size) (hgb : gb < w.heap.size) (hl : R.length ≤ 140737488355328) {R1 : List Nat} (h1 : rdN 2 65535 R = some (0, R1)) (h2 : capE R1 ≠ 0) :
    Calls Try.prog 28 #[.int .i64 3, .pointer (some ⟨g, 0, none⟩)] w fun e w' => ((∃ r R' L, rdR 3 R = some (r, R') ∧ e = .returned (.agg L.toArray) ∧ Ro w' w.heap.size L r ∧ Rd w' g gb R') ∨ (rdR 3 R = none ∧ Gave e)) ∧ But (· = g) w w' := by
  have h0 : Rd (w.alloc (Obj.cells z30.toArray 30)) g gb R := h.later (below1 _ _)
  have HG := hid (And.intro hg hgb)
  have HB0 : Hid (Below w.heap.size w (w.alloc (Obj.cells z30.toArray 30))) := below1 _ _
  have H1 := int_ok g gb R 2 65535 _ h0 (by omega) (by omega) h1
  have hC : Hid (rdR 3 R = none) := by unfold Hid; rw [rdR_z h1, if_pos (Or.inr rfl), if_neg h2]
  have H2 : Hid (∀ W, Rd W g gb R1 → _) := fun W hW => capr_bad g gb R1 W hW h2
  obtain ⟨M, hM⟩ : ∃ M, M = rC (rpz 0) Sl.nil := ⟨_, rfl⟩
  have HM := hid hM
  clear h h0 h1 h2 hM
  go_enter Try.func28, Try.ntmps28
  go_wp2_with (first | (go_at_call 53; refine (H2.out _ HR2.out).mono ?_; rintro e w3 ⟨x1, x2, x3, y, rfl, hy, HBT3⟩) | (go_at_call 52; refine (must_cap_bad _ _ _ _ hy _).mono ?_; rintro e w4 ⟨⟨z, rfl⟩, hb4⟩) | (go_at_call 51; refine H1.mono ?_; rintro e w2 ⟨rfl, hrd2, HBT⟩; have HR2 := hid (hrd2.later (below1 _ (Obj.cells #[.int .i64 0, .int .i64 0, .int .u64 0, .int .u64 0, .slice none 0 0, .int .i64 0] 30))); have HTM := hid (show Two w (w2.alloc (Obj.cells #[.int .i64 0, .int .i64 0, .int .u64 0, .int .u64 0, .slice none 0 0, .int .i64 0] 30)) g w2.heap.size M from (by rw [HM.out]; exact two_new (rC (rpz 0) Sl.nil) HBT HG.out.1)); clear hrd2 HBT) | (go_at_call 50; refine (must_int _ _).mono ?_; rintro e w9 ⟨rfl, hw9⟩; obtain rfl := hw9.symm))
  exact ⟨rfl, .inr ⟨hC.out, ⟨_, rfl⟩⟩, (HTM.out.but.trans HBT3).call hb4⟩
theorem readReply_any (op : Int) (g gb : Nat) (R : List Nat) (w : World) (h : Rd w g gb R) (hg : g < w.heap.size) (hgb : gb < w.heap.size) (hl : R.length ≤ 140737488355328) :
    Calls Try.prog 28 #[.int .i64 op, .pointer (some ⟨g, 0, none⟩)] w fun e w' => ((∃ r R' L, rdR op R = some (r, R') ∧ e = .returned (.agg L.toArray) ∧ Ro w' w.heap.size L r ∧ Rd w' g gb R') ∨ (rdR op R = none ∧ Gave e)) ∧ But (· = g) w w' := by
  cases h1 : rdN 2 65535 R with
  | none => exact rr_none op g gb R w h hg hgb hl h1
  | some x =>
    obtain ⟨cd, R1⟩ := x
    by_cases hcd : cd = 0
    · subst hcd
      by_cases o1 : op = 1
      · subst o1
        by_cases hc : capE R1 = 0
        · exact rr_cap1 g gb R w h hg hgb hl h1 hc
        · exact rr_cap1_bad g gb R w h hg hgb hl h1 hc
      by_cases o3 : op = 3
      · subst o3
        by_cases hc : capE R1 = 0
        · exact rr_cap3 g gb R w h hg hgb hl h1 hc
        · exact rr_cap3_bad g gb R w h hg hgb hl h1 hc
      by_cases o5 : op = 5
      · subst o5
        exact rr_data g gb R w h hg hgb hl h1
      by_cases o9 : op = 9
      · subst o9
        cases h2 : rdN 2 65535 R1 with
        | none => exact rr_num_bad g gb R w h hg hgb hl h1 h2
        | some y => exact rr_num g gb R w h hg hgb hl h1 h2
      exact rr_else op g gb R w h hg hgb hl h1 o1 o3 o5 o9
    · exact rr_code op g gb R w h hg hgb hl h1 hcd
end Go.Proofs.Ytaffgoacbiedlaa
