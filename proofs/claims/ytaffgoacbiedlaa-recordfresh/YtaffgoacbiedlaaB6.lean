import Derived.Test.YtaffgoacbiedlaaBA
import Derived.Test.YtaffgoacbiedlaaBB
namespace Go.Proofs.Ytaffgoacbiedlaa
open Go.RowKit
set_option linter.unusedVariables false
set_option linter.unusedSimpArgs false

/-- A call as a list of cells. -/
structure Cc (w : World) (L : List Value) (c : Cl) : Prop where
  ex : ∃ d g, L = cC c d g ∧ Is w c d g
theorem Cc.later {W w1 : World} {L : List Value} {c : Cl} (hb : Below W.heap.size W w1) (h : Cc W L c) : Cc w1 L c := by
  obtain ⟨d, g, e, hi⟩ := h.ex
  exact ⟨d, g, e, hi.later hb⟩
theorem Cc.len {w : World} {L : List Value} {c : Cl} (h : Cc w L c) : L.length = 13 := by
  obtain ⟨d, g, rfl, hi⟩ := h.ex
  rfl
theorem Cc.one {w : World} {L : List Value} {c : Cl} (h : Cc w L c) : ∀ v ∈ L, v.oneCell' = true := by
  obtain ⟨d, g, rfl, hi⟩ := h.ex
  exact cC_one _ _ _
theorem Cc.op {w : World} {L : List Value} {c : Cl} (h : Cc w L c) : L[0]? = some (.int .i64 c.op) := by
  obtain ⟨d, g, rfl, hi⟩ := h.ex
  rfl
theorem without_c (p : Nat) (hp : p < 10) (L : List Value) (c : Cl) (w0 w : World) (h : Cc w0 L c) : Calls Try.prog 79 #[.agg L.toArray, .int .i64 (p : Int)] w fun e w' => ∃ L', e = .returned (.agg L'.toArray) ∧ Cc w0 L' (wo c p) ∧ Below w.heap.size w w' := by
  obtain ⟨d, g, rfl, hi⟩ := h.ex
  refine (without_any p hp c d g w).mono ?_
  rintro e w' ⟨rfl, hb⟩
  exact ⟨cC (wo c p) (wd p d) (wg p g), rfl, ⟨_, _, rfl, hi.wo p⟩, hb⟩
def UnRel (w : World) (b b2 : Nat) (c : Cl) (ps : List Nat) (pa : Option Addr) (n : Nat) (t : Value) (w' : World) : Prop :=
  ∃ (i : Nat) (L M : List Value), i ≤ n ∧ t = .int .i64 (i : Int) ∧ Bx w' b L ∧ Cc w L ((ps.take i).foldl wo c) ∧ Bx w' b2 M ∧ M.length = 13 ∧ RP w' (b2 + 1) pa n ps ∧ Below w.heap.size w w'

set_option maxRecDepth 100000 in
set_option maxHeartbeats 4000000 in
theorem unused_any (L : List Value) (c : Cl) (w : World) (h : Cc w L c) : Calls Try.prog 58 #[.agg L.toArray] w fun e w' => ∃ L', e = .returned (.agg L'.toArray) ∧ Cc w' L' (unu c) ∧ Below w.heap.size w w' := by
  obtain ⟨Z, hZl, hZo, hZz, hz⟩ := zero41
  have hZ0 : (Z.toArray = #[]) = False := by simp; intro h; rw [h] at hZl; simp at hZl
  have H : Hid (Cc w L c) := h
  have hb1 : Below w.heap.size w ((w.alloc (Obj.cells L.toArray 41)).alloc (Obj.cells Z.toArray 41)) := below2 _ _ _
  have X1 : Hid (Bx ((w.alloc (Obj.cells L.toArray 41)).alloc (Obj.cells Z.toArray 41)) w.heap.size L) := (Bx.new w L 41).later (below1 _ _)
  have X2 : Hid (Bx ((w.alloc (Obj.cells L.toArray 41)).alloc (Obj.cells Z.toArray 41)) (w.heap.size + 1) Z) := by have := Bx.new (w.alloc (Obj.cells L.toArray 41)) Z 41; simp at this; exact this
  have hc0 := X1.out.cell 0 h.op
  have HB1 := hid hb1
  have HZ := hid (And.intro hZl hZo)
  clear h hb1 hZl hZo hZz
  go_enter Try.func58, Try.ntmps58
  go_upto_region 2 with (first | (go_at_call 60; refine (partsOf_any c.op _).mono ?_; rintro e w3 ⟨pa, n, cp, rfl, hrp, hn5, hb3, _⟩))
  have R0 : Hid (UnRel w w.heap.size (w.heap.size + 1) c (partsL c.op) pa n (.int .i64 0) w3) := ⟨0, L, Z, by omega, rfl, X1.out.later hb3, H.out, X2.out.later hb3, HZ.out.1, by simpa using hrp, below_call HB1.out hb3⟩
  have HN := hid hrp.len
  clear hc0 X1 X2 hrp hb3
  go_loopw [9] (UnRel w w.heap.size (w.heap.size + 1) c (partsL c.op) pa n) (fun t _ => n - (intOf t).toNat)
  case atStart => exact R0.out
  case round =>
    clear R0
    obtain ⟨i, M, Y, hi, rfl, hx1, hcc, hx2, hyl, hrp, hbw⟩ := hrel
    have ei : IntKind.i64.wrap ((i : Int) + 1) = (i : Int) + 1 := by rw [IntKind.wrap_i64]; omega
    by_cases hlt : i < n
    · have hdi : decide ((i : Int) < (n : Int)) = true := by simp; omega
      have hiP : i < (partsL c.op).length := by have := HN.out; omega
      obtain ⟨pb, rfl, hpb, hpc⟩ := hrp.cells i hiP
      have HT : Hid _ := List.take_succ_eq_append_getElem hiP
      have hp10 : Hid ((partsL c.op)[i] < 10) := (parts_ok c.op).1 _ (List.getElem_mem hiP)
      generalize (partsL c.op)[i] = p at hpc HT hp10
      have HLD := hid (ld41 hx1.range hcc.len)
      have HX := hid hx1
      have HX2 := hid hx2
      have HRP := hid hrp
      have HBW := hid hbw
      have HC := hid hcc
      clear hx1 hx2 hrp hbw hcc
      go_upto_region 4 with fail
      go_wp2_with (first | ((with_reducible refine ld_arm HLD.out ?_ ?_); · rfl) | (go_at_call 79; refine (without_c p hp10.out M _ w _ HC.out).mono ?_; rintro e w4 ⟨M', rfl, hcc4, hb4⟩; have HC4 := hid hcc4; have HX4 := hid (HX.out.later hb4); have HL4 := hid HC.out.len; have HL5 := hid hcc4.len; have HO5 := hid hcc4.one; have HB4 := hid hb4; have hst := stc (by rw [← HL4.out]; exact HX4.out.there) HL5.out HO5.out; clear hcc4 hb4))
      have hsw := HBW.out.size
      have hBS : But (· = w.heap.size) w4 (w4.setCells w.heap.size 0 M') := setCells_but (S := (· = w.heap.size)) rfl M' 0 (But.refl _ _)
      have HBS := hid hBS
      clear hBS
      go_roundw
      case rel =>
        refine ⟨i + 1, M', Y, by omega, by go_num, HX4.out.set (by rw [HL5.out, HL4.out]), by rw [HT.out, List.foldl_append]; exact HC4.out, (HX2.out.later HB4.out).but HBS.out (by omega), hyl, (HRP.out.later HB4.out).but HBS.out (fun k hk => by omega), But.below (below_call HBW.out HB4.out) HBS.out (fun k hk => by omega)⟩
      case measure => simp [intOf]; omega
    · obtain rfl : i = n := by omega
      have hcu : Cc w M (unu c) := by
        have := hcc
        rwa [List.take_of_length_le (by have := HN.out; omega)] at this
      have HLD := hid (ld41 hx1.range hcc.len)
      have hst := stc (by rw [← hyl]; exact hx2.there) hcc.len hcc.one
      have hxs : Bx (wr.setCells (w.heap.size + 1) 0 M) (w.heap.size + 1) M := hx2.set (by rw [hyl, hcc.len])
      have HLV := hid (lv41 hxs.range hcc.len)
      have HB5 : Hid (Below w.heap.size w (wr.setCells (w.heap.size + 1) 0 M)) := But.below hbw (setCells_but (S := (· = w.heap.size + 1)) rfl M 0 (But.refl _ _)) (fun k hk => by omega)
      have HCU := hid hcu
      have hml := hcc.len
      clear hx1 hx2 hrp hbw hcc hxs hcu
      go_wp2_with (first | ((with_reducible refine ld_arm HLD.out ?_ ?_); · rfl))
      refine bodyPost_ret (v := .agg M.toArray) ?_ rfl ⟨M, rfl, HCU.out.later HB5.out, HB5.out⟩
      have hlv := HLV.out
      simp [results, Try.results58, asAddr, hlv]
theorem isBlank_c (L : List Value) (c : Cl) (w : World) (h : Cc w L c) : Calls Try.prog 57 #[.agg L.toArray] w fun e w' => e = .returned (.bool (blB c)) ∧ Below w.heap.size w w' := by
  obtain ⟨d, g, rfl, hi⟩ := h.ex
  exact isBlank_any c d g w hi
theorem wordMay_c (L : List Value) (c : Cl) (w0 w : World) (h : Cc w0 L c) : Calls Try.prog 56 #[.agg L.toArray] w fun e w' => e = .returned (.bool (wmB c)) ∧ Below w.heap.size w w' := by
  obtain ⟨d, g, rfl, hi⟩ := h.ex
  exact wordMay_any c d g w
theorem inBounds_c (L : List Value) (c : Cl) (w : World) (h : Cc w L c) : Calls Try.prog 55 #[.agg L.toArray] w fun e w' => e = .returned (.bool (inB c)) ∧ Below w.heap.size w w' := by
  obtain ⟨d, g, rfl, hi⟩ := h.ex
  exact inBounds_any c d g w hi
set_option maxRecDepth 100000 in
set_option maxHeartbeats 4000000 in
theorem isCall_any (L : List Value) (c : Cl) (w : World) (h : Cc w L c) : Calls Try.prog 30 #[.agg L.toArray] w fun e w' => e = .returned (.bool (fm c)) ∧ Below w.heap.size w w' := by
  have X1 : Hid (Bx (w.alloc (Obj.cells L.toArray 41)) w.heap.size L) := Bx.new w L 41
  have hc0 := X1.out.cell 0 h.op
  have HL := hid h.len
  have HC : Hid (Cc (w.alloc (Obj.cells L.toArray 41)) L c) := h.later (below1 _ _)
  have HLD1 := hid (ld41 X1.out.range h.len)
  have HB0 : Hid (Below w.heap.size w (w.alloc (Obj.cells L.toArray 41))) := below1 _ _
  clear h
  cases F1 : wi c.op 1 10 with
  | false =>
    have E : Hid (fm c = false) := by unfold Hid fm; rw [F1]; simp
    go_enter Try.func30, Try.ntmps30
    go_wp2_with (first | (go_at_call 43; refine (within_any _ _ _ _).mono ?_; rintro e w1 ⟨rfl, rfl⟩; simp only [F1]))
    go_ret
    exact ⟨ret_bool E.out.symm, HB0.out⟩
  | true =>
  cases F2 : inB c with
  | false =>
    have E : Hid (fm c = false) := by unfold Hid fm; rw [F1, F2]; simp
    go_enter Try.func30, Try.ntmps30
    go_wp2_with (first | ((with_reducible refine ld_armg HLD1.out ?_ ?_ ?_); (· rfl); (· rfl)) | (go_at_call 43; refine (within_any _ _ _ _).mono ?_; rintro e w1 ⟨rfl, rfl⟩; simp only [F1]) | (go_at_call 55; refine (inBounds_c L c _ HC.out).mono ?_; rintro e w2 ⟨rfl, hb2⟩; simp only [F2]; have HB2 := hid hb2; clear hb2))
    go_ret
    exact ⟨ret_bool E.out.symm, below_call HB0.out HB2.out⟩
  | true =>
  cases F3 : wmB c with
  | false =>
    have E : Hid (fm c = false) := by unfold Hid fm; rw [F1, F2, F3]; simp
    go_enter Try.func30, Try.ntmps30
    go_wp2_with (first | ((with_reducible refine ld_armg HLD2.out ?_ ?_ ?_); (· rfl); (· rfl)) | ((with_reducible refine ld_armg HLD1.out ?_ ?_ ?_); (· rfl); (· rfl)) | (go_at_call 43; refine (within_any _ _ _ _).mono ?_; rintro e w1 ⟨rfl, rfl⟩; simp only [F1]) | (go_at_call 55; refine (inBounds_c L c _ HC.out).mono ?_; rintro e w2 ⟨rfl, hb2⟩; simp only [F2]; have HB2 := hid hb2; have HLD2 := hid (ld41 (X1.out.later hb2).range HL.out); clear hb2) | (go_at_call 56; refine (wordMay_c L c _ _ HC.out).mono ?_; rintro e w3 ⟨rfl, hb3⟩; simp only [F3]; have HB3 := hid hb3; clear hb3))
    go_ret
    exact ⟨ret_bool E.out.symm, below_call (below_call HB0.out HB2.out) HB3.out⟩
  | true =>
    have E : Hid (fm c = blB (unu c)) := by unfold Hid fm; rw [F1, F2, F3]; simp
    go_enter Try.func30, Try.ntmps30
    go_wp2_with (first | ((with_reducible refine ld_armg HLD3.out ?_ ?_ ?_); (· rfl); (· rfl)) | ((with_reducible refine ld_armg HLD2.out ?_ ?_ ?_); (· rfl); (· rfl)) | ((with_reducible refine ld_armg HLD1.out ?_ ?_ ?_); (· rfl); (· rfl)) | (go_at_call 43; refine (within_any _ _ _ _).mono ?_; rintro e w1 ⟨rfl, rfl⟩; simp only [F1]) | (go_at_call 55; refine (inBounds_c L c _ HC.out).mono ?_; rintro e w2 ⟨rfl, hb2⟩; simp only [F2]; have HB2 := hid hb2; have HLD2 := hid (ld41 (X1.out.later hb2).range HL.out); clear hb2) | (go_at_call 56; refine (wordMay_c L c _ _ HC.out).mono ?_; rintro e w3 ⟨rfl, hb3⟩; simp only [F3]; have HB3 := hid hb3; have HLD3 := hid (ld41 ((X1.out.later HB2.out).later hb3).range HL.out); clear hb3) | (go_at_call 58; refine (unused_any L c _ ((HC.out.later HB2.out).later HB3.out)).mono ?_; rintro e w4 ⟨L4, rfl, hcc4, hb4⟩; have HC4 := hid hcc4; have HB4 := hid hb4; clear hcc4 hb4) | (go_at_call 57; refine (isBlank_c L4 _ _ HC4.out).mono ?_; rintro e w5 ⟨rfl, hb5⟩; have HB5 := hid hb5; clear hb5))
    go_ret
    exact ⟨ret_bool E.out.symm, below_call (below_call (below_call (below_call HB0.out HB2.out) HB3.out) HB4.out) HB5.out⟩
end Go.Proofs.Ytaffgoacbiedlaa
