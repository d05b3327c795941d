import Derived.Test.YticgammbjcdobaaA5
import Derived.Test.YticgammbjcdobaaP3
namespace Go.Proofs.Yticgammbjcdobaa
open Go.RowKit
set_option linter.unusedVariables false
set_option linter.unusedSimpArgs false
def rC (r : Rp) (d : Sl) : List Value := [.int .i64 r.code, .int .i64 r.obj, .int .u64 (r.hi : Int), .int .u64 (r.lo : Int), d.v, .int .i64 r.number]
structure Rr (w : World) (L : List Value) (r : Rp) : Prop where
  ex : ∃ d, L = rC r d ∧ Row w d.a d.n d.c r.data ∧ r.hi < 18446744073709551616 ∧ r.lo < 18446744073709551616
theorem Rr.later {W w1 : World} {L : List Value} {r : Rp} (hb : Below W.heap.size W w1) (h : Rr W L r) : Rr w1 L r := by
  obtain ⟨d, e, h1, h2⟩ := h.ex
  exact ⟨d, e, h1.later hb, h2⟩
theorem Rr.len {w : World} {L : List Value} {r : Rp} (h : Rr w L r) : L.length = 6 := by
  obtain ⟨d, rfl, _⟩ := h.ex
  rfl
theorem rC_one (r : Rp) (d : Sl) : ∀ v ∈ rC r d, v.oneCell' = true := by
  intro v hv
  simp only [rC, List.mem_cons, List.mem_nil_iff, or_false] at hv
  rcases hv with rfl | rfl | rfl | rfl | rfl | rfl <;> rfl
theorem Rr.one {w : World} {L : List Value} {r : Rp} (h : Rr w L r) : ∀ v ∈ L, v.oneCell' = true := by
  obtain ⟨d, rfl, _⟩ := h.ex
  exact rC_one _ _
set_option maxRecDepth 100000 in
set_option maxHeartbeats 4000000 in
theorem tells_any (L : List Value) (r : Rp) (w0 w : World) (h : Rr w0 L r) : Calls Try.prog 70 #[.agg L.toArray] w fun e w' => e = .returned (.bool (tnB r)) ∧ Below w.heap.size w w' := by
  obtain ⟨⟨da, dn, dc⟩, rfl, hrow, _⟩ := h.ex
  obtain ⟨code, obj, hi, lo, data, number⟩ := r
  have hdl : data.length = dn := hrow.len
  have heq := eqlC obj hi lo 0 0 0
  have HB : Hid (tnB ⟨code, obj, hi, lo, data, number⟩ = (cEq obj hi lo 0 0 0 && ((dn : Int) == 0) && (number == 0))) := by
    unfold Hid tnB
    rw [Bool.eq_iff_iff]
    simp only [Bool.and_eq_true, beq_iff_eq, cEq, decide_eq_true_eq]
    omega
  clear h hdl hrow
  unfold rC
  cases F1 : cEq obj hi lo 0 0 0 with
  | false =>
    have E : Hid (_ = false) := HB.out.trans (by simp only [F1, Bool.true_and, Bool.false_and, Bool.and_false])
    clear HB
    go_enter Try.func70, Try.ntmps70
    go_wp2
    go_ret
    exact ⟨ret_bool E.out.symm, below1 _ _⟩
  | true =>
    cases F2 : ((dn : Int) == 0) with
    | false =>
      have E : Hid (_ = false) := HB.out.trans (by simp only [F1, F2, Bool.true_and, Bool.false_and, Bool.and_false])
      clear HB
      go_enter Try.func70, Try.ntmps70
      go_wp2
      go_ret
      exact ⟨ret_bool E.out.symm, below1 _ _⟩
    | true =>
      have E : Hid (_ = (number == 0)) := HB.out.trans (by simp only [F1, F2, Bool.true_and])
      clear HB
      go_enter Try.func70, Try.ntmps70
      go_wp2
      go_ret
      exact ⟨ret_bool E.out.symm, below1 _ _⟩
set_option maxRecDepth 100000 in
set_option maxHeartbeats 4000000 in
theorem untold_any (op : Int) (L : List Value) (r : Rp) (w0 w : World) (h : Rr w0 L r) : Calls Try.prog 71 #[.int .i64 op, .agg L.toArray] w fun e w' => ∃ L', e = .returned (.agg L'.toArray) ∧ Rr w0 L' (unt op r) ∧ Below w.heap.size w w' := by
  obtain ⟨⟨da, dn, dc⟩, rfl, hrow, h1, h2⟩ := h.ex
  obtain ⟨code, obj, hi, lo, data, number⟩ := r
  have HR := hid hrow
  have HW := hid (And.intro h1 h2)
  clear h hrow h1 h2
  unfold rC
  by_cases o1 : op = 1
  · subst o1
    go_enter Try.func71, Try.ntmps71
    go_wp2
    exact bodyPost_ret (v := .agg (List.toArray [.int .i64 code, .int .i64 0, .int .u64 0, .int .u64 0, .slice da dn dc, .int .i64 number])) (by simp [results, Try.results71, asAddr, load30]) rfl ⟨[.int .i64 code, .int .i64 0, .int .u64 0, .int .u64 0, .slice da dn dc, .int .i64 number], rfl, ⟨⟨da, dn, dc⟩, rfl, HR.out, (by show (0 : Nat) < 18446744073709551616; omega), (by show (0 : Nat) < 18446744073709551616; omega)⟩, below2 _ _ _⟩
  have b1 : (op == 1) = false := by simpa using o1
  by_cases o3 : op = 3
  · subst o3
    go_enter Try.func71, Try.ntmps71
    go_wp2
    exact bodyPost_ret (v := .agg (List.toArray [.int .i64 code, .int .i64 0, .int .u64 0, .int .u64 0, .slice da dn dc, .int .i64 number])) (by simp [results, Try.results71, asAddr, load30]) rfl ⟨[.int .i64 code, .int .i64 0, .int .u64 0, .int .u64 0, .slice da dn dc, .int .i64 number], rfl, ⟨⟨da, dn, dc⟩, rfl, HR.out, (by show (0 : Nat) < 18446744073709551616; omega), (by show (0 : Nat) < 18446744073709551616; omega)⟩, below2 _ _ _⟩
  have b3 : (op == 3) = false := by simpa using o3
  by_cases o5 : op = 5
  · subst o5
    go_enter Try.func71, Try.ntmps71
    go_wp2
    exact bodyPost_ret (v := .agg (List.toArray [.int .i64 code, .int .i64 obj, .int .u64 (hi : Int), .int .u64 (lo : Int), .slice none 0 0, .int .i64 number])) (by simp [results, Try.results71, asAddr, load30]) rfl ⟨[.int .i64 code, .int .i64 obj, .int .u64 (hi : Int), .int .u64 (lo : Int), .slice none 0 0, .int .i64 number], rfl, ⟨Sl.nil, rfl, row_nil _, HW.out⟩, below2 _ _ _⟩
  have b5 : (op == 5) = false := by simpa using o5
  by_cases o9 : op = 9
  · subst o9
    go_enter Try.func71, Try.ntmps71
    go_wp2
    exact bodyPost_ret (v := .agg (List.toArray [.int .i64 code, .int .i64 obj, .int .u64 (hi : Int), .int .u64 (lo : Int), .slice da dn dc, .int .i64 0])) (by simp [results, Try.results71, asAddr, load30]) rfl ⟨[.int .i64 code, .int .i64 obj, .int .u64 (hi : Int), .int .u64 (lo : Int), .slice da dn dc, .int .i64 0], rfl, ⟨⟨da, dn, dc⟩, rfl, HR.out, HW.out⟩, below2 _ _ _⟩
  have b9 : (op == 9) = false := by simpa using o9
  have HU : Hid (unt op ⟨code, obj, hi, lo, data, number⟩ = ⟨code, obj, hi, lo, data, number⟩) := by unfold Hid unt; rw [if_neg (by omega), if_neg (by omega), if_neg (by omega)]
  clear o1 o3 o5 o9
  go_enter Try.func71, Try.ntmps71
  go_wp2
  exact bodyPost_ret (v := .agg (List.toArray [.int .i64 code, .int .i64 obj, .int .u64 (hi : Int), .int .u64 (lo : Int), .slice da dn dc, .int .i64 number])) (by simp [results, Try.results71, asAddr, load30]) rfl ⟨[.int .i64 code, .int .i64 obj, .int .u64 (hi : Int), .int .u64 (lo : Int), .slice da dn dc, .int .i64 number], rfl, by rw [HU.out]; exact ⟨⟨da, dn, dc⟩, rfl, HR.out, HW.out⟩, below2 _ _ _⟩
theorem rfm_z {op : Int} {r : Rp} (h : r.code = 0) : rfm op r = (wi op 0 10 && (decide (op ≠ 0) && wi r.obj 0 4611686018427387904 && wi r.number 0 65535 && decide (r.data.length ≤ 1024) && tnB (unt op r))) := by
  unfold rfm
  rw [if_pos h, h]
  simp [wi]
theorem rfm_nz {op : Int} {r : Rp} (h : r.code ≠ 0) : rfm op r = (wi op 0 10 && wi r.code 0 65535 && tnB r) := by
  unfold rfm
  rw [if_neg h]
set_option maxRecDepth 100000 in
set_option maxHeartbeats 4000000 in
theorem isReply_any (op : Int) (L : List Value) (r : Rp) (w : World) (h : Rr w L r) : Calls Try.prog 57 #[.int .i64 op, .agg L.toArray] w fun e w' => e = .returned (.bool (rfm op r)) ∧ Below w.heap.size w w' := by
  have HH := hid h
  have X1 : Hid (Bx (w.alloc (Obj.cells L.toArray 39)) w.heap.size L) := Bx.new w L 39
  obtain ⟨⟨da, dn, dc⟩, hL, hrow, h1, h2⟩ := h.ex
  have hdl : r.data.length = dn := hrow.len
  have hc0 := X1.out.cell 0 (v := .int .i64 r.code) (by rw [hL]; rfl)
  have hc1 := X1.out.cell 1 (v := .int .i64 r.obj) (by rw [hL]; rfl)
  have hc4 := X1.out.cell 4 (v := .slice da dn dc) (by rw [hL]; rfl)
  have hc5 := X1.out.cell 5 (v := .int .i64 r.number) (by rw [hL]; rfl)
  have HLD1 := hid (ld30 X1.out.range h.len)
  have HD : Hid (decide (r.data.length ≤ 1024) = decide ((dn : Int) ≤ 1024)) := by unfold Hid; rw [hdl, Bool.eq_iff_iff]; simp only [decide_eq_true_eq]; omega
  have HZ := hid (@rfm_z op r)
  have HNZ := hid (@rfm_nz op r)
  have hnot : ∀ (x : Bool) (w : World), (Op.unary .not (.bool x)).run Try.prog w = .ok (.bool (!x)) w := fun _ _ => rfl
  clear h hL hrow h1 h2 hdl
  have HCE := hid (Eq.refl r.code)
  cases F1 : wi op 0 10 with
  | false =>
    have E : Hid (rfm op r = false) := by unfold Hid rfm; rw [F1]; simp
    go_enter Try.func57, Try.ntmps57
    go_wp2_with (first | (go_at_call 69; refine (within_any _ _ _ _).mono ?_; rintro e w9 ⟨rfl, hw9⟩; obtain rfl := hw9.symm; simp only [F1]))
    go_ret
    exact ⟨ret_bool E.out.symm, below1 _ _⟩
  | true =>
  cases F2 : wi r.code 0 65535 with
  | false =>
    have E : Hid (rfm op r = false) := by unfold Hid rfm; rw [F1, F2]; simp
    go_enter Try.func57, Try.ntmps57
    go_wp2_with (first | (go_at_call 69; refine (within_any _ _ _ _).mono ?_; rintro e w9 ⟨rfl, hw9⟩; obtain rfl := hw9.symm; simp only [F1, F2]))
    go_ret
    exact ⟨ret_bool E.out.symm, below1 _ _⟩
  | true =>
  by_cases hcz : r.code = 0
  · have HZ2 : Hid _ := HZ.out hcz
    have bz : (r.code != 0) = false := by simpa using hcz
    clear HZ HNZ hcz
    cases F3 : (op != 0) with
    | false =>
      have E : Hid (rfm op r = false) := HZ2.out.trans (by have h0 : op = 0 := (by simpa using F3); simp [h0])
      clear HZ2
      go_enter Try.func57, Try.ntmps57
      go_wp2_with (first | (go_at_call 69; refine (within_any _ _ _ _).mono ?_; rintro e w9 ⟨rfl, hw9⟩; obtain rfl := hw9.symm; simp only [F1, F2]))
      go_ret
      exact ⟨ret_bool E.out.symm, below1 _ _⟩
    | true =>
    have HO : Hid (decide (op ≠ 0) = true) := by unfold Hid; simpa using F3
    cases F4 : wi r.obj 0 4611686018427387904 with
    | false =>
      have E : Hid (rfm op r = false) := HZ2.out.trans (by simp only [HO.out, HD.out, F1, F4, Bool.true_and, Bool.false_and, Bool.and_false, Bool.and_true])
      clear HZ2
      go_enter Try.func57, Try.ntmps57
      go_wp2_with (first | (go_at_call 69; refine (within_any _ _ _ _).mono ?_; rintro e w9 ⟨rfl, hw9⟩; obtain rfl := hw9.symm; simp only [F2, F1, F4]))
      go_ret
      exact ⟨ret_bool E.out.symm, below1 _ _⟩
    | true =>
    cases F5 : wi r.number 0 65535 with
    | false =>
      have E : Hid (rfm op r = false) := HZ2.out.trans (by simp only [HO.out, HD.out, F1, F4, F5, Bool.true_and, Bool.false_and, Bool.and_false, Bool.and_true])
      clear HZ2
      go_enter Try.func57, Try.ntmps57
      go_wp2_with (first | (go_at_call 69; refine (within_any _ _ _ _).mono ?_; rintro e w9 ⟨rfl, hw9⟩; obtain rfl := hw9.symm; simp only [F2, F1, F4, F5]))
      go_ret
      exact ⟨ret_bool E.out.symm, below1 _ _⟩
    | true =>
    cases F6 : decide ((dn : Int) ≤ 1024) with
    | false =>
      have E : Hid (rfm op r = false) := HZ2.out.trans (by simp only [HO.out, HD.out, F1, F4, F5, F6, Bool.true_and, Bool.false_and, Bool.and_false, Bool.and_true])
      clear HZ2
      go_enter Try.func57, Try.ntmps57
      go_wp2_with (first | (go_at_call 69; refine (within_any _ _ _ _).mono ?_; rintro e w9 ⟨rfl, hw9⟩; obtain rfl := hw9.symm; simp only [F2, F1, F4, F5, F6]))
      go_ret
      exact ⟨ret_bool E.out.symm, below1 _ _⟩
    | true =>
    have E : Hid (rfm op r = tnB (unt op r)) := HZ2.out.trans (by simp only [HO.out, HD.out, F1, F4, F5, F6, Bool.true_and])
    clear HZ2
    go_enter Try.func57, Try.ntmps57
    go_wp2_with (first | ((with_reducible refine ld_armg HLD1.out ?_ ?_ ?_); (· rfl); (· rfl)) | (go_at_call 69; refine (within_any _ _ _ _).mono ?_; rintro e w9 ⟨rfl, hw9⟩; obtain rfl := hw9.symm; simp only [F2, F1, F4, F5, F6]) | (go_at_call 71; refine (untold_any op L r w _ HH.out).mono ?_; rintro e w2 ⟨L2, rfl, hr2, hb2⟩; have HR2 := hid hr2; have HB2 := hid hb2; clear hr2 hb2) | (go_at_call 70; refine (tells_any L2 _ w _ HR2.out).mono ?_; rintro e w3 ⟨rfl, hb3⟩; have HB3 := hid hb3; clear hb3))
    go_ret
    exact ⟨ret_bool E.out.symm, below_call (below_call (below1 _ _) HB2.out) HB3.out⟩
  · have HZ2 : Hid _ := HNZ.out hcz
    have bz : (r.code != 0) = true := by simpa using hcz
    have E : Hid (rfm op r = tnB r) := HZ2.out.trans (by simp only [F1, F2, Bool.true_and])
    clear HZ HNZ HZ2 hcz
    go_enter Try.func57, Try.ntmps57
    go_wp2_with (first | ((with_reducible refine ld_arm HLD1.out ?_ ?_); (· rfl)) | (go_at_call 69; refine (within_any _ _ _ _).mono ?_; rintro e w9 ⟨rfl, hw9⟩; obtain rfl := hw9.symm; simp only [F1, F2]) | (go_at_call 70; refine (tells_any L r w _ HH.out).mono ?_; rintro e w3 ⟨rfl, hb3⟩; have HB3 := hid hb3; clear hb3))
    go_ret
    exact ⟨ret_bool E.out.symm, below_call (below1 _ _) HB3.out⟩
end Go.Proofs.Yticgammbjcdobaa
