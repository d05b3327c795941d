import Derived.Test.YtaffgoacbiedlaaP4
namespace Go.Proofs.Ytaffgoacbiedlaa
open Go.RowKit
set_option linter.unusedVariables false
set_option linter.unusedSimpArgs false

set_option maxRecDepth 100000 in
set_option maxHeartbeats 1000000 in
theorem rwithin_any (n a b : Int) (w : World) : Calls Try.prog 39 #[.int .i64 n, .int .i64 a, .int .i64 b] w fun e w' => e = .returned (.bool (wi n a b)) ∧ w' = w := by
  by_cases h1 : a ≤ n
  · have d1 : decide (a ≤ n) = true := decide_eq_true h1
    have d2 : decide (n ≥ a) = true := decide_eq_true h1
    have e1 : wi n a b = decide (n ≤ b) := by unfold wi; rw [d1, Bool.true_and]
    rw [e1]
    clear e1
    go_enter Try.func39, Try.ntmps39
    go_wp2
    go_ret
    exact ⟨rfl, rfl⟩
  · have d1 : decide (a ≤ n) = false := decide_eq_false h1
    have d2 : decide (n ≥ a) = false := decide_eq_false h1
    have e1 : wi n a b = false := by unfold wi; rw [d1, Bool.false_and]
    rw [e1]
    clear e1
    go_enter Try.func39, Try.ntmps39
    go_wp2
    go_ret
    exact ⟨rfl, rfl⟩
set_option maxRecDepth 100000 in
set_option maxHeartbeats 1000000 in
theorem rsigned_any (n : Int) (w : World) : Calls Try.prog 63 #[.int .i64 n] w fun e w' => e = .returned (.bool (sgB n)) ∧ w' = w := by
  unfold sgB
  go_enter Try.func63, Try.ntmps63
  go_wp2_with (first | (go_at_call 39; refine (rwithin_any n (-2147483648) 2147483647 _).mono ?_; rintro e w1 ⟨rfl, rfl⟩))
  go_ret
  exact ⟨rfl, rfl⟩
set_option maxRecDepth 100000 in
set_option maxHeartbeats 8000000 in
theorem right_any (L : List Value) (c : Cl) (w : World) (h : Cc w L c) (hgn : c.gifts.length ≤ 17592186044416) : Calls Try.prog 34 #[.agg L.toArray] w fun e w' => e = .returned (.bool (wi c.op 1 10 && inB c)) ∧ Below w.heap.size w w' := by
  obtain ⟨⟨da, dn, dc⟩, ⟨ga, gn, gc⟩, rfl, hi1⟩ := h.ex
  obtain ⟨op, by_, size, obj, hi_, lo, given, rights, off, n, data, index, gifts⟩ := c
  have hdl : data.length = dn := hi1.data.len
  have hgl : gifts.length = gn := hi1.gifts.len
  have hgn2 : gn ≤ 17592186044416 := by simp only at hgn; omega
  have HD : Hid (decide (data.length ≤ 1025) = decide ((dn : Int) ≤ 1025)) := by unfold Hid; rw [hdl, Bool.eq_iff_iff]; simp only [decide_eq_true_eq]; omega
  have HG : Hid (gfB gifts = (decide ((gn : Int) ≤ 255) && gifts.all (fun g => wi g 0 65535))) := by unfold Hid gfB; congr 1; rw [hgl, Bool.eq_iff_iff]; simp only [decide_eq_true_eq]; omega
  have HL := hid hgl
  have H := hid hi1.gifts
  have hnot : ∀ (x : Bool) (w : World), (Op.unary .not (.bool x)).run Try.prog w = .ok (.bool (!x)) w := fun _ _ => rfl
  clear h hi1 hdl hgl hgn
  simp only [cC, Sl.v]
  generalize hB : (wi op 1 10 && inB ⟨op, by_, size, obj, hi_, lo, given, rights, off, n, data, index, gifts⟩) = B
  have HBB := hid hB
  clear hB
  go_enter Try.func34, Try.ntmps34
  go_wp2
  go_loop [3] (fun t => ∃ i : Nat, i ≤ gn ∧ t = .int .i64 (i : Int) ∧ (gifts.take i).all (fun g => wi g 0 65535) = true) (fun t => gn - (intOf t).toNat)
  case atStart => exact ⟨0, by omega, rfl, by simp⟩
  case round =>
    obtain ⟨i, hi, rfl, ht⟩ := hrel
    have HT := hid ht
    clear ht
    have ei : IntKind.i64.wrap ((i : Int) + 1) = (i : Int) + 1 := by rw [IntKind.wrap_i64]; omega
    by_cases hlt : i < gn
    · have hdi : decide ((i : Int) < (gn : Int)) = true := by simp; omega
      obtain ⟨b, o, rfl, hc⟩ := H.out.plain (by omega)
      have hiG : i < gifts.length := by have := HL.out; omega
      have hcell := cell_later (below1 w (Obj.cells #[.int .i64 op, .int .i64 by_, .int .i64 size, .int .i64 obj, .int .u64 (hi_ : Int), .int .u64 (lo : Int), .bool given, .int .i64 rights, .int .i64 off, .int .i64 n, .slice da dn dc, .int .i64 index, .slice (some ⟨b, o, none⟩) gn gc] 41)) (hc i hiG)
      have HA : Hid _ := all_take gifts i hiG (fun g => wi g 0 65535)
      have HGM : Hid (gifts[i] ∈ gifts) := List.getElem_mem hiG
      generalize gifts[i] = x at hcell HA HGM
      clear hc hiG
      by_cases hx : wi x 0 65535 = true
      · have HA2 : Hid ((gifts.take (i + 1)).all (fun g => wi g 0 65535) = true) := by have := HA.out; unfold Hid; rw [this, HT.out]; simpa using hx
        clear HA HGM
        go_wp2_with (first | (go_at_call 39; refine (rwithin_any x 0 65535 _).mono ?_; rintro e w1 ⟨rfl, hw1⟩; obtain rfl := hw1.symm; rw [hx]))
        exact ⟨⟨i + 1, by omega, by go_num, HA2.out⟩, by simp [intOf]; omega⟩
      · have hx2 : wi x 0 65535 = false := by simpa using hx
        have E : Hid ((wi op 1 10 && inB ⟨op, by_, size, obj, hi_, lo, given, rights, off, n, data, index, gifts⟩) = false) := by
          have : gifts.all (fun g => wi g 0 65535) = false := by rw [List.all_eq_false]; exact ⟨x, HGM.out, by rw [hx2]; simp⟩
          unfold Hid inB
          rw [HG.out, this]
          simp
        clear HA HGM hx
        go_wp2_with (first | (go_at_call 39; refine (rwithin_any x 0 65535 _).mono ?_; rintro e w1 ⟨rfl, hw1⟩; obtain rfl := hw1.symm; rw [hx2]))
        go_ret
        exact ⟨ret_bool (E.out.symm.trans HBB.out), below1 _ _⟩
    · obtain rfl : i = gn := by omega
      have HA3 : Hid (gifts.all (fun g => wi g 0 65535) = true) := by
        have := HT.out
        rwa [List.take_of_length_le (by have := HL.out; omega)] at this
      have hdi : ¬ (i : Int) < (i : Int) := by omega
      cases F1 : wi op 1 10 with
      | false =>
        have E : Hid ((wi op 1 10 && inB ⟨op, by_, size, obj, hi_, lo, given, rights, off, n, data, index, gifts⟩) = false) := by unfold Hid inB; simp only [HG.out, HA3.out, HD.out, F1, Bool.true_and, Bool.false_and, Bool.and_false, Bool.and_true]
        go_wp2_with (first | (go_at_call 39; refine (rwithin_any _ _ _ _).mono ?_; rintro e w1 ⟨rfl, hw1⟩; obtain rfl := hw1.symm; simp only [F1]) | (go_at_call 63; refine (rsigned_any _ _).mono ?_; rintro e w1 ⟨rfl, hw1⟩; obtain rfl := hw1.symm; simp only [F1]))
        go_ret
        exact ⟨ret_bool (E.out.symm.trans HBB.out), below1 _ _⟩
      | true =>
      cases F2 : wi by_ 0 65535 with
      | false =>
        have E : Hid ((wi op 1 10 && inB ⟨op, by_, size, obj, hi_, lo, given, rights, off, n, data, index, gifts⟩) = false) := by unfold Hid inB; simp only [HG.out, HA3.out, HD.out, F1, F2, Bool.true_and, Bool.false_and, Bool.and_false, Bool.and_true]
        go_wp2_with (first | (go_at_call 39; refine (rwithin_any _ _ _ _).mono ?_; rintro e w1 ⟨rfl, hw1⟩; obtain rfl := hw1.symm; simp only [F1, F2]) | (go_at_call 63; refine (rsigned_any _ _).mono ?_; rintro e w1 ⟨rfl, hw1⟩; obtain rfl := hw1.symm; simp only [F1, F2]))
        go_ret
        exact ⟨ret_bool (E.out.symm.trans HBB.out), below1 _ _⟩
      | true =>
      cases F3 : sgB size with
      | false =>
        have E : Hid ((wi op 1 10 && inB ⟨op, by_, size, obj, hi_, lo, given, rights, off, n, data, index, gifts⟩) = false) := by unfold Hid inB; simp only [HG.out, HA3.out, HD.out, F1, F2, F3, Bool.true_and, Bool.false_and, Bool.and_false, Bool.and_true]
        go_wp2_with (first | (go_at_call 39; refine (rwithin_any _ _ _ _).mono ?_; rintro e w1 ⟨rfl, hw1⟩; obtain rfl := hw1.symm; simp only [F1, F2, F3]) | (go_at_call 63; refine (rsigned_any _ _).mono ?_; rintro e w1 ⟨rfl, hw1⟩; obtain rfl := hw1.symm; simp only [F1, F2, F3]))
        go_ret
        exact ⟨ret_bool (E.out.symm.trans HBB.out), below1 _ _⟩
      | true =>
      cases F4 : sgB off with
      | false =>
        have E : Hid ((wi op 1 10 && inB ⟨op, by_, size, obj, hi_, lo, given, rights, off, n, data, index, gifts⟩) = false) := by unfold Hid inB; simp only [HG.out, HA3.out, HD.out, F1, F2, F3, F4, Bool.true_and, Bool.false_and, Bool.and_false, Bool.and_true]
        go_wp2_with (first | (go_at_call 39; refine (rwithin_any _ _ _ _).mono ?_; rintro e w1 ⟨rfl, hw1⟩; obtain rfl := hw1.symm; simp only [F1, F2, F3, F4]) | (go_at_call 63; refine (rsigned_any _ _).mono ?_; rintro e w1 ⟨rfl, hw1⟩; obtain rfl := hw1.symm; simp only [F1, F2, F3, F4]))
        go_ret
        exact ⟨ret_bool (E.out.symm.trans HBB.out), below1 _ _⟩
      | true =>
      cases F5 : sgB n with
      | false =>
        have E : Hid ((wi op 1 10 && inB ⟨op, by_, size, obj, hi_, lo, given, rights, off, n, data, index, gifts⟩) = false) := by unfold Hid inB; simp only [HG.out, HA3.out, HD.out, F1, F2, F3, F4, F5, Bool.true_and, Bool.false_and, Bool.and_false, Bool.and_true]
        go_wp2_with (first | (go_at_call 39; refine (rwithin_any _ _ _ _).mono ?_; rintro e w1 ⟨rfl, hw1⟩; obtain rfl := hw1.symm; simp only [F1, F2, F3, F4, F5]) | (go_at_call 63; refine (rsigned_any _ _).mono ?_; rintro e w1 ⟨rfl, hw1⟩; obtain rfl := hw1.symm; simp only [F1, F2, F3, F4, F5]))
        go_ret
        exact ⟨ret_bool (E.out.symm.trans HBB.out), below1 _ _⟩
      | true =>
      cases F6 : wi obj 0 4611686018427387904 with
      | false =>
        have E : Hid ((wi op 1 10 && inB ⟨op, by_, size, obj, hi_, lo, given, rights, off, n, data, index, gifts⟩) = false) := by unfold Hid inB; simp only [HG.out, HA3.out, HD.out, F1, F2, F3, F4, F5, F6, Bool.true_and, Bool.false_and, Bool.and_false, Bool.and_true]
        go_wp2_with (first | (go_at_call 39; refine (rwithin_any _ _ _ _).mono ?_; rintro e w1 ⟨rfl, hw1⟩; obtain rfl := hw1.symm; simp only [F1, F2, F3, F4, F5, F6]) | (go_at_call 63; refine (rsigned_any _ _).mono ?_; rintro e w1 ⟨rfl, hw1⟩; obtain rfl := hw1.symm; simp only [F1, F2, F3, F4, F5, F6]))
        go_ret
        exact ⟨ret_bool (E.out.symm.trans HBB.out), below1 _ _⟩
      | true =>
      cases F7 : wi rights 0 255 with
      | false =>
        have E : Hid ((wi op 1 10 && inB ⟨op, by_, size, obj, hi_, lo, given, rights, off, n, data, index, gifts⟩) = false) := by unfold Hid inB; simp only [HG.out, HA3.out, HD.out, F1, F2, F3, F4, F5, F6, F7, Bool.true_and, Bool.false_and, Bool.and_false, Bool.and_true]
        go_wp2_with (first | (go_at_call 39; refine (rwithin_any _ _ _ _).mono ?_; rintro e w1 ⟨rfl, hw1⟩; obtain rfl := hw1.symm; simp only [F1, F2, F3, F4, F5, F6, F7]) | (go_at_call 63; refine (rsigned_any _ _).mono ?_; rintro e w1 ⟨rfl, hw1⟩; obtain rfl := hw1.symm; simp only [F1, F2, F3, F4, F5, F6, F7]))
        go_ret
        exact ⟨ret_bool (E.out.symm.trans HBB.out), below1 _ _⟩
      | true =>
      cases F8 : wi index 0 65535 with
      | false =>
        have E : Hid ((wi op 1 10 && inB ⟨op, by_, size, obj, hi_, lo, given, rights, off, n, data, index, gifts⟩) = false) := by unfold Hid inB; simp only [HG.out, HA3.out, HD.out, F1, F2, F3, F4, F5, F6, F7, F8, Bool.true_and, Bool.false_and, Bool.and_false, Bool.and_true]
        go_wp2_with (first | (go_at_call 39; refine (rwithin_any _ _ _ _).mono ?_; rintro e w1 ⟨rfl, hw1⟩; obtain rfl := hw1.symm; simp only [F1, F2, F3, F4, F5, F6, F7, F8]) | (go_at_call 63; refine (rsigned_any _ _).mono ?_; rintro e w1 ⟨rfl, hw1⟩; obtain rfl := hw1.symm; simp only [F1, F2, F3, F4, F5, F6, F7, F8]))
        go_ret
        exact ⟨ret_bool (E.out.symm.trans HBB.out), below1 _ _⟩
      | true =>
      cases F9 : decide ((i : Int) ≤ 255) with
      | false =>
        have E : Hid ((wi op 1 10 && inB ⟨op, by_, size, obj, hi_, lo, given, rights, off, n, data, index, gifts⟩) = false) := by unfold Hid inB; simp only [HG.out, HA3.out, HD.out, F1, F2, F3, F4, F5, F6, F7, F8, F9, Bool.true_and, Bool.false_and, Bool.and_false, Bool.and_true]
        go_wp2_with (first | (go_at_call 39; refine (rwithin_any _ _ _ _).mono ?_; rintro e w1 ⟨rfl, hw1⟩; obtain rfl := hw1.symm; simp only [F1, F2, F3, F4, F5, F6, F7, F8, F9]) | (go_at_call 63; refine (rsigned_any _ _).mono ?_; rintro e w1 ⟨rfl, hw1⟩; obtain rfl := hw1.symm; simp only [F1, F2, F3, F4, F5, F6, F7, F8, F9]))
        go_ret
        exact ⟨ret_bool (E.out.symm.trans HBB.out), below1 _ _⟩
      | true =>
      have E : Hid ((wi op 1 10 && inB ⟨op, by_, size, obj, hi_, lo, given, rights, off, n, data, index, gifts⟩) = decide ((dn : Int) ≤ 1025)) := by unfold Hid inB; simp only [HG.out, HA3.out, HD.out, F1, F2, F3, F4, F5, F6, F7, F8, F9, Bool.true_and, Bool.and_true]
      go_wp2_with (first | (go_at_call 39; refine (rwithin_any _ _ _ _).mono ?_; rintro e w1 ⟨rfl, hw1⟩; obtain rfl := hw1.symm; simp only [F1, F2, F3, F4, F5, F6, F7, F8, F9]) | (go_at_call 63; refine (rsigned_any _ _).mono ?_; rintro e w1 ⟨rfl, hw1⟩; obtain rfl := hw1.symm; simp only [F1, F2, F3, F4, F5, F6, F7, F8, F9]))
      go_ret
      exact ⟨ret_bool (E.out.symm.trans HBB.out), below1 _ _⟩
end Go.Proofs.Ytaffgoacbiedlaa
