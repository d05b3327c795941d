import Derived.Test.YtaffgoacbiedlaaA3
namespace Go.Proofs.Ytaffgoacbiedlaa
open Go.RowKit
set_option linter.unusedVariables false

set_option maxRecDepth 100000 in
set_option maxHeartbeats 1000000 in
theorem within_any (n a b : Int) (w : World) : Calls Try.prog 43 #[.int .i64 n, .int .i64 a, .int .i64 b] w fun e w' => e = .returned (.bool (wi n a b)) ∧ w' = w := by
  by_cases h1 : a ≤ n
  · have d1 : decide (a ≤ n) = true := decide_eq_true h1
    have e1 : wi n a b = decide (n ≤ b) := by unfold wi; rw [d1, Bool.true_and]
    rw [e1]
    clear e1
    go_enter Try.func43, Try.ntmps43
    go_wp2
    go_ret
    exact ⟨rfl, rfl⟩
  · have d1 : decide (a ≤ n) = false := decide_eq_false h1
    have e1 : wi n a b = false := by unfold wi; rw [d1, Bool.false_and]
    rw [e1]
    clear e1
    go_enter Try.func43, Try.ntmps43
    go_wp2
    go_ret
    exact ⟨rfl, rfl⟩
set_option maxRecDepth 100000 in
set_option maxHeartbeats 1000000 in
theorem signed_any (n : Int) (w : World) : Calls Try.prog 77 #[.int .i64 n] w fun e w' => e = .returned (.bool (sgB n)) ∧ w' = w := by
  unfold sgB
  go_enter Try.func77, Try.ntmps77
  go_wp2_with (first | (go_at_call 43; refine (within_any n (-2147483648) 2147483647 _).mono ?_; rintro e w1 ⟨rfl, rfl⟩))
  go_ret
  exact ⟨rfl, rfl⟩
theorem all_take (G : List Int) (i : Nat) (h : i < G.length) (f : Int → Bool) : (G.take (i + 1)).all f = ((G.take i).all f && f G[i]) := by
  rw [List.take_succ_eq_append_getElem h, List.all_append]
  simp
set_option maxRecDepth 100000 in
set_option maxHeartbeats 1000000 in
theorem areGifts_any (a : Option Addr) (n cap : Nat) (G : List Int) (w : World) (h : RI w a n cap G) : Calls Try.prog 78 #[.slice a n cap] w fun e w' => e = .returned (.bool (gfB G)) ∧ w' = w := by
  have hlen := h.len
  by_cases hl : n ≤ 255
  · have hd : decide ((n : Int) > 255) = false := by simp; omega
    have hd2 : decide ((255 : Int) < (n : Int)) = false := by simp; omega
    have E : Hid (gfB G = G.all (fun g => wi g 0 65535)) := by unfold Hid gfB; rw [decide_eq_true (by omega), Bool.true_and]
    have H : Hid (RI w a n cap G) := h
    have HL : Hid (G.length = n) := hlen
    clear h hlen
    go_enter Try.func78, Try.ntmps78
    go_wp2
    go_loop [10] (fun t => ∃ i : Nat, i ≤ n ∧ t = .int .i64 (i : Int) ∧ (G.take i).all (fun g => wi g 0 65535) = true) (fun t => n - (intOf t).toNat)
    case atStart => exact ⟨0, by omega, rfl, by simp⟩
    case round =>
      obtain ⟨i, hi, rfl, ht⟩ := hrel
      have HT : Hid ((G.take i).all (fun g => wi g 0 65535) = true) := ht
      clear ht
      have ei : IntKind.i64.wrap ((i : Int) + 1) = (i : Int) + 1 := by rw [IntKind.wrap_i64]; omega
      by_cases hlt : i < n
      · have hdi : decide ((i : Int) < (n : Int)) = true := by simp; omega
        obtain ⟨b, o, rfl, hc⟩ := H.out.plain (by omega)
        have hiG : i < G.length := by have := HL.out; omega
        have hcell := hc i hiG
        have HA : Hid _ := all_take G i hiG (fun g => wi g 0 65535)
        have HG : Hid (G[i] ∈ G) := List.getElem_mem hiG
        generalize G[i] = x at hcell HA HG
        clear hc
        by_cases hx : wi x 0 65535 = true
        · have HA2 : Hid ((G.take (i + 1)).all (fun g => wi g 0 65535) = true) := by have := HA.out; unfold Hid; rw [this, HT.out]; simpa using hx
          clear HA HG
          go_wp2_with (first | (go_at_call 43; refine (within_any x 0 65535 _).mono ?_; rintro e w1 ⟨rfl, rfl⟩; rw [hx]))
          exact ⟨⟨i + 1, by omega, by go_num, HA2.out⟩, by simp [intOf]; omega⟩
        · have hx' : wi x 0 65535 = false := by simpa using hx
          have E2 : Hid (gfB G = false) := by
            unfold Hid
            rw [E.out, List.all_eq_false]
            exact ⟨x, HG.out, by rw [hx']; simp⟩
          clear HA HG hx
          go_wp2_with (first | (go_at_call 43; refine (within_any x 0 65535 _).mono ?_; rintro e w1 ⟨rfl, rfl⟩; rw [hx']))
          go_ret
          exact ⟨ret_bool E2.out.symm, rfl⟩
      · obtain rfl : i = n := by omega
        have E2 : Hid (gfB G = true) := by
          have := HT.out
          rw [List.take_of_length_le (by have := HL.out; omega)] at this
          unfold Hid
          rw [E.out, this]
        go_wp2
        go_ret
        exact ⟨ret_bool E2.out.symm, rfl⟩
  · have hd : decide ((n : Int) > 255) = true := by simp; omega
    have hd2 : decide ((255 : Int) < (n : Int)) = true := by simp; omega
    have E : Hid (gfB G = false) := by unfold Hid gfB; rw [decide_eq_false (by omega), Bool.false_and]
    clear h hlen
    go_enter Try.func78, Try.ntmps78
    go_wp2
    go_ret
    exact ⟨ret_bool E.out.symm, rfl⟩
end Go.Proofs.Ytaffgoacbiedlaa
namespace Go.Proofs.Ytaffgoacbiedlaa
open Go.RowKit
set_option linter.unusedVariables false
set_option linter.unusedSimpArgs false

set_option maxRecDepth 100000 in
set_option maxHeartbeats 4000000 in
theorem inBounds_any (c : Cl) (d g : Sl) (w : World) (h : Is w c d g) : Calls Try.prog 55 #[cV c d g] w fun e w' => e = .returned (.bool (inB c)) ∧ Below w.heap.size w w' := by
  obtain ⟨op, by_, size, obj, hi, lo, given, rights, off, n, data, index, gifts⟩ := c
  obtain ⟨da, dn, dc⟩ := d
  obtain ⟨ga, gn, gc⟩ := g
  have hdl : data.length = dn := h.data.len
  have HG : Hid (∀ o, RI (w.alloc o) ga gn gc gifts) := fun o => h.gifts.later (below1 _ _)
  have HD : Hid (decide (data.length ≤ 1025) = decide ((dn : Int) ≤ 1025)) := by unfold Hid; rw [hdl, Bool.eq_iff_iff]; simp only [decide_eq_true_eq]; omega
  clear h hdl
  unfold cV
  cases F1 : wi by_ 0 65535 with
  | false =>
    have E : Hid (inB ⟨op, by_, size, obj, hi, lo, given, rights, off, n, data, index, gifts⟩ = false) := by unfold Hid inB; simp only [HD.out, F1, Bool.true_and, Bool.false_and, Bool.and_false, Bool.and_true]
    go_enter Try.func55, Try.ntmps55
    go_wp2_with (first | (go_at_call 43; refine (within_any _ _ _ _).mono ?_; rintro e w1 ⟨rfl, rfl⟩; simp only [F1]) | (go_at_call 77; refine (signed_any _ _).mono ?_; rintro e w1 ⟨rfl, rfl⟩; simp only [F1]) | (go_at_call 78; refine (areGifts_any _ _ _ gifts _ (HG.out _)).mono ?_; rintro e w1 ⟨rfl, rfl⟩))
    go_ret
    exact ⟨ret_bool E.out.symm, below1 _ _⟩
  | true =>
    cases F2 : sgB size with
    | false =>
      have E : Hid (inB ⟨op, by_, size, obj, hi, lo, given, rights, off, n, data, index, gifts⟩ = false) := by unfold Hid inB; simp only [HD.out, F1, F2, Bool.true_and, Bool.false_and, Bool.and_false, Bool.and_true]
      go_enter Try.func55, Try.ntmps55
      go_wp2_with (first | (go_at_call 43; refine (within_any _ _ _ _).mono ?_; rintro e w1 ⟨rfl, rfl⟩; simp only [F1, F2]) | (go_at_call 77; refine (signed_any _ _).mono ?_; rintro e w1 ⟨rfl, rfl⟩; simp only [F1, F2]) | (go_at_call 78; refine (areGifts_any _ _ _ gifts _ (HG.out _)).mono ?_; rintro e w1 ⟨rfl, rfl⟩))
      go_ret
      exact ⟨ret_bool E.out.symm, below1 _ _⟩
    | true =>
      cases F3 : sgB off with
      | false =>
        have E : Hid (inB ⟨op, by_, size, obj, hi, lo, given, rights, off, n, data, index, gifts⟩ = false) := by unfold Hid inB; simp only [HD.out, F1, F2, F3, Bool.true_and, Bool.false_and, Bool.and_false, Bool.and_true]
        go_enter Try.func55, Try.ntmps55
        go_wp2_with (first | (go_at_call 43; refine (within_any _ _ _ _).mono ?_; rintro e w1 ⟨rfl, rfl⟩; simp only [F1, F2, F3]) | (go_at_call 77; refine (signed_any _ _).mono ?_; rintro e w1 ⟨rfl, rfl⟩; simp only [F1, F2, F3]) | (go_at_call 78; refine (areGifts_any _ _ _ gifts _ (HG.out _)).mono ?_; rintro e w1 ⟨rfl, rfl⟩))
        go_ret
        exact ⟨ret_bool E.out.symm, below1 _ _⟩
      | true =>
        cases F4 : sgB n with
        | false =>
          have E : Hid (inB ⟨op, by_, size, obj, hi, lo, given, rights, off, n, data, index, gifts⟩ = false) := by unfold Hid inB; simp only [HD.out, F1, F2, F3, F4, Bool.true_and, Bool.false_and, Bool.and_false, Bool.and_true]
          go_enter Try.func55, Try.ntmps55
          go_wp2_with (first | (go_at_call 43; refine (within_any _ _ _ _).mono ?_; rintro e w1 ⟨rfl, rfl⟩; simp only [F1, F2, F3, F4]) | (go_at_call 77; refine (signed_any _ _).mono ?_; rintro e w1 ⟨rfl, rfl⟩; simp only [F1, F2, F3, F4]) | (go_at_call 78; refine (areGifts_any _ _ _ gifts _ (HG.out _)).mono ?_; rintro e w1 ⟨rfl, rfl⟩))
          go_ret
          exact ⟨ret_bool E.out.symm, below1 _ _⟩
        | true =>
          cases F5 : wi obj 0 4611686018427387904 with
          | false =>
            have E : Hid (inB ⟨op, by_, size, obj, hi, lo, given, rights, off, n, data, index, gifts⟩ = false) := by unfold Hid inB; simp only [HD.out, F1, F2, F3, F4, F5, Bool.true_and, Bool.false_and, Bool.and_false, Bool.and_true]
            go_enter Try.func55, Try.ntmps55
            go_wp2_with (first | (go_at_call 43; refine (within_any _ _ _ _).mono ?_; rintro e w1 ⟨rfl, rfl⟩; simp only [F1, F2, F3, F4, F5]) | (go_at_call 77; refine (signed_any _ _).mono ?_; rintro e w1 ⟨rfl, rfl⟩; simp only [F1, F2, F3, F4, F5]) | (go_at_call 78; refine (areGifts_any _ _ _ gifts _ (HG.out _)).mono ?_; rintro e w1 ⟨rfl, rfl⟩))
            go_ret
            exact ⟨ret_bool E.out.symm, below1 _ _⟩
          | true =>
            cases F6 : wi rights 0 255 with
            | false =>
              have E : Hid (inB ⟨op, by_, size, obj, hi, lo, given, rights, off, n, data, index, gifts⟩ = false) := by unfold Hid inB; simp only [HD.out, F1, F2, F3, F4, F5, F6, Bool.true_and, Bool.false_and, Bool.and_false, Bool.and_true]
              go_enter Try.func55, Try.ntmps55
              go_wp2_with (first | (go_at_call 43; refine (within_any _ _ _ _).mono ?_; rintro e w1 ⟨rfl, rfl⟩; simp only [F1, F2, F3, F4, F5, F6]) | (go_at_call 77; refine (signed_any _ _).mono ?_; rintro e w1 ⟨rfl, rfl⟩; simp only [F1, F2, F3, F4, F5, F6]) | (go_at_call 78; refine (areGifts_any _ _ _ gifts _ (HG.out _)).mono ?_; rintro e w1 ⟨rfl, rfl⟩))
              go_ret
              exact ⟨ret_bool E.out.symm, below1 _ _⟩
            | true =>
              cases F7 : wi index 0 65535 with
              | false =>
                have E : Hid (inB ⟨op, by_, size, obj, hi, lo, given, rights, off, n, data, index, gifts⟩ = false) := by unfold Hid inB; simp only [HD.out, F1, F2, F3, F4, F5, F6, F7, Bool.true_and, Bool.false_and, Bool.and_false, Bool.and_true]
                go_enter Try.func55, Try.ntmps55
                go_wp2_with (first | (go_at_call 43; refine (within_any _ _ _ _).mono ?_; rintro e w1 ⟨rfl, rfl⟩; simp only [F1, F2, F3, F4, F5, F6, F7]) | (go_at_call 77; refine (signed_any _ _).mono ?_; rintro e w1 ⟨rfl, rfl⟩; simp only [F1, F2, F3, F4, F5, F6, F7]) | (go_at_call 78; refine (areGifts_any _ _ _ gifts _ (HG.out _)).mono ?_; rintro e w1 ⟨rfl, rfl⟩))
                go_ret
                exact ⟨ret_bool E.out.symm, below1 _ _⟩
              | true =>
                cases F8 : decide ((dn : Int) ≤ 1025) with
                | false =>
                  have E : Hid (inB ⟨op, by_, size, obj, hi, lo, given, rights, off, n, data, index, gifts⟩ = false) := by unfold Hid inB; simp only [HD.out, F1, F2, F3, F4, F5, F6, F7, F8, Bool.true_and, Bool.false_and, Bool.and_false, Bool.and_true]
                  go_enter Try.func55, Try.ntmps55
                  go_wp2_with (first | (go_at_call 43; refine (within_any _ _ _ _).mono ?_; rintro e w1 ⟨rfl, rfl⟩; simp only [F1, F2, F3, F4, F5, F6, F7, F8]) | (go_at_call 77; refine (signed_any _ _).mono ?_; rintro e w1 ⟨rfl, rfl⟩; simp only [F1, F2, F3, F4, F5, F6, F7, F8]) | (go_at_call 78; refine (areGifts_any _ _ _ gifts _ (HG.out _)).mono ?_; rintro e w1 ⟨rfl, rfl⟩))
                  go_ret
                  exact ⟨ret_bool E.out.symm, below1 _ _⟩
                | true =>
                  have E : Hid (inB ⟨op, by_, size, obj, hi, lo, given, rights, off, n, data, index, gifts⟩ = gfB gifts) := by unfold Hid inB; simp only [HD.out, F1, F2, F3, F4, F5, F6, F7, F8, Bool.true_and, Bool.and_true]
                  go_enter Try.func55, Try.ntmps55
                  go_wp2_with (first | (go_at_call 43; refine (within_any _ _ _ _).mono ?_; rintro e w1 ⟨rfl, rfl⟩; simp only [F1, F2, F3, F4, F5, F6, F7, F8]) | (go_at_call 77; refine (signed_any _ _).mono ?_; rintro e w1 ⟨rfl, rfl⟩; simp only [F1, F2, F3, F4, F5, F6, F7, F8]) | (go_at_call 78; refine (areGifts_any _ _ _ gifts _ (HG.out _)).mono ?_; rintro e w1 ⟨rfl, rfl⟩))
                  go_ret
                  exact ⟨ret_bool E.out.symm, below1 _ _⟩
end Go.Proofs.Ytaffgoacbiedlaa
namespace Go.Proofs.Ytaffgoacbiedlaa
open Go.RowKit
set_option linter.unusedVariables false
set_option linter.unusedSimpArgs false

def cEq (a b c d e f : Int) : Bool := decide (a = d ∧ b = e ∧ c = f)
theorem eqlC (a b c d e f : Int) (w : World) : (binOp .eql 27 (.agg #[.int .i64 a, .int .u64 b, .int .u64 c]) (.agg #[.int .i64 d, .int .u64 e, .int .u64 f])).run Try.prog w = .ok (.bool (cEq a b c d e f)) w := by
  unfold cEq
  by_cases h1 : a = d
  · subst h1
    by_cases h2 : b = e
    · subst h2
      by_cases h3 : c = f
      · subst h3; simp [go_sem]
      · simp [go_sem, h3]
    · simp [go_sem, h2]
  · simp [go_sem, h1]
theorem neqC (a b c d e f : Int) (w : World) : (binOp .neq 27 (.agg #[.int .i64 a, .int .u64 b, .int .u64 c]) (.agg #[.int .i64 d, .int .u64 e, .int .u64 f])).run Try.prog w = .ok (.bool (!cEq a b c d e f)) w := by
  unfold cEq
  by_cases h1 : a = d
  · subst h1
    by_cases h2 : b = e
    · subst h2
      by_cases h3 : c = f
      · subst h3; simp [go_sem]
      · simp [go_sem, h3]
    · simp [go_sem, h2]
  · simp [go_sem, h1]
def wEq (b c e f : Int) : Bool := decide (b = e ∧ c = f)
theorem eqlW (b c e f : Int) (w : World) : (binOp .eql 25 (.agg #[.int .u64 b, .int .u64 c]) (.agg #[.int .u64 e, .int .u64 f])).run Try.prog w = .ok (.bool (wEq b c e f)) w := by
  unfold wEq
  by_cases h2 : b = e
  · subst h2
    by_cases h3 : c = f
    · subst h3; simp [go_sem]
    · simp [go_sem, h3]
  · simp [go_sem, h2]

set_option maxRecDepth 100000 in
set_option maxHeartbeats 4000000 in
theorem wordMay_any (c : Cl) (d g : Sl) (w : World) : Calls Try.prog 56 #[cV c d g] w fun e w' => e = .returned (.bool (wmB c)) ∧ Below w.heap.size w w' := by
  obtain ⟨op, by_, size, obj, hi, lo, given, rights, off, n, data, index, gifts⟩ := c
  obtain ⟨da, dn, dc⟩ := d
  obtain ⟨ga, gn, gc⟩ := g
  unfold cV
  have HE : Hid (wEq hi lo 0 0 = decide (hi = 0 ∧ lo = 0)) := by unfold Hid wEq; rw [Bool.eq_iff_iff]; simp only [decide_eq_true_eq]; omega
  have heq := eqlW hi lo 0 0
  have tail : ∀ (h56 : op = 5 ∨ op = 6), wmB ⟨op, by_, size, obj, hi, lo, given, rights, off, n, data, index, gifts⟩ = (given || decide (hi = 0 ∧ lo = 0)) := fun h => by unfold wmB; simp only; rw [if_pos h]
  have HT : Hid _ := tail
  clear tail
  by_cases h5 : op = 5
  · have HT2 := HT.out (.inl h5)
    have HT3 : Hid _ := HT2
    clear HT HT2
    have b5 : (op != 5) = false := by simp [h5]
    clear h5
    cases given with
    | true =>
      go_enter Try.func56, Try.ntmps56
      go_wp2
      go_ret
      exact ⟨ret_bool (by rw [HT3.out]; rfl), below1 _ _⟩
    | false =>
      go_enter Try.func56, Try.ntmps56
      go_wp2
      go_ret
      exact ⟨ret_bool (by rw [HT3.out, HE.out]; rfl), below1 _ _⟩
  · have b5 : (op != 5) = true := by simp [h5]
    by_cases h6 : op = 6
    · have HT2 := HT.out (.inr h6)
      have HT3 : Hid _ := HT2
      clear HT HT2
      have b6 : (op != 6) = false := by simp [h6]
      clear h6 h5
      cases given with
      | true =>
        go_enter Try.func56, Try.ntmps56
        go_wp2
        go_ret
        exact ⟨ret_bool (by rw [HT3.out]; rfl), below1 _ _⟩
      | false =>
        go_enter Try.func56, Try.ntmps56
        go_wp2
        go_ret
        exact ⟨ret_bool (by rw [HT3.out, HE.out]; rfl), below1 _ _⟩
    · have b6 : (op != 6) = true := by simp [h6]
      have HN : Hid (wmB ⟨op, by_, size, obj, hi, lo, given, rights, off, n, data, index, gifts⟩ = true) := by unfold Hid wmB; simp only; rw [if_neg (by omega)]
      clear HT h5 h6
      go_enter Try.func56, Try.ntmps56
      go_wp2
      go_ret
      exact ⟨ret_bool HN.out.symm, below1 _ _⟩

set_option maxRecDepth 100000 in
set_option maxHeartbeats 4000000 in
theorem isBlank_any (c : Cl) (d g : Sl) (w : World) (h : Is w c d g) : Calls Try.prog 57 #[cV c d g] w fun e w' => e = .returned (.bool (blB c)) ∧ Below w.heap.size w w' := by
  obtain ⟨op, by_, size, obj, hi, lo, given, rights, off, n, data, index, gifts⟩ := c
  obtain ⟨da, dn, dc⟩ := d
  obtain ⟨ga, gn, gc⟩ := g
  have hdl : data.length = dn := h.data.len
  have hgl : gifts.length = gn := h.gifts.len
  have heq := eqlC obj hi lo 0 0 0
  have hnot : ∀ (x : Bool) (w : World), (Op.unary .not (.bool x)).run Try.prog w = .ok (.bool (!x)) w := fun _ _ => rfl
  have HB : Hid (blB ⟨op, by_, size, obj, hi, lo, given, rights, off, n, data, index, gifts⟩ = ((size == 0) && cEq obj hi lo 0 0 0 && !given && (rights == 0) && (off == 0) && (n == 0) && ((dn : Int) == 0) && (index == 0) && ((gn : Int) == 0))) := by
    unfold Hid
    rw [Bool.eq_iff_iff, blB_iff]
    simp only [Bool.and_eq_true, beq_iff_eq, cEq, decide_eq_true_eq, Bool.not_eq_true']
    constructor
    · rintro ⟨a, b1, b2, b3, c, d, e, f, g, q, i⟩
      subst g i
      exact ⟨⟨⟨⟨⟨⟨⟨⟨a, b1, by omega, by omega⟩, c⟩, d⟩, e⟩, f⟩, by simp at hdl; omega⟩, q⟩, by simp at hgl; omega⟩
    · rintro ⟨⟨⟨⟨⟨⟨⟨⟨a, b1, b2, b3⟩, c⟩, d⟩, e⟩, f⟩, g⟩, q⟩, i⟩
      exact ⟨a, b1, by omega, by omega, c, d, e, f, List.eq_nil_of_length_eq_zero (by omega), q, List.eq_nil_of_length_eq_zero (by omega)⟩
  clear h hdl hgl
  unfold cV
  cases F1 : (size == 0) with
  | false =>
    have E : Hid (_ = false) := HB.out.trans (by simp only [F1, Bool.true_and, Bool.false_and, Bool.and_false, Bool.not_true, Bool.not_false, Bool.and_true])
    clear HB
    go_enter Try.func57, Try.ntmps57
    go_wp2
    go_ret
    exact ⟨ret_bool E.out.symm, below1 _ _⟩
  | true =>
    cases F2 : cEq obj hi lo 0 0 0 with
    | false =>
      have E : Hid (_ = false) := HB.out.trans (by simp only [F1, F2, Bool.true_and, Bool.false_and, Bool.and_false, Bool.not_true, Bool.not_false, Bool.and_true])
      clear HB
      go_enter Try.func57, Try.ntmps57
      go_wp2
      go_ret
      exact ⟨ret_bool E.out.symm, below1 _ _⟩
    | true =>
      cases given with
      | true =>
        have E : Hid (_ = false) := HB.out.trans (by simp only [F1, F2, Bool.true_and, Bool.false_and, Bool.and_false, Bool.not_true, Bool.not_false, Bool.and_true])
        clear HB
        go_enter Try.func57, Try.ntmps57
        go_wp2
        go_ret
        exact ⟨ret_bool E.out.symm, below1 _ _⟩
      | false =>
        cases F4 : (rights == 0) with
        | false =>
          have E : Hid (_ = false) := HB.out.trans (by simp only [F1, F2, F4, Bool.true_and, Bool.false_and, Bool.and_false, Bool.not_true, Bool.not_false, Bool.and_true])
          clear HB
          go_enter Try.func57, Try.ntmps57
          go_wp2
          go_ret
          exact ⟨ret_bool E.out.symm, below1 _ _⟩
        | true =>
          cases F5 : (off == 0) with
          | false =>
            have E : Hid (_ = false) := HB.out.trans (by simp only [F1, F2, F4, F5, Bool.true_and, Bool.false_and, Bool.and_false, Bool.not_true, Bool.not_false, Bool.and_true])
            clear HB
            go_enter Try.func57, Try.ntmps57
            go_wp2
            go_ret
            exact ⟨ret_bool E.out.symm, below1 _ _⟩
          | true =>
            cases F6 : (n == 0) with
            | false =>
              have E : Hid (_ = false) := HB.out.trans (by simp only [F1, F2, F4, F5, F6, Bool.true_and, Bool.false_and, Bool.and_false, Bool.not_true, Bool.not_false, Bool.and_true])
              clear HB
              go_enter Try.func57, Try.ntmps57
              go_wp2
              go_ret
              exact ⟨ret_bool E.out.symm, below1 _ _⟩
            | true =>
              cases F7 : ((dn : Int) == 0) with
              | false =>
                have E : Hid (_ = false) := HB.out.trans (by simp only [F1, F2, F4, F5, F6, F7, Bool.true_and, Bool.false_and, Bool.and_false, Bool.not_true, Bool.not_false, Bool.and_true])
                clear HB
                go_enter Try.func57, Try.ntmps57
                go_wp2
                go_ret
                exact ⟨ret_bool E.out.symm, below1 _ _⟩
              | true =>
                cases F8 : (index == 0) with
                | false =>
                  have E : Hid (_ = false) := HB.out.trans (by simp only [F1, F2, F4, F5, F6, F7, F8, Bool.true_and, Bool.false_and, Bool.and_false, Bool.not_true, Bool.not_false, Bool.and_true])
                  clear HB
                  go_enter Try.func57, Try.ntmps57
                  go_wp2
                  go_ret
                  exact ⟨ret_bool E.out.symm, below1 _ _⟩
                | true =>
                  have E : Hid (_ = ((gn : Int) == 0)) := HB.out.trans (by simp only [F1, F2, F4, F5, F6, F7, F8, Bool.true_and, Bool.not_false, Bool.and_true])
                  clear HB
                  go_enter Try.func57, Try.ntmps57
                  go_wp2
                  go_ret
                  exact ⟨ret_bool E.out.symm, below1 _ _⟩
end Go.Proofs.Ytaffgoacbiedlaa
