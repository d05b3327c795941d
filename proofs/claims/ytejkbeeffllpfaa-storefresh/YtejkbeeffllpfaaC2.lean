import Derived.Test.YtejkbeeffllpfaaC1
namespace Go.Proofs.Ytejkbeeffllpfaa
open Go.RowKit
set_option linter.unusedVariables false

/-- The numbers of the pages whose mark is b, rising. -/
def lst (n : Nat) (t : Nat → Bool) (b : Bool) : List Nat := (List.range n).filter fun i => t i == b
def nats (l : List Nat) : List Int := l.map fun (k : Nat) => (k : Int)
theorem nats_length (l : List Nat) : (nats l).length = l.length := by simp [nats]
theorem nats_append (l m : List Nat) : nats (l ++ m) = nats l ++ nats m := by simp [nats]
theorem lst_succ (n : Nat) (t : Nat → Bool) (b : Bool) : lst (n + 1) t b = lst n t b ++ (if t n == b then [n] else []) := by
  simp only [lst, List.range_succ, List.filter_append]
  congr 1
  by_cases h : t n == b <;> simp [h]
theorem lst_length (n : Nat) (t : Nat → Bool) (b : Bool) : (lst n t b).length ≤ n := by
  have := List.length_filter_le (fun i => t i == b) (List.range n)
  simpa [lst] using this
theorem mem_lst {n : Nat} {t : Nat → Bool} {b : Bool} {i : Nat} : i ∈ lst n t b ↔ i < n ∧ t i = b := by simp [lst]

def ListRel (w : World) (n : Nat) (t : Nat → Bool) (b : Bool) (v k : Value) (w' : World) : Prop :=
  ∃ (i : Nat) (a : Option Addr) (m cap : Nat), v = .slice a m cap ∧ k = .int .i64 (i : Int) ∧ i ≤ n ∧ m ≤ i ∧ Own w' w.heap.size 3 a m cap (ints (nats (lst i t b))) ∧ Below w.heap.size w w'
set_option maxRecDepth 100000 in
set_option maxHeartbeats 1000000 in
theorem listed_any (g pb n : Nat) (t : Nat → Bool) (B : Nat → Nat → Nat) (b : Bool) (w : World) (h : Arn w g pb n t B) :
    Calls Try.prog 48 #[.pointer (some ⟨g, 0, none⟩), .bool b] w fun e w' => ∃ a m cap, e = .returned (.slice a m cap) ∧ Own w' w.heap.size 3 a m cap (ints (nats (lst n t b))) ∧ Below w.heap.size w w' := by
  have x := h.head
  have HA : Hid (Arn w g pb n t B) := h
  have hn := h.le
  clear h
  go_enter Try.func48, Try.ntmps48
  go_wp2
  go_loopw [5, 12] (ListRel w n t b) (fun _ k _ => n - (intOf k).toNat)
  case atStart => exact ⟨0, none, 0, 0, rfl, rfl, Nat.zero_le _, Nat.le_refl _, Own.nil _ _ _, Below.refl _ _⟩
  case round =>
    clear x
    obtain ⟨i, a, m, cap, rfl, rfl, hi, hm, hO, hB⟩ := hrel
    have HO : Hid (Own wr w.heap.size 3 a m cap (ints (nats (lst i t b)))) := hO
    have HB : Hid (Below w.heap.size w wr) := hB
    clear hO hB
    by_cases hlt : i < n
    · have hd : decide ((i : Int) < (n : Int)) = true := decide_eq_true (by omega)
      have y := ((HA.out.later HB.out).mark i (by omega)).1
      cases he : (t i == b) with
      | true =>
        obtain ⟨a', cap', w2, hrun, hO2, hG⟩ := append_ints (HO.out.alloc (Obj.cells #[Value.int .i64 (i : Int)] 3)) (Row.single wr 3 (.int .i64 (i : Int)) rfl) (by have := HB.out.size; simp; omega) (by omega)
        have HRUN := hid hrun
        have hB2 : Below w.heap.size w w2 := (HB.out.alloc HB.out.size _).trans (Gr.below (HO.out.alloc _) hG (by have := HB.out.size; simp; omega))
        have HO2 : Hid (Own w2 w.heap.size 3 a' (m + 1) cap' (ints (nats (lst (i + 1) t b)))) := by
          rw [lst_succ, he, nats_append, ints_append]
          exact hO2
        have HB2 := hid hB2
        clear hrun hO2 hG hB2
        go_wp2_with (first | (at_builtin; refine wpList_append_known rfl _ _ 28 rfl _ _ rfl rfl _ w2 HRUN.out ?_))
        exact ⟨⟨i + 1, a', m + 1, cap', rfl, rfl, by omega, by omega, HO2.out, HB2.out⟩, by simp [intOf]; omega⟩
      | false =>
        have HO2 : Hid (Own wr w.heap.size 3 a m cap (ints (nats (lst (i + 1) t b)))) := by
          refine hid ?_
          rw [lst_succ, he]
          simpa using HO.out
        go_wp2
        exact ⟨⟨i + 1, a, m, cap, rfl, rfl, by omega, by omega, HO2.out, HB.out⟩, by simp [intOf]; omega⟩
    · obtain rfl : i = n := by omega
      have hd : decide ((i : Int) < (i : Int)) = false := by simp
      go_wp2
      go_ret
      exact ⟨a, m, cap, rfl, HO.out, HB.out⟩
set_option maxRecDepth 100000 in
set_option maxHeartbeats 1000000 in
theorem free_any (g pb n : Nat) (t : Nat → Bool) (B : Nat → Nat → Nat) (w : World) (h : Arn w g pb n t B) :
    Calls Try.prog 27 #[.pointer (some ⟨g, 0, none⟩)] w fun e w' => e = .returned (.int .i64 ((lst n t false).length : Int)) ∧ Below w.heap.size w w' := by
  have H := hid h
  clear h
  go_enter Try.func27, Try.ntmps27
  go_wp2_with (first | (go_at_call 48; refine (listed_any g pb n t B false _ H.out).mono ?_; rintro e w1 ⟨a, m, cap, rfl, O, hb⟩))
  go_ret
  have hl := O.len
  rw [ints_length, nats_length] at hl
  exact ⟨ret_int (by rw [hl]), hb⟩
/-- Why a place can't be had. -/
def lookE (n : Nat) (t : Nat → Bool) (p off m : Int) : Int := if thr n p = true ∧ t p.toNat = true then (if 0 ≤ off ∧ 0 ≤ m ∧ m ≤ 64 - off then 0 else 5) else 20
set_option maxRecDepth 100000 in
set_option maxHeartbeats 1000000 in
theorem look_any (g pb n : Nat) (t : Nat → Bool) (B : Nat → Nat → Nat) (p off m : Int) (w : World) (h : Arn w g pb n t B) (ho : -9223372036854775808 ≤ off ∧ off < 9223372036854775808) :
    Calls Try.prog 49 #[.pointer (some ⟨g, 0, none⟩), .int .i64 p, .int .i64 off, .int .i64 m] w fun e w' => e = .returned (.int .i64 (lookE n t p off m)) ∧ w' = w := by
  have x := h.head
  have H := hid h
  have hn := h.le
  clear h
  have HW : Hid (0 ≤ off → IntKind.i64.wrap (64 - off) = 64 - off) := hid (fun h => by rw [IntKind.wrap_i64]; omega)
  obtain ⟨E, hE⟩ : ∃ E, E = lookE n t p off m := ⟨_, rfl⟩
  rw [← hE]
  have HE := hid hE
  clear hE
  cases hth : thr n p with
  | false =>
    go_enter Try.func49, Try.ntmps49
    go_wp2_with (first | (go_at_call 50; refine (there_any g pb n p _ x).mono ?_; rintro e w1 ⟨rfl, rfl⟩; rw [hth]))
    go_ret
    exact ⟨ret_int (by rw [HE.out]; simp [lookE, hth]), rfl⟩
  | true =>
    obtain ⟨q, rfl⟩ : ∃ q : Nat, p = (q : Int) := ⟨p.toNat, by simp [thr] at hth; omega⟩
    have hq : q < n := by simp [thr] at hth; omega
    have y := (H.out.mark q (by omega)).1
    cases htq : t q with
    | false =>
      rw [htq] at y
      go_enter Try.func49, Try.ntmps49
      go_wp2_with (first | (go_at_call 50; refine (there_any g pb n (q : Int) _ x).mono ?_; rintro e w1 ⟨rfl, rfl⟩; rw [hth]))
      go_ret
      exact ⟨ret_int (by rw [HE.out]; simp [lookE, htq]), rfl⟩
    | true =>
      rw [htq] at y
      have e1 : lookE n t (q : Int) off m = if 0 ≤ off ∧ 0 ≤ m ∧ m ≤ 64 - off then 0 else 5 := by simp [lookE, hth, htq]
      rw [e1] at HE
      clear e1 ho
      by_cases h0 : off < 0
      · have hd0 : decide (off < 0) = true := decide_eq_true h0
        go_enter Try.func49, Try.ntmps49
        go_wp2_with (first | (go_at_call 50; refine (there_any g pb n (q : Int) _ x).mono ?_; rintro e w1 ⟨rfl, rfl⟩; rw [hth]))
        go_ret
        exact ⟨ret_int (by rw [HE.out, if_neg (by omega)]), rfl⟩
      · have hd0 : decide (off < 0) = false := decide_eq_false h0
        by_cases h1 : m < 0
        · have hd1 : decide (m < 0) = true := decide_eq_true h1
          go_enter Try.func49, Try.ntmps49
          go_wp2_with (first | (go_at_call 50; refine (there_any g pb n (q : Int) _ x).mono ?_; rintro e w1 ⟨rfl, rfl⟩; rw [hth]))
          go_ret
          exact ⟨ret_int (by rw [HE.out, if_neg (by omega)]), rfl⟩
        · have hd1 : decide (m < 0) = false := decide_eq_false h1
          have ew : IntKind.i64.wrap (64 - off) = 64 - off := HW.out (by omega)
          by_cases h2 : m > 64 - off
          · have hd2 : decide (m > 64 - off) = true := decide_eq_true h2
            go_enter Try.func49, Try.ntmps49
            go_wp2_with (first | (go_at_call 50; refine (there_any g pb n (q : Int) _ x).mono ?_; rintro e w1 ⟨rfl, rfl⟩; rw [hth]))
            go_ret
            exact ⟨ret_int (by rw [HE.out, if_neg (by omega)]), rfl⟩
          · have hd2 : decide (m > 64 - off) = false := decide_eq_false h2
            go_enter Try.func49, Try.ntmps49
            go_wp2_with (first | (go_at_call 50; refine (there_any g pb n (q : Int) _ x).mono ?_; rintro e w1 ⟨rfl, rfl⟩; rw [hth]))
            go_ret
            exact ⟨ret_int (by rw [HE.out, if_pos (by omega)]), rfl⟩
end Go.Proofs.Ytejkbeeffllpfaa
