import Derived.Test.YtgdhdfmgfncdkaaC2
namespace Go.Proofs.Ytgdhdfmgfncdkaa
open Go.RowKit
set_option linter.unusedVariables false

theorem append_ints {w : World} {base : Nat} {a : Option Addr} {n cap : Nat} {L : List Value} {b : Option Addr} {m c : Nat} {M : List Value} (h : Own w base 3 a n cap L) (k : Row w b m c M) (hb : base ≤ w.heap.size) (hr : (n + m) * 8 ≤ 140737488355328) :
    ∃ a' cap' w', (Builtin.append_ #[88, 88] 88 #[.slice a n cap, .slice b m c]).run Try.prog w = .ok (.slice a' (n + m) cap') w' ∧ Own w' base 3 a' (n + m) cap' (L ++ M) ∧ Gr a a' w w' :=
  append_gen 88 3 _ 8 Try.underlying88 info3 rfl h k hb hr (by omega)
theorem take_step (A : List Int) (i : Nat) (h : i < A.length) : A.take (i + 1) = A.take i ++ [A[i]] := by
  rw [List.take_succ_eq_append_getElem h]
def RowRel (w : World) (c : List Int) (k : Nat) (v t : Value) (w' : World) : Prop :=
  ∃ (i : Nat) (a : Option Addr) (cap : Nat), i + k = c.length ∧ v = .slice a i cap ∧ t = .int .i64 (nx c i) ∧ Own w' w.heap.size 3 a i cap (ints (c.take i)) ∧ Below w.heap.size w w'
set_option maxRecDepth 100000 in
set_option maxHeartbeats 1000000 in
theorem row_any {w : World} {g gb m : Nat} {N : List Nd} (h : Tm w g gb m N) {p : Nat} {c : List Int} (hc : Chain N p c) (hl : c.length ≤ 1024) (hpos : ∀ x ∈ c, 0 ≤ x) :
    Calls Try.prog 83 #[atV g, .int .i64 (p : Int)] w fun e w' => ∃ a n cap, e = .returned (.slice a n cap) ∧ Own w' w.heap.size 3 a n cap (ints c) ∧ Below w.heap.size w w' := by
  have HT := hid h
  have HC := hid hc
  obtain ⟨hp, hp0⟩ := Chain.cell h hc (Nat.zero_le _)
  have hp1 : w.cell? ⟨gb, p * 4 + 2, none⟩ = some (.int .i64 (nx c 0)) := hp0
  have HM := hid h.len
  have HP := hid hpos
  clear h hc hp0 hpos
  go_enter Try.func83, Try.ntmps83
  go_upto_region 3 with (first | (go_at_call 64; refine (at_ok HT.out p hp).mono ?_; rintro e w1 ⟨rfl, rfl⟩))
  go_loopg [5, 6] c.length (RowRel w1 c)
  case atStart => exact ⟨0, none, 0, by omega, rfl, rfl, Own.nil _ _ _, Below.refl _ _⟩
  case round =>
    obtain ⟨i, a, cap, hi, rfl, rfl, hO, hB⟩ := hrel
    have HO := hid hO
    have HB := hid hB
    clear hO hB
    by_cases hlt : i < c.length
    · obtain ⟨k, hk, hk2, hk3⟩ := HC.out.num HM.out hlt
      have hne2 : ((k : Int) == -1) = false := by simp
      obtain ⟨a', cap', w2, hrun, hO2, hG⟩ := append_ints (HO.out.alloc (Obj.cells #[Value.int .i64 (k : Int)] 3)) (Row.single wr 3 (.int .i64 (k : Int)) rfl) (by have := HB.out.size; simp; omega) (by omega)
      have hB2 : Below w1.heap.size w1 w2 := (HB.out.alloc HB.out.size _).trans (Gr.below (HO.out.alloc _) hG (by have := HB.out.size; simp; omega))
      have hT2 := HT.out.later hB2
      obtain ⟨_, h2⟩ := Chain.cell hT2 HC.out (i := i + 1) (by omega)
      have h3 : w2.cell? ⟨gb, k * 4 + 3, none⟩ = some (.int .i64 (nx c (i + 1))) := by rw [← hk3]; exact h2
      have HRUN := hid hrun
      have HO2 : Hid (Own w2 w1.heap.size 3 a' (i + 1) cap' (ints (c.take (i + 1)))) := by
        rw [take_step c i hlt, ints_append, ← nx_lt hlt, hk]
        exact hO2
      have HB2 := hid hB2
      have HT2 := hid hT2
      rw [hk]
      clear hrun hO2 hG hB2 hT2 h2 hk hk3 hp1
      go_wp2_with (first | (at_builtin; refine wpList_append_known rfl _ _ 88 rfl _ _ rfl rfl _ w2 HRUN.out ?_) | (go_at_call 64; refine (at_ok HT2.out k hk2).mono ?_; rintro e w1 ⟨rfl, rfl⟩))
      go_roundg (gk - 1)
      case measure => omega
      case rel => exact ⟨i + 1, a', cap', by omega, rfl, rfl, HO2.out, HB2.out⟩
    · obtain rfl : i = c.length := by omega
      have hk : nx c c.length = -1 := nx_ge (Nat.le_refl _)
      rw [hk]
      clear hk hp1
      go_wp2
      go_ret
      exact ⟨a, _, cap, rfl, by have := HO.out; rwa [List.take_length] at this, HB.out⟩
theorem ch_len (l : Fo) (p : Int) : (ch l p).length ≤ l.length := by
  have := (ch_sub l p).length_le
  simpa [nums] using this
theorem kids_out {m : Nat} {l : Fo} (h : Ok m l) {n : Int} (hn : n ∉ nums l) : kids l n = [] := by
  unfold kids
  split
  · next h0 => exact h.none h0 hn
  · rfl
theorem kids_in {m : Nat} {l : Fo} (h : Ok m l) {n : Int} (hn : n ∈ nums l) : kids l n = ch l n := by
  unfold kids
  rw [if_pos (h.range n hn).1]
theorem kids_mem {m : Nat} {l : Fo} (h : Ok m l) {n k : Int} (hk : k ∈ kids l n) : k ∈ nums l := by
  unfold kids at hk
  split at hk
  · exact ch_mem hk
  · cases hk
theorem kids_len {m : Nat} {l : Fo} (h : Ok m l) (n : Int) : (kids l n).length ≤ m := by
  unfold kids
  split
  · exact Nat.le_trans (ch_len l n) h.len
  · simp
set_option maxRecDepth 100000 in
set_option maxHeartbeats 1000000 in
theorem children_any {w : World} {g gb m : Nat} {l : Fo} (h : Ki w g gb m l) (n : Int) :
    Calls Try.prog 78 #[.pointer (some ⟨g, 0, none⟩), .int .i64 n] w fun e w' => ∃ a k cap, e = .returned (.slice a k cap) ∧ Own w' w.heap.size 3 a k cap (ints (kids l n)) ∧ Below w.heap.size w w' := by
  have hh := has_any h n
  by_cases hn : n ∈ nums l
  · rw [decide_eq_true hn] at hh
    rw [kids_in h.ok hn]
    obtain ⟨N, hT, hR⟩ := h
    obtain ⟨k, x, rfl, hk, hx⟩ := hR.get hn
    have hr := row_any hT (hR.chain hn) (Nat.le_trans (ch_len l k) (Nat.le_trans hR.ok.len hT.big)) (fun x hx => (hR.ok.range x (ch_mem hx)).1)
    have HR := hid hr
    clear hT hR hn hr
    go_enter Try.func78, Try.ntmps78
    go_wp2_with (first | (go_at_call 47; refine hh.mono ?_; rintro e w1 ⟨rfl, rfl⟩) | (go_at_call 83; refine HR.out.mono ?_; rintro e w2 ⟨a, n, cap, rfl, O, hb⟩; have HO := hid O; have HB := hid hb; clear O hb))
    go_ret
    exact ⟨a, n, cap, rfl, HO.out, HB.out⟩
  · rw [decide_eq_false hn] at hh
    rw [kids_out h.ok hn]
    clear h hn
    go_enter Try.func78, Try.ntmps78
    go_wp2_with (first | (go_at_call 47; refine hh.mono ?_; rintro e w1 ⟨rfl, rfl⟩))
    go_ret
    exact ⟨none, 0, 0, rfl, Own.nil _ _ _, Below.refl _ _⟩
end Go.Proofs.Ytgdhdfmgfncdkaa
