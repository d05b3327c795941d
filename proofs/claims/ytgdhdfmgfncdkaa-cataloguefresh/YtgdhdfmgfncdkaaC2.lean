import Derived.Test.YtgdhdfmgfncdkaaC1
import Derived.Deep.LoopGhost
namespace Go.Proofs.Ytgdhdfmgfncdkaa
open Go.RowKit
set_option linter.unusedVariables false

/-- t.at, as a value. -/
abbrev atV (g : Nat) : Value := .func (.func 64) #[.pointer (some ⟨g, 0, none⟩)] #[]
/-- A node's parent as it is told. -/
def parV (l : Fo) (n : Int) : Value := match l.find? (fun x => decide (x.1 = n)) with
  | some x => .tuple #[.int .i64 x.2, .bool true]
  | none => .tuple #[.int .i64 0, .bool false]
theorem find_in {m : Nat} {l : Fo} (h : Ok m l) {n p : Int} (hn : (n, p) ∈ l) : l.find? (fun x => decide (x.1 = n)) = some (n, p) := by
  cases hf : l.find? (fun x => decide (x.1 = n)) with
  | none => exact absurd (List.find?_eq_none.1 hf _ hn) (by simp)
  | some x =>
    obtain ⟨a, b⟩ := x
    have h1 := List.find?_some hf
    simp only [decide_eq_true_eq] at h1
    subst h1
    rw [h.uniq (List.mem_of_find?_eq_some hf) hn]
theorem find_out {l : Fo} {n : Int} (hn : n ∉ nums l) : l.find? (fun x => decide (x.1 = n)) = none := by
  rw [List.find?_eq_none]
  intro x hx
  simp only [decide_eq_true_eq]
  intro e
  exact hn (mem_nums.2 ⟨x.2, by rw [← e]; exact hx⟩)
theorem par_in {m : Nat} {l : Fo} (h : Ok m l) {n p : Int} (hn : (n, p) ∈ l) : parV l n = .tuple #[.int .i64 p, .bool true] := by
  unfold parV; rw [find_in h hn]
theorem par_out {l : Fo} {n : Int} (hn : n ∉ nums l) : parV l n = .tuple #[.int .i64 0, .bool false] := by
  unfold parV; rw [find_out hn]
set_option maxRecDepth 100000 in
set_option maxHeartbeats 1000000 in
theorem parent_in {w : World} {g gb m : Nat} {l : Fo} (h : Ki w g gb m l) (n p : Int) (hn : (n, p) ∈ l) :
    Calls Try.prog 48 #[.pointer (some ⟨g, 0, none⟩), .int .i64 n] w fun e w' => e = .returned (.tuple #[.int .i64 p, .bool true]) ∧ w' = w := by
  have hm := mem_nums.2 ⟨p, hn⟩
  have hh := has_any h n
  rw [decide_eq_true hm] at hh
  obtain ⟨N, hT, hR⟩ := h
  obtain ⟨k, x, rfl, hk, hx⟩ := hR.get hm
  have hc := at_ok hT k hk
  have c1 := (hT.at_ k x hx).c1
  rw [(hR.inn k x p hx hn).2] at c1
  clear hT hR hn hm
  go_enter Try.func48, Try.ntmps48
  go_wp2_with (first | (go_at_call 47; refine hh.mono ?_; rintro e w1 ⟨rfl, rfl⟩) | (go_at_call 64; refine hc.mono ?_; rintro e w1 ⟨rfl, rfl⟩))
  exact bodyPost_ret (v := .tuple #[.int .i64 p, .bool true]) (by simp [results, Try.results48, go_sem]) rfl ⟨rfl, rfl⟩
set_option maxRecDepth 100000 in
set_option maxHeartbeats 1000000 in
theorem parent_out {w : World} {g gb m : Nat} {l : Fo} (h : Ki w g gb m l) (n : Int) (hn : n ∉ nums l) :
    Calls Try.prog 48 #[.pointer (some ⟨g, 0, none⟩), .int .i64 n] w fun e w' => e = .returned (.tuple #[.int .i64 0, .bool false]) ∧ w' = w := by
  have hh := has_any h n
  rw [decide_eq_false hn] at hh
  clear h hn
  go_enter Try.func48, Try.ntmps48
  go_wp2_with (first | (go_at_call 47; refine hh.mono ?_; rintro e w1 ⟨rfl, rfl⟩))
  exact bodyPost_ret (v := .tuple #[.int .i64 0, .bool false]) (by simp [results, Try.results48, go_sem]) rfl ⟨rfl, rfl⟩
theorem parent_any {w : World} {g gb m : Nat} {l : Fo} (h : Ki w g gb m l) (n : Int) :
    Calls Try.prog 48 #[.pointer (some ⟨g, 0, none⟩), .int .i64 n] w fun e w' => e = .returned (parV l n) ∧ w' = w := by
  by_cases hn : n ∈ nums l
  · obtain ⟨p, hp⟩ := mem_nums.1 hn
    rw [par_in h.ok hp]
    exact parent_in h n p hp
  · rw [par_out hn]
    exact parent_out h n hn
/-- The link's place. -/
def lkA (gb p : Nat) (c : List Int) (i : Nat) : Value := .pointer (some ⟨gb, lkN p c i * 4 + lkF i, none⟩)
def LinkRel (gb p : Nat) (c : List Int) (s : Nat) (w : World) (k : Nat) (t : Value) (w' : World) : Prop := ∃ i, i + k = s ∧ t = lkA gb p c i ∧ w' = w
theorem Chain.cell {w : World} {g gb m : Nat} {N : List Nd} (h : Tm w g gb m N) {p : Nat} {c : List Int} (hc : Chain N p c) {i : Nat} (hi : i ≤ c.length) :
    lkN p c i < m ∧ w.cell? ⟨gb, lkN p c i * 4 + lkF i, none⟩ = some (.int .i64 (nx c i)) := by
  cases i with
  | zero =>
    obtain ⟨x, hx, hx2⟩ := hc.top
    have := (List.getElem?_eq_some_iff.1 hx).1
    rw [← hx2]
    exact ⟨by rw [← h.len]; exact this, (h.at_ p x hx).c2⟩
  | succ j =>
    obtain ⟨k, x, hk, hx, hx2⟩ := hc.nxt j _ (List.getElem?_eq_getElem (by omega))
    have := (List.getElem?_eq_some_iff.1 hx).1
    have e : lkN p c (j + 1) = k := by
      show (nx c j).toNat = k
      rw [nx_lt (by omega)]; omega
    rw [e, ← hx2]
    exact ⟨by rw [← h.len]; exact this, (h.at_ k x hx).c3⟩
theorem Chain.num {N : List Nd} {p : Nat} {c : List Int} (hc : Chain N p c) {m : Nat} (hm : N.length = m) {i : Nat} (hi : i < c.length) : ∃ k : Nat, nx c i = (k : Int) ∧ k < m ∧ lkN p c (i + 1) = k := by
  obtain ⟨k, x, hk, hx, hx2⟩ := hc.nxt i _ (List.getElem?_eq_getElem hi)
  have := (List.getElem?_eq_some_iff.1 hx).1
  refine ⟨k, by rw [nx_lt hi]; exact hk, by omega, ?_⟩
  show (nx c i).toNat = k
  rw [nx_lt hi]; omega
set_option maxRecDepth 100000 in
set_option maxHeartbeats 1000000 in
theorem linkTo_any {w : World} {g gb m : Nat} {N : List Nd} (h : Tm w g gb m N) {p : Nat} {c : List Int} (hc : Chain N p c) (v : Int) (s : Nat) (hs : s ≤ c.length) (hv : nx c s = v) (hn : ∀ i, i < s → nx c i ≠ v) :
    Calls Try.prog 70 #[atV g, .int .i64 (p : Int), .int .i64 v] w fun e w' => e = .returned (lkA gb p c s) ∧ w' = w := by
  have HT := hid h
  have HC := hid hc
  have HN := hid hn
  have HV := hid hv
  have hp := (Chain.cell h hc (Nat.zero_le _)).1
  have HM := hid h.len
  clear h hc hn hv
  go_enter Try.func70, Try.ntmps70
  go_upto_region 2 with (first | (go_at_call 64; refine (at_ok HT.out p hp).mono ?_; rintro e w1 ⟨rfl, rfl⟩))
  go_loopg [7] s (LinkRel gb p c s w1)
  case atStart => exact ⟨0, by omega, by simp [lkA, lkN, lkF], rfl⟩
  case round =>
    obtain ⟨i, hi, rfl, rfl⟩ := hrel
    obtain ⟨h1, h2⟩ := Chain.cell HT.out HC.out (i := i) (by omega)
    by_cases hlt : i < s
    · have hne := HN.out i hlt
      obtain ⟨k, hk, hk2, hk3⟩ := HC.out.num HM.out (i := i) (by omega)
      have hK3 := hid hk3
      rw [hk] at h2 hne
      clear h1 hk hk3
      unfold lkA
      have hne2 : ((k : Int) == v) = false := by simpa using hne
      go_wp2_with (first | (go_at_call 64; refine (at_ok HT.out k hk2).mono ?_; rintro e w1 ⟨rfl, rfl⟩))
      go_roundg (gk - 1)
      case measure => omega
      case rel => exact ⟨i + 1, by omega, by simp [lkA, lkF, hK3.out], rfl⟩
    · obtain rfl : i = s := by omega
      rw [HV.out] at h2
      unfold lkA
      go_wp2
      go_ret
      exact ⟨rfl, rfl⟩
end Go.Proofs.Ytgdhdfmgfncdkaa
