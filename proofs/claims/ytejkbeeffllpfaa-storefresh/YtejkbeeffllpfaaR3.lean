import Derived.Test.YtejkbeeffllpfaaR2
namespace Go.Proofs.Ytejkbeeffllpfaa
open Go.RowKit
set_option linter.unusedVariables false

theorem info90 : (Try.prog.info? 90).map (fun i => (i.zero, i.size, i.bytes)) = some (some (.agg #[.int .i64 0, .int .i64 0, .slice none 0 0, .int .i64 0]), 4, 48) := by kernel_rfl
theorem info92 : (Try.prog.info? 92).map (fun i => (i.zero, i.size, i.bytes)) = some (some (.agg #[.int .i64 0, .slice none 0 0]), 2, 32) := by kernel_rfl
/-- Objects behind objects. -/
theorem append_gen2 {u : World} {base : Nat} {a : Option Addr} {n cap : Nat} {L : List Value} {b : Option Addr} {m c : Nat} {M : List Value} (h : u.ownsRow base 92 2 (.slice a n cap) n L) (hl : M.length = m * 2) (hnone : b = none → m = 0 ∧ c = 0) (hcells : ∀ x, b = some x → ∀ j v, M[j]? = some v → u.cell? (x.add j) = some v) (hone : ∀ v ∈ M, v.oneCell' = true) (hb : base ≤ u.heap.size) (hn : n + m ≤ 4096) :
    ∃ a' cap' u', (Builtin.append_ #[88, 88] 88 #[.slice a n cap, .slice b m c]).run Try.prog u = .ok (.slice a' (n + m) cap') u' ∧ u'.ownsRow base 92 2 (.slice a' (n + m) cap') (n + m) (L ++ M) ∧ Gr a a' u u' := by
  obtain ⟨i, hi, hz0, hz1, hz2⟩ := info_parts info92
  cases b with
  | none =>
    obtain ⟨rfl, rfl⟩ := hnone rfl
    have hM : M = [] := List.eq_nil_of_length_eq_zero (by omega)
    subst hM
    have hr := run_append_owned_none (P := Try.prog) (w := u) base 88 88 92 i 2 Try.underlying88 hi _ n _ h
    exact ⟨a, cap, u, hr, by simpa using h, Gr.refl _ _⟩
  | some x =>
    obtain ⟨v', w', hr, h2, h3, _, h5⟩ := run_append_own_at (P := Try.prog) u base 88 88 92 i _ 2 32 Try.underlying88 hi hz0 hz1 hz2 rfl (by decide) _ n _ h x m c M hl (hcells x rfl) hone (by unfold maxLen; omega) (by omega) hb
    obtain ⟨a', cap', rfl⟩ : ∃ a' cap', v' = .slice a' (n + m) cap' := by
      rcases h2.2 with ⟨h, h'⟩ | ⟨g', cap', _, h, _⟩
      · exact ⟨.none, 0, by rw [h, h']⟩
      · exact ⟨_, cap', h⟩
    refine ⟨a', cap', w', hr, h2, ⟨h3.os, h3.tape, h3.output, h3.size, fun j hj hn => h3.block j hj (fun e => hn (Blk.of.1 e.symm))⟩, fun j hj => ?_⟩
    rcases h5 with h5 | h5
    · rw [Blk.of.2 hj] at h5
      exact .inl (Blk.of.1 h5.symm)
    · rw [Blk.of.2 hj] at h5
      right
      simp at h5
      omega
set_option maxRecDepth 100000 in
set_option maxHeartbeats 1000000 in
theorem rnew_bad (room n : Int) (w : World) (h : ¬ ((1 ≤ room ∧ room ≤ 64) ∧ (1 ≤ n ∧ n ≤ 256))) :
    Calls Try.prog 35 #[.int .i64 room, .int .i64 n] w fun e w' => e = .returned (.tuple #[.pointer none, .int .i64 16]) ∧ w' = w := by
  by_cases h1 : room < 1
  · have hd1 : decide (room < 1) = true := decide_eq_true h1
    go_enter Try.func35, Try.ntmps35
    go_wp2
    exact bodyPost_ret (v := .tuple #[.pointer none, .int .i64 16]) (by simp [results, Try.results35, go_sem]) rfl ⟨rfl, rfl⟩
  have hd1 : decide (room < 1) = false := decide_eq_false h1
  by_cases h2 : room > 64
  · have hd2 : decide (room > 64) = true := decide_eq_true h2
    go_enter Try.func35, Try.ntmps35
    go_wp2
    exact bodyPost_ret (v := .tuple #[.pointer none, .int .i64 16]) (by simp [results, Try.results35, go_sem]) rfl ⟨rfl, rfl⟩
  have hd2 : decide (room > 64) = false := decide_eq_false h2
  by_cases h3 : n < 1
  · have hd3 : decide (n < 1) = true := decide_eq_true h3
    go_enter Try.func35, Try.ntmps35
    go_wp2
    exact bodyPost_ret (v := .tuple #[.pointer none, .int .i64 16]) (by simp [results, Try.results35, go_sem]) rfl ⟨rfl, rfl⟩
  have hd3 : decide (n < 1) = false := decide_eq_false h3
  have hd4 : decide (n > 256) = true := decide_eq_true (by omega)
  go_enter Try.func35, Try.ntmps35
  go_wp2
  exact bodyPost_ret (v := .tuple #[.pointer none, .int .i64 16]) (by simp [results, Try.results35, go_sem]) rfl ⟨rfl, rfl⟩
set_option maxRecDepth 100000 in
set_option maxHeartbeats 1000000 in
theorem rnew_ok (base room n : Nat) (w : World) (h1 : 1 ≤ room ∧ room ≤ 64) (h2 : 1 ≤ n ∧ n ≤ 256) (hb : base ≤ w.heap.size) :
    Calls Try.prog 35 #[.int .i64 (room : Int), .int .i64 (n : Int)] w fun e w' => ∃ r, e = .returned (.tuple #[.pointer (some ⟨r, 0, none⟩), .int .i64 0]) ∧ Rf w' base r room n 1 [] (fun _ => 0) none 0 (fun k => if k = r then 1 else 0) ∧ r = w.heap.size ∧ Below w.heap.size w w' := by
  have hd1 : decide ((room : Int) < 1) = false := decide_eq_false (by omega)
  have hd2 : decide ((room : Int) > 64) = false := decide_eq_false (by omega)
  have hd3 : decide ((n : Int) < 1) = false := decide_eq_false (by omega)
  have hd4 : decide ((n : Int) > 256) = false := decide_eq_false (by omega)
  have hz := zero_of info90
  go_enter Try.func35, Try.ntmps35
  go_wp2
  refine bodyPost_ret (v := .tuple #[.pointer (some ⟨w.heap.size, 0, none⟩), .int .i64 0]) (by simp [results, Try.results35, go_sem]) rfl ⟨w.heap.size, rfl, ⟨lies_new _ _ _ 0 _ rfl, lies_new _ _ _ 1 _ rfl, lies_new _ _ _ 2 _ rfl, lies_new _ _ _ 3 _ rfl, ⟨rfl, .inl ⟨rfl, rfl⟩⟩, fun p hp => (by cases hp), if_pos rfl, fun k hk => (by obtain ⟨_, h, _⟩ := hk; cases h), fun p hp => (by cases hp), fun k hk => ?_, fun k hk => ?_, by simp; omega, List.Pairwise.nil, fun p hp => (by cases hp), by omega, ⟨by simp, h1.2⟩, h2.2, fun p hp => (by cases hp), fun p hp => (by cases hp)⟩, rfl, below1 _ _⟩
  · by_cases e : k = w.heap.size
    · simp; omega
    · rw [if_neg e] at hk
      exact absurd rfl hk
  · by_cases e : k = w.heap.size
    · omega
    · rw [if_neg e] at hk
      exact absurd rfl hk
/-- May the next number be this? -/
def nxV (V : List (Int × List Nat)) (v : Int) : Prop := 1 ≤ v ∧ v ≤ 4611686018427387905 ∧ ∀ p ∈ V, p.1 < v
theorem Rf.next {w : World} {base r room n : Nat} {nx : Int} {V : List (Int × List Nat)} {G : Int → Nat} {a : Option Addr} {cap : Nat} {col : Nat → Nat} (h : Rf w base r room n nx V G a cap col) (v : Int) (hv : nxV V v) : Rf (w.setCell ⟨r, 3, none⟩ (.int .i64 v)) base r room n v V G a cap col := by
  have b4 : But (· = r) w (w.setCell ⟨r, 3, none⟩ (.int .i64 v)) := But.setCell (S := (· = r)) (But.refl _ _) (p := ⟨r, 3, none⟩) (show r = r from rfl) _
  have hne : ∀ k c, col k = c → c ≠ 1 → ¬ k = r := fun k c hk hc e => hc (by rw [← hk, e]; exact h.k1)
  exact { h with
    c0 := h.c0.other (by simp)
    c1 := h.c1.other (by simp)
    c2 := h.c2.other (by simp)
    c3 := h.c3.put
    own := own_but b4 h.own (fun k hk => hne k 2 (h.k2 k (Blk.of.1 hk)) (by decide))
    cel := fun p hp => (h.cel p hp).but b4 (hne _ _ (h.k3 p hp) (by omega))
    lt := fun k hk => Nat.lt_of_lt_of_le (h.lt k hk) b4.size
    hb := Nat.le_trans h.hb b4.size
    ids := fun p hp => ⟨(h.ids p hp).1, hv.2.2 p hp⟩
    nx1 := ⟨hv.1, hv.2.1⟩ }
def NxRel (V : List (Int × List Nat)) (v : Int) (L : Nat) (w : World) (s : Value) (w' : World) : Prop := ∃ i : Nat, s = .int .i64 (i : Int) ∧ i ≤ L ∧ (∀ j (h : j < V.length), j < i → V[j].1 < v) ∧ w = w'
set_option maxRecDepth 100000 in
set_option maxHeartbeats 1000000 in
theorem rsetnext_any (base r room n : Nat) (nx : Int) (V : List (Int × List Nat)) (G : Int → Nat) (a : Option Addr) (cap : Nat) (col : Nat → Nat) (v : Int) (w : World) (h : Rf w base r room n nx V G a cap col) :
    Calls Try.prog 41 #[.pointer (some ⟨r, 0, none⟩), .int .i64 v] w fun e w' => (nxV V v ∧ e = .returned (.int .i64 0) ∧ w' = w.setCell ⟨r, 3, none⟩ (.int .i64 v)) ∨ (¬ nxV V v ∧ e = .returned (.int .i64 5) ∧ w' = w) := by
  by_cases h1 : v < 1
  · have hd1 : decide (v < 1) = true := decide_eq_true h1
    clear h
    go_enter Try.func41, Try.ntmps41
    go_wp2
    go_ret
    exact .inr ⟨fun h => by have := h.1; omega, rfl, rfl⟩
  have hd1 : decide (v < 1) = false := decide_eq_false h1
  by_cases h2 : v > 4611686018427387905
  · have hd2 : decide (v > 4611686018427387905) = true := decide_eq_true h2
    clear h
    go_enter Try.func41, Try.ntmps41
    go_wp2
    go_ret
    exact .inr ⟨fun h => by have := h.2.1; omega, rfl, rfl⟩
  have hd2 : decide (v > 4611686018427387905) = false := decide_eq_false h2
  have x := h.c2.1
  have z1 := h.c3.1
  have z2 := h.c3.2
  have H := hid h
  have hrm := h.rm
  have hcap := h.cap_
  clear h
  obtain ⟨L, hL⟩ : ∃ L, L = V.length := ⟨_, rfl⟩
  rw [← hL] at x hrm hcap
  have HL := hid hL
  clear hL
  go_enter Try.func41, Try.ntmps41
  go_wp2
  go_loopw [5] (NxRel V v L w) (fun v _ => L - ivN v)
  case atStart => exact ⟨0, rfl, Nat.zero_le _, fun j _ hj => absurd hj (by omega), rfl⟩
  case round =>
    obtain ⟨i, rfl, hi, hne, rfl⟩ := hrel
    have HNE := hid hne
    clear hne
    by_cases hlt : i < L
    · have hd : decide ((i : Int) < (L : Int)) = true := decide_eq_true (by omega)
      have hil : i < V.length := by have := HL.out; omega
      obtain ⟨ga, rfl, hc⟩ := H.out.cells (by omega)
      have y := (hc i hil).1
      obtain ⟨vi, hvi⟩ : ∃ vi, vi = V[i].1 := ⟨_, rfl⟩
      rw [← hvi] at y
      have HVI := hid hvi
      clear hc hvi
      by_cases he : vi ≥ v
      · have hq : decide (vi ≥ v) = true := decide_eq_true he
        go_wp2
        go_ret
        refine .inr ⟨fun h => ?_, rfl, rfl⟩
        have := h.2.2 _ (List.getElem_mem hil)
        rw [← HVI.out] at this
        omega
      · have hq : decide (vi ≥ v) = false := decide_eq_false he
        go_wp2
        refine ⟨⟨i + 1, rfl, by omega, fun j hj hji => ?_, rfl⟩, by simp [ivN]; omega⟩
        by_cases e : j = i
        · subst e
          rw [← HVI.out]
          omega
        · exact HNE.out j hj (by omega)
    · obtain rfl : i = L := by omega
      have hd : decide ((i : Int) < (i : Int)) = false := by simp
      go_wp2
      go_ret
      refine .inl ⟨⟨by omega, by omega, fun p hp => ?_⟩, rfl, rfl⟩
      obtain ⟨j, hj, rfl⟩ := List.getElem_of_mem hp
      exact HNE.out j hj (by have := HL.out; omega)
end Go.Proofs.Ytejkbeeffllpfaa
