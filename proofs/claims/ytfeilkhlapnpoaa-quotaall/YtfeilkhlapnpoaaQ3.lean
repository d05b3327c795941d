import Derived.Test.YtfeilkhlapnpoaaQ2
namespace Go.Proofs.Ytfeilkhlapnpoaa
open Go.RowKit Go.Maps
set_option linter.unusedVariables false

set_option maxRecDepth 100000 in
set_option maxHeartbeats 1000000 in
theorem sub_any {w : World} {g b : Nat} {e a : Int} {L : List Int} (h : Qu w g b e a L) (x n : Int) (hx : (Lit.int .i64 x).wf = true) :
    Calls Try.prog 10 #[.pointer (some ⟨g, 0, none⟩), .int .i64 x, .int .i64 n] w fun r w' => r = .returned (.int .i64 (subO L x n)) ∧ Qu w' g b e a (subS L x n) ∧ But (fun k => k = b) w w' := by
  have hof := hid (of_any h x hx)
  have HQ := hid h
  have hS := hid (h.sz.sub x n)
  have hl1 := h.sz.len
  have hl2 := h.sz.a2
  have hcl := h.sz.cnt x
  have he2 := h.sz.e2
  have hlm : L.length < maxLen := by unfold maxLen; omega
  obtain ⟨c0, c1, c2, ⟨D, hown, hcn⟩, _⟩ := h
  have HC := hid hcn
  clear hcn
  obtain ⟨c, hc⟩ : ∃ c : Int, c = (L.count x : Int) := ⟨_, rfl⟩
  have HCC := hid hc
  have hc0 : 0 ≤ c := by omega
  have hc9 : c ≤ 256 := by omega
  rw [← hc] at hof
  by_cases h1 : n < 0 ∨ c < n
  · have hR : subO L x n = 20 ∧ subS L x n = L := by unfold subO subS; rw [← hc, if_pos h1, if_pos h1]; exact ⟨rfl, rfl⟩
    rw [hR.1, hR.2]
    clear hc hcl hS hR
    go_enter Try.func10, Try.ntmps10
    go_upto_region 2 with (first | (go_at_call 8; refine hof.out.mono ?_; rintro e w1 ⟨rfl, hw1⟩; obtain rfl := hw1.symm; clear hw1))
    by_cases h2 : n < 0
    · have hd : decide (n < 0) = true := decide_eq_true h2
      go_wp2
      go_ret
      exact ⟨rfl, HQ.out, But.refl _ _⟩
    · have hd : decide (n < 0) = false := decide_eq_false h2
      have hd2 : decide (n > c) = true := decide_eq_true (by omega)
      have h3 : c < n := by omega
      go_wp2
      go_ret
      exact ⟨rfl, HQ.out, But.refl _ _⟩
  · have hR : subO L x n = 0 ∧ subS L x n = subL x n.toNat L := by unfold subO subS; rw [← hc, if_neg h1, if_neg h1]; exact ⟨rfl, rfl⟩
    rw [hR.2] at hS
    rw [hR.1, hR.2]
    have HO := hid (subL_other x n.toNat L)
    have HN := hid (subL_count x n.toNat L)
    clear hc hcl hR
    have hd : decide (n < 0) = false := decide_eq_false (by omega)
    have hd2 : decide (n > c) = false := decide_eq_false (by omega)
    have hn0 : 0 ≤ n := by omega
    have hnc : n ≤ c := by omega
    clear h1
    by_cases h2 : n = c
    · subst h2
      go_enter Try.func10, Try.ntmps10
      go_wp2_with (first
        | (go_at_call 8; refine hof.out.mono ?_; rintro e w1 ⟨rfl, hw1⟩; obtain rfl := hw1.symm; clear hw1)
        | (at_delete; refine wpList_delete_own _ rfl _ _ 48 3 rfl 3 law Try.underlying48 _ b _ _ rfl hown _ _ rfl (keyOf_int_mk Try.underlying3 hx) ?_; intro w2 hown2 ht2; have HO2 := hid hown2; have HT2 := hid ht2; clear hown2 ht2))
      go_ret
      have hcn2 := HC.out.del (M := subL x n.toNat L) (x := x) HO.out (by rw [HN.out]; have := HCC.out; omega)
      obtain ⟨r1, r2⟩ := HQ.out.turn HT2.out.grown HO2.out hcn2 hS.out
      exact ⟨rfl, r1, r2⟩
    · have hd3 : (n == c) = false := by simp [h2]
      go_enter Try.func10, Try.ntmps10
      go_wp2_with (first
        | (go_at_call 8; refine hof.out.mono ?_; rintro e w1 ⟨rfl, hw1⟩; obtain rfl := hw1.symm; clear hw1)
        | (at_mapUpdate; refine wpList_mapUpdate_own _ rfl _ _ _ 48 rfl 3 3 law Try.underlying48 _ b _ _ rfl hown hlm _ _ _ rfl rfl (keyOf_int_mk Try.underlying3 hx) _ [] (plainElem_int Try.underlying3 (wf_of (by omega) (by omega))) ?_; intro w2 hown2 hg2; have HO2 := hid hown2; have HG2 := hid hg2; clear hown2 hg2))
      go_ret
      have hcn2 := HC.out.put (M := subL x n.toNat L) (x := x) (c := c - n) hx HO.out (by rw [HN.out]; have := HCC.out; omega) (by omega)
      obtain ⟨r1, r2⟩ := HQ.out.turn HG2.out HO2.out hcn2 hS.out
      exact ⟨rfl, r1, r2⟩
/-- From 1 to m? -/
def inB (n m : Int) : Bool := decide (1 ≤ n ∧ n ≤ m)
set_option maxRecDepth 100000 in
theorem within_any (n m : Int) (w : World) : Calls Try.prog 21 #[.int .i64 n, .int .i64 m] w fun r w' => r = .returned (.bool (inB n m)) ∧ w' = w := by
  unfold inB
  by_cases h1 : 1 ≤ n
  · have hd : decide (n ≥ 1) = true := decide_eq_true h1
    go_enter Try.func21, Try.ntmps21
    go_wp2
    go_ret
    exact ⟨ret_bool (by simp [h1]), rfl⟩
  · have hd : decide (n ≥ 1) = false := decide_eq_false h1
    go_enter Try.func21, Try.ntmps21
    go_wp2
    go_ret
    exact ⟨ret_bool (by simp), rfl⟩
/-- May there be a quota with these bounds? -/
def okB (e a : Int) : Prop := (1 ≤ e ∧ e ≤ 256) ∧ 1 ≤ a ∧ a ≤ 256
set_option maxRecDepth 100000 in
set_option maxHeartbeats 1000000 in
theorem new_ok (e a : Int) (w : World) (h : okB e a) :
    Calls Try.prog 7 #[.int .i64 e, .int .i64 a] w fun r w' => ∃ g b, r = .returned (.tuple #[.pointer (some ⟨g, 0, none⟩), .int .i64 0]) ∧ Qu w' g b e a [] ∧ w.heap.size ≤ g ∧ w.heap.size ≤ b ∧ Below w.heap.size w w' := by
  have h1 : inB e 256 = true := decide_eq_true h.1
  have h2 : inB a 256 = true := decide_eq_true h.2
  have HS : Hid (Sz e a []) := ⟨h.1.1, h.1.2, h.2.1, h.2.2, by have := h.2.1; simp; omega, fun x => by have := h.1.1; simp; omega⟩
  clear h
  have hmm := @run_makeMap Try.prog
  go_enter Try.func7, Try.ntmps7
  go_wp2_with (first | (go_at_call 21; refine (within_any _ _ _).mono ?_; rintro e w1 ⟨rfl, hw1⟩; obtain rfl := hw1.symm; clear hw1))
  have hB := below2 w (.map #[] 0) (.cells #[.int .i64 e, .int .i64 a, .map (some w.heap.size)] 50)
  exact bodyPost_ret (v := .tuple #[.pointer (some ⟨w.heap.size + 1, 0, none⟩), .int .i64 0]) (by simp [results, Try.results7, go_sem]) rfl ⟨w.heap.size + 1, w.heap.size, rfl, ⟨by simp [go_sem], by simp [go_sem], by simp [go_sem], ⟨.map [], (World.ownsMap_made w _ _ _).alloc _, Cn.start⟩, HS.out⟩, by omega, Nat.le_refl _, hB⟩
set_option maxRecDepth 100000 in
set_option maxHeartbeats 1000000 in
theorem new_bad (e a : Int) (w : World) (h : ¬ okB e a) :
    Calls Try.prog 7 #[.int .i64 e, .int .i64 a] w fun r w' => r = .returned (.tuple #[.pointer none, .int .i64 16]) ∧ w' = w := by
  by_cases h0 : 1 ≤ e ∧ e ≤ 256
  · have h1 : inB e 256 = true := decide_eq_true h0
    have h2 : inB a 256 = false := decide_eq_false (fun h2 => h ⟨h0, h2⟩)
    clear h h0
    go_enter Try.func7, Try.ntmps7
    go_wp2_with (first | (go_at_call 21; refine (within_any _ _ _).mono ?_; rintro e w1 ⟨rfl, hw1⟩; obtain rfl := hw1.symm; clear hw1))
    exact bodyPost_ret (v := .tuple #[.pointer none, .int .i64 16]) (by simp [results, Try.results7, go_sem]) rfl ⟨rfl, rfl⟩
  · have h1 : inB e 256 = false := decide_eq_false h0
    clear h h0
    go_enter Try.func7, Try.ntmps7
    go_wp2_with (first | (go_at_call 21; refine (within_any _ _ _).mono ?_; rintro e w1 ⟨rfl, hw1⟩; obtain rfl := hw1.symm; clear hw1))
    exact bodyPost_ret (v := .tuple #[.pointer none, .int .i64 16]) (by simp [results, Try.results7, go_sem]) rfl ⟨rfl, rfl⟩
end Go.Proofs.Ytfeilkhlapnpoaa
