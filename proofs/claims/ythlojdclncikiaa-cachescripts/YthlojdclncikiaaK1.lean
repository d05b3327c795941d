import Derived.Test.YthlojdclncikiaaM2
namespace Go.Proofs.Ythlojdclncikiaa
open Go.RowKit
set_option linter.unusedVariables false
set_option linter.unusedSimpArgs false

/-- The cache in memory, by lists: the youngest of each set first. -/
def Kc (w : World) (g s n k : Nat) (T : Nat → List Pu) (E : Nat) (hi mi : Int) : Prop := E < 256 ∧ ∃ R, Ca w g s n k R (E : Int) hi mi ∧ Fit n T R
def T0 : Nat → List Pu := fun _ => []
variable {w w' : World} {g s n k E : Nat} {T : Nat → List Pu} {hi mi : Int}
theorem Kc.but {S : Nat → Prop} (h : Kc w g s n k T E hi mi) (hb : But S w w') (h1 : ¬ S g) : Kc w' g s n k T E hi mi := by
  obtain ⟨hE, R, hc, hf⟩ := h
  exact ⟨hE, R, hc.but hb h1, hf⟩
theorem Kc.later (h : Kc w g s n k T E hi mi) (hb : Below w.heap.size w w') : Kc w' g s n k T E hi mi := h.but (S := fun _ => False) (But.of hb) (fun h => h)
theorem Kc.lt (h : Kc w g s n k T E hi mi) : g < w.heap.size := by
  obtain ⟨_, R, hc, hf⟩ := h
  exact hc.lt
theorem knew (s n k : Nat) (w : World) (h1 : s ≤ 16) (h2 : 1 ≤ n) (h3 : n ≤ 4) (h4 : k ≤ 64) :
    Calls Try.prog 6 #[.int .i64 (s : Int), .int .i64 (n : Int), .int .i64 (k : Int)] w fun e w' => ∃ g, e = .returned (.tuple #[.pointer (some ⟨g, 0, none⟩), .int .i64 0]) ∧ Kc w' g s n k T0 0 0 0 ∧ w.heap.size ≤ g ∧ Below w.heap.size w w' := by
  refine (new_ok s n k w h1 h2 h3 h4).mono ?_
  rintro e w' ⟨g, rfl, hc, hg, hb⟩
  exact ⟨g, rfl, ⟨by decide, R0, hc, Fit.zero n⟩, hg, hb⟩
theorem kget (h : Kc w g s n k T E hi mi) (c : Cp) (hc : okC c) :
    Calls Try.prog 12 #[.pointer (some ⟨g, 0, none⟩), .agg #[.int .i64 c.1, .int .u64 (c.2.1 : Int), .int .u64 (c.2.2 : Int)]] w fun x w' => x = .returned (.tuple #[.int .i64 (getT s k T c).1, .bool (getT s k T c).2]) ∧ Kc w' g s n k T E (if (getT s k T c).2 then wrap64 (hi + 1) else hi) (if (getT s k T c).2 then mi else wrap64 (mi + 1)) ∧ But (fun k => k = g) w w' := by
  obtain ⟨hE, R, ha, hf⟩ := h
  have := get_any ha c hc
  rw [hf.see ha.n1 ha.n4] at this
  refine this.mono ?_
  rintro e w' ⟨rfl, h2, hb⟩
  exact ⟨rfl, ⟨hE, R, h2, hf⟩, hb⟩
theorem kput (h : Kc w g s n k T E hi mi) (c : Cp) (m : Int) (hc : okC c) :
    Calls Try.prog 9 #[.pointer (some ⟨g, 0, none⟩), .agg #[.int .i64 c.1, .int .u64 (c.2.1 : Int), .int .u64 (c.2.2 : Int)], .int .i64 m] w fun x w' => x = .returned (.tuple #[]) ∧ Kc w' g s n k (putT s n k T c m) E hi mi ∧ But (fun k => k = g) w w' := by
  obtain ⟨hE, R, ha, hf⟩ := h
  refine (put_any ha c m hc).mono ?_
  rintro e w' ⟨rfl, h2, hb⟩
  exact ⟨rfl, ⟨hE, _, h2, hf.put ha.n1 ha.n4 c m⟩, hb⟩
theorem kturn (h : Kc w g s n k T E hi mi) : Calls Try.prog 10 #[.pointer (some ⟨g, 0, none⟩)] w fun x w' => x = .returned (.tuple #[]) ∧ Kc w' g s n k T0 ((E + 1) % 256) hi mi ∧ But (fun k => k = g) w w' := by
  obtain ⟨hE, R, ha, hf⟩ := h
  refine (turn_any ha hE).mono ?_
  rintro e w' ⟨rfl, h2, hb⟩
  exact ⟨rfl, ⟨Nat.mod_lt _ (by decide), R0, h2, Fit.zero n⟩, hb⟩
theorem kepoch (h : Kc w g s n k T E hi mi) : Calls Try.prog 11 #[.pointer (some ⟨g, 0, none⟩)] w fun x w' => x = .returned (.int .i64 (E : Int)) ∧ w' = w := by
  obtain ⟨hE, R, ha, hf⟩ := h
  exact epoch_any ha
theorem khits (h : Kc w g s n k T E hi mi) : Calls Try.prog 19 #[.pointer (some ⟨g, 0, none⟩)] w fun x w' => x = .returned (.tuple #[.int .i64 hi, .int .i64 mi]) ∧ Below w.heap.size w w' := by
  obtain ⟨hE, R, ha, hf⟩ := h
  exact hits_any ha
theorem get_put (T : Nat → List Pu) (c : Cp) (m : Int) (hs : s ≠ 0) (hn : 1 ≤ n) : getT s k (putT s n k T c m) c = (m, true) := by
  unfold getT putT
  rw [if_neg hs, if_neg hs]
  rw [if_pos rfl]
  unfold getS putS
  obtain ⟨v, rfl⟩ : ∃ v, n = v + 1 := ⟨n - 1, by omega⟩
  rw [List.take_succ_cons, List.find?_cons_of_pos (by simp)]
theorem get_none (c : Cp) : getT s k T0 c = (0, false) := by
  unfold getT
  split
  · rfl
  · rfl
theorem num_any (x : Int) (w : World) : Calls Try.prog 7 #[.int .i64 x] w fun e w' => e = .returned (.int .i64 x) ∧ w' = w := by
  go_enter Try.func7, Try.ntmps7
  go_wp2
  go_ret
  exact ⟨rfl, rfl⟩
theorem w64_1 : wrap64 (0 + 1) = 1 := by unfold wrap64; omega
theorem ok7 : okC (1, 0, 7) := ⟨by decide, by decide⟩
theorem aput (h : Kc w g 2 1 64 T E hi mi) : Calls Try.prog 9 #[.pointer (some ⟨g, 0, none⟩), .agg #[.int .i64 1, .int .u64 0, .int .u64 7], .int .i64 5] w fun x w' => x = .returned (.tuple #[]) ∧ Kc w' g 2 1 64 (putT 2 1 64 T (1, 0, 7) 5) E hi mi ∧ But (fun k => k = g) w w' := kput h (1, 0, 7) 5 ok7
theorem aget1 (h : Kc w g 2 1 64 (putT 2 1 64 T (1, 0, 7) 5) E 0 0) : Calls Try.prog 12 #[.pointer (some ⟨g, 0, none⟩), .agg #[.int .i64 1, .int .u64 0, .int .u64 7]] w fun x w' => x = .returned (.tuple #[.int .i64 5, .bool true]) ∧ Kc w' g 2 1 64 (putT 2 1 64 T (1, 0, 7) 5) E 1 0 ∧ But (fun k => k = g) w w' := by
  have := kget h (1, 0, 7) ok7
  rw [get_put T (1, 0, 7) 5 (by decide) (by decide), w64_1] at this
  exact this
theorem aget2 (h : Kc w g 2 1 64 T0 E 1 0) : Calls Try.prog 12 #[.pointer (some ⟨g, 0, none⟩), .agg #[.int .i64 1, .int .u64 0, .int .u64 7]] w fun x w' => x = .returned (.tuple #[.int .i64 0, .bool false]) ∧ Kc w' g 2 1 64 T0 E 1 1 ∧ But (fun k => k = g) w w' := by
  have := kget h (1, 0, 7) ok7
  rw [get_none (1, 0, 7), w64_1] at this
  exact this
set_option maxRecDepth 100000 in
set_option maxHeartbeats 1000000 in
theorem alive_any (w : World) : Calls Try.prog 8 #[] w fun e w' => e = .returned (.bool true) ∧ Below w.heap.size w w' := by
  have hN := hid (knew 2 1 64 w (by decide) (by decide) (by decide) (by decide))
  go_enter Try.func8, Try.ntmps8
  go_upto_region 4 with (first | (go_at_call 6; refine hN.out.mono ?_; rintro e w1 ⟨g, rfl, hk1, hg1, hb1⟩; have HK1 := hid hk1; have HG1 := hid hg1; have HB1 := hid hb1; clear hk1 hg1 hb1) | (go_at_call 7; refine (num_any _ _).mono ?_; rintro e w9 ⟨rfl, hw9⟩; obtain rfl := hw9.symm; clear hw9))
  go_upto_region 5 with fail
  have HC : Hid (∀ U, But (fun k => k = g) (w1.alloc (Obj.cells #[.int .i64 1, .int .u64 0, .int .u64 7] 34)) U → U.cell? ⟨w1.heap.size, 0, none⟩ = some (.int .i64 1) ∧ U.cell? ⟨w1.heap.size, 1, none⟩ = some (.int .u64 0) ∧ U.cell? ⟨w1.heap.size, 2, none⟩ = some (.int .u64 7)) := fun U hU => by
    have hne : ¬ w1.heap.size = g := by have := HK1.out.lt; omega
    exact ⟨cell_but hU (by simp [go_sem]) hne, cell_but hU (by simp [go_sem]) hne, cell_but hU (by simp [go_sem]) hne⟩
  have HK2 := hid (HK1.out.later (below1 w1 (Obj.cells #[.int .i64 1, .int .u64 0, .int .u64 7] 34)))
  have HB2 := hid (below_call HB1.out (below1 w1 (Obj.cells #[.int .i64 1, .int .u64 0, .int .u64 7] 34)))
  generalize w1.alloc (Obj.cells #[.int .i64 1, .int .u64 0, .int .u64 7] 34) = w2 at *
  obtain ⟨a0, a1, a2⟩ := HC.out w2 (But.refl _ _)
  go_upto_region 6 with (first | (go_at_call 9; refine (aput HK2.out).mono ?_; rintro e w3 ⟨rfl, hk3, hb3⟩; have HK3 := hid hk3; have HB3 := hid hb3; clear hk3 hb3))
  clear a0 a1 a2
  obtain ⟨a0, a1, a2⟩ := HC.out w3 HB3.out
  go_upto_region 7 with (first | (go_at_call 12; refine (aget1 HK3.out).mono ?_; rintro e w4 ⟨rfl, hk4, hb4⟩; have HK4 := hid hk4; have HB4 := hid (HB3.out.trans hb4); clear hk4 hb4))
  clear a0 a1 a2
  go_upto_region 8 with (first | (go_at_call 10; refine (kturn HK4.out).mono ?_; rintro e w5 ⟨rfl, hk5, hb5⟩; have HK5 := hid hk5; have HB5 := hid (HB4.out.trans hb5); clear hk5 hb5))
  obtain ⟨a0, a1, a2⟩ := HC.out w5 HB5.out
  go_upto_region 9 with (first | (go_at_call 12; refine (aget2 HK5.out).mono ?_; rintro e w6 ⟨rfl, hk6, hb6⟩; have HK6 := hid hk6; have HB6 := hid (HB5.out.trans hb6); clear hk6 hb6))
  clear a0 a1 a2
  go_upto_region 10 with (first | (go_at_call 19; refine (khits HK6.out).mono ?_; rintro e w7 ⟨rfl, hb7⟩; have HB7 := hid hb7; clear hb7))
  have HK7 := hid (HK6.out.later HB7.out)
  go_wp2_with (first | (go_at_call 11; refine (kepoch HK7.out).mono ?_; rintro e w9 ⟨rfl, hw9⟩; obtain rfl := hw9.symm; clear hw9))
  go_ret
  exact ⟨rfl, below_call (But.below HB2.out HB6.out (fun k hk => by have := HG1.out; omega)) HB7.out⟩
end Go.Proofs.Ythlojdclncikiaa
