import Derived.Test.YtlkjieophdabpaaO1
namespace Go.Proofs.Ytlkjieophdabpaa
open Go.RowKit
set_option linter.unusedVariables false
variable {w w' : World} {base g : Nat} {m x : Int} {pa : Option Addr} {cap : Nat} {L : List Int}

set_option maxRecDepth 100000 in
set_option maxHeartbeats 1000000 in
theorem new_ok (m : Int) (w : World) (h1 : 1 ≤ m) (h2 : m ≤ 32) :
    Calls Try.prog 6 #[.int .i64 m] w fun e w' => ∃ g pa cap, e = .returned (.tuple #[.pointer (some ⟨g, 0, none⟩), .int .i64 0]) ∧ Ob w' w.heap.size g m 1 pa cap [0] ∧ Below w.heap.size w w' := by
  have hd1 : decide (m < 1) = false := decide_eq_false (by omega)
  have hd2 : decide (m > 32) = false := decide_eq_false (by omega)
  obtain ⟨g, hg⟩ : ∃ g, g = w.heap.size := ⟨_, rfl⟩
  have hO : Ob (w.alloc (.cells #[.int .i64 m, .int .i64 1, .slice none 0 0] 54)) w.heap.size w.heap.size m 1 none 0 [] := ⟨by simp [go_sem], ⟨by simp [go_sem], by simp [go_sem]⟩, ⟨by simp [go_sem], by simp [go_sem]⟩, Own.nil _ _ _, fun k hk => (by obtain ⟨_, e, _⟩ := hk; cases e), Nat.le_refl _⟩
  have hp := hid (put_any hO List.Pairwise.nil (by simp) 0 (by simp))
  have hfin : Hid (∀ w2 pa', Rd (w.alloc (.cells #[.int .i64 m, .int .i64 1, .slice none 0 0] 54)) w2 w.heap.size none pa' → Below w.heap.size w w2) := fun w2 pa' hr => hr.below hO (below1 _ _)
  clear hO h1 h2
  go_enter Try.func6, Try.ntmps6
  go_wp2_with (first | (go_at_call 22; refine hp.out.mono ?_; rintro e w2 ⟨pa', cap', rfl, ho, hr⟩; have HO := hid ho; have HB := hid (hfin.out _ _ hr); clear ho hr))
  exact bodyPost_ret (v := .tuple #[.pointer (some ⟨w.heap.size, 0, none⟩), .int .i64 0]) (by simp [results, Try.results6, go_sem]) rfl ⟨w.heap.size, pa', cap', rfl, HO.out, HB.out⟩
set_option maxRecDepth 100000 in
theorem new_bad (m : Int) (w : World) (h : m < 1 ∨ 32 < m) :
    Calls Try.prog 6 #[.int .i64 m] w fun e w' => e = .returned (.tuple #[.pointer none, .int .i64 16]) ∧ w' = w := by
  by_cases h1 : m < 1
  · have hd1 : decide (m < 1) = true := decide_eq_true h1
    go_enter Try.func6, Try.ntmps6
    go_wp2
    exact bodyPost_ret (v := .tuple #[.pointer none, .int .i64 16]) (by simp [results, Try.results6, go_sem]) rfl ⟨rfl, rfl⟩
  · have hd1 : decide (m < 1) = false := decide_eq_false h1
    have hd2 : decide (m > 32) = true := decide_eq_true (by omega)
    go_enter Try.func6, Try.ntmps6
    go_wp2
    exact bodyPost_ret (v := .tuple #[.pointer none, .int .i64 16]) (by simp [results, Try.results6, go_sem]) rfl ⟨rfl, rfl⟩
set_option maxRecDepth 100000 in
set_option maxHeartbeats 1000000 in
theorem spawn_full (h : Ob w base g m x pa cap L) (hi : Iv m x L) (hf : m ≤ (L.length : Int) ∨ 65535 < x) :
    Calls Try.prog 9 #[.pointer (some ⟨g, 0, none⟩)] w fun e w' => e = .returned (.tuple #[.int .i64 0, .int .i64 13]) ∧ ∃ q, w' = w.drewN q := by
  have hm := hid (fun q : Nat => many_any (h.later (below_drewN (Below.refl w.heap.size w) q)))
  have c0 := h.c0
  have c1 := h.c1.1
  clear h hi
  by_cases h1 : m ≤ (L.length : Int)
  · have hd : decide ((L.length : Int) ≥ m) = true := decide_eq_true h1
    go_enter Try.func9, Try.ntmps9
    go_upto_region 1 with fail
    go_quiet (first | (go_at_call 23; refine Calls.quiet_of_same (hm.out _)))
    go_wp2
    exact bodyPost_ret (v := .tuple #[.int .i64 0, .int .i64 13]) (by simp [results, Try.results9, go_sem]) rfl ⟨rfl, _, rfl⟩
  · have hd : decide ((L.length : Int) ≥ m) = false := decide_eq_false h1
    have hd2 : decide (x > 65535) = true := decide_eq_true (by omega)
    go_enter Try.func9, Try.ntmps9
    go_upto_region 1 with fail
    go_quiet (first | (go_at_call 23; refine Calls.quiet_of_same (hm.out _)))
    go_wp2
    exact bodyPost_ret (v := .tuple #[.int .i64 0, .int .i64 13]) (by simp [results, Try.results9, go_sem]) rfl ⟨rfl, _, rfl⟩
set_option maxRecDepth 100000 in
set_option maxHeartbeats 1000000 in
theorem spawn_more (h : Ob w base g m x pa cap L) (hi : Iv m x L) (hf : ¬ (m ≤ (L.length : Int) ∨ 65535 < x)) :
    Calls Try.prog 9 #[.pointer (some ⟨g, 0, none⟩)] w fun e w' => ∃ pa' cap', e = .returned (.tuple #[.int .i64 x, .int .i64 0]) ∧ Ob w' base g m (x + 1) pa' cap' (L ++ [x]) ∧ Rd w w' g pa pa' := by
  have hm := hid (fun q : Nat => many_any (h.later (below_drewN (Below.refl w.heap.size w) q)))
  have hp := hid (fun (U : World) (hU : Below w.heap.size w U) => put_any (h.later hU) hi.rise (by have := hi.len32; omega) x hi.hi)
  have HO := hid h
  have c0 := h.c0
  have c1 := h.c1.1
  have hx1 := hi.x1
  have hx2 : x ≤ 65535 := by omega
  clear h hi
  have hd : decide ((L.length : Int) ≥ m) = false := decide_eq_false (by omega)
  have hd2 : decide (x > 65535) = false := decide_eq_false (by omega)
  clear hf
  go_enter Try.func9, Try.ntmps9
  go_upto_region 1 with fail
  go_quiet (first | (go_at_call 23; refine Calls.quiet_of_same (hm.out _)))
  obtain ⟨w1, hw1⟩ : ∃ w1, w1 = w.drewN nq := ⟨_, rfl⟩
  have HB1 : Hid (Below w.heap.size w w1) := by rw [hw1]; exact below_drewN (Below.refl _ _) nq
  rw [← hw1]
  clear hw1
  replace c1 := cell_later HB1.out c1
  clear c0 hm
  go_upto_region 5 with (first | (go_at_call 22; refine (hp.out _ HB1.out).mono ?_; rintro e w2 ⟨pa', cap', rfl, ho, hr⟩; have HO2 := hid ho; have HR2 := hid hr; clear ho hr))
  clear c1
  obtain ⟨d1, f1⟩ := HO2.out.c1
  have hs := hid (HO2.out.setX (x + 1))
  have hfin : Hid (Rd w (w2.setCell ⟨g, 1, none⟩ (.int .i64 (x + 1))) g pa pa') := by
    refine ⟨((But.of HB1.out).trans HR2.out.but).trans (hs.out.2.mono (fun k hk => .inl hk)), fun k hk => ?_⟩
    rcases HR2.out.on k hk with e | e
    · exact .inl e
    · exact .inr (Nat.le_trans HB1.out.size e)
  go_wp2
  exact bodyPost_ret (v := .tuple #[.int .i64 x, .int .i64 0]) (by simp [results, Try.results9, go_sem]) rfl ⟨pa', cap', rfl, hs.out.1, hfin.out⟩
/-- Spawn. -/
theorem spawn_any (h : Ob w base g m x pa cap L) (hi : Iv m x L) :
    Calls Try.prog 9 #[.pointer (some ⟨g, 0, none⟩)] w fun e w' => ∃ pa' cap', e = .returned (.tuple #[.int .i64 (spN m x L), .int .i64 (spC m x L)]) ∧ Ob w' base g m (spX m x L) pa' cap' (spL m x L) ∧ Rd w w' g pa pa' := by
  unfold spN spC spX spL
  by_cases hf : m ≤ (L.length : Int) ∨ 65535 < x
  · rw [if_pos (show fullP m x L = true from decide_eq_true hf), if_pos (show fullP m x L = true from decide_eq_true hf), if_pos (show fullP m x L = true from decide_eq_true hf), if_pos (show fullP m x L = true from decide_eq_true hf)]
    refine (spawn_full h hi hf).mono ?_
    rintro e w' ⟨rfl, q, rfl⟩
    have hb := below_drewN (Below.refl w.heap.size w) q
    exact ⟨pa, cap, rfl, h.later hb, Rd.refl _ _ hb⟩
  · have hff : ¬ fullP m x L = true := fun e => hf (of_decide_eq_true e)
    rw [if_neg hff, if_neg hff, if_neg hff, if_neg hff]
    exact spawn_more h hi hf
set_option maxRecDepth 100000 in
theorem live_any (h : Ob w base g m x pa cap L) (hi : Iv m x L) (n : Int) : Calls Try.prog 10 #[.pointer (some ⟨g, 0, none⟩), .int .i64 n] w fun e w' => e = .returned (.bool (L.contains n)) ∧ ∃ q, w' = w.drewN q := by
  have hh := hid (has_any h hi.rise (by have := hi.len32; omega) n)
  clear h hi
  generalize L.contains n = bb at *
  go_enter Try.func10, Try.ntmps10
  go_wp2_with (first | (go_at_call 24; refine hh.out.mono ?_; rintro e w1 ⟨rfl, hq⟩; have HQ := hid hq; clear hq))
  go_ret
  exact ⟨rfl, HQ.out⟩
set_option maxRecDepth 100000 in
theorem numb_any (h : Ob w base g m x pa cap L) (hi : Iv m x L) : Calls Try.prog 12 #[.pointer (some ⟨g, 0, none⟩)] w fun e w' => ∃ p c, e = .returned (.slice p L.length c) ∧ Own w' w.heap.size 3 p L.length c (ints L) ∧ Below w.heap.size w w' := by
  have hh := hid (all_any h (by have := hi.len32; omega))
  clear h hi
  go_enter Try.func12, Try.ntmps12
  go_wp2_with (first | (go_at_call 26; refine hh.out.mono ?_; rintro e w1 ⟨p, c, rfl, ho, hb⟩; have HO := hid ho; have HB := hid hb; clear ho hb))
  go_ret
  exact ⟨p, c, rfl, HO.out, HB.out⟩
set_option maxRecDepth 100000 in
theorem next_any (h : Ob w base g m x pa cap L) : Calls Try.prog 13 #[.pointer (some ⟨g, 0, none⟩)] w fun e w' => e = .returned (.int .i64 x) ∧ w' = w := by
  have c1 := h.c1.1
  clear h
  go_enter Try.func13, Try.ntmps13
  go_wp2
  go_ret
  exact ⟨rfl, rfl⟩
set_option maxRecDepth 100000 in
/-- Exit. -/
theorem exit_any (h : Ob w base g m x pa cap L) (hi : Iv m x L) (n : Int) : Calls Try.prog 11 #[.pointer (some ⟨g, 0, none⟩), .int .i64 n] w fun e w' => ∃ cap', e = .returned (.int .i64 (exC L n)) ∧ Ob w' base g m x pa cap' (out L n) ∧ Rd w w' g pa pa := by
  unfold exC
  by_cases hn : n ∈ L
  · rw [if_pos (show L.contains n = true by simpa using hn)]
    have hh := hid (drop_yes h hi.rise (by have := hi.len32; omega) n hn)
    clear h hi hn
    go_enter Try.func11, Try.ntmps11
    go_wp2_with (first | (go_at_call 25; refine hh.out.mono ?_; rintro e w1 ⟨cap', rfl, ho, hr⟩; have HO := hid ho; have HR := hid hr; clear ho hr))
    go_ret
    exact ⟨cap', rfl, HO.out, HR.out⟩
  · rw [if_neg (show ¬ L.contains n = true by simpa using hn), out_none hn]
    have hh := hid (drop_no h hi.rise (by have := hi.len32; omega) n hn)
    have HO := hid (fun (U : World) (hU : Below w.heap.size w U) => h.later hU)
    clear h hi hn
    go_enter Try.func11, Try.ntmps11
    go_wp2_with (first | (go_at_call 25; refine hh.out.mono ?_; rintro e w1 ⟨rfl, hq⟩; have HB : Hid (Below w.heap.size w w1) := (by obtain ⟨q, rfl⟩ := hq; exact below_drewN (Below.refl _ _) q); clear hq))
    go_ret
    exact ⟨cap, rfl, HO.out _ HB.out, Rd.refl _ _ HB.out⟩
set_option maxRecDepth 100000 in
set_option maxHeartbeats 1000000 in
/-- SetNext. -/
theorem setn_any (h : Ob w base g m x pa cap L) (hi : Iv m x L) (n : Int) : Calls Try.prog 14 #[.pointer (some ⟨g, 0, none⟩), .int .i64 n] w fun e w' => e = .returned (.int .i64 (snC L n)) ∧ Ob w' base g m (snX x L n) pa cap L ∧ Rd w w' g pa pa := by
  have hbe := hid (below_any h hi.rise (by have := hi.len32; omega) n)
  have HO := hid h
  have hs := hid (h.setX n)
  obtain ⟨d1, f1⟩ := h.c1
  clear h hi
  unfold snC snX okN
  generalize under L n = bb at *
  by_cases h1 : n < 0
  · rw [if_neg (by simp; omega), if_neg (by simp; omega)]
    have hd1 : decide (n < 0) = true := decide_eq_true h1
    go_enter Try.func14, Try.ntmps14
    go_wp2
    go_ret
    exact ⟨rfl, HO.out, Rd.refl _ _ (Below.refl _ _)⟩
  · have hd1 : decide (n < 0) = false := decide_eq_false h1
    by_cases h2 : 65536 < n
    · rw [if_neg (by simp; omega), if_neg (by simp; omega)]
      have hd2 : decide (n > 65536) = true := decide_eq_true h2
      go_enter Try.func14, Try.ntmps14
      go_wp2
      go_ret
      exact ⟨rfl, HO.out, Rd.refl _ _ (Below.refl _ _)⟩
    · have hd2 : decide (n > 65536) = false := decide_eq_false h2
      rw [decide_eq_true (show 0 ≤ n ∧ n ≤ 65536 by omega), Bool.true_and]
      cases bb with
      | false =>
        go_enter Try.func14, Try.ntmps14
        go_wp2_with (first | (go_at_call 27; refine hbe.out.mono ?_; rintro e w1 ⟨rfl, hw1⟩; obtain rfl := hw1.symm; clear hw1))
        go_ret
        exact ⟨rfl, HO.out, Rd.refl _ _ (Below.refl _ _)⟩
      | true =>
        go_enter Try.func14, Try.ntmps14
        go_wp2_with (first | (go_at_call 27; refine hbe.out.mono ?_; rintro e w1 ⟨rfl, hw1⟩; obtain rfl := hw1.symm; clear hw1))
        go_ret
        exact ⟨rfl, hs.out.1, hs.out.2.mono (fun k hk => .inl hk), fun k hk => .inl hk⟩
end Go.Proofs.Ytlkjieophdabpaa
