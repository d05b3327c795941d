import Derived.Test.YtfeilkhlapnpoaaR3
import Derived.Test.YtfeilkhlapnpoaaS1
namespace Go.Proofs.Ytfeilkhlapnpoaa
open Go.RowKit Go.Maps
set_option linter.unusedVariables false

/-- One more, and what the list was still reads as it did: it lies where it lay, or nothing that was there has changed. -/
theorem append_keep {w : World} {base : Nat} {a : Option Addr} {n cap : Nat} {L : List Int} (x : Int) (h : Own w base 3 a n cap (ints L)) (hb : base ≤ w.heap.size) (hr : (n + 1) * 8 ≤ 140737488355328) :
    ∃ a' cap' w', (Builtin.append_ #[34, 34] 34 #[.slice a n cap, .slice (some ⟨w.heap.size, 0, none⟩) 1 1]).run Try.prog (w.alloc (Obj.cells #[.int .i64 x] 3)) = .ok (.slice a' (n + 1) cap') w' ∧ Own w' base 3 a' (n + 1) cap' (ints (L ++ [x])) ∧ Gr a a' w w' ∧ (a' = a ∨ Below w.heap.size w w') := by
  rcases h.row.2 with ⟨h1, h2⟩ | ⟨g, c, cur, hv, hg, hh, hc, hrest⟩
  · simp only [Value.slice.injEq] at h1
    obtain ⟨rfl, _, rfl⟩ := h1
    obtain ⟨a', cap', w', hrun, hO, hG⟩ := append_one x h hb hr
    exact ⟨a', cap', w', hrun, hO, hG, .inr ⟨hG.but.os, hG.but.tape, hG.but.output, hG.but.size, fun j hj => hG.but.block j hj (fun ⟨_, e, _⟩ => by cases e)⟩⟩
  · simp only [Value.slice.injEq] at hv
    obtain ⟨rfl, _, rfl⟩ := hv
    have hw1 := h.alloc (Obj.cells #[.int .i64 x] 3)
    by_cases hfit : n + 1 ≤ cap
    · obtain ⟨i, hi, hz0, hz1, hz2⟩ := info_parts info3
      have r := Row.single w 3 (.int .i64 x) rfl
      obtain ⟨w', hrun, hO, hgr⟩ := run_append_fits (P := Try.prog) _ base 34 34 3 i 1 Try.underlying34 hi hz1 g n cap _ hw1.row ⟨w.heap.size, 0, none⟩ 1 1 [.int .i64 x] rfl (r.cells _ rfl) r.one hfit
      refine ⟨_, cap, w', hrun, ⟨by rw [ints_append]; exact hO, ints_one _⟩, ⟨?_, fun j hj => .inl hj⟩, .inl rfl⟩
      exact (But.of (below1 w _)).trans ⟨hgr.os, hgr.tape, hgr.output, hgr.size, fun j hj hn => hgr.block j hj (fun e => hn ⟨_, rfl, by simpa using e.symm⟩)⟩
    · obtain rfl : n = cap := by omega
      obtain ⟨g', cap', w', hrun, hO, hB⟩ := append_full_gen 34 3 _ 8 Try.underlying34 info3 rfl hw1.read (Row.single w 3 (.int .i64 x) rfl) (by omega) hr (by omega)
      have hB2 := below_call (below1 w _) hB
      refine ⟨_, cap', w', hrun, by rw [ints_append]; exact hO.mono (by simp; omega), ⟨But.of hB2, fun k hk => .inr ?_⟩, .inr hB2⟩
      have := hO.blk k hk
      simp at this
      omega
/-- What the list was, behind it. -/
theorem keep_row {w w' : World} {base : Nat} {a a' : Option Addr} {n cap cap' : Nat} {L : List Int} {x : Int} (h : Own w base 3 a n cap (ints L)) (hO : Own w' base 3 a' (n + 1) cap' (ints (L ++ [x]))) (hs : a' = a ∨ Below w.heap.size w w') (hn : 0 < n) : Row w' a n cap (ints L) := by
  rcases hs with rfl | hB
  · have hl := h.read.len
    refine ⟨hl, h.read.cap_, h.read.none_, fun y hy j u hu => hO.read.cells y hy j u ?_, ints_one _⟩
    rw [ints_append, List.getElem?_append_left (List.getElem?_eq_some_iff.1 hu).1]
    exact hu
  · exact h.read.later hB
theorem ints_set (L : List Int) (i : Nat) (x : Int) : ints (L.set i x) = (ints L).set i (.int .i64 x) := by
  unfold ints
  rw [List.map_set]
theorem Own.set1 {w : World} {base g n cap : Nat} {L : List Int} (h : Own w base 3 (some ⟨g, 0, none⟩) n cap (ints L)) (j : Nat) (x : Int) : Own (w.setCell ⟨g, j, none⟩ (.int .i64 x)) base 3 (some ⟨g, 0, none⟩) n cap (ints (L.set j x)) :=
  ⟨by rw [ints_set]; exact (World.ownsRow.stored h.row j _).1, ints_one _⟩
/-- The first i are x. -/
def mk (i : Nat) (x : Int) (L : List Int) : List Int := List.replicate i x ++ L.drop i
theorem mk_zero (x : Int) (L : List Int) : mk 0 x L = L := by simp [mk]
theorem mk_step (i : Nat) (x : Int) (L : List Int) (h : i < L.length) : (mk i x L).set i x = mk (i + 1) x L := by
  unfold mk
  rw [List.drop_eq_getElem_cons h, List.set_append_right _ _ (by simp), List.length_replicate, Nat.sub_self, List.set_cons_zero, List.replicate_succ', List.append_assoc]
  rfl
theorem mk_all (x : Int) (L : List Int) : mk L.length x L = List.replicate L.length x := by simp [mk]
theorem mk_len (i : Nat) (x : Int) (L : List Int) (h : i ≤ L.length) : (mk i x L).length = L.length := by simp [mk]; omega
theorem same_true {a b : Option Addr} {n m ca cb : Nat} {A : List Int} {w : World} (hA : Row w a n ca (ints A)) (hB : Row w b m cb (ints A)) (hn : n < 9223372036854775807) :
    Calls Try.prog 16 #[.slice a n ca, .slice b m cb] w fun e w' => e = .returned (.bool true) ∧ Below w.heap.size w w' := by
  refine (same_any a b n m ca cb A A w hA hB hn).mono ?_
  rintro e w' ⟨rfl, k, rfl⟩
  exact ⟨by rw [decide_eq_true rfl], below_drewN (Below.refl _ _) k⟩
/-- Two lists, each lengthened by one. -/
theorem two_appends {w : World} {bA bB n cA cB : Nat} {pA pB : Option Addr} {A B : List Int} (x y : Int) (hA : Own w bA 3 pA n cA (ints A)) (hB : Own w bB 3 pB n cB (ints B)) (hab : ∀ k, Blk pA k → ¬ Blk pB k) (hbA : bA ≤ w.heap.size) (hbB : bB ≤ w.heap.size) (hr : (n + 1) * 8 ≤ 140737488355328) :
    ∃ pc cc w1 pd cd w2, (Builtin.append_ #[34, 34] 34 #[.slice pA n cA, .slice (some ⟨w.heap.size, 0, none⟩) 1 1]).run Try.prog (w.alloc (Obj.cells #[.int .i64 x] 3)) = .ok (.slice pc (n + 1) cc) w1 ∧
      (Builtin.append_ #[34, 34] 34 #[.slice pB n cB, .slice (some ⟨w1.heap.size, 0, none⟩) 1 1]).run Try.prog (w1.alloc (Obj.cells #[.int .i64 y] 3)) = .ok (.slice pd (n + 1) cd) w2 ∧
      Row w2 pc (n + 1) cc (ints (A ++ [x])) ∧ Row w2 pd (n + 1) cd (ints (B ++ [y])) ∧ (0 < n → Row w2 pA n cA (ints A)) ∧ (0 < n → Row w2 pB n cB (ints B)) ∧ But (fun k => Blk pA k ∨ Blk pB k) w w2 := by
  obtain ⟨pc, cc, w1, run1, hO1, hG1, hs1⟩ := append_keep x hA hbA hr
  have hB1 := hB.but hG1.but (fun k hk h => hab k h hk)
  obtain ⟨pd, cd, w2, run2, hO2, hG2, hs2⟩ := append_keep y hB1 (Nat.le_trans hbB hG1.but.size) hr
  refine ⟨pc, cc, w1, pd, cd, w2, run1, run2, hO1.read.but hG2.but (fun k hk h => ?_), hO2.read, fun h0 => (keep_row hA hO1 hs1 h0).but hG2.but (fun k hk h => hab k hk h), fun h0 => keep_row hB1 hO2 hs2 h0, (hG1.but.mono (fun k hk => .inl hk)).trans (hG2.but.mono (fun k hk => .inr hk))⟩
  rcases hG1.on k hk with h1 | h1
  · exact hab k h1 h
  · have := hB.lt k h
    omega
end Go.Proofs.Ytfeilkhlapnpoaa
