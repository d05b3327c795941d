import Derived.Test.YtlkjieophdabpaaA1
namespace Go.Proofs.Ytlkjieophdabpaa
open Go.RowKit
set_option linter.unusedVariables false

theorem append_ints {w : World} {base : Nat} {a : Option Addr} {n cap : Nat} {L : List Value} {b : Option Addr} {m c : Nat} {M : List Value} (h : Own w base 3 a n cap L) (k : Row w b m c M) (hb : base ≤ w.heap.size) (hr : (n + m) * 8 ≤ 140737488355328) :
    ∃ a' cap' w', (Builtin.append_ #[22, 22] 22 #[.slice a n cap, .slice b m c]).run Try.prog w = .ok (.slice a' (n + m) cap') w' ∧ Own w' base 3 a' (n + m) cap' (L ++ M) ∧ Gr a a' w w' :=
  append_gen 22 3 _ 8 Try.underlying22 info3 rfl h k hb hr (by omega)
theorem take_step (A : List Int) (i : Nat) (h : i < A.length) : A.take (i + 1) = A.take i ++ [A[i]] := by
  rw [List.take_succ_eq_append_getElem h]
theorem ints_set (L : List Int) (j : Nat) (v : Int) : (ints L).set j (.int .i64 v) = ints (L.set j v) := by simp [ints, List.map_set]
theorem Own.set {w : World} {base g n c j : Nat} {L : List Int} {v : Int} (h : Own w base 3 (some ⟨g, 0, none⟩) n c (ints L)) : Own (w.setCell ⟨g, j, none⟩ (.int .i64 v)) base 3 (some ⟨g, 0, none⟩) n c (ints (L.set j v)) :=
  ⟨by rw [← ints_set]; exact (h.row.stored j _).1, ints_one _⟩
theorem Own.form {w : World} {base : Nat} {e : TypeId} {a : Option Addr} {n cap : Nat} {L : List Value} (h : Own w base e a n cap L) (hn : 0 < n) : ∃ g, a = some ⟨g, 0, none⟩ := by
  rcases h.row.2 with ⟨_, h1⟩ | ⟨g, c, cur, hv, _⟩
  · omega
  · simp only [Value.slice.injEq] at hv
    exact ⟨g, hv.1⟩
theorem below_drewN {w W : World} {n : Nat} (h : Below n w W) (k : Nat) : Below n w (W.drewN k) := by
  exact ⟨h.os, h.tape, h.output, h.size, h.block⟩

set_option maxRecDepth 100000 in
set_option maxHeartbeats 1000000 in
theorem num_any (x : Int) (w : World) : Calls Try.prog 7 #[.int .i64 x] w fun e w' => e = .returned (.int .i64 x) ∧ w' = w := by
  go_enter Try.func7, Try.ntmps7
  go_wp2
  go_ret
  exact ⟨rfl, rfl⟩
/-- How far two lists are alike. -/
def NumRel (A B : List Int) (w : World) (v : Value) (w' : World) : Prop := ∃ (i k : Nat), v = .int .i64 (i : Int) ∧ i ≤ A.length ∧ A.take i = B.take i ∧ w' = w.drewN k
set_option maxRecDepth 100000 in
set_option maxHeartbeats 1000000 in
theorem numbers_any (a b : Option Addr) (n m ca cb : Nat) (A B : List Int) (w : World) (hA : Row w a n ca (ints A)) (hB : Row w b m cb (ints B)) (hn : n < 9223372036854775807) :
    Calls Try.prog 16 #[.slice a n ca, .slice b m cb] w fun e w' => e = .returned (.bool (decide (A = B))) ∧ ∃ k, w' = w.drewN k := by
  have la : A.length = n := by have := hA.len; rwa [ints_length] at this
  have lb : B.length = m := by have := hB.len; rwa [ints_length] at this
  have HA := hid hA
  have HB := hid hB
  clear hA hB
  by_cases hnm : n = m
  · subst hnm
    obtain ⟨d, hd⟩ : ∃ d, d = decide (A = B) := ⟨_, rfl⟩
    rw [← hd]
    have HD := hid hd
    clear hd
    go_enter Try.func16, Try.ntmps16
    go_wp2
    go_loopw [5] (NumRel A B w) (fun k _ => n - (intOf k).toNat)
    case atStart => exact ⟨0, 0, rfl, Nat.zero_le _, rfl, rfl⟩
    case round =>
      obtain ⟨i, k, rfl, hi, htk, rfl⟩ := hrel
      have HT := hid htk
      clear htk
      by_cases hlt : i < n
      · have hd : decide ((i : Int) < (n : Int)) = true := decide_eq_true (by omega)
        obtain ⟨b1, o1, rfl, h1⟩ := HA.out.plain (by omega)
        obtain ⟨b2, o2, rfl, h2⟩ := HB.out.plain (by omega)
        have y1 := h1 i _ (ints_get A i (by omega))
        have y2 := h2 i _ (ints_get B i (by omega))
        obtain ⟨x, hx⟩ : ∃ x, x = A[i] := ⟨_, rfl⟩
        obtain ⟨y, hy⟩ : ∃ y, y = B[i] := ⟨_, rfl⟩
        rw [← hx] at y1
        rw [← hy] at y2
        have HX := hid hx
        have HY := hid hy
        clear h1 h2 hx hy
        by_cases hxy : x = y
        · have hq : (x != y) = false := by simp [hxy]
          go_wp2
          go_quiet (fail)
          go_wp2
          refine ⟨⟨i + 1, k + nq, rfl, by omega, ?_, rfl⟩, by simp [intOf]; omega⟩
          rw [take_step A i (by omega), take_step B i (by omega), HT.out, ← HX.out, ← HY.out, hxy]
        · have hq : (x != y) = true := by simp [hxy]
          go_wp2
          go_quiet (fail)
          go_wp2
          go_ret
          refine ⟨ret_bool ?_, k + nq, by simp⟩
          rw [HD.out]
          exact (decide_eq_false (fun e => hxy (by rw [HX.out, HY.out]; simp only [e]))).symm
      · obtain rfl : i = n := by omega
        have hd : decide ((i : Int) < (i : Int)) = false := by simp
        go_wp2
        go_ret
        refine ⟨ret_bool ?_, k, rfl⟩
        rw [HD.out]
        have := HT.out
        rw [List.take_of_length_le (by omega), List.take_of_length_le (by omega)] at this
        exact (decide_eq_true this).symm
  · have hd : ((n : Int) != (m : Int)) = true := by simp; omega
    have e : decide (A = B) = false := decide_eq_false (fun e => hnm (by rw [← la, ← lb, e]))
    rw [e]
    go_enter Try.func16, Try.ntmps16
    go_wp2
    go_ret
    exact ⟨rfl, 0, rfl⟩
def FullRel (A : List Int) (x : Int) (v : Value) : Prop := ∃ (i : Nat), v = .int .i64 (i : Int) ∧ i ≤ A.length
set_option maxRecDepth 100000 in
set_option maxHeartbeats 1000000 in
theorem full_any (a : Option Addr) (n ca : Nat) (x : Int) (w : World) (hA : Row w a n ca (ints (List.replicate n x))) (hn : n < 9223372036854775807) :
    Calls Try.prog 29 #[.slice a n ca, .int .i64 x] w fun e w' => e = .returned (.bool true) ∧ w' = w := by
  have HA := hid hA
  clear hA
  go_enter Try.func29, Try.ntmps29
  go_wp2
  go_loopw [5] (fun v w' => ∃ (i : Nat), v = .int .i64 (i : Int) ∧ i ≤ n ∧ w = w') (fun k _ => n - (intOf k).toNat)
  case atStart => exact ⟨0, rfl, Nat.zero_le _, rfl⟩
  case round =>
    obtain ⟨i, rfl, hi, rfl⟩ := hrel
    by_cases hlt : i < n
    · have hd : decide ((i : Int) < (n : Int)) = true := decide_eq_true (by omega)
      obtain ⟨b1, o1, rfl, h1⟩ := HA.out.plain (by omega)
      have y1 := h1 i _ (ints_get _ i (by simpa using hlt))
      rw [List.getElem_replicate] at y1
      clear h1
      go_wp2
      exact ⟨⟨i + 1, rfl, by omega, trivial⟩, by simp [intOf]; omega⟩
    · obtain rfl : i = n := by omega
      have hd : decide ((i : Int) < (i : Int)) = false := by simp
      go_wp2
      go_ret
      exact ⟨rfl, rfl⟩
/-- A list that may be lengthened: in memory of its own, or without room. -/
def Gro (w : World) (base : Nat) (a : Option Addr) (n cap : Nat) (L : List Value) : Prop := Own w base 3 a n cap L ∨ (n = cap ∧ ∃ p, a = some p ∧ Row w a n cap L)
def GrownRel (w : World) (base : Nat) (a0 : Option Addr) (n : Nat) (L : List Int) (x : Int) (l t : Value) (w' : World) : Prop :=
  ∃ (i : Nat) (a : Option Addr) (cap : Nat), i ≤ 80 ∧ t = .int .i64 (i : Int) ∧ l = .slice a (n + i) cap ∧ Gro w' base a (n + i) cap (ints (L ++ List.replicate i x)) ∧ (0 < i → Own w' base 3 a (n + i) cap (ints (L ++ List.replicate i x))) ∧ Gr a0 a w w'
theorem append_one {w : World} {base : Nat} {a : Option Addr} {n cap : Nat} {L : List Int} (x : Int) (h : Gro w base a n cap (ints L)) (hb : base ≤ w.heap.size) (hr : (n + 1) * 8 ≤ 140737488355328) :
    ∃ a' cap' w', (Builtin.append_ #[22, 22] 22 #[.slice a n cap, .slice (some ⟨w.heap.size, 0, none⟩) 1 1]).run Try.prog (w.alloc (Obj.cells #[.int .i64 x] 3)) = .ok (.slice a' (n + 1) cap') w' ∧ Own w' base 3 a' (n + 1) cap' (ints (L ++ [x])) ∧ Gr a a' w w' := by
  rcases h with h | ⟨rfl, p, rfl, h⟩
  · obtain ⟨a', cap', w', hrun, hO, hG⟩ := append_ints (h.alloc (Obj.cells #[.int .i64 x] 3)) (Row.single w 3 (.int .i64 x) rfl) (by simp; omega) hr
    exact ⟨a', cap', w', hrun, by rw [ints_append]; exact hO, hG.pre (below1 _ _)⟩
  · obtain ⟨g', cap', w', hrun, hO, hB⟩ := append_full_gen 22 3 _ 8 Try.underlying22 info3 rfl (h.alloc (Obj.cells #[.int .i64 x] 3)) (Row.single w 3 (.int .i64 x) rfl) (by omega) hr (by omega)
    refine ⟨_, cap', w', hrun, by rw [ints_append]; exact hO.mono (by simp; omega), But.of (below_call (below1 _ _) hB), fun k hk => .inr ?_⟩
    have := hO.blk k hk
    simp at this
    omega
set_option maxRecDepth 100000 in
set_option maxHeartbeats 1000000 in
theorem grown_any (base : Nat) (a : Option Addr) (n cap : Nat) (L : List Int) (x : Int) (w : World) (h : Gro w base a n cap (ints L)) (hb : base ≤ w.heap.size) (hr : (n + 80) * 8 ≤ 140737488355328) :
    Calls Try.prog 28 #[.slice a n cap, .int .i64 x] w fun e w' => ∃ a' cap', e = .returned (.slice a' (n + 80) cap') ∧ Own w' base 3 a' (n + 80) cap' (ints (L ++ List.replicate 80 x)) ∧ Gr a a' w w' := by
  have H0 : Hid (GrownRel w base a n L x (.slice a n cap) (.int .i64 0) w) := ⟨0, a, cap, by omega, rfl, rfl, by simpa using h, fun h => by omega, Gr.refl _ _⟩
  have HR := hid hr
  clear h hr
  go_enter Try.func28, Try.ntmps28
  go_wp2
  go_loopw [0, 5] (GrownRel w base a n L x) (fun _ t _ => 80 - (intOf t).toNat)
  case atStart => exact H0.out
  case round =>
    clear H0
    obtain ⟨i, a', cap', hi, rfl, rfl, hG, hO, hg⟩ := hrel
    by_cases hlt : i < 80
    · have hd : decide ((i : Int) < 80) = true := by simp; omega
      obtain ⟨a2, c2, w2, hrun, hO2, hG2⟩ := append_one x hG (Nat.le_trans hb hg.but.size) (by have := HR.out; omega)
      have HRUN := hid hrun
      have HO2 : Hid (Own w2 base 3 a2 (n + (i + 1)) c2 (ints (L ++ List.replicate (i + 1) x))) := hid (by rw [List.replicate_succ', ← List.append_assoc]; exact hO2)
      have HG2 := hid (hg.trans hG2)
      clear hrun hO2 hG2 hg hG hO
      go_wp2_with (first | (at_builtin; refine wpList_append_known rfl _ _ 22 rfl _ _ rfl rfl _ w2 HRUN.out ?_))
      go_roundw
      case rel => exact ⟨i + 1, a2, c2, by omega, by go_num, rfl, .inl HO2.out, fun _ => HO2.out, HG2.out⟩
      case measure => simp [intOf]; omega
    · obtain rfl : i = 80 := by omega
      have HO := hid (hO (by omega))
      have HG := hid hg
      clear hO hG hg
      go_wp2
      go_ret
      exact ⟨a', cap', rfl, HO.out, HG.out⟩
theorem numbers_same (a b : Option Addr) (n m ca cb : Nat) (A : List Int) (w : World) (hA : Row w a n ca (ints A)) (hB : Row w b m cb (ints A)) (hn : n < 9223372036854775807) :
    Calls Try.prog 16 #[.slice a n ca, .slice b m cb] w fun e w' => e = .returned (.bool true) ∧ ∃ k, w' = w.drewN k := by
  refine (numbers_any a b n m ca cb A A w hA hB hn).mono ?_
  rintro e w' ⟨rfl, h⟩
  exact ⟨ret_bool (by simp), h⟩
end Go.Proofs.Ytlkjieophdabpaa
