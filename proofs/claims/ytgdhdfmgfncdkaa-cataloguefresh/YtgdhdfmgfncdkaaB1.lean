import Derived.Test.YtgdhdfmgfncdkaaC5
import Derived.Test.YtgdhdfmgfncdkaaW1
namespace Go.Proofs.Ytgdhdfmgfncdkaa
open Go.RowKit
set_option linter.unusedVariables false

theorem ints_set (L : List Int) (j : Nat) (v : Int) : (ints L).set j (.int .i64 v) = ints (L.set j v) := by simp [ints, List.map_set]
theorem Own.set {w : World} {base g n c j : Nat} {L : List Int} {v : Int} (h : Own w base 3 (some ⟨g, 0, none⟩) n c (ints L)) : Own (w.setCell ⟨g, j, none⟩ (.int .i64 v)) base 3 (some ⟨g, 0, none⟩) n c (ints (L.set j v)) :=
  ⟨by rw [← ints_set]; exact (h.row.stored j _).1, ints_one _⟩
theorem Own.form {w : World} {base : Nat} {e : TypeId} {a : Option Addr} {n cap : Nat} {L : List Value} (h : Own w base e a n cap L) (hn : 0 < n) : ∃ g, a = some ⟨g, 0, none⟩ := by
  rcases h.row.2 with ⟨_, h1⟩ | ⟨g, c, cur, hv, _⟩
  · omega
  · simp only [Value.slice.injEq] at hv
    exact ⟨g, hv.1⟩
def Gro (w : World) (base : Nat) (a : Option Addr) (n cap : Nat) (L : List Value) : Prop := Own w base 3 a n cap L ∨ (n = cap ∧ ∃ p, a = some p ∧ Row w a n cap L)
theorem append_one {w : World} {base : Nat} {a : Option Addr} {n cap : Nat} {L : List Int} (x : Int) (h : Gro w base a n cap (ints L)) (hb : base ≤ w.heap.size) (hr : (n + 1) * 8 ≤ 140737488355328) :
    ∃ a' cap' w', (Builtin.append_ #[88, 88] 88 #[.slice a n cap, .slice (some ⟨w.heap.size, 0, none⟩) 1 1]).run Try.prog (w.alloc (Obj.cells #[.int .i64 x] 3)) = .ok (.slice a' (n + 1) cap') w' ∧ Own w' base 3 a' (n + 1) cap' (ints (L ++ [x])) ∧ Gr a a' w w' := by
  rcases h with h | ⟨rfl, p, rfl, h⟩
  · obtain ⟨a', cap', w', hrun, hO, hG⟩ := append_ints (h.alloc (Obj.cells #[.int .i64 x] 3)) (Row.single w 3 (.int .i64 x) rfl) (by simp; omega) hr
    exact ⟨a', cap', w', hrun, by rw [ints_append]; exact hO, hG.pre (below1 _ _)⟩
  · obtain ⟨g', cap', w', hrun, hO, hB⟩ := append_full_gen 88 3 _ 8 Try.underlying88 info3 rfl (h.alloc (Obj.cells #[.int .i64 x] 3)) (Row.single w 3 (.int .i64 x) rfl) (by omega) hr (by omega)
    refine ⟨_, cap', w', hrun, by rw [ints_append]; exact hO.mono (by simp; omega), But.of (below_call (below1 _ _) hB), fun k hk => .inr ?_⟩
    have := hO.blk k hk
    simp at this
    omega
theorem Own.sub {w : World} {base : Nat} {e : TypeId} {a : Option Addr} {n cap : Nat} {L : List Value} (h : Own w base e a n cap L) {m : Nat} (hm : m ≤ n) : Own w base e a m cap (L.take m) := by
  refine ⟨?_, fun u hu => h.one u (List.mem_of_mem_take hu)⟩
  have hl := h.len
  refine ⟨by rw [List.length_take]; omega, ?_⟩
  rcases h.row.2 with ⟨h1, h2⟩ | ⟨g, c, cur, hv, hg, hh, hc, hc2, hs, ht⟩
  · subst h2
    obtain rfl : m = 0 := by omega
    exact .inl ⟨h1, rfl⟩
  · simp only [Value.slice.injEq] at hv
    obtain ⟨rfl, _, rfl⟩ := hv
    refine .inr ⟨g, cap, cur, rfl, hg, hh, Nat.le_trans hm hc, hc2, hs, ?_⟩
    rw [← ht, List.take_take]
    congr 1
    omega
/-- A list that is turned round, i of its ends having been changed. -/
def RevAt (L M : List Int) (i : Nat) : Prop := M.length = L.length ∧ ∀ k, k < L.length → M[k]? = if k < i ∨ L.length ≤ k + i then L[L.length - 1 - k]? else L[k]?
theorem RevAt.step {L M : List Int} {i j : Nat} {x y : Int} (h : RevAt L M i) (hj : i + j + 1 = L.length) (hij : i < j) (hx : M[i]? = some x) (hy : M[j]? = some y) : RevAt L ((M.set i y).set j x) (i + 1) := by
  obtain ⟨h1, h2⟩ := h
  refine ⟨by simp [h1], fun k hk => ?_⟩
  have hi2 := h2 i (by omega)
  rw [if_neg (by omega), hx] at hi2
  have hj2 := h2 j (by omega)
  rw [if_neg (by omega), hy] at hj2
  rw [List.getElem?_set]
  split
  · next e =>
    subst e
    rw [if_pos (by simp; omega), if_pos (by omega), show L.length - 1 - j = i by omega]
    exact hi2
  · rw [List.getElem?_set]
    split
    · next e =>
      subst e
      rw [if_pos (by omega), if_pos (by omega), show L.length - 1 - i = j by omega]
      exact hj2
    · rw [h2 k hk]
      by_cases hc : k < i ∨ L.length ≤ k + i
      · rw [if_pos hc, if_pos (by omega)]
      · rw [if_neg hc, if_neg (by omega)]
theorem RevAt.end_ {L M : List Int} {i : Nat} (h : RevAt L M i) (hi : L.length ≤ 2 * i + 1) : M = L.reverse := by
  obtain ⟨h1, h2⟩ := h
  apply List.ext_getElem?
  intro k
  by_cases hk : k < L.length
  · rw [h2 k hk, List.getElem?_reverse hk]
    split
    · rfl
    · rw [show L.length - 1 - k = k by omega]
  · rw [List.getElem?_eq_none (by omega), List.getElem?_eq_none (by simp; omega)]
def RevRel (w : World) (base : Nat) (a : Option Addr) (n cap : Nat) (L : List Int) (t u : Value) (w' : World) : Prop :=
  ∃ (i : Nat) (M : List Int), t = .int .i64 (i : Int) ∧ u = .int .i64 ((n : Int) - 1 - i) ∧ RevAt L M i ∧ Own w' base 3 a n cap (ints M) ∧ But (Blk a) w w'
set_option maxRecDepth 100000 in
set_option maxHeartbeats 1000000 in
theorem rev_any {w : World} {base : Nat} {a : Option Addr} {n cap : Nat} {L : List Int} (h : Own w base 3 a n cap (ints L)) (hn : n ≤ 2048) :
    Calls Try.prog 69 #[.slice a n cap] w fun e w' => (∃ v, e = .returned v) ∧ Own w' base 3 a n cap (ints L.reverse) ∧ But (Blk a) w w' := by
  have hl := h.len
  rw [ints_length] at hl
  have HO := hid h
  clear h
  go_enter Try.func69, Try.ntmps69
  go_upto_region 1 with fail
  go_loopw [2, 3] (RevRel w base a n cap L) (fun t _ _ => n - (intOf t).toNat)
  case atStart => exact ⟨0, L, rfl, by go_num, ⟨rfl, fun k hk => by rw [if_neg (by omega)]⟩, HO.out, But.refl _ _⟩
  case round =>
    obtain ⟨i, M, rfl, rfl, hR, hO, hB⟩ := hrel
    by_cases hlt : 2 * i + 1 < n
    · obtain ⟨g, rfl⟩ := hO.form (by omega)
      obtain ⟨j, hj⟩ : ∃ j : Nat, i + j + 1 = n := ⟨n - 1 - i, by omega⟩
      have hje : ((n : Int) - 1 - i) = (j : Int) := by omega
      rw [hje]
      have hlM : M.length = n := by rw [hR.1]; exact hl
      obtain ⟨x, hx⟩ := get_some (L := M) (i := i) (by omega)
      obtain ⟨y, hy⟩ := get_some (L := M) (i := j) (by omega)
      obtain ⟨_, e1, hL1⟩ := hO.lies rfl (j := i) (u := .int .i64 x) (by simp [ints, hx])
      cases e1
      obtain ⟨_, e2, hL2⟩ := hO.lies rfl (j := j) (u := .int .i64 y) (by simp [ints, hy])
      cases e2
      have y1 := hL1.1
      have z1 := hL1.2
      have y2 := hL2.1
      have z2 := hL2.2
      have hij : i < j := by omega
      have hjn : j < n := by omega
      have HO2 := hid ((hO.set (j := i) (v := y)).set (j := j) (v := x))
      have HB2 := hid ((hB.setCell (p := ⟨g, i, none⟩) ⟨_, rfl, rfl⟩ (.int .i64 y)).setCell (p := ⟨g, j, none⟩) ⟨_, rfl, rfl⟩ (.int .i64 x))
      have HR2 := hid (hR.step (by omega) hij hx hy)
      clear hO hB hR hL1 hL2 HO
      have y3 : (wr.setCell ⟨g, i, none⟩ (.int .i64 y)).cell? ⟨g, j, none⟩ = some (.int .i64 y) := cell_ne y2 (by omega)
      have hne : ((i : Int) == (j : Int)) = false := by simp; omega
      clear hx hy hje hlM hlt
      go_wp2
      go_region
      go_wp2
      go_roundw
      case rel => exact ⟨i + 1, _, by go_num, by go_num, HR2.out, HO2.out.later ((Below.refl _ _).drew), HB2.out.call ((Below.refl _ _).drew)⟩
      case measure => simp [intOf]; omega
    · have hge : ¬ ((i : Int) < (n : Int) - 1 - i) := by omega
      have HO2 := hid hO
      have HB2 := hid hB
      have HE := hid (hR.end_ (by omega))
      clear hO hB hR HO hlt
      go_wp2
      go_end0
      exact ⟨⟨_, rfl⟩, by have := HO2.out; rwa [HE.out] at this, HB2.out⟩
end Go.Proofs.Ytgdhdfmgfncdkaa
