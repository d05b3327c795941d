import Derived.Test.YtdkadmnhfnilkaaO1
import Derived.Test.YtdkadmnhfnilkaaP2
namespace Go.Proofs.Ytdkadmnhfnilkaa
open Go.Shelf Go.RowKit Go.Lib Go.Sort
set_option linter.unusedVariables false

/-- Two numbers held against one another. -/
def cmpI (a b : Int) : Int := if a < b then -1 else if b < a then 1 else 0
/-- Two words. -/
def cmpW (a b c d : Nat) : Int := if a < c ∨ (a = c ∧ b < d) then -1 else if a = c ∧ b = d then 0 else 1
/-- Two capabilities. -/
def cmpC (x y : Cp) : Int := if x.1 = y.1 then cmpW x.2.1 x.2.2 y.2.1 y.2.2 else cmpI x.1 y.1
/-- One is less. -/
abbrev ltC (x y : Cp) : Prop := x.1 < y.1 ∨ (x.1 = y.1 ∧ (x.2.1 < y.2.1 ∨ (x.2.1 = y.2.1 ∧ x.2.2 < y.2.2)))
theorem cmpC_lt (x y : Cp) : cmpC x y < 0 ↔ ltC x y := by
  unfold cmpC cmpW cmpI ltC
  split
  · split
    · simp; omega
    · split
      · simp; omega
      · simp; omega
  · split
    · simp; omega
    · split
      · simp; omega
      · simp; omega
theorem lt_iff (x y : Cp) : ltOf cmpC x y = decide (ltC x y) := by
  unfold ltOf
  simp only [cmpC_lt]
theorem lt_true {x y : Cp} : ltOf cmpC x y = true ↔ ltC x y := by rw [lt_iff]; exact decide_eq_true_iff
theorem lt_false {x y : Cp} : ltOf cmpC x y = false ↔ ¬ ltC x y := by rw [lt_iff]; exact decide_eq_false_iff_not
theorem swoC : SWO (ltOf cmpC) where
  irrefl x := by rw [lt_false]; unfold ltC; omega
  trans x y z h1 h2 := by
    rw [lt_true] at *
    unfold ltC at *
    omega
  ntrans x y z h1 h2 := by
    rw [lt_false] at *
    unfold ltC at *
    omega
theorem antiC (x y : Cp) (h1 : ¬ ltC x y) (h2 : ¬ ltC y x) : x = y := by
  unfold ltC at h1 h2
  obtain ⟨a, b, c⟩ := x
  obtain ⟨d, e, f⟩ := y
  simp only at h1 h2
  have e1 : a = d := by omega
  have e2 : b = e := by omega
  have e3 : c = f := by omega
  rw [e1, e2, e3]
theorem totC : ∀ x y : Cp, ltOf cmpC x y = false → ltOf cmpC y x = false → x = y := by
  intro x y h1 h2
  rw [lt_iff] at h1 h2
  exact antiC x y (of_decide_eq_false h1) (of_decide_eq_false h2)
/-- A capability's cells. -/
def encC (c : Cp) : List Value := [.int .i64 c.1, .int .u64 (c.2.1 : Int), .int .u64 (c.2.2 : Int)]
def wEq (a b c d : Int) : Bool := decide (a = c ∧ b = d)
theorem eqlW (a b c d : Int) (w : World) : (binOp .eql 32 (.agg #[.int .u64 a, .int .u64 b]) (.agg #[.int .u64 c, .int .u64 d])).run Try.prog w = .ok (.bool (wEq a b c d)) w := by
  unfold wEq
  by_cases h1 : a = c
  · subst h1
    by_cases h2 : b = d
    · subst h2
      simp [go_sem]
    · simp [go_sem, h2]
  · simp [go_sem, h1]
theorem nan_any (a : Int) (w : World) : Calls Try.prog 65 #[.int .i64 a] w fun e w' => e = .returned (.bool false) ∧ w' = w := by
  go_enter Try.func65, Try.ntmps65
  go_wp2
  go_ret
  exact ⟨rfl, rfl⟩
set_option maxRecDepth 100000 in
set_option maxHeartbeats 1000000 in
theorem cmp_any (a b : Int) (w : World) : Calls Try.prog 47 #[.int .i64 a, .int .i64 b] w fun e w' => e = .returned (.int .i64 (cmpI a b)) ∧ w' = w := by
  by_cases h1 : a < b
  · have e : cmpI a b = -1 := by unfold cmpI; rw [if_pos h1]
    rw [e]
    clear e
    go_enter Try.func47, Try.ntmps47
    go_wp2_with (first | (go_at_call 65; refine (nan_any _ _).mono ?_; rintro e w' ⟨rfl, rfl⟩))
    go_ret
    exact ⟨rfl, rfl⟩
  by_cases h2 : b < a
  · have e : cmpI a b = 1 := by unfold cmpI; rw [if_neg h1, if_pos h2]
    rw [e]
    clear e
    go_enter Try.func47, Try.ntmps47
    go_wp2_with (first | (go_at_call 65; refine (nan_any _ _).mono ?_; rintro e w' ⟨rfl, rfl⟩))
    go_ret
    exact ⟨rfl, rfl⟩
  · have e : cmpI a b = 0 := by unfold cmpI; rw [if_neg h1, if_neg h2]
    rw [e]
    clear e
    go_enter Try.func47, Try.ntmps47
    go_wp2_with (first | (go_at_call 65; refine (nan_any _ _).mono ?_; rintro e w' ⟨rfl, rfl⟩))
    go_ret
    exact ⟨rfl, rfl⟩
set_option maxRecDepth 100000 in
set_option maxHeartbeats 1000000 in
theorem wcmp_any (a b c d : Nat) (w : World) : Calls Try.prog 48 #[.agg #[.int .u64 (a : Int), .int .u64 (b : Int)], .agg #[.int .u64 (c : Int), .int .u64 (d : Int)]] w fun e w' => e = .returned (.int .i64 (cmpW a b c d)) ∧ ∃ q os', w' = grow (w.drewN q) os' := by
  have fin : ∀ (o p : Obj), ∃ q os', (w.alloc o).alloc p = grow (w.drewN q) os' := fun o p => ⟨0, _, by rw [alloc_eq_grow, alloc_eq_grow, grow_grow]; rfl⟩
  have HF := hid fin
  have heq := fun W => eqlW (a : Int) (b : Int) (c : Int) (d : Int) W
  clear fin
  by_cases h1 : a = c ∧ b = d
  · have e : cmpW a b c d = 0 := by unfold cmpW; rw [if_neg (by omega), if_pos h1]
    have hw : wEq (a : Int) (b : Int) (c : Int) (d : Int) = true := by unfold wEq; simp; omega
    simp only [hw] at heq
    rw [e]
    clear e h1
    go_enter Try.func48, Try.ntmps48
    go_wp2
    go_ret
    exact ⟨rfl, HF.out _ _⟩
  have hw : wEq (a : Int) (b : Int) (c : Int) (d : Int) = false := by unfold wEq; simp; omega
  simp only [hw] at heq
  by_cases h2 : a < c
  · have e : cmpW a b c d = -1 := by unfold cmpW; rw [if_pos (.inl h2)]
    rw [e]
    clear e h1
    go_enter Try.func48, Try.ntmps48
    go_wp2
    go_ret
    exact ⟨rfl, HF.out _ _⟩
  by_cases h3 : a = c
  · subst h3
    by_cases h4 : b < d
    · have e : cmpW a b a d = -1 := by unfold cmpW; rw [if_pos (.inr ⟨rfl, h4⟩)]
      rw [e]
      clear e h1 h2
      go_enter Try.func48, Try.ntmps48
      go_wp2
      go_ret
      exact ⟨rfl, HF.out _ _⟩
    · have e : cmpW a b a d = 1 := by unfold cmpW; rw [if_neg (by omega), if_neg h1]
      rw [e]
      clear e h1 h2
      go_enter Try.func48, Try.ntmps48
      go_wp2
      go_ret
      exact ⟨rfl, HF.out _ _⟩
  · have e : cmpW a b c d = 1 := by unfold cmpW; rw [if_neg (by omega), if_neg h1]
    rw [e]
    clear e h1
    go_enter Try.func48, Try.ntmps48
    go_wp2
    go_ret
    exact ⟨rfl, HF.out _ _⟩
set_option maxRecDepth 100000 in
set_option maxHeartbeats 1000000 in
theorem order_any (x y : Cp) (w : World) : Calls Try.prog 32 #[.agg #[.int .i64 x.1, .int .u64 (x.2.1 : Int), .int .u64 (x.2.2 : Int)], .agg #[.int .i64 y.1, .int .u64 (y.2.1 : Int), .int .u64 (y.2.2 : Int)]] w fun e w' => e = .returned (.int .i64 (cmpC x y)) ∧ ∃ q os', w' = grow (w.drewN q) os' := by
  have fin : ∀ (o p : Obj) (W : World), (∃ q os', W = grow (((w.alloc o).alloc p).drewN q) os') → ∃ q os', W = grow (w.drewN q) os' := by
    rintro o p W ⟨q, os', rfl⟩
    refine ⟨q, #[o] ++ #[p] ++ os', ?_⟩
    rw [alloc_eq_grow, alloc_eq_grow, grow_grow]
    exact grow_grow (w.drewN q) _ _
  have HF := hid fin
  clear fin
  by_cases h1 : x.1 = y.1
  · have e : cmpC x y = cmpW x.2.1 x.2.2 y.2.1 y.2.2 := by unfold cmpC; rw [if_pos h1]
    rw [e]
    clear e
    have hn : (x.1 != y.1) = false := by simp [h1]
    clear h1
    have hc := fun W => wcmp_any x.2.1 x.2.2 y.2.1 y.2.2 W
    generalize cmpW x.2.1 x.2.2 y.2.1 y.2.2 = r at hc ⊢
    go_enter Try.func32, Try.ntmps32
    go_wp2_with (first | (go_at_call 48; refine (hc _).mono ?_; rintro e w' ⟨rfl, hw'⟩; have HW := hid hw'; clear hw'))
    go_ret
    exact ⟨rfl, HF.out _ _ _ HW.out⟩
  · have e : cmpC x y = cmpI x.1 y.1 := by unfold cmpC; rw [if_neg h1]
    rw [e]
    clear e
    have hn : (x.1 != y.1) = true := by simpa using h1
    clear h1
    have hc := fun W => cmp_any x.1 y.1 W
    generalize cmpI x.1 y.1 = r at hc ⊢
    go_enter Try.func32, Try.ntmps32
    go_wp2_with (first | (go_at_call 47; refine (hc _).mono ?_; rintro e w' ⟨rfl, rfl⟩))
    go_ret
    exact ⟨rfl, HF.out _ _ _ ⟨0, #[], by simp [grow]; rfl⟩⟩
/-- The capabilities in their order. -/
def srt (K : List Cp) : List Cp := K.mergeSort fun x y => !(ltOf cmpC) y x
theorem srt_perm (K : List Cp) : (srt K).Perm K := List.mergeSort_perm _ _
theorem srt_sorted (K : List Cp) : (srt K).Pairwise (fun x y => ¬ ltC y x) := by
  have := List.pairwise_mergeSort (le := fun x y : Cp => !(ltOf cmpC) y x) (fun a b c h1 h2 => by
    simp only [Bool.not_eq_true', lt_false] at *
    unfold ltC at *
    omega) (fun a b => by
    simp only [Bool.or_eq_true, Bool.not_eq_true', lt_false]
    unfold ltC
    omega) K
  refine this.imp ?_
  intro a b h
  simp only [Bool.not_eq_true', lt_false] at h
  exact h
theorem srt_unique {K R : List Cp} (hp : R.Perm K) (hs : R.Pairwise (fun x y => ¬ ltC y x)) : R = srt K :=
  List.Perm.eq_of_pairwise (le := fun x y => ¬ ltC y x) (fun a b _ _ h1 h2 => antiC a b h2 h1) hs (srt_sorted K) (hp.trans (srt_perm K).symm)
theorem srt_congr {K K' : List Cp} (h : K.Perm K') : srt K = srt K' := (srt_unique ((srt_perm K).trans h) (srt_sorted K))
theorem isAgg34 (w : World) : (isAgg 34).run Try.prog w = .ok true w := by simp [go_sem]
theorem sizeOf34 (w : World) : (Go.sizeOf 34).run Try.prog w = .ok 3 w := by simp [go_sem]
/-- slices.SortFunc over a list of capabilities. -/
theorem sort_some (blk cap : Nat) (d : Array Cp) (w : World) (hH : HoldsK encC 3 w blk 0 d) (hblk : blk < w.heap.size) (hsz : d.size < 4611686018427387904) :
    Calls Try.prog 31 #[.slice (some ⟨blk, 0, none⟩) d.size cap, .func (.func 32) #[] #[]] w fun e w' => e = .returned (.tuple #[]) ∧ ∃ n os, w' = sortWorldK encC 3 w blk 0 n (srt d.toList).toArray os :=
  AnyQ.slices_SortFunc_total sortC 3 isAgg34 sizeOf34 encC (fun _ => rfl) (fun x v hv => by simp [encC] at hv; rcases hv with rfl | rfl | rfl <;> rfl) cmpC swoC 32 #[] blk 0 cap d w (enters_of Try.func32 (by kernel_rfl) rfl) (fun _ _ _ _ x y => order_any x y _) hH hblk hsz totC
theorem sort_none (p : Option Addr) (cap : Nat) (fv : Value) (w : World) : Calls Try.prog 31 #[.slice p 0 cap, fv] w fun e w' => e = .returned (.tuple #[]) ∧ w' = w :=
  AnyF.slices_SortFunc_none { sortC with } p cap fv w
end Go.Proofs.Ytdkadmnhfnilkaa
