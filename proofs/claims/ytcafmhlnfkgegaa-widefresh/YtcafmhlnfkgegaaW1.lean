import Derived.Test.YtcafmhlnfkgegaaRows
import Derived.Test.YtcafmhlnfkgegaaM1
import Derived.WalkKit
import Derived.WalkSpells
import Derived.WalkLawsBesides
import Derived.Deep.RegionHeld3
import Derived.Deep.QuietTactic
import Derived.BigQuiet
namespace Go.Proofs.Ytcafmhlnfkgegaa
open Go.RowKit

theorem ret_int {k : IntKind} {a b : Int} (h : a = b) : Ending.returned (.int k a) = .returned (.int k b) := by rw [h]
theorem ret_bool {a b : Bool} (h : a = b) : Ending.returned (.bool a) = .returned (.bool b) := by rw [h]
theorem below1 (w : World) (o : Obj) : Below w.heap.size w (w.alloc o) := (Below.refl _ _).alloc (Nat.le_refl _) _
theorem below2 (w : World) (o p : Obj) : Below w.heap.size w ((w.alloc o).alloc p) := (below1 _ _).alloc (by simp) _
theorem keep_call {C : Prop} {K : Nat} {w0 W w1 : World} (hb : Below W.heap.size W w1) (hK : K ≤ w0.heap.size) (hS : C ∧ Below K w0 W) : Below K w0 w1 :=
  hS.2.trans (hb.mono (Nat.le_trans hK hS.2.size))
/-- From the world w, behind new blocks, to what followed. -/
theorem below_on {K : Nat} {w w0 w1 : World} (h : Below w.heap.size w w0) (hK : w.heap.size ≤ K) (h1 : Below K w0 w1) : Below w.heap.size w w1 := h.trans (h1.mono hK)
theorem below_call {w W w1 : World} (h : Below w.heap.size w W) (hb : Below W.heap.size W w1) : Below w.heap.size w w1 := h.trans (hb.mono h.size)

theorem eqlW (a b c d : Int) (w : World) : (binOp .eql 24 (.agg #[.int .u64 a, .int .u64 b]) (.agg #[.int .u64 c, .int .u64 d])).run Try.prog w = .ok (.bool (wEq a b c d)) w := by
  unfold wEq
  by_cases h1 : a = c
  · subst h1
    by_cases h2 : b = d
    · subst h2
      simp [go_sem]
    · simp [go_sem, h2]
  · simp [go_sem, h1]
theorem neqW (a b c d : Int) (w : World) : (binOp .neq 24 (.agg #[.int .u64 a, .int .u64 b]) (.agg #[.int .u64 c, .int .u64 d])).run Try.prog w = .ok (.bool (!wEq a b c d)) w := by
  unfold wEq
  by_cases h1 : a = c
  · subst h1
    by_cases h2 : b = d
    · subst h2
      simp [go_sem]
    · simp [go_sem, h2]
  · simp [go_sem, h1]

theorem low_any (h : Nat) (n : Int) (w : World) (hh : h < B64) (h0 : 0 ≤ n) (h1 : n ≤ 63) :
    Calls Try.prog 25 #[.int .u64 (h : Int), .int .i64 n] w fun e w' => e = .returned (.int .u64 ((h % 2 ^ n.toNat : Nat) : Int)) ∧ w' = w := by
  have hl := u64_low h n.toNat hh (by omega)
  have HL : Hid (bits .and .u64 (h : Int) (IntKind.u64.wrap (IntKind.u64.wrap (2 ^ n.toNat) - 1)) = ((h % 2 ^ n.toNat : Nat) : Int)) := hl
  clear hl
  go_enter Try.func25, Try.ntmps25
  go_wp2
  go_ret
  exact ⟨ret_int HL.out, rfl⟩

set_option maxHeartbeats 400000 in
theorem cmp_any (a b c d : Int) (N M : Nat) (w : World) (h : IsV a b N) (k : IsV c d M) :
    Calls Try.prog 7 #[.agg #[.int .u64 a, .int .u64 b], .agg #[.int .u64 c, .int .u64 d]] w fun e w' => e = .returned (.int .i64 (cmpI N M)) ∧ Below w.heap.size w w' := by
  obtain ⟨a, b, rfl, rfl, h⟩ := h
  obtain ⟨c, d, rfl, rfl, k⟩ := k
  have he := h.eq_iff k
  have hl := h.lt_iff k
  by_cases h1 : a = c
  · subst h1
    by_cases h2 : b = d
    · subst h2
      have hz : cmpI N M = 0 := by unfold cmpI; rw [if_pos (he.2 ⟨rfl, rfl⟩)]
      rw [hz]; clear he hl hz h k
      go_enter Try.func7, Try.ntmps7
      go_wp2
      go_ret
      exact ⟨rfl, below2 _ _ _⟩
    · by_cases h3 : b < d
      · have hz : cmpI N M = -1 := by unfold cmpI; rw [if_neg (fun e => h2 (he.1 e).2), if_pos (hl.2 (.inr ⟨rfl, h3⟩))]
        rw [hz]; clear he hl hz h k
        go_enter Try.func7, Try.ntmps7
        go_wp2
        go_ret
        exact ⟨rfl, below2 _ _ _⟩
      · have hz : cmpI N M = 1 := by unfold cmpI; rw [if_neg (fun e => h2 (he.1 e).2), if_neg (fun e => by have := hl.1 e; omega)]
        rw [hz]; clear he hl hz h k
        go_enter Try.func7, Try.ntmps7
        go_wp2
        go_ret
        exact ⟨rfl, below2 _ _ _⟩
  · by_cases h3 : a < c
    · have hz : cmpI N M = -1 := by unfold cmpI; rw [if_neg (fun e => h1 (he.1 e).1), if_pos (hl.2 (.inl h3))]
      rw [hz]; clear he hl hz h k
      go_enter Try.func7, Try.ntmps7
      go_wp2
      go_ret
      exact ⟨rfl, below2 _ _ _⟩
    · have hz : cmpI N M = 1 := by unfold cmpI; rw [if_neg (fun e => h1 (he.1 e).1), if_neg (fun e => by have := hl.1 e; omega)]
      rw [hz]; clear he hl hz h k
      go_enter Try.func7, Try.ntmps7
      go_wp2
      go_ret
      exact ⟨rfl, below2 _ _ _⟩

set_option maxHeartbeats 400000 in
theorem cut_any (a b : Int) (N : Nat) (width : Int) (w : World) (h : IsV a b N) :
    Calls Try.prog 9 #[.agg #[.int .u64 a, .int .u64 b], .int .i64 width] w fun e w' => ∃ c d : Int, e = .returned (.agg #[.int .u64 c, .int .u64 d]) ∧ IsV c d (cutN N width) ∧ Below w.heap.size w w' := by
  obtain ⟨a, b, rfl, rfl, h⟩ := h
  by_cases h1 : width < 1
  · have hz : cutN N width = 0 := cut_none h1
    rw [hz]; clear hz
    go_enter Try.func9, Try.ntmps9
    go_wp2
    exact bodyPost_ret (v := .agg #[.int .u64 0, .int .u64 0]) (by simp [results, Try.results9, go_sem]) rfl ⟨0, 0, rfl, IsV.zero, below2 _ _ _⟩
  · by_cases h2 : 128 ≤ width
    · have hz := IsV.of (cut_all h h2)
      clear h
      go_enter Try.func9, Try.ntmps9
      go_wp2
      exact bodyPost_ret (v := .agg #[.int .u64 a, .int .u64 b]) (by simp [results, Try.results9, go_sem]) rfl ⟨a, b, rfl, hz, below2 _ _ _⟩
    · by_cases h3 : 64 ≤ width
      · have hz := IsV.of (cut_hi h h3 (by omega))
        have hh := h.ha
        have hw : IntKind.i64.wrap (width - 64) = width - 64 := by rw [IntKind.wrap_i64]; omega
        clear h
        go_enter Try.func9, Try.ntmps9
        go_wp2
        go_region_with (first | (go_at_call 25; refine (low_any _ _ _ hh (by omega) (by omega)).mono ?_; rintro e w' ⟨rfl, rfl⟩))
        all_goals go_wp2
        all_goals exact bodyPost_ret (v := .agg #[.int .u64 ((a % 2 ^ (width - 64).toNat : Nat) : Int), .int .u64 b]) (by simp [results, Try.results9, go_sem]) rfl ⟨_, b, rfl, hz, (below2 _ _ _).drew⟩
      · have hz := IsV.of (cut_lo (width := width) h (by omega) (by omega))
        have hh := h.hb
        have h4 : width ≤ 63 := by omega
        clear h
        go_enter Try.func9, Try.ntmps9
        go_wp2_with (first | (go_at_call 25; refine (low_any b width _ hh (by omega) h4).mono ?_; rintro e w' ⟨rfl, rfl⟩))
        exact bodyPost_ret (v := .agg #[.int .u64 0, .int .u64 ((b % 2 ^ width.toNat : Nat) : Int)]) (by simp [results, Try.results9, go_sem]) rfl ⟨0, _, rfl, hz, (below2 _ _ _)⟩

set_option maxHeartbeats 400000 in
theorem fits_any (a b : Int) (N : Nat) (width : Int) (w : World) (h : IsV a b N) :
    Calls Try.prog 10 #[.agg #[.int .u64 a, .int .u64 b], .int .i64 width] w fun e w' => e = .returned (.bool (fitsB N width)) ∧ Below w.heap.size w w' := by
  by_cases h1 : width < 1
  · have hz : fitsB N width = false := by unfold fitsB; rw [decide_eq_false (by omega)]; rfl
    rw [hz]; clear hz
    have hd : decide (1 ≤ width) = false := by simp; omega
    go_enter Try.func10, Try.ntmps10
    go_wp2
    go_quiet (fail)
    go_wp2
    go_ret
    exact ⟨rfl, below_drewN (below1 _ _) _⟩
  · have h2 : 1 ≤ width := by omega
    have hz : Hid (fitsB N width = decide (cutN N width = N)) := by unfold Hid; rw [fits_cut, decide_eq_true h2]; rfl
    have hC : Hid (∀ w' : World, Below (w.heap.size + 1) (w.alloc (Obj.cells #[Value.int IntKind.u64 a, Value.int IntKind.u64 b] 24)) w' → ((w'.cell? ⟨w.heap.size, 0, none⟩ = some (.int .u64 a) ∧ w'.cell? ⟨w.heap.size, 1, none⟩ = some (.int .u64 b)) ∧ Below (w.heap.size + 1) (w.alloc (Obj.cells #[Value.int IntKind.u64 a, Value.int IntKind.u64 b] 24)) w')) := by
      intro w' hB
      refine ⟨⟨?_, ?_⟩, hB⟩
      · rw [hB.cell (by simp)]; simp [go_sem]
      · rw [hB.cell (by simp)]; simp [go_sem]
    have heq := eqlW
    go_enter Try.func10, Try.ntmps10
    go_wp2
    go_region_held3 (fun w' => (w'.cell? ⟨w.heap.size, 0, none⟩ = some (.int .u64 a) ∧ w'.cell? ⟨w.heap.size, 1, none⟩ = some (.int .u64 b)) ∧ Below (w.heap.size + 1) (w.alloc (Obj.cells #[Value.int IntKind.u64 a, Value.int IntKind.u64 b] 24)) w') (first | exact hC.out _ (Below.refl _ _).drew | exact hC.out _ (keep_call hb (by simp) (by assumption))) (first | (go_at_call 9; refine (cut_any _ _ _ _ _ h).mono ?_; rintro e w1 ⟨c, d, rfl, hcd, hb⟩))
    go_wp2
    go_ret
    refine ⟨?_, ?_⟩
    · rw [hz.out, ← wEq_of hcd h]
      rfl
    · exact below_call (below1 _ _).drew hb
end Go.Proofs.Ytcafmhlnfkgegaa
