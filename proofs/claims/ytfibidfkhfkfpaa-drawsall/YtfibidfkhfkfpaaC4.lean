import Derived.Test.YtfibidfkhfkfpaaC3
namespace Go.Proofs.Ytfibidfkhfkfpaa
open Go.RowKit
set_option linter.unusedVariables false

theorem But.own {a w : World} {g : Nat} (h : But (· = g) a w) (o : Nat) (u : Value) : But (· = g) a (w.setCell ⟨g, o, none⟩ u) := h.setCell (p := ⟨g, o, none⟩) (show g = g from rfl) u
theorem Dr.drewN {w : World} {g gb n : Nat} {c : Nat → Nat} {t : Nat} (h : Dr w g gb n c t) (k : Nat) : Dr (w.drewN k) g gb n c t := h.later (below_drewN (Below.refl _ _) _)
theorem Dr.fresh {w : World} {g gb n : Nat} {c : Nat → Nat} {t : Nat} (h : Dr w g gb n c t) {b : Nat} (h1 : g ≠ b) (h2 : gb ≠ b) (o : Nat) (u : Value) : Dr (w.setCell ⟨b, o, none⟩ u) g gb n c t :=
  h.but (S := (· = b)) ((But.refl (· = b) _).own _ _) h1 h2
set_option maxRecDepth 100000 in
set_option maxHeartbeats 1000000 in
theorem taken_any (g gb n : Nat) (c : Nat → Nat) (t : Nat) (w : World) (h : Dr w g gb n c t) :
    Calls Try.prog 9 #[.pointer (some ⟨g, 0, none⟩)] w fun e w' => e = .returned (.int .i64 (t : Int)) ∧ w' = w := by
  have x := h.tk.1
  go_enter Try.func9, Try.ntmps9
  go_wp2
  go_ret
  exact ⟨rfl, rfl⟩
set_option maxRecDepth 100000 in
set_option maxHeartbeats 1000000 in
theorem left_any (g gb n : Nat) (c : Nat → Nat) (t : Nat) (w : World) (h : Dr w g gb n c t) :
    Calls Try.prog 10 #[.pointer (some ⟨g, 0, none⟩)] w fun e w' => e = .returned (.int .i64 ((n - t : Nat) : Int)) ∧ Below w.heap.size w w' := by
  have x := h.tk.1
  have y := h.all
  have hn := h.big
  have hle := h.le
  clear h
  by_cases ht : t < n
  · go_enter Try.func10, Try.ntmps10
    go_wp2
    go_quiet (first | (go_at_call 16; refine Calls.quiet_of_same (behind_more gb n t _ ht hn)))
    go_wp2
    go_ret
    exact ⟨rfl, below_drewN (Below.refl _ _) _⟩
  · obtain rfl : t = n := by omega
    obtain ⟨x0, hx0⟩ : ∃ x0, ∀ w : World, Calls Try.prog 16 #[.slice (some ⟨gb, 0, none⟩) t t, .int .i64 (t : Int)] w fun e w' => e = .returned (.slice x0 0 0) ∧ w' = w := behind_end gb t hn
    rw [Nat.sub_self]
    go_enter Try.func10, Try.ntmps10
    go_wp2
    go_quiet (first | (go_at_call 16; refine Calls.quiet_of_same (hx0 _)))
    go_wp2
    go_ret
    exact ⟨rfl, below_drewN (Below.refl _ _) _⟩
set_option maxRecDepth 100000 in
set_option maxHeartbeats 1000000 in
theorem skip_ok (g gb n : Nat) (c : Nat → Nat) (t : Nat) (k : Nat) (w : World) (h : Dr w g gb n c t) (hk : k ≤ n) :
    Calls Try.prog 12 #[.pointer (some ⟨g, 0, none⟩), .int .i64 (k : Int)] w fun e w' => e = .returned (.int .i64 0) ∧ Dr w' g gb n c k ∧ But (· = g) w w' := by
  have x := h.tk.1
  have x2 := h.tk.2
  have y := h.all
  have hd : decide (0 ≤ (k : Int) ∧ (k : Int) ≤ (n : Int)) = true := decide_eq_true (by omega)
  have H : Hid (Dr w g gb n c t) := h
  clear h
  go_enter Try.func12, Try.ntmps12
  go_wp2_with (first | (go_at_call 17; refine (splits_any _ _ _ _ _).mono ?_; rintro e w1 ⟨rfl, rfl⟩; rw [hd]))
  go_ret
  exact ⟨rfl, H.out.put hk, (But.refl (· = g) _).own _ _⟩
set_option maxRecDepth 100000 in
set_option maxHeartbeats 1000000 in
theorem skip_bad (g gb n : Nat) (c : Nat → Nat) (t : Nat) (k : Int) (w : World) (h : Dr w g gb n c t) (hk : ¬ (0 ≤ k ∧ k ≤ (n : Int))) :
    Calls Try.prog 12 #[.pointer (some ⟨g, 0, none⟩), .int .i64 k] w fun e w' => e = .returned (.int .i64 5) ∧ w' = w := by
  have y := h.all
  have hd : decide (0 ≤ k ∧ k ≤ (n : Int)) = false := decide_eq_false hk
  clear h hk
  go_enter Try.func12, Try.ntmps12
  go_wp2_with (first | (go_at_call 17; refine (splits_any _ _ _ _ _).mono ?_; rintro e w1 ⟨rfl, rfl⟩; rw [hd]))
  go_ret
  exact ⟨rfl, rfl⟩
set_option maxRecDepth 100000 in
set_option maxHeartbeats 1000000 in
theorem draw_more (g gb n : Nat) (c : Nat → Nat) (t : Nat) (w : World) (h : Dr w g gb n c t) (ht : t < n) :
    Calls Try.prog 8 #[.pointer (some ⟨g, 0, none⟩)] w fun e w' => e = .returned (.tuple #[.agg #[.int .u64 (hiI (c t)), .int .u64 (loI (c t))], .int .i64 0]) ∧ Dr w' g gb n c (t + 1) ∧ But (· = g) w w' := by
  have x := (h.alloc (.cells #[.int .u64 0, .int .u64 0] 25)).tk.1
  have x2 := (h.alloc (.cells #[.int .u64 0, .int .u64 0] 25)).tk.2
  have y := (h.alloc (.cells #[.int .u64 0, .int .u64 0] 25)).all
  obtain ⟨q0, q1⟩ := (h.alloc (.cells #[.int .u64 0, .int .u64 0] 25)).ar t ht
  have hn := h.big
  have hlt := h.lt
  have hne := h.ne
  have H : Hid (Dr w g gb n c t) := h
  clear h
  go_enter Try.func8, Try.ntmps8
  go_wp2
  go_quiet (first | (go_at_call 16; refine Calls.quiet_of_same (behind_more gb n t _ ht hn)))
  go_wp2
  have hgb : gb < w.heap.size := World.block_lt_of_cell? _ _ ((H.out.ar t ht).1)
  have hD := ((((H.out.alloc (Obj.cells #[Value.int IntKind.u64 0, Value.int IntKind.u64 0] 25)).drewN nq).put (t' := t + 1) (by omega)).fresh (b := w.heap.size) (by omega) (by omega) 0 (.int .u64 (hiI (c t)))).fresh (b := w.heap.size) (by omega) (by omega) 1 (.int .u64 (loI (c t)))
  have hB : But (· = g) w ((((((w.alloc (Obj.cells #[Value.int IntKind.u64 0, Value.int IntKind.u64 0] 25)).drewN nq).setCell ⟨g, 1, none⟩ (.int .i64 ((t + 1 : Nat) : Int))).setCell ⟨w.heap.size, 0, none⟩ (.int .u64 (hiI (c t)))).setCell ⟨w.heap.size, 1, none⟩ (.int .u64 (loI (c t))))) :=
    ((((But.of (S := (· = g)) (below_drewN (below1 _ _) _)).own _ _).put (p := ⟨w.heap.size, 0, none⟩) (Nat.le_refl _) _).put (p := ⟨w.heap.size, 1, none⟩) (Nat.le_refl _) _)
  rw [Int.natCast_succ] at hD hB
  refine bodyPost_ret (v := .tuple #[.agg #[.int .u64 (hiI (c t)), .int .u64 (loI (c t))], .int .i64 0]) ?_ rfl ⟨rfl, hD, hB⟩
  simp [results, Try.results8, go_sem]
set_option maxRecDepth 100000 in
set_option maxHeartbeats 1000000 in
theorem draw_end (g gb n : Nat) (c : Nat → Nat) (w : World) (h : Dr w g gb n c n) :
    Calls Try.prog 8 #[.pointer (some ⟨g, 0, none⟩)] w fun e w' => e = .returned (.tuple #[.agg #[.int .u64 0, .int .u64 0], .int .i64 11]) ∧ Below w.heap.size w w' := by
  have x := (h.alloc (.cells #[.int .u64 0, .int .u64 0] 25)).tk.1
  have y := (h.alloc (.cells #[.int .u64 0, .int .u64 0] 25)).all
  have hn := h.big
  clear h
  obtain ⟨x0, hx0⟩ : ∃ x0, ∀ w : World, Calls Try.prog 16 #[.slice (some ⟨gb, 0, none⟩) n n, .int .i64 (n : Int)] w fun e w' => e = .returned (.slice x0 0 0) ∧ w' = w := behind_end gb n hn
  go_enter Try.func8, Try.ntmps8
  go_wp2
  go_quiet (first | (go_at_call 16; refine Calls.quiet_of_same (hx0 _)))
  go_wp2
  exact bodyPost_ret (v := .tuple #[.agg #[.int .u64 0, .int .u64 0], .int .i64 11]) (by simp [results, Try.results8, go_sem]) rfl ⟨rfl, (((below_drewN (below1 _ _) _).setCell (Nat.le_refl _) _).setCell (Nat.le_refl _) _)⟩
end Go.Proofs.Ytfibidfkhfkfpaa
