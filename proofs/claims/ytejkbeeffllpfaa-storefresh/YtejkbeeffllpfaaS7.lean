import Derived.Test.YtejkbeeffllpfaaS5
namespace Go.Proofs.Ytejkbeeffllpfaa
open Go.RowKit
set_option linter.unusedVariables false
set_option linter.unusedSimpArgs false

set_option maxRecDepth 100000 in
set_option maxHeartbeats 1000000 in
theorem begins_ok (base room n : Nat) (w : World) (h1 : 1 ≤ room ∧ room ≤ 64) (h2 : 1 ≤ n ∧ n ≤ 256) (hb : base ≤ w.heap.size) :
    Calls Try.prog 15 #[.int .i64 (room : Int), .int .i64 (n : Int)] w fun e w' => ∃ (z : Sid) (r : Nat) (M : Nat → Prop), e = .returned (.tuple #[.agg #[.pointer (some ⟨z.s, 0, none⟩), .pointer (some ⟨r, 0, none⟩)], .bool true]) ∧ Pr w' base z r M ∧ (∀ k, M k → w.heap.size ≤ k ∧ k < w'.heap.size) ∧ Below w.heap.size w w' := by
  go_enter Try.func15, Try.ntmps15
  go_upto_region 2 with (first | (go_at_call 6; refine (st_new room n _ h1 h2).mono ?_; rintro e w2 ⟨z, hz1, hz2, rfl, S2, hZ2, B2⟩))
  have HZ1 := hid hz1
  have HZ2 := hid hz2
  have HS2 := hid S2
  have HZB := hid hZ2
  have HB2 := hid B2
  have hs2 : w.heap.size + 1 ≤ w2.heap.size := by have := B2.size; simpa using this
  clear hz1 hz2 S2 hZ2 B2
  go_upto_region 3 with (first | (go_at_call 35; refine (rnew_ok base room n _ h1 h2 (by omega)).mono ?_; rintro e w3 ⟨r, rfl, Q3, hr, B3⟩))
  obtain rfl := hr
  have HQ3 := hid Q3
  have HB3 := hid B3
  have l0 := ((lies_new w #[Value.pointer none, Value.pointer none] 46 0 _ rfl).later HB2.out).later B3
  have l1 := ((lies_new w #[Value.pointer none, Value.pointer none] 46 1 _ rfl).later HB2.out).later B3
  have a1 := l0.1
  have a2 := l0.2
  have b1 := l1.1
  have b2 := l1.2
  have L0 := hid l0
  have L1 := hid l1
  clear Q3 B3 l0 l1
  go_wp2
  obtain ⟨U, hU⟩ : ∃ U, U = ((w3.setCell ⟨w.heap.size, 0, none⟩ (.pointer (some ⟨z.s, 0, none⟩))).setCell ⟨w.heap.size, 1, none⟩ (.pointer (some ⟨w2.heap.size, 0, none⟩))) := ⟨_, rfl⟩
  have e0 : U.cell? ⟨w.heap.size, 0, none⟩ = some (.pointer (some ⟨z.s, 0, none⟩)) := by rw [hU]; exact ((L0.out.put).other (by simp)).1
  have e1 : U.cell? ⟨w.heap.size, 1, none⟩ = some (.pointer (some ⟨w2.heap.size, 0, none⟩)) := by rw [hU]; exact (((L1.out).other (by simp)).put).1
  have hBU : But (· = w.heap.size) w3 U := by rw [hU]; exact ((But.refl (· = w.heap.size) w3).setCell (p := ⟨w.heap.size, 0, none⟩) (show w.heap.size = w.heap.size from rfl) _).setCell (p := ⟨w.heap.size, 1, none⟩) (show w.heap.size = w.heap.size from rfl) _
  have h3 := HB3.out.size
  have h4 := hBU.size
  have hzz : ∀ k, Zb z k → w.heap.size + 1 ≤ k ∧ k < w2.heap.size := fun k hk => by have := HZB.out k hk; simpa using this
  have hlt : w2.heap.size < w3.heap.size := HQ3.out.lt _ (by simp)
  rw [← hU]
  refine bodyPost_ret (v := .tuple #[.agg #[.pointer (some ⟨z.s, 0, none⟩), .pointer (some ⟨w2.heap.size, 0, none⟩)], .bool true]) (by simp [results, Try.results15, go_sem, e0, e1]) rfl ⟨z, w2.heap.size, fun k => w.heap.size < k ∧ k < U.heap.size, rfl, ⟨1, [], fun _ => 0, none, 0, fun k => if k = w2.heap.size then 1 else 0, ⟨(HS2.out.later HB3.out).but hBU (fun k hk e => ?_) (fun k hk => ?_), ?_, fun k hk => ?_⟩, ?_, ?_⟩, ?_, ?_⟩
  · have := hzz k hk; omega
  · obtain ⟨o, ho, _⟩ := hk; cases ho
  · rw [HZ1.out, HZ2.out]
    refine HQ3.out.but hBU (fun k hk e => ?_)
    skip
    split at hk <;> omega
  · skip
    split at hk
    · exact ⟨fun e => by have := hzz k e; omega, fun ⟨o, ho, _⟩ => by cases ho⟩
    · omega
  · rintro k (h | ⟨o, ho, _⟩ | h)
    · have := hzz k h; omega
    · cases ho
    · simp only at h
      split at h <;> omega
  · intro k hk; omega
  · intro k hk; omega
  · exact But.below (below_call (below_call (below1 _ _) HB2.out) HB3.out) hBU (fun k e => by omega)
set_option maxRecDepth 100000 in
set_option maxHeartbeats 1000000 in
theorem begins_bad (room n : Int) (w : World) (h : ¬ ((1 ≤ room ∧ room ≤ 64) ∧ (1 ≤ n ∧ n ≤ 256))) :
    Calls Try.prog 15 #[.int .i64 room, .int .i64 n] w fun e w' => e = .returned (.tuple #[.agg #[.pointer none, .pointer none], .bool true]) ∧ Below w.heap.size w w' := by
  have HH := hid h
  clear h
  go_enter Try.func15, Try.ntmps15
  go_upto_region 3 with (first
    | (go_at_call 6; refine (snew_bad room n _ HH.out).mono ?_; rintro e w2 ⟨rfl, hw⟩; obtain rfl := hw.symm)
    | (go_at_call 35; refine (rnew_bad room n _ HH.out).mono ?_; rintro e w3 ⟨rfl, hw⟩; obtain rfl := hw.symm))
  go_wp2
  have e0 : (w.alloc (.cells #[.pointer none, .pointer none] 46)).cell? ⟨w.heap.size, 0, none⟩ = some (.pointer none) := (lies_new w #[.pointer none, .pointer none] 46 0 _ rfl).1
  have e1 : (w.alloc (.cells #[.pointer none, .pointer none] 46)).cell? ⟨w.heap.size, 1, none⟩ = some (.pointer none) := (lies_new w #[.pointer none, .pointer none] 46 1 _ rfl).1
  exact bodyPost_ret (v := .tuple #[.agg #[.pointer none, .pointer none], .bool true]) (by simp [results, Try.results15, go_sem, e0, e1]) rfl ⟨rfl, below1 _ _⟩
end Go.Proofs.Ytejkbeeffllpfaa
