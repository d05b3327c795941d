import Derived.Test.YtpajmpfdaihehaaB4
namespace Go.Proofs.Ytpajmpfdaihehaa
open Go.RowKit Go.Shelf
set_option linter.unusedVariables false
attribute [local go_sem] Oper.semAt_some

theorem lies_from {β : Type} (B : Nat) (p : Addr) (v : β → Value) : OwnFrom B (fun s W => Lies W p (v s)) := fun s W W' row hs hg hr =>
  ⟨cell_kept hs.1 hg (fun r e => (hr r e).2), (frozen_kept hs.1 hg (fun r e => (hr r e).2)).trans hs.2⟩
theorem Lies.deferred {W : World} {p : Addr} {v : Value} {D : Nat} (h : Lies W p v) (hK : W.heap[D]? = some (.deferred (some []))) : Lies (W.putObj D (.deferred none)) p v :=
  ⟨cell_kept h.1 (grownBy_putObj' _ D (.deferred none)) (fun r e => by cases e; exact ⟨_, hK, rfl⟩), (frozen_kept h.1 (grownBy_putObj' _ D (.deferred none)) (fun r e => by cases e; exact ⟨_, hK, rfl⟩)).trans h.2⟩
theorem lies_new (w : World) (v : Value) (t : TypeId) : Lies (w.alloc (Obj.cells #[v] t)) ⟨w.heap.size, 0, none⟩ v := ⟨by simp [go_sem], by simp [go_sem]⟩
/-- What holds of a result in a cell. -/
theorem below_deferred {w W : World} {D : Nat} (hB : Below w.heap.size w W) (hD : w.heap.size ≤ D) (hK : W.heap[D]? = some (.deferred (some []))) : Below w.heap.size w (W.putObj D (.deferred none)) :=
  hB.trans (belowK_b (w := w) (Nat.le_refl _) W D _ _ hD hK rfl rfl)
set_option maxRecDepth 100000 in
set_option maxHeartbeats 1000000 in
theorem under_any {w : World} {g gb m : Nat} {l : Fo} (h : Ki w g gb m l) (a n : Int) :
    Calls Try.prog 15 #[.pointer (some ⟨g, 0, none⟩), .int .i64 a, .int .i64 n] w fun e w' => e = .returned (.bool (decide (a ∈ U l n))) ∧ Below w.heap.size w w' := by
  have HK := hid h
  clear h
  show Calls Try.prog 15 _ _ fun e w' => e = .returned (.bool (decide (a ∈ tells false l n))) ∧ _
  refine (callsIn_wide (n := 3)).1 ?_
  refine callsIn_of_wp_marks Try.func15 rfl trivial ?_ rfl
  simp only [Try.ntmps15, List.size_toArray, List.length_cons, List.length_nil, Nat.reduceAdd, Nat.reduceSub, Array.replicate_succ, Array.replicate_zero, List.push_toArray, List.append_toArray, List.nil_append, List.cons_append]
  have hmk := hid (make_any false g n)
  change Hid (∀ w, Calls Try.prog 19 _ w _) at hmk
  gi_wp2_with (refine ⟨trivial, ?_⟩; gi_at_call 19; refine (callsIn_wide.2 (hmk.out _)).mono ?_; rintro e w1 ⟨b0, rfl, hS, hB⟩; have HS := hid hS; have HB := hid hB; clear hS hB)
  have hB0 : Below w.heap.size w w1 := (below2 _ _ _).trans (HB.out.mono (by simp; omega))
  have c0 := (lies_new w (.int .i64 a) 3).later (below1 _ (Obj.cells #[.bool false] 4)) |>.later HB.out
  have c1 := (lies_new (w.alloc (Obj.cells #[.int .i64 a] 3)) (.bool false) 4).later HB.out
  rw [World.size_alloc] at c1
  have hK1 := HK.out.later hB0
  have hsz := hB0.size
  have hsz2 : w.heap.size + 2 ≤ w1.heap.size := by have := HB.out.size; simp at this; omega
  refine range_any false (by omega) rfl HS.out hK1 (fun _ _ => False) (fun _ _ _ h => h.elim) (fun _ _ _ _ _ _ _ _ h => h) rfl
    (fun pre W => ((a ∉ pre ∧ Lies W ⟨w.heap.size, 0, none⟩ (.int .i64 a)) ∧ Lies W ⟨w.heap.size + 1, 0, none⟩ (.bool false)) ∧ Below w.heap.size w W)
    (fun c pre W => ((c = .ret ∧ a ∈ pre) ∧ Lies W ⟨w.heap.size + 1, 0, none⟩ (.bool true)) ∧ Below w.heap.size w W)
    (OwnFrom.and (OwnFrom.and (OwnFrom.and (ownFrom_pure _ _) (lies_from _ _ _)) (lies_from _ _ _)) (ownFrom_below (Nat.le_refl _) hsz))
    (fun c => OwnFrom.and (OwnFrom.and (ownFrom_pure _ _) (lies_from _ _ _)) (ownFrom_below (Nat.le_refl _) hsz))
    ⟨⟨⟨by simp, c0⟩, c1⟩, hB0⟩
    (fun x => { tmps := #[.pointer (some ⟨g, 0, none⟩), .int .i64 a, .int .i64 n, undef, .pointer (some ⟨w.heap.size, 0, none⟩), undef, .pointer (some ⟨w.heap.size + 1, 0, none⟩), .int .i64 x, .pointer (some ⟨g, 0, none⟩), .int .i64 n, .func (.func 51) #[] #[.pointer (some ⟨b0, 0, none⟩)], .int .i64 x, undef, undef, undef], defers := [] }) ?assign ?body ?done ?stop
  case assign =>
    intro L x W K hK
    gi_wp2
    exact hK
  case body =>
    rintro L pre x W ⟨⟨⟨hp, hcw⟩, hcr⟩, hB⟩ _
    have hw1 := hcw.1
    have hr1 := hcr.1
    have hr2 := hcr.2
    gi_wp2
    · rename_i hx
      obtain rfl : x = a := eq_of_beq hx
      exact ⟨(KeepsOthers.setCell _ _ _).from _, ⟨⟨rfl, by simp⟩, hcr.put⟩, hB.setCell (p := ⟨w.heap.size + 1, 0, none⟩) (by simp) _⟩
    · rename_i hx
      exact ⟨KeepsFrom.refl _ _, ⟨Nat.le_refl _, fun _ _ h _ _ => h, fun _ h => .inl h⟩, ⟨⟨fun hy => (List.mem_append.1 hy).elim hp (fun e => by simp at e; subst e; simp at hx), hcw⟩, hcr⟩, hB⟩
  case done =>
    rintro D W hD ⟨⟨⟨hne, hcw⟩, hcr⟩, hB⟩ hK
    have hr1 := hcr.1
    have hr2 := hcr.2
    gi_wp2
    have hK' := (KeepsOthers.setCell W ⟨w.heap.size + 1, 0, none⟩ (.bool false)).same D _ hK rfl
    refine ⟨by simp, .inl ⟨_, _, rfl, run_takeDeferred hK', ?_⟩⟩
    have hc5 := ((hcr.put (u := .bool false)).deferred hK').1
    refine ⟨.bool false, ?_, by rw [decide_eq_false hne], below_deferred (hB.setCell (p := ⟨w.heap.size + 1, 0, none⟩) (by simp) _) (by omega) hK'⟩
    simp [results, Try.f15, go_sem, hc5]
  case stop =>
    rintro D c pre W hD hpre ⟨⟨⟨rfl, hin⟩, hcr⟩, hB⟩ hK
    gi_wp2
    refine ⟨by simp, .inl ⟨_, _, rfl, run_takeDeferred hK, ?_⟩⟩
    have hc5 := (hcr.deferred hK).1
    refine ⟨.bool true, ?_, by rw [decide_eq_true (hpre.subset hin)], below_deferred hB (by omega) hK⟩
    simp [results, Try.f15, go_sem, hc5]
set_option maxRecDepth 100000 in
set_option maxHeartbeats 1000000 in
theorem fall_any {w : World} {g gb m : Nat} {l : Fo} (h : Ki w g gb m l) (n : Int) :
    Calls Try.prog 10 #[.pointer (some ⟨g, 0, none⟩), .int .i64 n] w fun e w' => ∃ a k cap, e = .returned (.slice a k cap) ∧ Own w' w.heap.size 3 a k cap (ints (Fl l n)) ∧ Below w.heap.size w w' := by
  have hc := hid (subtree_any h n false)
  have hl := Nat.le_trans (G_len h.ok false n) h.big
  unfold Fl
  generalize G false l n = X at hc hl ⊢
  clear h
  go_enter Try.func10, Try.ntmps10
  go_wp2_with (first | (go_at_call 34; refine hc.out.mono ?_; rintro e w1 ⟨a, k, cap, rfl, hO, hB⟩; have hlk := hO.len; rw [ints_length] at hlk; have HO := hid hO; have HB := hid hB; clear hO hB) | (go_at_call 35; refine (rev_any HO.out (by omega)).mono ?_; rintro e w2 ⟨⟨v, rfl⟩, hO2, hB2⟩; have HO2 := hid hO2; have HB2 := hid (But.below HB.out hB2 HO.out.blk); clear hO2 hB2))
  go_ret
  exact ⟨a, k, cap, rfl, HO2.out, HB2.out⟩
end Go.Proofs.Ytpajmpfdaihehaa
