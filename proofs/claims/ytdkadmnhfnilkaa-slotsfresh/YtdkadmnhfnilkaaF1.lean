import Derived.Test.YtdkadmnhfnilkaaR5
namespace Go.Proofs.Ytdkadmnhfnilkaa
open Go.RowKit
set_option linter.unusedVariables false
set_option linter.unusedSimpArgs false

/-- The mark of list k. -/
def mrk (k : Nat) : Cp := (-1 - (k : Int), 0, 0)
/-- A capability is written. -/
def setC (w : World) (b o : Nat) (c : Cp) : World := ((w.setCell ⟨b, o, none⟩ (.int .i64 c.1)).setCell ⟨b, o + 1, none⟩ (.int .u64 (c.2.1 : Int))).setCell ⟨b, o + 2, none⟩ (.int .u64 (c.2.2 : Int))
theorem cell_ne' {w : World} {b o o' : Nat} {u v : Value} (h : w.cell? ⟨b, o, none⟩ = some v) (hne : o ≠ o') : (w.setCell ⟨b, o', none⟩ u).cell? ⟨b, o, none⟩ = some v := by
  rw [World.cell?_setCell_other _ _ _ _ (fun e => hne (by cases e; rfl))]; exact h
theorem setC_but {S : Nat → Prop} {a w : World} (h : But S a w) {b : Nat} (hb : S b) (o : Nat) (c : Cp) : But S a (setC w b o c) :=
  ((h.setCell (p := ⟨b, o, none⟩) hb _).setCell (p := ⟨b, o + 1, none⟩) hb _).setCell (p := ⟨b, o + 2, none⟩) hb _
theorem Cel.set {w : World} {b o : Nat} {d : Cp} (h : Cel w b o d) (c : Cp) : Cel (setC w b o c) b o c := by
  have s0 := World.cell?_setCell_same w ⟨b, o, none⟩ (.int .i64 c.1) h.c0
  have s1 := World.cell?_setCell_same (w.setCell ⟨b, o, none⟩ (.int .i64 c.1)) ⟨b, o + 1, none⟩ (.int .u64 (c.2.1 : Int)) (cell_ne' h.c1 (by omega))
  unfold setC
  exact ⟨cell_ne' (cell_ne' s0 (by omega)) (by omega), cell_ne' s1 (by omega), World.cell?_setCell_same _ _ _ (cell_ne' (cell_ne' h.c2 (by omega)) (by omega))⟩
theorem Cel.off {w : World} {b o o' : Nat} {d : Cp} (h : Cel w b o d) (c : Cp) (hne : o' + 3 ≤ o ∨ o + 3 ≤ o') : Cel (setC w b o' c) b o d := by
  unfold setC
  exact ⟨cell_ne' (cell_ne' (cell_ne' h.c0 (by omega)) (by omega)) (by omega), cell_ne' (cell_ne' (cell_ne' h.c1 (by omega)) (by omega)) (by omega), cell_ne' (cell_ne' (cell_ne' h.c2 (by omega)) (by omega)) (by omega)⟩
theorem Ca.set {w : World} {b : Nat} {K : List Cp} (h : Ca w b K) {i : Nat} (hi : i < K.length) (c : Cp) : Ca (setC w b (i * 3) c) b (K.set i c) := by
  refine ⟨by unfold setC; simpa using h.lt, fun j => by have := h.fr j; unfold setC; simpa using this, fun j x hx => ?_⟩
  rw [List.getElem?_set] at hx
  split at hx
  · next e =>
    subst e
    cases hx
    exact (h.at_ i _ (List.getElem?_eq_getElem hi)).set _
  · next e => exact (h.at_ j x hx).off _ (by omega)
/-- Onto a list that has no room. -/
theorem append_full_c {w : World} {p : Addr} {n : Nat} {L : List Value} {x : Addr} {m c : Nat} {M : List Value} (h : Cr w 3 (some p) n n L) (k : Cr w 3 (some x) m c M) (hm : 0 < m) (hr : (n + m) * 24 ≤ 140737488355328) :
    ∃ g' cap' w', (Builtin.append_ #[43, 43] 43 #[.slice (some p) n n, .slice (some x) m c]).run Try.prog w = .ok (.slice (some ⟨g', 0, none⟩) (n + m) cap') w' ∧ w'.ownsRow w.heap.size 34 3 (.slice (some ⟨g', 0, none⟩) (n + m) cap') (n + m) (L ++ M) ∧ Below w.heap.size w w' := by
  obtain ⟨i, hi, hz0, hz1, hz2⟩ := info_parts info34
  have hl := h.len
  have hlm := k.len
  have hrun := run_append_grow (P := Try.prog) w 43 43 34 i _ Try.underlying43 hi hz0 p n n L (by rw [hz1]; exact hl) (h.cells p rfl) x m c M (by rw [hz1]; exact hlm) (k.cells x rfl) (by omega) (by omega) (growslice_fits (by omega) (by rw [hz2]; omega))
  refine ⟨_, _, _, hrun, ⟨by simp [hl, hlm]; omega, .inr ⟨w.heap.size, _, _, rfl, Nat.le_refl _, heap_alloc_new w.drew _, grownCap_ge _ _ _ _, grownCap_le_maxLen _ _ _ _ (by unfold maxLen; omega), ?_, ?_⟩⟩, ((Below.refl _ _).drew).alloc (by simp) _⟩
  · have := grownCap_ge w (n + m) n 34
    simp only [Array.size_append, List.size_toArray, size_zeroCells, hl, hlm, Value.cells, List.length]
    simp
    omega
  · rw [Array.toList_append, Array.toList_append]
    exact List.take_left' (by simp [hl, hlm]; omega)
theorem Ca.cr {w : World} {b : Nat} {K : List Cp} (h : Ca w b K) {n : Nat} (hn : K.length = n) : Cr w 3 (some ⟨b, 0, none⟩) n n (caps K) :=
  ⟨by rw [caps_length, hn], fun e => (by cases e), fun x hx j u hu => by
    cases hx
    rw [addr_add0]
    exact h.cells j u hu, caps_one _⟩
theorem info43 : (Try.prog.info? 43).map (fun i => (i.zero, i.size, i.bytes)) = some (some (.slice none 0 0), 1, 24) := by kernel_rfl
theorem caps_rep (k n : Nat) : caps (List.replicate n (mrk k)) ++ caps [mrk k] = caps (List.replicate (n + 1) (mrk k)) := by
  rw [← caps_append, ← List.replicate_succ']
end Go.Proofs.Ytdkadmnhfnilkaa
