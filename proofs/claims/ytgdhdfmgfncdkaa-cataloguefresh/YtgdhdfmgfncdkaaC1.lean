import Derived.Test.YtgdhdfmgfncdkaaA1
import Derived.Test.YtgdhdfmgfncdkaaP3
namespace Go.Proofs.Ytgdhdfmgfncdkaa
open Go.RowKit
set_option linter.unusedVariables false

/-- A node in memory. -/
structure Pn (w : World) (b o : Nat) (x : Nd) : Prop where
  c0 : w.cell? ⟨b, o, none⟩ = some (.bool x.th)
  c1 : w.cell? ⟨b, o + 1, none⟩ = some (.int .i64 x.pa)
  c2 : w.cell? ⟨b, o + 2, none⟩ = some (.int .i64 x.fi)
  c3 : w.cell? ⟨b, o + 3, none⟩ = some (.int .i64 x.be)
theorem Pn.but {S : Nat → Prop} {w w' : World} {b o : Nat} {x : Nd} (hb : But S w w') (h : Pn w b o x) (hn : ¬ S b) : Pn w' b o x :=
  ⟨cell_but hb h.c0 hn, cell_but hb h.c1 hn, cell_but hb h.c2 hn, cell_but hb h.c3 hn⟩
/-- The forest in memory. -/
structure Tm (w : World) (g gb m : Nat) (N : List Nd) : Prop where
  a0 : w.cell? ⟨g, 0, none⟩ = some (.slice (some ⟨gb, 0, none⟩) m m)
  fr : ∀ j, w.frozen? ⟨gb, j, none⟩ = false
  at_ : ∀ (i : Nat) (x : Nd), N[i]? = some x → Pn w gb (i * 4) x
  ne : g ≠ gb
  lt2 : gb < w.heap.size
  len : N.length = m
  big : m ≤ 1024
theorem Tm.lt {w : World} {g gb m : Nat} {N : List Nd} (h : Tm w g gb m N) : g < w.heap.size := World.block_lt_of_cell? _ _ h.a0
theorem Tm.but {S : Nat → Prop} {w w' : World} {g gb m : Nat} {N : List Nd} (hb : But S w w') (h : Tm w g gb m N) (h1 : ¬ S g) (h2 : ¬ S gb) : Tm w' g gb m N :=
  ⟨cell_but hb h.a0 h1, fun j => by rw [World.frozen?_of_block (w := w) (hb.block gb h.lt2 h2)]; exact h.fr j, fun i p hp => (h.at_ i p hp).but hb h2, h.ne, Nat.lt_of_lt_of_le h.lt2 hb.size, h.len, h.big⟩
theorem Tm.later {w w' : World} {g gb m : Nat} {N : List Nd} (hb : Below w.heap.size w w') (h : Tm w g gb m N) : Tm w' g gb m N := h.but (S := fun _ => False) (But.of hb) (fun h => h) (fun h => h)
theorem cell_ne {w : World} {b o o' : Nat} {u v : Value} (h : w.cell? ⟨b, o, none⟩ = some v) (hne : o ≠ o') : (w.setCell ⟨b, o', none⟩ u).cell? ⟨b, o, none⟩ = some v := by
  rw [World.cell?_setCell_other _ _ _ _ (fun e => hne (by cases e; rfl))]; exact h
theorem cell_nb {w : World} {b b' o o' : Nat} {u v : Value} (h : w.cell? ⟨b, o, none⟩ = some v) (hne : b ≠ b') : (w.setCell ⟨b', o', none⟩ u).cell? ⟨b, o, none⟩ = some v := by
  rw [World.cell?_setCell_other _ _ _ _ (fun e => hne (by cases e; rfl))]; exact h

set_option maxRecDepth 100000 in
set_option maxHeartbeats 1000000 in
theorem at_ok {w : World} {g gb m : Nat} {N : List Nd} (h : Tm w g gb m N) (n : Nat) (hn : n < m) :
    Calls Try.prog 64 #[.pointer (some ⟨g, 0, none⟩), .int .i64 (n : Int)] w fun e w' => e = .returned (.pointer (some ⟨gb, n * 4, none⟩)) ∧ w' = w := by
  have x := h.a0
  have hb := h.big
  clear h
  have h1 : ¬ (n : Int) < 0 := by omega
  have h2 : ¬ (m : Int) ≤ (n : Int) := by omega
  go_enter Try.func64, Try.ntmps64
  go_wp2
  go_ret
  exact ⟨by simp, rfl⟩
set_option maxRecDepth 100000 in
set_option maxHeartbeats 1000000 in
theorem at_bad {w : World} {g gb m : Nat} {N : List Nd} (h : Tm w g gb m N) (n : Int) (hn : n < 0 ∨ (m : Int) ≤ n) :
    Calls Try.prog 64 #[.pointer (some ⟨g, 0, none⟩), .int .i64 n] w fun e w' => e = .returned (.pointer none) ∧ w' = w := by
  have x := h.a0
  have hb := h.big
  clear h
  by_cases h1 : n < 0
  · clear hn
    go_enter Try.func64, Try.ntmps64
    go_wp2
    go_ret
    exact ⟨rfl, rfl⟩
  · have h2 : (m : Int) ≤ n := by omega
    clear hn
    go_enter Try.func64, Try.ntmps64
    go_wp2
    go_ret
    exact ⟨rfl, rfl⟩
/-- The program's forest: which nodes there are. -/
def Ki (w : World) (g gb m : Nat) (l : Fo) : Prop := ∃ N, Tm w g gb m N ∧ Rep m l N
theorem Ki.later {w w' : World} {g gb m : Nat} {l : Fo} (hb : Below w.heap.size w w') (h : Ki w g gb m l) : Ki w' g gb m l := by
  obtain ⟨N, h1, h2⟩ := h
  exact ⟨N, h1.later hb, h2⟩
theorem Ki.but {S : Nat → Prop} {w w' : World} {g gb m : Nat} {l : Fo} (hb : But S w w') (h : Ki w g gb m l) (hg : ¬ S g) (hgb : ¬ S gb) : Ki w' g gb m l := by
  obtain ⟨N, h1, h2⟩ := h
  exact ⟨N, h1.but hb hg hgb, h2⟩
theorem Ki.ok {w : World} {g gb m : Nat} {l : Fo} (h : Ki w g gb m l) : Ok m l := by
  obtain ⟨N, h1, h2⟩ := h
  exact h2.ok
set_option maxRecDepth 100000 in
set_option maxHeartbeats 1000000 in
theorem has_any {w : World} {g gb m : Nat} {l : Fo} (h : Ki w g gb m l) (n : Int) :
    Calls Try.prog 47 #[.pointer (some ⟨g, 0, none⟩), .int .i64 n] w fun e w' => e = .returned (.bool (decide (n ∈ nums l))) ∧ w' = w := by
  obtain ⟨N, hT, hR⟩ := h
  by_cases hn : n < 0 ∨ (m : Int) ≤ n
  · have hf : decide (n ∈ nums l) = false := decide_eq_false (fun hk => by have := hR.ok.range n hk; omega)
    rw [hf]
    have hc := at_bad hT n hn
    clear hT hR hn
    go_enter Try.func47, Try.ntmps47
    go_wp2_with (go_at_call 64; refine hc.mono ?_; rintro e w1 ⟨rfl, rfl⟩)
    go_ret
    exact ⟨rfl, rfl⟩
  · obtain ⟨k, rfl⟩ : ∃ k : Nat, n = (k : Int) := ⟨n.toNat, by omega⟩
    obtain ⟨x, hx⟩ := get_some (L := N) (i := k) (by rw [hT.len]; omega)
    rw [← hR.there hx]
    have hc := at_ok hT k (by omega)
    have c0 := (hT.at_ k x hx).c0
    clear hT hR hn
    go_enter Try.func47, Try.ntmps47
    go_wp2_with (go_at_call 64; refine hc.mono ?_; rintro e w1 ⟨rfl, rfl⟩)
    go_ret
    exact ⟨rfl, rfl⟩
end Go.Proofs.Ytgdhdfmgfncdkaa
