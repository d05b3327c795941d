import Derived.Test.YthlojdclncikiaaB3
namespace Go.Proofs.Ythlojdclncikiaa
open Go.RowKit
set_option linter.unusedVariables false
variable {w w' : World} {g s n k : Nat} {R : Nat → List Pl} {e hi mi : Int}

theorem cast_mod (x N : Nat) (hx : x < B64) (hN : 0 < N) (hb : N ≤ 16) : IntKind.i64.wrap ((x : Int) % (N : Int)) = ((x % N : Nat) : Int) := by
  have : x % N < N := Nat.mod_lt _ hN
  rw [IntKind.wrap_i64]
  omega
/-- A capability's two halves of a word. -/
def okC (c : Cp) : Prop := c.2.1 < B64 ∧ c.2.2 < B64
/-- Which set a capability has. -/
def rowN (k s : Nat) (c : Cp) : Nat := lowN (hashN (objN c.1) c.2.1 c.2.2) (k : Int) % s
theorem rowN_lt {k s : Nat} (c : Cp) (h : 0 < s) : rowN k s c < s := Nat.mod_lt _ h
set_option maxRecDepth 100000 in
set_option maxHeartbeats 1000000 in
theorem row_any (h : Ca w g s n k R e hi mi) (c : Cp) (hc : okC c) (hs : 0 < s) :
    Calls Try.prog 20 #[.pointer (some ⟨g, 0, none⟩), .agg #[.int .i64 c.1, .int .u64 (c.2.1 : Int), .int .u64 (c.2.2 : Int)]] w fun e w' => e = .returned (.int .i64 (rowN k s c : Int)) ∧ Below w.heap.size w w' := by
  obtain ⟨o, hi, lo⟩ := c
  obtain ⟨h1, h2⟩ := hc
  obtain ⟨w1, hw1⟩ : ∃ w1, w1 = w.alloc (Obj.cells #[.int .i64 o, .int .u64 (hi : Int), .int .u64 (lo : Int)] 34) := ⟨_, rfl⟩
  have hB1 : Below w.heap.size w w1 := by rw [hw1]; exact below1 _ _
  have hh := h.later hB1
  have hC : Hid (∀ U : World, Below w1.heap.size w1 U → (U.cell? ⟨w.heap.size, 0, none⟩ = some (.int .i64 o) ∧ U.cell? ⟨w.heap.size, 1, none⟩ = some (.int .u64 (hi : Int)) ∧ U.cell? ⟨w.heap.size, 2, none⟩ = some (.int .u64 (lo : Int)) ∧ U.cell? ⟨g, 0, none⟩ = some (.int .i64 (s : Int)) ∧ U.cell? ⟨g, 2, none⟩ = some (.int .i64 (k : Int))) ∧ Below w1.heap.size w1 U) := fun U hU =>
    ⟨⟨cell_later hU (by rw [hw1]; simp [go_sem]), cell_later hU (by rw [hw1]; simp [go_sem]), cell_later hU (by rw [hw1]; simp [go_sem]), cell_later hU hh.c0, cell_later hU hh.c2⟩, hU⟩
  have hls := h.ls
  have HX : Hid (lowN (hashN (objN o) hi lo) (k : Int) < B64) := lowN_lt _ (hashN_lt _ _ _)
  have HM : Hid (rowN k s (o, hi, lo) = lowN (hashN (objN o) hi lo) (k : Int) % s) := rfl
  have hH := fun W => hash_any o hi lo (k : Int) W h1 h2
  generalize lowN (hashN (objN o) hi lo) (k : Int) = x at HX HM hH
  have HR := hid (cast_mod x s HX.out hs hls)
  have hu : IntKind.u64.wrap (s : Int) = (s : Int) := by rw [IntKind.wrap_u64]; omega
  have hz : ¬ s = 0 := by omega
  clear h hh
  go_enter Try.func20, Try.ntmps20
  go_wp2
  rw [← hw1]
  have HB1 := hid hB1
  clear hw1 hB1
  go_region_held3 (fun U => (U.cell? ⟨w.heap.size, 0, none⟩ = some (.int .i64 o) ∧ U.cell? ⟨w.heap.size, 1, none⟩ = some (.int .u64 (hi : Int)) ∧ U.cell? ⟨w.heap.size, 2, none⟩ = some (.int .u64 (lo : Int)) ∧ U.cell? ⟨g, 0, none⟩ = some (.int .i64 (s : Int)) ∧ U.cell? ⟨g, 2, none⟩ = some (.int .i64 (k : Int))) ∧ Below w1.heap.size w1 U) (first | exact hC.out _ (Below.refl _ _).drew | exact hC.out _ hb2.out) (first | (go_at_call 26; refine (hH _).mono ?_; rintro e w2 ⟨rfl, hb2'⟩; have hb2 := hid (below_call (Below.refl w1.heap.size w1).drew hb2')))
  go_wp2
  go_ret
  exact ⟨ret_int (by rw [HM.out]; exact HR.out), below_call HB1.out (And.right (by assumption))⟩
set_option maxRecDepth 100000 in
theorem epoch_any (h : Ca w g s n k R e hi mi) : Calls Try.prog 11 #[.pointer (some ⟨g, 0, none⟩)] w fun x w' => x = .returned (.int .i64 e) ∧ w' = w := by
  have c := h.ce.1
  clear h
  go_enter Try.func11, Try.ntmps11
  go_wp2
  go_ret
  exact ⟨rfl, rfl⟩
set_option maxRecDepth 100000 in
theorem hits_any (h : Ca w g s n k R e hi mi) : Calls Try.prog 19 #[.pointer (some ⟨g, 0, none⟩)] w fun x w' => x = .returned (.tuple #[.int .i64 hi, .int .i64 mi]) ∧ Below w.heap.size w w' := by
  have c := h.ch.1
  have d := h.cm.1
  clear h
  go_enter Try.func19, Try.ntmps19
  go_wp2
  go_quiet (fail)
  go_wp2
  exact bodyPost_ret (v := .tuple #[.int .i64 hi, .int .i64 mi]) (by simp [results, Try.results19, go_sem]) rfl ⟨rfl, below_drewN (Below.refl _ _) _⟩
theorem zinfo59 : (Try.prog.info? 59).map (fun i => (i.zero, i.size, i.bytes)) = some (some (.agg (plc (List.replicate 64 fr)).toArray), 320, 2560) := by kernel_rfl
theorem Ca.turned {E : Nat} (h : Ca w g s n k R e hi mi) (x : Int) : Ca ((w.setCell ⟨g, 323, none⟩ (.int .i64 x)).setCells g 3 (plc (List.replicate 64 fr))) g s n k R0 x hi mi := by
  have hl : (plc (List.replicate 64 fr)).length = 320 := by rw [plc_length]; rfl
  have ht : (w.setCell ⟨g, 323, none⟩ (.int .i64 x)).there g 3 320 := World.there_setCells h.th g 323 [.int .i64 x]
  have ho : ∀ j, j < 3 ∨ 323 ≤ j → ((w.setCell ⟨g, 323, none⟩ (.int .i64 x)).setCells g 3 (plc (List.replicate 64 fr))).cell? ⟨g, j, none⟩ = (w.setCell ⟨g, 323, none⟩ (.int .i64 x)).cell? ⟨g, j, none⟩ := fun j hj =>
    World.cell?_setCells_out g _ 3 _ ⟨g, j, none⟩ (fun _ _ => by show j < 3 ∨ 3 + _ ≤ j; rw [hl]; omega)
  have hn : ∀ j, j ≠ 323 → (w.setCell ⟨g, 323, none⟩ (.int .i64 x)).cell? ⟨g, j, none⟩ = w.cell? ⟨g, j, none⟩ := fun j hj => World.cell?_setCell_other _ _ _ _ (fun e => hj (by cases e; rfl))
  have hf : ∀ j, ((w.setCell ⟨g, 323, none⟩ (.int .i64 x)).setCells g 3 (plc (List.replicate 64 fr))).frozen? ⟨g, j, none⟩ = w.frozen? ⟨g, j, none⟩ := fun j => by rw [World.frozen?_setCells]; simp
  refine ⟨?_, ?_, ?_, fun r hr j v hv => ?_, World.there_setCells ht _ _ _, fun r => rfl, ⟨?_, ?_⟩, ⟨?_, ?_⟩, ⟨?_, ?_⟩, h.ls, h.n1, h.n4, h.lk⟩
  · rw [ho _ (by omega), hn _ (by omega)]; exact h.c0
  · rw [ho _ (by omega), hn _ (by omega)]; exact h.c1
  · rw [ho _ (by omega), hn _ (by omega)]; exact h.c2
  · have hj : j < 20 := (List.getElem?_eq_some_iff.1 hv).1
    rw [Nat.add_assoc]
    exact World.rangeAt_setCells_same _ g 3 _ (by rw [hl]; exact ht) _ _ (free_row r hr j v hv)
  · rw [ho _ (by omega)]; exact World.cell?_setCell_same _ _ _ h.ce.1
  · rw [hf]; exact h.ce.2
  · rw [ho _ (by omega), hn _ (by omega)]; exact h.ch.1
  · rw [hf]; exact h.ch.2
  · rw [ho _ (by omega), hn _ (by omega)]; exact h.cm.1
  · rw [hf]; exact h.cm.2
set_option maxRecDepth 100000 in
theorem turn_any {E : Nat} (h : Ca w g s n k R (E : Int) hi mi) (hE : E < 256) : Calls Try.prog 10 #[.pointer (some ⟨g, 0, none⟩)] w fun x w' => x = .returned (.tuple #[]) ∧ Ca w' g s n k R0 (((E + 1) % 256 : Nat) : Int) hi mi ∧ But (fun k => k = g) w w' := by
  have c := h.ce.1
  have d := h.ce.2
  have hz := fun W => zero_of zinfo59 W
  obtain ⟨Z, hZ⟩ : ∃ Z, Z = plc (List.replicate 64 fr) := ⟨_, rfl⟩
  have hv : (((E + 1) % 256 : Nat) : Int) = ((E : Int) + 1) % 256 := by omega
  rw [hv]
  have hT := hid (h.turned (E := E) (((E : Int) + 1) % 256))
  rw [← hZ] at hz hT
  have hl : Z.length = 320 := by rw [hZ, plc_length]; rfl
  have hZ0 : (Z = []) = False := eq_false (fun h => by rw [h] at hl; simp at hl)
  have hw : IntKind.i64.wrap ((E : Int) + 1) = ((E + 1 : Nat) : Int) := by rw [IntKind.wrap_i64]; omega
  have HST := stc (w := w.setCell ⟨g, 323, none⟩ (.int .i64 (((E : Int) + 1) % 256))) (L := Z) (n := 320) (World.there_setCells h.th g 323 [.int .i64 (((E : Int) + 1) % 256)]) hl (by rw [hZ]; exact plc_one _)
  have hB : Hid (But (fun k => k = g) w ((w.setCell ⟨g, 323, none⟩ (.int .i64 (((E : Int) + 1) % 256))).setCells g 3 Z)) := But.setCells (S := fun k => k = g) rfl Z 3 ((But.refl (fun k => k = g) w).setCell (p := ⟨g, 323, none⟩) rfl _)
  generalize (w.setCell ⟨g, 323, none⟩ (.int .i64 (((E : Int) + 1) % 256))).setCells g 3 Z = w3 at hT HST hB
  clear hZ h hv
  go_enter Try.func10, Try.ntmps10
  go_wp2
  exact bodyPost_end (by simp [results, Try.results10, go_sem]) rfl ⟨rfl, hT.out, hB.out⟩
end Go.Proofs.Ythlojdclncikiaa
