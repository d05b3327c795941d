import Derived.Test.YtlelglfdamakaaaN2
namespace Go.Proofs.Ytlelglfdamakaaa
open Go.RowKit H
set_option linter.unusedVariables false
set_option linter.unusedSimpArgs false

/-! ### learn -/
set_option maxRecDepth 100000 in
set_option maxHeartbeats 2000000 in
theorem learn_k (v g : Nat) (c : Cp) (m : Int) (w : World) :
    Calls Try.prog 58 #[.pointer (some ⟨v, 0, none⟩), .iface 65 (.pointer (some ⟨g, 0, none⟩)), cpV c, .int .i64 m] w fun e w' => e = .returned (.tuple #[]) ∧ Below w.heap.size w w' := by
  obtain ⟨o, hi, lo⟩ := c
  have HB := hid (below1 w (Obj.cells #[.int .i64 o, .int .u64 (hi : Int), .int .u64 (lo : Int)] 32))
  have q1 := as65_124
  have q2 := as65_65
  go_enter Try.func58, Try.ntmps58
  go_wp2
  exact bodyPost_end (by simp [results, Try.results58, go_sem]) rfl ⟨rfl, HB.out⟩
set_option maxRecDepth 100000 in
set_option maxHeartbeats 2000000 in
theorem learn_t {w : World} {v g cg s n k E : Nat} {T : Nat → List K.Pu} {hi_ mi : Int} (hv : Va w v g cg) (hk : K.Kc w g s n k T E hi_ mi) (c : Cp) (m : Int) (hw : c.2.1 < B64 ∧ c.2.2 < B64) :
    Calls Try.prog 58 #[.pointer (some ⟨v, 0, none⟩), .iface 124 (.agg #[.pointer (some ⟨cg, 0, none⟩)]), cpV c, .int .i64 m] w fun e w' => e = .returned (.tuple #[]) ∧ K.Kc w' g s n k (K.putT s n k T c m) E hi_ mi ∧ But (fun j => j = g) w w' := by
  obtain ⟨o, hi, lo⟩ := c
  obtain ⟨w0, hw0⟩ : ∃ w0, w0 = w.alloc (Obj.cells #[.int .i64 o, .int .u64 (hi : Int), .int .u64 (lo : Int)] 32) := ⟨_, rfl⟩
  have hB0 : Below w.heap.size w w0 := by rw [hw0]; exact below1 _ _
  have HC : Hid (∀ U, Below w0.heap.size w0 U → U.cell? ⟨v, 0, none⟩ = some (.pointer (some ⟨g, 0, none⟩)) ∧ U.cell? ⟨w.heap.size, 0, none⟩ = some (.int .i64 o) ∧ U.cell? ⟨w.heap.size, 1, none⟩ = some (.int .u64 (hi : Int)) ∧ U.cell? ⟨w.heap.size, 2, none⟩ = some (.int .u64 (lo : Int))) := fun U hU =>
    ⟨(hv.later (below_call hB0 hU)).c0, cell_later hU (by rw [hw0]; simp [go_sem]), cell_later hU (by rw [hw0]; simp [go_sem]), cell_later hU (by rw [hw0]; simp [go_sem])⟩
  have HP : Hid (∀ U, Below w0.heap.size w0 U → Calls Try.prog 76 #[.pointer (some ⟨g, 0, none⟩), .agg #[.int .i64 o, .int .u64 (hi : Int), .int .u64 (lo : Int)], .int .i64 m] U fun x w' => x = .returned (.tuple #[]) ∧ K.Kc w' g s n k (K.putT s n k T (o, hi, lo) m) E hi_ mi ∧ But (fun k => k = g) U w') := fun U hU => K.kput (hk.later (below_call hB0 hU)) (o, hi, lo) m hw
  have HB0 := hid hB0
  have q1 := as124_124
  have HV0 := hid (hv.later hB0).c0
  have hne : ¬ v = g := fun e => by
    have h1 := hv.c0
    rw [e] at h1
    obtain ⟨_, R, hc, _⟩ := hk
    have h2 := hc.c0
    rw [h1] at h2; cases h2
  have HNE := hid hne
  have HNW : Hid (¬ w.heap.size = g) := fun e => by have := hk.lt; omega
  clear hv hk hB0 hne
  go_enter Try.func58, Try.ntmps58
  go_upto_region 3 with fail
  rw [← hw0]
  clear hw0
  go_region_held3 (fun U => U.cell? ⟨v, 0, none⟩ = some (.pointer (some ⟨g, 0, none⟩)) ∧ U.cell? ⟨w.heap.size, 0, none⟩ = some (.int .i64 o) ∧ U.cell? ⟨w.heap.size, 1, none⟩ = some (.int .u64 (hi : Int)) ∧ U.cell? ⟨w.heap.size, 2, none⟩ = some (.int .u64 (lo : Int))) (first | exact HC2.out | exact HC.out _ (Below.refl _ _).drew | exact HC.out _ (Below.refl _ _)) (first
    | (go_at_call 76; refine (HP.out _ (Below.refl _ _).drew).mono ?_; rintro e w2 ⟨rfl, hk2, hb2⟩; have HK2 := hid hk2; have HB2 := hid ((But.of (S := fun k => k = g) (below_call HB0.out (Below.refl _ _).drew)).trans hb2); have HC2 := hid (And.intro (cell_but hb2 (HC.out _ (Below.refl _ _).drew).1 HNE.out) (And.intro (cell_but hb2 (HC.out _ (Below.refl _ _).drew).2.1 HNW.out) (And.intro (cell_but hb2 (HC.out _ (Below.refl _ _).drew).2.2.1 HNW.out) (cell_but hb2 (HC.out _ (Below.refl _ _).drew).2.2.2 HNW.out)))); clear hk2 hb2))
  go_wp2
  exact bodyPost_end (by simp [results, Try.results58, go_sem]) rfl ⟨rfl, HK2.out, HB2.out⟩

end Go.Proofs.Ytlelglfdamakaaa
