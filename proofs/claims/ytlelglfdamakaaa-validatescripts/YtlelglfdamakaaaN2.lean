import Derived.Test.YtlelglfdamakaaaN1
namespace Go.Proofs.Ytlelglfdamakaaa
open Go.RowKit H
set_option linter.unusedVariables false
set_option linter.unusedSimpArgs false

/-! ### mask.Has; the catalogue as a source -/
theorem has35 (a b : Int) (w : World) : Calls Try.prog 35 #[.int .i64 a, .int .i64 b] w fun e w' => e = .returned (.bool (partB b a)) ∧ w' = w := by
  have hp := hid (part_any b a)
  go_enter Try.func35, Try.ntmps35
  go_wp2_with (first | (go_at_call 33; refine (hp.out _).mono ?_; rintro e w9 ⟨rfl, hw9⟩; obtain rfl := hw9.symm; clear hw9))
  go_ret
  exact ⟨rfl, rfl⟩
/-- What a source tells that goes by the catalogue. -/
def srcN (X : List Tk) (l : Fo) (c : Cp) : Int := if hasC X l c = false then 0 else rgt X l c
set_option maxRecDepth 100000 in
set_option maxHeartbeats 2000000 in
theorem tget_any {w : World} {A : Ad} {kn mo : Nat} {X : List Tk} {l : Fo} (h : Cat w A kn mo X l) (c : Cp) (hw : c.2.1 < B64 ∧ c.2.2 < B64) :
    Calls Try.prog 117 #[.agg #[.pointer (some ⟨A.g, 0, none⟩)], cpV c] w fun e w' => e = .returned (.tuple #[.int .i64 (srcN X l c), .bool (hasC X l c)]) ∧ Below w.heap.size w w' := by
  obtain ⟨o, hi, lo⟩ := c
  obtain ⟨w0, hw0⟩ : ∃ w0, w0 = (w.alloc (Obj.cells #[.pointer (some ⟨A.g, 0, none⟩)] 124)).alloc (Obj.cells #[.int .i64 o, .int .u64 (hi : Int), .int .u64 (lo : Int)] 32) := ⟨_, rfl⟩
  have hB0 : Below w.heap.size w w0 := by rw [hw0]; exact below2 _ _ _
  have y1 : w0.cell? ⟨w.heap.size, 0, none⟩ = some (.pointer (some ⟨A.g, 0, none⟩)) := by rw [hw0]; simp [go_sem]
  have x0 : w0.cell? ⟨w.heap.size + 1, 0, none⟩ = some (.int .i64 o) := by rw [hw0]; simp [go_sem]
  have x1 : w0.cell? ⟨w.heap.size + 1, 1, none⟩ = some (.int .u64 (hi : Int)) := by rw [hw0]; simp [go_sem]
  have x2 : w0.cell? ⟨w.heap.size + 1, 2, none⟩ = some (.int .u64 (lo : Int)) := by rw [hw0]; simp [go_sem]
  have HY : Hid (∀ U, Below w0.heap.size w0 U → U.cell? ⟨w.heap.size, 0, none⟩ = some (.pointer (some ⟨A.g, 0, none⟩))) := fun U hU => cell_later hU y1
  have HB0 := hid hB0
  have HF := hid (cfind_any (h.later hB0) (o, hi, lo) hw)
  unfold srcN
  by_cases hc : hasC X l (o, hi, lo) = false
  · rw [hc] at HF
    simp only [hc, if_true]
    obtain ⟨m, hm⟩ : ∃ m, m = findN X l (o, hi, lo) := ⟨_, rfl⟩
    rw [← hm] at HF
    clear h hB0 hc hm
    go_enter Try.func117, Try.ntmps117
    go_upto_region 1 with fail
    rw [← hw0]
    clear hw0
    go_wp2_with (first
      | (go_at_call 9; refine HF.out.mono ?_; rintro e w2 ⟨rfl, hb2⟩; have HB2 := hid (below_call HB0.out hb2); clear hb2))
    exact bodyPost_ret (v := .tuple #[.int .i64 0, .bool false]) (by simp [results, Try.results117, go_sem]) rfl ⟨rfl, HB2.out⟩
  · have hc' : hasC X l (o, hi, lo) = true := by simpa using hc
    rw [hc'] at HF
    simp only [hc', Bool.true_eq_false, if_false]
    obtain ⟨hfn, hft⟩ := found h.inv hc'
    obtain ⟨p, hp⟩ := mem_nums.1 hfn
    have HA := hid (fun (U : World) (hU : Below w.heap.size w U) => at_in (h.later hU).cm (findN X l (o, hi, lo)) p hp)
    unfold rgt
    rw [hft] at HA
    obtain ⟨m, hm⟩ : ∃ m, m = findN X l (o, hi, lo) := ⟨_, rfl⟩
    rw [← hm] at HF HA
    rw [← hm]
    obtain ⟨q, hq⟩ : ∃ q, q = rg X m := ⟨_, rfl⟩
    rw [← hq] at HA
    rw [← hq]
    unfold tokA at HA
    clear h hB0 hc hc' hm hq hft hfn hp
    go_enter Try.func117, Try.ntmps117
    go_upto_region 1 with fail
    rw [← hw0]
    clear hw0
    go_upto_region 4 with (first
      | (go_at_call 9; refine HF.out.mono ?_; rintro e w2 ⟨rfl, hb2⟩; have HB2 := hid (below_call HB0.out hb2); have z1 := HY.out _ hb2; clear hb2))
    go_wp2_with (first
      | (go_at_call 32; refine (HA.out w2 HB2.out).mono ?_; rintro e w3 ⟨rfl, hb3⟩; have HB3 := hid (below_call HB2.out hb3); clear hb3))
    exact bodyPost_ret (v := .tuple #[.int .i64 q, .bool true]) (by simp [results, Try.results117, go_sem]) rfl ⟨rfl, HB3.out.alloc HB3.out.size _⟩

/-! ### The validator in memory -/
def ifk (g : Nat) : Value := .iface 65 (.pointer (some ⟨g, 0, none⟩))
def ift (c : Nat) : Value := .iface 124 (.agg #[.pointer (some ⟨c, 0, none⟩)])
/-- Where a validator lies: v; its cache g; its catalogue c. -/
structure Va (w : World) (v g c : Nat) : Prop where
  c0 : w.cell? ⟨v, 0, none⟩ = some (.pointer (some ⟨g, 0, none⟩))
  c1 : w.cell? ⟨v, 1, none⟩ = some (.iface 65 (.pointer (some ⟨g, 0, none⟩)))
  c2 : w.cell? ⟨v, 2, none⟩ = some (.iface 124 (.agg #[.pointer (some ⟨c, 0, none⟩)]))
theorem Va.but {S : Nat → Prop} {w w' : World} {v g c : Nat} (h : Va w v g c) (hb : But S w w') (hn : ¬ S v) : Va w' v g c := ⟨cell_but hb h.c0 hn, cell_but hb h.c1 hn, cell_but hb h.c2 hn⟩
theorem Va.later {w w' : World} {v g c : Nat} (h : Va w v g c) (hb : Below w.heap.size w w') : Va w' v g c := h.but (S := fun _ => False) (But.of hb) (fun h => h)
theorem Va.lt {w : World} {v g c : Nat} (h : Va w v g c) : v < w.heap.size := World.block_lt_of_cell? _ _ h.c0

theorem as65_124 (v : Value) (w : World) : (Instr.typeAssert (.iface 65 v) 93 124 true).run Try.prog w = .ok (.tuple #[.agg #[.pointer none], .bool false]) w := by kernel_rfl
theorem as65_65 (v : Value) (w : World) : (Instr.typeAssert (.iface 65 v) 93 65 true).run Try.prog w = .ok (.tuple #[v, .bool true]) w := by kernel_rfl
theorem as124_124 (v : Value) (w : World) : (Instr.typeAssert (.iface 124 v) 93 124 true).run Try.prog w = .ok (.tuple #[v, .bool true]) w := by kernel_rfl
end Go.Proofs.Ytlelglfdamakaaa
