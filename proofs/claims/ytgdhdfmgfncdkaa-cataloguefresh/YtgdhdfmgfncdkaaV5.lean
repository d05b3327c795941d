import Derived.Test.YtgdhdfmgfncdkaaV4
namespace Go.Proofs.Ytgdhdfmgfncdkaa
open Go.RowKit H
set_option linter.unusedVariables false

/-- A token as it is told. -/
abbrev tokA (c : Cp) (r p : Int) : Value := .agg #[.int .i64 c.1, .int .u64 (c.2.1 : Int), .int .u64 (c.2.2 : Int), .int .i64 r, .int .i64 p]
/-- What At tells. -/
def tokV (X : List Tk) (l : Fo) (n : Int) : Value := if n ∈ nums l then .tuple #[tokA (tk X n).1 (rg X n) (par l n), .bool true] else .tuple #[tokA (0, 0, 0) 0 0, .bool false]
/-- A token is written into a block. -/
def set5 (w : World) (b : Nat) (c : Cp) (r p : Int) : World :=
  ((((w.setCell ⟨b, 0, none⟩ (.int .i64 c.1)).setCell ⟨b, 1, none⟩ (.int .u64 (c.2.1 : Int))).setCell ⟨b, 2, none⟩ (.int .u64 (c.2.2 : Int))).setCell ⟨b, 3, none⟩ (.int .i64 r)).setCell ⟨b, 4, none⟩ (.int .i64 p)
theorem set5_but {S : Nat → Prop} {a w : World} (h : But S a w) {b : Nat} (hb : S b) (c : Cp) (r p : Int) : But S a (set5 w b c r p) :=
  ((((h.setCell (p := ⟨b, 0, none⟩) hb _).setCell (p := ⟨b, 1, none⟩) hb _).setCell (p := ⟨b, 2, none⟩) hb _).setCell (p := ⟨b, 3, none⟩) hb _).setCell (p := ⟨b, 4, none⟩) hb _
set_option maxRecDepth 100000 in
set_option maxHeartbeats 2000000 in
theorem at_in {w : World} {A : Ad} {kn mo : Nat} {T : List (Cp × Int)} {X : List Tk} {l : Fo} (h : Cm w A kn mo T X l) (n p : Int) (hp : (n, p) ∈ l) :
    Calls Try.prog 9 #[.pointer (some ⟨A.g, 0, none⟩), .int .i64 n] w fun e w' => e = .returned (.tuple #[tokA (tk X n).1 (rg X n) p, .bool true]) ∧ Below w.heap.size w w' := by
  have hnl := mem_nums.2 ⟨p, hp⟩
  have hrn := h.kin.ok.range n hnl
  obtain ⟨k, rfl⟩ : ∃ k : Nat, n = (k : Int) := ⟨n.toNat, by omega⟩
  have hk : k < mo := by omega
  obtain ⟨w0, hw0⟩ : ∃ w0, w0 = w.alloc (Obj.cells #[.int .i64 0, .int .u64 0, .int .u64 0, .int .i64 0, .int .i64 0] 35) := ⟨_, rfl⟩
  have hB0 : Below w.heap.size w w0 := by rw [hw0]; exact below1 _ _
  have h0 := h.later hB0
  have hh := hid (chas_any h0 (k : Int))
  rw [decide_eq_true hnl] at hh
  have x1 := h0.c1
  obtain ⟨c, r, hxx⟩ : ∃ c r, tk X (k : Int) = (c, r) := ⟨_, _, rfl⟩
  have hE := h0.at_ hk
  rw [hxx] at hE
  have hrg : rg X (k : Int) = r := by unfold rg; rw [hxx]
  rw [hrg, hxx]
  obtain ⟨o, hi, lo⟩ := c
  obtain ⟨e0, e1, e2, e3⟩ := hE
  simp only at e0 e1 e2 e3
  obtain ⟨w1, hw1⟩ : ∃ w1, w1 = w0.alloc (Obj.cells #[.int .i64 o, .int .u64 (hi : Int), .int .u64 (lo : Int), .int .i64 r] 81) := ⟨_, rfl⟩
  have hB1 : Below w0.heap.size w0 w1 := by rw [hw1]; exact below1 _ _
  have hP := fun (W : World) (hW : Below w1.heap.size w1 W) => cpar_any (h0.later (below_call hB1 hW)) (k : Int) p hp
  have hlt0 : w.heap.size < w0.heap.size := by rw [hw0]; simp
  have hL0 : Lies w0 ⟨w.heap.size, 0, none⟩ (.int .i64 0) ∧ Lies w0 ⟨w.heap.size, 1, none⟩ (.int .u64 0) ∧ Lies w0 ⟨w.heap.size, 2, none⟩ (.int .u64 0) ∧ Lies w0 ⟨w.heap.size, 3, none⟩ (.int .i64 0) ∧ Lies w0 ⟨w.heap.size, 4, none⟩ (.int .i64 0) := by
    rw [hw0]; exact ⟨⟨by simp [go_sem], by simp [go_sem]⟩, ⟨by simp [go_sem], by simp [go_sem]⟩, ⟨by simp [go_sem], by simp [go_sem]⟩, ⟨by simp [go_sem], by simp [go_sem]⟩, ⟨by simp [go_sem], by simp [go_sem]⟩⟩
  have z0 : w1.cell? ⟨w0.heap.size, 0, none⟩ = some (.int .i64 o) := by rw [hw1]; simp [go_sem]
  have z1 : w1.cell? ⟨w0.heap.size, 1, none⟩ = some (.int .u64 (hi : Int)) := by rw [hw1]; simp [go_sem]
  have z2 : w1.cell? ⟨w0.heap.size, 2, none⟩ = some (.int .u64 (lo : Int)) := by rw [hw1]; simp [go_sem]
  have z3 : w1.cell? ⟨w0.heap.size, 3, none⟩ = some (.int .i64 r) := by rw [hw1]; simp [go_sem]
  have hL : Hid (∀ U, Below w1.heap.size w1 U → Lies U ⟨w.heap.size, 0, none⟩ (.int .i64 0) ∧ Lies U ⟨w.heap.size, 1, none⟩ (.int .u64 0) ∧ Lies U ⟨w.heap.size, 2, none⟩ (.int .u64 0) ∧ Lies U ⟨w.heap.size, 3, none⟩ (.int .i64 0) ∧ Lies U ⟨w.heap.size, 4, none⟩ (.int .i64 0)) := fun U hU =>
    ⟨(hL0.1.later hB1).later hU, (hL0.2.1.later hB1).later hU, (hL0.2.2.1.later hB1).later hU, (hL0.2.2.2.1.later hB1).later hU, (hL0.2.2.2.2.later hB1).later hU⟩
  have hC : Hid (∀ U : World, But (· = w.heap.size) w1 U → (U.cell? ⟨w0.heap.size, 0, none⟩ = some (.int .i64 o) ∧ U.cell? ⟨w0.heap.size, 1, none⟩ = some (.int .u64 (hi : Int)) ∧ U.cell? ⟨w0.heap.size, 2, none⟩ = some (.int .u64 (lo : Int)) ∧ U.cell? ⟨w0.heap.size, 3, none⟩ = some (.int .i64 r)) ∧ But (· = w.heap.size) w1 U) := fun U hU =>
    ⟨⟨cell_but hU z0 (fun e => by simp at e; omega), cell_but hU z1 (fun e => by simp at e; omega), cell_but hU z2 (fun e => by simp at e; omega), cell_but hU z3 (fun e => by simp at e; omega)⟩, hU⟩
  have HP := hid hP
  have hslt : ¬ w.heap.size = w0.heap.size := by omega
  have HB : Hid (∀ W, But (· = w.heap.size) w1 W → Below w.heap.size w W) := fun W hW => But.below (below_call hB0 hB1) hW (fun k e => by omega)
  have hmo := h.small
  clear h h0 hL0 hP hB0 hB1 hlt0 hxx hrg hp hnl
  go_enter Try.func9, Try.ntmps9
  go_upto_region 1 with fail
  rw [← hw0]
  clear hw0
  go_upto_region 4 with (first | (go_at_call 26; refine hh.out.mono ?_; rintro e w9 ⟨rfl, hw9⟩; obtain rfl := hw9.symm; clear hw9))
  rw [← hw1]
  clear hw1 e0 e1 e2 e3 x1
  go_region_held3 (fun U => (U.cell? ⟨w0.heap.size, 0, none⟩ = some (.int .i64 o) ∧ U.cell? ⟨w0.heap.size, 1, none⟩ = some (.int .u64 (hi : Int)) ∧ U.cell? ⟨w0.heap.size, 2, none⟩ = some (.int .u64 (lo : Int)) ∧ U.cell? ⟨w0.heap.size, 3, none⟩ = some (.int .i64 r)) ∧ But (· = w.heap.size) w1 U) (first | exact hC.out _ HST.out | exact hC.out _ HB2.out | exact hC.out _ (But.of (Below.refl _ _).drew)) (first
    | (go_at_call 27; refine (HP.out _ (Below.refl _ _).drew).mono ?_; rintro e w2 ⟨rfl, hw2⟩; have hb2 : Below w1.heap.size w1 w2 := (by rw [hw2]; exact (Below.refl _ _).drew); have HB2 := hid (But.of (S := (· = w.heap.size)) hb2); have HST := hid (set5_but (S := (· = w.heap.size)) HB2.out (b := w.heap.size) (by rfl) (o, hi, lo) r p); obtain ⟨⟨r0, f0⟩, ⟨r1, f1⟩, ⟨r2, f2⟩, ⟨r3, f3⟩, ⟨r4, f4⟩⟩ := hL.out w2 hb2; clear hw2 hb2))
  go_wp2
  exact bodyPost_ret (v := .tuple #[tokA (o, hi, lo) r p, .bool true]) (by simp [results, Try.results9, go_sem, r0, r1, r2, r3, r4]) rfl ⟨rfl, HB.out _ HST.out⟩
end Go.Proofs.Ytgdhdfmgfncdkaa
