import Derived.Test.YtgihdchgdejkhaaGreatDoorMG
import Derived.Test.YtgihdchgdejkhaaGreatDoorRH
import Derived.Test.YtgihdchgdejkhaaGreatDoorMX
namespace Go.Proofs.YtgihdchgdejkhaaGreatDoor.D
open Go.RowKit
open Go.Proofs.YtgihdchgdejkhaaGreatDoor.H (B64 Cp)
set_option linter.unusedVariables false

/-! ### The law's own: mod, right, made -/
theorem mod_any (x : Int) (t : Nat) (m : Int) (hm : m = (t : Int)) (w : World) (ht : 0 < t) (h2 : t ≤ 1024) :
    Calls Tryz.prog 8 #[.int .i64 x, .int .i64 m] w fun e w' => e = .returned (.int .i64 (intoN x t : Int)) ∧ w' = w := by
  subst hm
  exact into_any x t w ht h2
theorem mod_below (x : Int) (t : Nat) (m : Int) (hm : m = (t : Int)) (w : World) (ht : 0 < t) (h2 : t ≤ 1024) :
    Calls Tryz.prog 8 #[.int .i64 x, .int .i64 m] w fun e w' => e = .returned (.int .i64 (intoN x t : Int)) ∧ Below w.heap.size w w' :=
  (mod_any x t m hm w ht h2).mono (fun e w' h => ⟨h.1, by rw [h.2]; exact Below.refl _ _⟩)
theorem addr_zero (x : Addr) : x.add 0 = x := by unfold Addr.add; split <;> simp_all
theorem elem22 : Tryz.prog.elem 22 = 30 := by kernel_rfl
theorem sl_under : Tryz.prog.underlying 22 = some (.slice (Tryz.prog.elem 22)) := by rw [elem22]; exact Tryz.underlying22
theorem slice_run (a : Option Addr) (n0 cap n : Nat) (h : n ≤ cap) (W : World) : (Instr.sliceAt 22 (.slice a n0 cap) none (some (.int .i64 (n : Int))) none).run Tryz.prog W = .ok (.slice a n cap) W := by
  rw [run_sliceAt_slice (h := sl_under), run_slice_h (ht := sl_under) (h0 := by omega) (h2 := by omega)]
  have hs : (sizeOf (Tryz.prog.elem 22)).run Tryz.prog W = .ok 2 W := by kernel_rfl
  rw [hs]
  cases a <;> simp [sliced, Result.andThen, addr_zero]
/-- A world of the law, as a value. -/
def woV (wd en ea kn : Int) (a : Option Addr) (n cap : Nat) : Value := .agg #[.int .i64 wd, .int .i64 en, .int .i64 ea, .int .i64 kn, .slice a n cap]
structure Wo (w : World) (b : Nat) (wd en ea kn : Int) (a : Option Addr) (n cap : Nat) : Prop where
  c0 : w.cell? ⟨b, 0, none⟩ = some (.int .i64 wd)
  c1 : w.cell? ⟨b, 1, none⟩ = some (.int .i64 en)
  c2 : w.cell? ⟨b, 2, none⟩ = some (.int .i64 ea)
  c3 : w.cell? ⟨b, 3, none⟩ = some (.int .i64 kn)
  c4 : w.cell? ⟨b, 4, none⟩ = some (.slice a n cap)
theorem Wo.but {S : Nat → Prop} {w w' : World} {b : Nat} {wd en ea kn : Int} {a : Option Addr} {n cap : Nat} (h : Wo w b wd en ea kn a n cap) (hb : But S w w') (hn : ¬ S b) : Wo w' b wd en ea kn a n cap := ⟨cell_but hb h.c0 hn, cell_but hb h.c1 hn, cell_but hb h.c2 hn, cell_but hb h.c3 hn, cell_but hb h.c4 hn⟩
theorem five_set {w : World} {b : Nat} {v0 v1 v2 v3 v4 : Value} (h0 : w.cell? ⟨b, 0, none⟩ = some v0) (h1 : w.cell? ⟨b, 1, none⟩ = some v1) (h2 : w.cell? ⟨b, 2, none⟩ = some v2) (h3 : w.cell? ⟨b, 3, none⟩ = some v3) (h4 : w.cell? ⟨b, 4, none⟩ = some v4) (x y z u v : Value) :
    (w.setCell ⟨b, 0, none⟩ x).cell? ⟨b, 0, none⟩ = some x ∧ ((w.setCell ⟨b, 0, none⟩ x).setCell ⟨b, 1, none⟩ y).cell? ⟨b, 1, none⟩ = some y ∧ (((w.setCell ⟨b, 0, none⟩ x).setCell ⟨b, 1, none⟩ y).setCell ⟨b, 2, none⟩ z).cell? ⟨b, 2, none⟩ = some z ∧ ((((w.setCell ⟨b, 0, none⟩ x).setCell ⟨b, 1, none⟩ y).setCell ⟨b, 2, none⟩ z).setCell ⟨b, 3, none⟩ u).cell? ⟨b, 3, none⟩ = some u ∧ (((((w.setCell ⟨b, 0, none⟩ x).setCell ⟨b, 1, none⟩ y).setCell ⟨b, 2, none⟩ z).setCell ⟨b, 3, none⟩ u).setCell ⟨b, 4, none⟩ v).cell? ⟨b, 4, none⟩ = some v :=
  ⟨World.cell?_setCell_same _ _ _ h0, World.cell?_setCell_same _ _ _ (cell_set_ne h1 (by omega)), World.cell?_setCell_same _ _ _ (cell_set_ne (cell_set_ne h2 (by omega)) (by omega)), World.cell?_setCell_same _ _ _ (cell_set_ne (cell_set_ne (cell_set_ne h3 (by omega)) (by omega)) (by omega)), World.cell?_setCell_same _ _ _ (cell_set_ne (cell_set_ne (cell_set_ne (cell_set_ne h4 (by omega)) (by omega)) (by omega)) (by omega))⟩
set_option maxRecDepth 100000 in
set_option maxHeartbeats 2000000 in
/-- World.right. -/
theorem right_any {w : World} (wd en ea kn : Int) {a : Option Addr} {n0 cap : Nat} {f : Nat → Nat} (h : Ws w a n0 cap f) (hn0 : n0 ≤ 9223372036854775807) :
    Calls Tryz.prog 7 #[woV wd en ea kn a n0 cap] w fun e w' => ∃ n, n ≤ 4096 ∧ n ≤ n0 ∧ Ws w a n cap f ∧ e = .returned (woV (1 + (intoN wd 128 : Int)) (1 + (intoN en 256 : Int)) (1 + (intoN ea 256 : Int)) (intoN kn 65 : Int) a n cap) ∧ Below w.heap.size w w' := by
  obtain ⟨n, hn, hW, hc⟩ := first_n h 4096 (by omega)
  have hcap := h.cap_
  obtain ⟨w0, hw0⟩ : ∃ w0, w0 = (w.alloc (Obj.cells #[.int .i64 wd, .int .i64 en, .int .i64 ea, .int .i64 kn, .slice a n0 cap] 24)).alloc (Obj.cells #[.int .i64 0, .int .i64 0, .int .i64 0, .int .i64 0, .slice none 0 0] 24) := ⟨_, rfl⟩
  have hB0 : Below w.heap.size w w0 := by rw [hw0]; exact below2 _ _ _
  have hwo : Wo w0 w.heap.size wd en ea kn a n0 cap := by rw [hw0]; exact ⟨by simp [go_sem], by simp [go_sem], by simp [go_sem], by simp [go_sem], by simp [go_sem]⟩
  have l0 : Lies w0 ⟨w.heap.size + 1, 0, none⟩ (.int .i64 0) := by rw [hw0]; exact ⟨by simp [go_sem], by simp [go_sem]⟩
  have l1 : Lies w0 ⟨w.heap.size + 1, 1, none⟩ (.int .i64 0) := by rw [hw0]; exact ⟨by simp [go_sem], by simp [go_sem]⟩
  have l2 : Lies w0 ⟨w.heap.size + 1, 2, none⟩ (.int .i64 0) := by rw [hw0]; exact ⟨by simp [go_sem], by simp [go_sem]⟩
  have l3 : Lies w0 ⟨w.heap.size + 1, 3, none⟩ (.int .i64 0) := by rw [hw0]; exact ⟨by simp [go_sem], by simp [go_sem]⟩
  have l4 : Lies w0 ⟨w.heap.size + 1, 4, none⟩ (.slice none 0 0) := by rw [hw0]; exact ⟨by simp [go_sem], by simp [go_sem]⟩
  have HL : Hid (∀ U, Below w0.heap.size w0 U → (Lies U ⟨w.heap.size + 1, 0, none⟩ (.int .i64 0) ∧ Lies U ⟨w.heap.size + 1, 1, none⟩ (.int .i64 0) ∧ Lies U ⟨w.heap.size + 1, 2, none⟩ (.int .i64 0) ∧ Lies U ⟨w.heap.size + 1, 3, none⟩ (.int .i64 0) ∧ Lies U ⟨w.heap.size + 1, 4, none⟩ (.slice none 0 0))) := fun U hU => ⟨l0.later hU, l1.later hU, l2.later hU, l3.later hU, l4.later hU⟩
  have HS : Hid (∀ U, But (· = w.heap.size + 1) w0 U → (U.cell? ⟨w.heap.size, 0, none⟩ = some (.int .i64 wd) ∧ U.cell? ⟨w.heap.size, 1, none⟩ = some (.int .i64 en) ∧ U.cell? ⟨w.heap.size, 2, none⟩ = some (.int .i64 ea) ∧ U.cell? ⟨w.heap.size, 3, none⟩ = some (.int .i64 kn) ∧ U.cell? ⟨w.heap.size, 4, none⟩ = some (.slice a n0 cap)) ∧ But (· = w.heap.size + 1) w0 U) := fun U hU => by
    obtain ⟨q0, q1, q2, q3, q4⟩ := hwo.but hU (fun e => by omega)
    exact ⟨⟨q0, q1, q2, q3, q4⟩, hU⟩
  have HB0 := hid hB0
  have HW := hid hW
  have HH := hid h
  obtain ⟨y0, y1, y2, y3, y4⟩ := hwo
  have k1 := hid (fun U => mod_below wd 128 128 rfl U (by decide) (by decide))
  have k2 := hid (fun U => mod_below en 256 256 rfl U (by decide) (by decide))
  have k3 := hid (fun U => mod_below ea 256 256 rfl U (by decide) (by decide))
  have k4 := hid (fun U => mod_below kn 65 65 rfl U (by decide) (by decide))
  have q1 : intoN wd 128 < 128 := intoN_lt _ (by decide)
  have q2 : intoN en 256 < 256 := intoN_lt _ (by decide)
  have q3 : intoN ea 256 < 256 := intoN_lt _ (by decide)
  generalize intoN wd 128 = m1 at *
  generalize intoN en 256 = m2 at *
  generalize intoN ea 256 = m3 at *
  generalize intoN kn 65 = m4 at *
  have hmin : (if (4096 : Int) < (n0 : Int) then (4096 : Int) else (n0 : Int)) = (n : Int) := by rcases hc with ⟨h1, h2⟩ | ⟨h1, h2⟩ <;> split <;> omega
  have hle : n ≤ n0 := by rcases hc with ⟨h1, h2⟩ | ⟨h1, h2⟩ <;> omega
  have hnone : a = none → n0 = 0 ∧ cap = 0 := h.none_
  clear h hW hc l0 l1 l2 l3 l4 hB0
  unfold woV
  go_enter Tryz.func7, Tryz.ntmps7
  go_upto_region 1 with fail
  rw [← hw0]
  clear hw0
  go_upto_region 2 with fail
  try rw [hmin]
  clear hmin
  have hsl := fun W => slice_run a n0 cap n (by omega) W
  have g1 : IntKind.i64.wrap (1 + (m1 : Int)) = 1 + (m1 : Int) := by rw [IntKind.wrap_i64]; omega
  have g2 : IntKind.i64.wrap (1 + (m2 : Int)) = 1 + (m2 : Int) := by rw [IntKind.wrap_i64]; omega
  have g3 : IntKind.i64.wrap (1 + (m3 : Int)) = 1 + (m3 : Int) := by rw [IntKind.wrap_i64]; omega
  have HLe := hid hle
  clear y0 y1 y2 y3 y4 q1 q2 q3 hle hcap hn0 hnone
  go_region_held3 (fun U => (U.cell? ⟨w.heap.size, 0, none⟩ = some (.int .i64 wd) ∧ U.cell? ⟨w.heap.size, 1, none⟩ = some (.int .i64 en) ∧ U.cell? ⟨w.heap.size, 2, none⟩ = some (.int .i64 ea) ∧ U.cell? ⟨w.heap.size, 3, none⟩ = some (.int .i64 kn) ∧ U.cell? ⟨w.heap.size, 4, none⟩ = some (.slice a n0 cap)) ∧ But (· = w.heap.size + 1) w0 U) (first | exact HS.out _ (But.of hb4.out) | exact HS.out _ (But.of hb3.out) | exact HS.out _ (But.of hb2.out) | exact HS.out _ (But.of hb1.out) | exact HS.out _ (But.of (Below.refl _ _).drew) | exact HS.out _ ((((((But.of hb4.out).own _ _).own _ _).own _ _).own _ _).own _ _)) (first
    | (have hq := hb3; clear hq; go_at_call 8; refine (k4.out _).mono ?_; rintro e v4 ⟨rfl, hv⟩; have hb4 := hid (below_call hb3.out hv); clear hv; obtain ⟨⟨u0, f0⟩, ⟨u1, f1⟩, ⟨u2, f2⟩, ⟨u3, f3⟩, ⟨u4, f4⟩⟩ := HL.out v4 hb4.out)
    | (have hq := hb2; clear hq; go_at_call 8; refine (k3.out _).mono ?_; rintro e v3 ⟨rfl, hv⟩; have hb3 := hid (below_call hb2.out hv); clear hv)
    | (have hq := hb1; clear hq; go_at_call 8; refine (k2.out _).mono ?_; rintro e v2 ⟨rfl, hv⟩; have hb2 := hid (below_call hb1.out hv); clear hv)
    | (go_at_call 8; refine (k1.out _).mono ?_; rintro e v1 ⟨rfl, hv⟩; have hb1 := hid (below_call (Below.refl w0.heap.size w0).drew hv); clear hv))
  go_wp2
  have HQ := hid (five_set u0 u1 u2 u3 u4 (.int .i64 (1 + (m1 : Int))) (.int .i64 (1 + (m2 : Int))) (.int .i64 (1 + (m3 : Int))) (.int .i64 (m4 : Int)) (.slice a n cap))
  have hfin : Below w.heap.size w (((((v4.setCell ⟨w.heap.size + 1, 0, none⟩ (.int .i64 (1 + (m1 : Int)))).setCell ⟨w.heap.size + 1, 1, none⟩ (.int .i64 (1 + (m2 : Int)))).setCell ⟨w.heap.size + 1, 2, none⟩ (.int .i64 (1 + (m3 : Int)))).setCell ⟨w.heap.size + 1, 3, none⟩ (.int .i64 (m4 : Int))).setCell ⟨w.heap.size + 1, 4, none⟩ (.slice a n cap)) :=
    But.below (S := fun k => k = w.heap.size + 1) (below_call HB0.out hb4.out) (((((((But.refl (fun k => k = w.heap.size + 1) v4).own _ _).own _ _).own _ _).own _ _).own _ _)) (fun k hk => by omega)
  exact bodyPost_ret (v := .agg #[.int .i64 (1 + (m1 : Int)), .int .i64 (1 + (m2 : Int)), .int .i64 (1 + (m3 : Int)), .int .i64 (m4 : Int), .slice a n cap]) (by simp [results, Tryz.results7, go_sem, HQ.out.1, HQ.out.2.1, HQ.out.2.2.1, HQ.out.2.2.2.1, HQ.out.2.2.2.2]) rfl ⟨n, hn, HLe.out, HW.out, rfl, hfin⟩
end Go.Proofs.YtgihdchgdejkhaaGreatDoor.D
