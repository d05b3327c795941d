import Derived.Test.YtdkadmnhfnilkaaX1
namespace Go.Proofs.Ytdkadmnhfnilkaa
open Go.RowKit
set_option linter.unusedVariables false

set_option maxRecDepth 100000 in
set_option maxHeartbeats 8000000 in
theorem step_caps {w : World} {g gb kn mo N r : Nat} {a : Option Addr} {cap : Nat} {E : List (Cp × Int)} (h : Pr w g gb kn mo N r a cap E) (sec : Bool) (o : Int) (hi lo : Nat) (v : Int) (h1 : hi < B64) (h2 : lo < B64) :
    Calls Try.prog 25 #[.agg #[.pointer (some ⟨g, 0, none⟩), .pointer (some ⟨r, 0, none⟩)], .agg #[.bool sec, .int .i64 3, .int .i64 o, .int .u64 (hi : Int), .int .u64 (lo : Int), .int .i64 v]] w (Stepped w g gb kn mo N r a) := by
  have hbs := fun U hU => boxes w g r sec 3 o hi lo v U hU
  obtain ⟨w1, hw1⟩ : ∃ w1, w1 = (w.alloc (Obj.cells #[.pointer (some ⟨g, 0, none⟩), .pointer (some ⟨r, 0, none⟩)] 63)).alloc (Obj.cells #[.bool sec, .int .i64 3, .int .i64 o, .int .u64 (hi : Int), .int .u64 (lo : Int), .int .i64 v] 36) := ⟨_, rfl⟩
  obtain ⟨⟨x0, x1, x2, x3, x4, x5⟩, xk, hB1⟩ := hbs w1 hw1
  clear hbs
  have HB1 := hid hB1
  have H1 := hid (h.later hB1)
  have HH := hid h
  have hnx0 : ¬ Xb g gb r a w.heap.size := fun e => by have := h.lt _ e; omega
  have hnx1 : ¬ Xb g gb r a (w.heap.size + 1) := fun e => by have := h.lt _ e; omega
  have hC : Hid (∀ U : World, But (Xb g gb r a) w1 U → (U.cell? ⟨w.heap.size, 0, none⟩ = some (.pointer (some ⟨g, 0, none⟩)) ∧ U.cell? ⟨w.heap.size, 1, none⟩ = some (.pointer (some ⟨r, 0, none⟩)) ∧ U.cell? ⟨w.heap.size + 1, 2, none⟩ = some (.int .i64 o) ∧ U.cell? ⟨w.heap.size + 1, 3, none⟩ = some (.int .u64 (hi : Int)) ∧ U.cell? ⟨w.heap.size + 1, 4, none⟩ = some (.int .u64 (lo : Int)) ∧ U.cell? ⟨w.heap.size + 1, 5, none⟩ = some (.int .i64 v)) ∧ But (Xb g gb r a) w1 U) := fun U hU => ⟨⟨cell_but hU x0 hnx0, cell_but hU x1 hnx0, cell_but hU x2 hnx1, cell_but hU x3 hnx1, cell_but hU x4 hnx1, cell_but hU x5 hnx1⟩, hU⟩
  have hri : Hid (∀ k, Xb g gb r a k ∧ (k = r ∨ Blk a k) → ¬ I.In g gb k) := by
    rintro k ⟨_, rfl | hk⟩ (e | e)
    · exact h.d1 e
    · exact h.d2 e
    · exact (h.d3 k hk).1 e
    · exact (h.d3 k hk).2 e
  have hgr : Hid (∀ k, I.In g gb k → ¬ (k = r ∨ Blk a k)) := by
    rintro k (rfl | rfl) (e | e)
    · exact h.d1 e.symm
    · exact (h.d3 _ e).1 rfl
    · exact h.d2 e.symm
    · exact (h.d3 _ e).2 rfl
  have hIx : Hid (∀ k, I.In g gb k → Xb g gb r a k) := by
    rintro k (rfl | rfl)
    · exact .inl rfl
    · exact .inr (.inl rfl)
  have hRx : Hid (∀ k, (k = r ∨ Blk a k) → Xb g gb r a k) := by
    rintro k (rfl | hk)
    · exact .inr (.inr (.inl rfl))
    · exact .inr (.inr (.inr hk))
  clear h hB1 hnx0 hnx1
  go_enter Try.func25, Try.ntmps25
  have hr1 := H1.out.f.c1.1
  have hD : Hid (∀ U : World, Below w1.heap.size w1 U → (U.cell? ⟨w.heap.size, 0, none⟩ = some (.pointer (some ⟨g, 0, none⟩)) ∧ U.cell? ⟨w.heap.size, 1, none⟩ = some (.pointer (some ⟨r, 0, none⟩)) ∧ U.cell? ⟨w.heap.size + 1, 2, none⟩ = some (.int .i64 o) ∧ U.cell? ⟨w.heap.size + 1, 3, none⟩ = some (.int .u64 (hi : Int)) ∧ U.cell? ⟨w.heap.size + 1, 4, none⟩ = some (.int .u64 (lo : Int)) ∧ U.cell? ⟨w.heap.size + 1, 5, none⟩ = some (.int .i64 v) ∧ U.cell? ⟨r, 1, none⟩ = some (.slice a E.length cap)) ∧ Below w1.heap.size w1 U) := fun U hU => by
    obtain ⟨⟨y0, y1, y2, y3, y4, y5⟩, _⟩ := hC.out U (But.of hU)
    exact ⟨⟨y0, y1, y2, y3, y4, y5, cell_later hU hr1⟩, hU⟩
  have hsm : E.length ≤ 512 := H1.out.f.small
  have HKL : Hid ((srt (E.map Prod.fst)).length = E.length) := by unfold Hid; rw [(srt_perm _).length_eq, List.length_map]
  go_upto_region 1 with fail
  rw [← hw1]
  clear hw1
  go_upto_region 11 with fail
  go_region_held3 (fun U => (U.cell? ⟨w.heap.size, 0, none⟩ = some (.pointer (some ⟨g, 0, none⟩)) ∧ U.cell? ⟨w.heap.size, 1, none⟩ = some (.pointer (some ⟨r, 0, none⟩)) ∧ U.cell? ⟨w.heap.size + 1, 2, none⟩ = some (.int .i64 o) ∧ U.cell? ⟨w.heap.size + 1, 3, none⟩ = some (.int .u64 (hi : Int)) ∧ U.cell? ⟨w.heap.size + 1, 4, none⟩ = some (.int .u64 (lo : Int)) ∧ U.cell? ⟨w.heap.size + 1, 5, none⟩ = some (.int .i64 v) ∧ U.cell? ⟨r, 1, none⟩ = some (.slice a E.length cap)) ∧ Below w1.heap.size w1 U) (first | exact hD.out _ HB5.out | exact hD.out _ HB4.out | exact hD.out _ HB3.out | exact hD.out _ (Below.refl _ _).drew) (first
    | (go_at_call 20; refine (tb_len HP5.out.t).mono ?_; rintro e w6 ⟨rfl, hw⟩; obtain rfl := hw.symm; clear hw)
    | (go_at_call 14; refine (same_any _ _ RA.out RD_.out (by omega) (by omega)).mono ?_; rintro e w5 ⟨rfl, q5, hw5⟩; have HB5 := hid (below_call HB4.out (drew_below hw5)); have HP5 := hid (H1.out.later HB5.out); have hdt : decide (srt (E.map Prod.fst) = srt (E.map Prod.fst)) = true := decide_eq_true rfl; rw [hdt]; clear hw5 hdt)
    | (go_at_call 41; refine (rcaps_any HP3.out.f).mono ?_; rintro e w4 ⟨a4, c4, rfl, rd4, hb4⟩; have RA := hid (CA3.out.later hb4); have RD_ := hid rd4; have HB4 := hid (below_call HB3.out hb4); clear rd4 hb4)
    | (go_at_call 18; refine (I.caps_any (H1.out.t.later (Below.refl _ _).drew)).mono ?_; rintro e w3 ⟨bk, rfl, C3, _, hb3⟩; have CA3 := hid (C3.rd HKL.out); have HB3 := hid (below_call (Below.refl w1.heap.size w1).drew hb3); have HP3 := hid (H1.out.later HB3.out); clear C3 hb3))
  go_wp2
  go_ret
  exact Stepped.same HH.out (below_call HB1.out HB5.out)

set_option maxRecDepth 100000 in
set_option maxHeartbeats 8000000 in
theorem step_other {w : World} {g gb kn mo N r : Nat} {a : Option Addr} {cap : Nat} {E : List (Cp × Int)} (h : Pr w g gb kn mo N r a cap E) (sec : Bool) (kd : Int) (o : Int) (hi lo : Nat) (v : Int) (h1 : hi < B64) (h2 : lo < B64) (k0 : kd ≠ 0) (k1 : kd ≠ 1) (k2 : kd ≠ 2) (k3 : kd ≠ 3) :
    Calls Try.prog 25 #[.agg #[.pointer (some ⟨g, 0, none⟩), .pointer (some ⟨r, 0, none⟩)], .agg #[.bool sec, .int .i64 kd, .int .i64 o, .int .u64 (hi : Int), .int .u64 (lo : Int), .int .i64 v]] w (Stepped w g gb kn mo N r a) := by
  have hbs := fun U hU => boxes w g r sec kd o hi lo v U hU
  obtain ⟨w1, hw1⟩ : ∃ w1, w1 = (w.alloc (Obj.cells #[.pointer (some ⟨g, 0, none⟩), .pointer (some ⟨r, 0, none⟩)] 63)).alloc (Obj.cells #[.bool sec, .int .i64 kd, .int .i64 o, .int .u64 (hi : Int), .int .u64 (lo : Int), .int .i64 v] 36) := ⟨_, rfl⟩
  obtain ⟨⟨x0, x1, x2, x3, x4, x5⟩, xk, hB1⟩ := hbs w1 hw1
  clear hbs
  have HB1 := hid hB1
  have H1 := hid (h.later hB1)
  have HH := hid h
  have hnx0 : ¬ Xb g gb r a w.heap.size := fun e => by have := h.lt _ e; omega
  have hnx1 : ¬ Xb g gb r a (w.heap.size + 1) := fun e => by have := h.lt _ e; omega
  have hC : Hid (∀ U : World, But (Xb g gb r a) w1 U → (U.cell? ⟨w.heap.size, 0, none⟩ = some (.pointer (some ⟨g, 0, none⟩)) ∧ U.cell? ⟨w.heap.size, 1, none⟩ = some (.pointer (some ⟨r, 0, none⟩)) ∧ U.cell? ⟨w.heap.size + 1, 2, none⟩ = some (.int .i64 o) ∧ U.cell? ⟨w.heap.size + 1, 3, none⟩ = some (.int .u64 (hi : Int)) ∧ U.cell? ⟨w.heap.size + 1, 4, none⟩ = some (.int .u64 (lo : Int)) ∧ U.cell? ⟨w.heap.size + 1, 5, none⟩ = some (.int .i64 v)) ∧ But (Xb g gb r a) w1 U) := fun U hU => ⟨⟨cell_but hU x0 hnx0, cell_but hU x1 hnx0, cell_but hU x2 hnx1, cell_but hU x3 hnx1, cell_but hU x4 hnx1, cell_but hU x5 hnx1⟩, hU⟩
  have hri : Hid (∀ k, Xb g gb r a k ∧ (k = r ∨ Blk a k) → ¬ I.In g gb k) := by
    rintro k ⟨_, rfl | hk⟩ (e | e)
    · exact h.d1 e
    · exact h.d2 e
    · exact (h.d3 k hk).1 e
    · exact (h.d3 k hk).2 e
  have hgr : Hid (∀ k, I.In g gb k → ¬ (k = r ∨ Blk a k)) := by
    rintro k (rfl | rfl) (e | e)
    · exact h.d1 e.symm
    · exact (h.d3 _ e).1 rfl
    · exact h.d2 e.symm
    · exact (h.d3 _ e).2 rfl
  have hIx : Hid (∀ k, I.In g gb k → Xb g gb r a k) := by
    rintro k (rfl | rfl)
    · exact .inl rfl
    · exact .inr (.inl rfl)
  have hRx : Hid (∀ k, (k = r ∨ Blk a k) → Xb g gb r a k) := by
    rintro k (rfl | hk)
    · exact .inr (.inr (.inl rfl))
    · exact .inr (.inr (.inr hk))
  clear h hB1 hnx0 hnx1
  go_enter Try.func25, Try.ntmps25
  have n0 : (kd == 0) = false := by simpa using k0
  have n1 : (kd == 1) = false := by simpa using k1
  have n2 : (kd == 2) = false := by simpa using k2
  have n3 : (kd == 3) = false := by simpa using k3
  clear k0 k1 k2 k3
  go_upto_region 1 with fail
  rw [← hw1]
  clear hw1
  go_wp2
  go_ret
  exact Stepped.same HH.out HB1.out
end Go.Proofs.Ytdkadmnhfnilkaa
