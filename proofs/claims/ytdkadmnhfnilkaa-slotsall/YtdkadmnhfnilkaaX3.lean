import Derived.Test.YtdkadmnhfnilkaaX1
namespace Go.Proofs.Ytdkadmnhfnilkaa
open Go.RowKit
set_option linter.unusedVariables false

set_option maxRecDepth 100000 in
set_option maxHeartbeats 8000000 in
theorem step_get_none {w : World} {g gb kn mo N r : Nat} {a : Option Addr} {cap : Nat} {E : List (Cp × Int)} (h : Pr w g gb kn mo N r a cap E) (sec : Bool) (o : Int) (hi lo : Nat) (v : Int) (h1 : hi < B64) (h2 : lo < B64) (hc : (o, hi, lo) ∉ E.map Prod.fst) :
    Calls Try.prog 25 #[.agg #[.pointer (some ⟨g, 0, none⟩), .pointer (some ⟨r, 0, none⟩)], .agg #[.bool sec, .int .i64 1, .int .i64 o, .int .u64 (hi : Int), .int .u64 (lo : Int), .int .i64 v]] w (Stepped w g gb kn mo N r a) := by
  have hbs := fun U hU => boxes w g r sec 1 o hi lo v U hU
  obtain ⟨w1, hw1⟩ : ∃ w1, w1 = (w.alloc (Obj.cells #[.pointer (some ⟨g, 0, none⟩), .pointer (some ⟨r, 0, none⟩)] 63)).alloc (Obj.cells #[.bool sec, .int .i64 1, .int .i64 o, .int .u64 (hi : Int), .int .u64 (lo : Int), .int .i64 v] 36) := ⟨_, rfl⟩
  obtain ⟨⟨x0, x1, x2, x3, x4, x5⟩, xk, hB1⟩ := hbs w1 hw1
  clear hbs
  have HB1 := hid hB1
  have H1 := hid (h.later hB1)
  have HH := hid h
  have hnx0 : ¬ Xb g gb r a w.heap.size := fun e => by have := h.lt _ e; omega
  have hnx1 : ¬ Xb g gb r a (w.heap.size + 1) := fun e => by have := h.lt _ e; omega
  have hC : Hid (∀ U : World, But (Xb g gb r a) w1 U → (U.cell? ⟨w.heap.size, 0, none⟩ = some (.pointer (some ⟨g, 0, none⟩)) ∧ U.cell? ⟨w.heap.size, 1, none⟩ = some (.pointer (some ⟨r, 0, none⟩)) ∧ U.cell? ⟨w.heap.size + 1, 2, none⟩ = some (.int .i64 o) ∧ U.cell? ⟨w.heap.size + 1, 3, none⟩ = some (.int .u64 (hi : Int)) ∧ U.cell? ⟨w.heap.size + 1, 4, none⟩ = some (.int .u64 (lo : Int)) ∧ U.cell? ⟨w.heap.size + 1, 5, none⟩ = some (.int .i64 v)) ∧ But (Xb g gb r a) w1 U) := fun U hU => ⟨⟨cell_but hU x0 hnx0, cell_but hU x1 hnx0, cell_but hU x2 hnx1, cell_but hU x3 hnx1, cell_but hU x4 hnx1, cell_but hU x5 hnx1⟩, hU⟩
  have hri : Hid (∀ k, Xb g gb r a k ∧ (k = r ∨ Blk a k) → ¬ I.In g gb k) := by
    rintro k ⟨_, rfl | hk⟩ (e | e)
    · exact h.d1 e
    · exact h.d2 e
    · exact (h.d3 k hk).1 e
    · exact (h.d3 k hk).2 e
  have hgr : Hid (∀ k, I.In g gb k → ¬ (k = r ∨ Blk a k)) := by
    rintro k (rfl | rfl) (e | e)
    · exact h.d1 e.symm
    · exact (h.d3 _ e).1 rfl
    · exact h.d2 e.symm
    · exact (h.d3 _ e).2 rfl
  have hIx : Hid (∀ k, I.In g gb k → Xb g gb r a k) := by
    rintro k (rfl | rfl)
    · exact .inl rfl
    · exact .inr (.inl rfl)
  have hRx : Hid (∀ k, (k = r ∨ Blk a k) → Xb g gb r a k) := by
    rintro k (rfl | hk)
    · exact .inr (.inr (.inl rfl))
    · exact .inr (.inr (.inr hk))
  clear h hB1 hnx0 hnx1
  go_enter Try.func25, Try.ntmps25
  have HC := hid hc
  clear hc
  go_upto_region 1 with fail
  rw [← hw1]
  clear hw1
  go_upto_region 6 with (first | (go_at_call 21; refine (I.get_none H1.out.t o hi lo h1 h2 HC.out).mono ?_; rintro e w3 ⟨rfl, hb3⟩; have HBL3 := hid hb3; have HP3 := hid (H1.out.later hb3); obtain ⟨y0, y1, y2, y3, y4, y5⟩ := (hC.out w3 (But.of hb3)).1; clear hb3))
  go_wp2_with (first | (go_at_call 39; refine (rget_none HP3.out.f o hi lo HC.out).mono ?_; rintro e w4 ⟨rfl, hb4⟩; have HBL4 := hid (below_call HBL3.out hb4); clear hb4))
  go_ret
  exact Stepped.same HH.out (below_call HB1.out HBL4.out)

set_option maxRecDepth 100000 in
set_option maxHeartbeats 8000000 in
theorem step_get_ok {w : World} {g gb kn mo N r : Nat} {a : Option Addr} {cap : Nat} {E : List (Cp × Int)} (h : Pr w g gb kn mo N r a cap E) (sec : Bool) (o : Int) (hi lo : Nat) (v : Int) (h1 : hi < B64) (h2 : lo < B64) (u : Int) (hc : ((o, hi, lo), u) ∈ E) :
    Calls Try.prog 25 #[.agg #[.pointer (some ⟨g, 0, none⟩), .pointer (some ⟨r, 0, none⟩)], .agg #[.bool sec, .int .i64 1, .int .i64 o, .int .u64 (hi : Int), .int .u64 (lo : Int), .int .i64 v]] w (Stepped w g gb kn mo N r a) := by
  have hbs := fun U hU => boxes w g r sec 1 o hi lo v U hU
  obtain ⟨w1, hw1⟩ : ∃ w1, w1 = (w.alloc (Obj.cells #[.pointer (some ⟨g, 0, none⟩), .pointer (some ⟨r, 0, none⟩)] 63)).alloc (Obj.cells #[.bool sec, .int .i64 1, .int .i64 o, .int .u64 (hi : Int), .int .u64 (lo : Int), .int .i64 v] 36) := ⟨_, rfl⟩
  obtain ⟨⟨x0, x1, x2, x3, x4, x5⟩, xk, hB1⟩ := hbs w1 hw1
  clear hbs
  have HB1 := hid hB1
  have H1 := hid (h.later hB1)
  have HH := hid h
  have hnx0 : ¬ Xb g gb r a w.heap.size := fun e => by have := h.lt _ e; omega
  have hnx1 : ¬ Xb g gb r a (w.heap.size + 1) := fun e => by have := h.lt _ e; omega
  have hC : Hid (∀ U : World, But (Xb g gb r a) w1 U → (U.cell? ⟨w.heap.size, 0, none⟩ = some (.pointer (some ⟨g, 0, none⟩)) ∧ U.cell? ⟨w.heap.size, 1, none⟩ = some (.pointer (some ⟨r, 0, none⟩)) ∧ U.cell? ⟨w.heap.size + 1, 2, none⟩ = some (.int .i64 o) ∧ U.cell? ⟨w.heap.size + 1, 3, none⟩ = some (.int .u64 (hi : Int)) ∧ U.cell? ⟨w.heap.size + 1, 4, none⟩ = some (.int .u64 (lo : Int)) ∧ U.cell? ⟨w.heap.size + 1, 5, none⟩ = some (.int .i64 v)) ∧ But (Xb g gb r a) w1 U) := fun U hU => ⟨⟨cell_but hU x0 hnx0, cell_but hU x1 hnx0, cell_but hU x2 hnx1, cell_but hU x3 hnx1, cell_but hU x4 hnx1, cell_but hU x5 hnx1⟩, hU⟩
  have hri : Hid (∀ k, Xb g gb r a k ∧ (k = r ∨ Blk a k) → ¬ I.In g gb k) := by
    rintro k ⟨_, rfl | hk⟩ (e | e)
    · exact h.d1 e
    · exact h.d2 e
    · exact (h.d3 k hk).1 e
    · exact (h.d3 k hk).2 e
  have hgr : Hid (∀ k, I.In g gb k → ¬ (k = r ∨ Blk a k)) := by
    rintro k (rfl | rfl) (e | e)
    · exact h.d1 e.symm
    · exact (h.d3 _ e).1 rfl
    · exact h.d2 e.symm
    · exact (h.d3 _ e).2 rfl
  have hIx : Hid (∀ k, I.In g gb k → Xb g gb r a k) := by
    rintro k (rfl | rfl)
    · exact .inl rfl
    · exact .inr (.inl rfl)
  have hRx : Hid (∀ k, (k = r ∨ Blk a k) → Xb g gb r a k) := by
    rintro k (rfl | hk)
    · exact .inr (.inr (.inl rfl))
    · exact .inr (.inr (.inr hk))
  clear h hB1 hnx0 hnx1
  go_enter Try.func25, Try.ntmps25
  have HC := hid hc
  clear hc
  go_upto_region 1 with fail
  rw [← hw1]
  clear hw1
  go_upto_region 6 with (first | (go_at_call 21; refine (I.get_ok H1.out.t o hi lo h1 h2 u HC.out).mono ?_; rintro e w3 ⟨rfl, hb3⟩; have HBL3 := hid hb3; have HP3 := hid (H1.out.later hb3); obtain ⟨y0, y1, y2, y3, y4, y5⟩ := (hC.out w3 (But.of hb3)).1; clear hb3))
  go_wp2_with (first | (go_at_call 39; refine (rget_ok HP3.out.f HP3.out.t.nodup o hi lo u HC.out).mono ?_; rintro e w4 ⟨rfl, hb4⟩; have HBL4 := hid (below_call HBL3.out hb4); clear hb4))
  go_ret
  exact Stepped.same HH.out (below_call HB1.out HBL4.out)

set_option maxRecDepth 100000 in
set_option maxHeartbeats 8000000 in
theorem step_drop_none {w : World} {g gb kn mo N r : Nat} {a : Option Addr} {cap : Nat} {E : List (Cp × Int)} (h : Pr w g gb kn mo N r a cap E) (sec : Bool) (o : Int) (hi lo : Nat) (v : Int) (h1 : hi < B64) (h2 : lo < B64) (hc : (o, hi, lo) ∉ E.map Prod.fst) :
    Calls Try.prog 25 #[.agg #[.pointer (some ⟨g, 0, none⟩), .pointer (some ⟨r, 0, none⟩)], .agg #[.bool sec, .int .i64 2, .int .i64 o, .int .u64 (hi : Int), .int .u64 (lo : Int), .int .i64 v]] w (Stepped w g gb kn mo N r a) := by
  have hbs := fun U hU => boxes w g r sec 2 o hi lo v U hU
  obtain ⟨w1, hw1⟩ : ∃ w1, w1 = (w.alloc (Obj.cells #[.pointer (some ⟨g, 0, none⟩), .pointer (some ⟨r, 0, none⟩)] 63)).alloc (Obj.cells #[.bool sec, .int .i64 2, .int .i64 o, .int .u64 (hi : Int), .int .u64 (lo : Int), .int .i64 v] 36) := ⟨_, rfl⟩
  obtain ⟨⟨x0, x1, x2, x3, x4, x5⟩, xk, hB1⟩ := hbs w1 hw1
  clear hbs
  have HB1 := hid hB1
  have H1 := hid (h.later hB1)
  have HH := hid h
  have hnx0 : ¬ Xb g gb r a w.heap.size := fun e => by have := h.lt _ e; omega
  have hnx1 : ¬ Xb g gb r a (w.heap.size + 1) := fun e => by have := h.lt _ e; omega
  have hC : Hid (∀ U : World, But (Xb g gb r a) w1 U → (U.cell? ⟨w.heap.size, 0, none⟩ = some (.pointer (some ⟨g, 0, none⟩)) ∧ U.cell? ⟨w.heap.size, 1, none⟩ = some (.pointer (some ⟨r, 0, none⟩)) ∧ U.cell? ⟨w.heap.size + 1, 2, none⟩ = some (.int .i64 o) ∧ U.cell? ⟨w.heap.size + 1, 3, none⟩ = some (.int .u64 (hi : Int)) ∧ U.cell? ⟨w.heap.size + 1, 4, none⟩ = some (.int .u64 (lo : Int)) ∧ U.cell? ⟨w.heap.size + 1, 5, none⟩ = some (.int .i64 v)) ∧ But (Xb g gb r a) w1 U) := fun U hU => ⟨⟨cell_but hU x0 hnx0, cell_but hU x1 hnx0, cell_but hU x2 hnx1, cell_but hU x3 hnx1, cell_but hU x4 hnx1, cell_but hU x5 hnx1⟩, hU⟩
  have hri : Hid (∀ k, Xb g gb r a k ∧ (k = r ∨ Blk a k) → ¬ I.In g gb k) := by
    rintro k ⟨_, rfl | hk⟩ (e | e)
    · exact h.d1 e
    · exact h.d2 e
    · exact (h.d3 k hk).1 e
    · exact (h.d3 k hk).2 e
  have hgr : Hid (∀ k, I.In g gb k → ¬ (k = r ∨ Blk a k)) := by
    rintro k (rfl | rfl) (e | e)
    · exact h.d1 e.symm
    · exact (h.d3 _ e).1 rfl
    · exact h.d2 e.symm
    · exact (h.d3 _ e).2 rfl
  have hIx : Hid (∀ k, I.In g gb k → Xb g gb r a k) := by
    rintro k (rfl | rfl)
    · exact .inl rfl
    · exact .inr (.inl rfl)
  have hRx : Hid (∀ k, (k = r ∨ Blk a k) → Xb g gb r a k) := by
    rintro k (rfl | hk)
    · exact .inr (.inr (.inl rfl))
    · exact .inr (.inr (.inr hk))
  clear h hB1 hnx0 hnx1
  go_enter Try.func25, Try.ntmps25
  have HC := hid hc
  clear hc
  go_upto_region 1 with fail
  rw [← hw1]
  clear hw1
  go_upto_region 9 with fail
  go_region_held3 (fun U => (U.cell? ⟨w.heap.size, 0, none⟩ = some (.pointer (some ⟨g, 0, none⟩)) ∧ U.cell? ⟨w.heap.size, 1, none⟩ = some (.pointer (some ⟨r, 0, none⟩)) ∧ U.cell? ⟨w.heap.size + 1, 2, none⟩ = some (.int .i64 o) ∧ U.cell? ⟨w.heap.size + 1, 3, none⟩ = some (.int .u64 (hi : Int)) ∧ U.cell? ⟨w.heap.size + 1, 4, none⟩ = some (.int .u64 (lo : Int)) ∧ U.cell? ⟨w.heap.size + 1, 5, none⟩ = some (.int .i64 v)) ∧ But (Xb g gb r a) w1 U) (first | exact hC.out _ HB4.out | exact hC.out _ HB3.out | exact hC.out _ (But.of (Below.refl _ _).drew)) (first
    | (go_at_call 40; refine (rdrop_none HP3.out.f o hi lo HC.out).mono ?_; rintro e w4 ⟨rfl, hb4⟩; have HB4 := hid (HB3.out.call hb4); have HBL4 := hid (below_call HBL3.out hb4); clear hb4)
    | (go_at_call 22; refine (I.drop_none (H1.out.t.later (Below.refl _ _).drew) o hi lo h1 h2 HC.out).mono ?_; rintro e w3 ⟨rfl, hb3⟩; have HBL3 := hid (below_call (Below.refl w1.heap.size w1).drew hb3); have HB3 := hid (But.of (S := Xb g gb r a) HBL3.out); have HP3 := hid (H1.out.later HBL3.out); clear hb3))
  go_wp2
  go_ret
  exact Stepped.same HH.out (below_call HB1.out HBL4.out)

set_option maxRecDepth 100000 in
set_option maxHeartbeats 8000000 in
theorem step_drop_ok {w : World} {g gb kn mo N r : Nat} {a : Option Addr} {cap : Nat} {E : List (Cp × Int)} (h : Pr w g gb kn mo N r a cap E) (sec : Bool) (o : Int) (hi lo : Nat) (v : Int) (h1 : hi < B64) (h2 : lo < B64) (u : Int) (hc : ((o, hi, lo), u) ∈ E) :
    Calls Try.prog 25 #[.agg #[.pointer (some ⟨g, 0, none⟩), .pointer (some ⟨r, 0, none⟩)], .agg #[.bool sec, .int .i64 2, .int .i64 o, .int .u64 (hi : Int), .int .u64 (lo : Int), .int .i64 v]] w (Stepped w g gb kn mo N r a) := by
  have hbs := fun U hU => boxes w g r sec 2 o hi lo v U hU
  obtain ⟨w1, hw1⟩ : ∃ w1, w1 = (w.alloc (Obj.cells #[.pointer (some ⟨g, 0, none⟩), .pointer (some ⟨r, 0, none⟩)] 63)).alloc (Obj.cells #[.bool sec, .int .i64 2, .int .i64 o, .int .u64 (hi : Int), .int .u64 (lo : Int), .int .i64 v] 36) := ⟨_, rfl⟩
  obtain ⟨⟨x0, x1, x2, x3, x4, x5⟩, xk, hB1⟩ := hbs w1 hw1
  clear hbs
  have HB1 := hid hB1
  have H1 := hid (h.later hB1)
  have HH := hid h
  have hnx0 : ¬ Xb g gb r a w.heap.size := fun e => by have := h.lt _ e; omega
  have hnx1 : ¬ Xb g gb r a (w.heap.size + 1) := fun e => by have := h.lt _ e; omega
  have hC : Hid (∀ U : World, But (Xb g gb r a) w1 U → (U.cell? ⟨w.heap.size, 0, none⟩ = some (.pointer (some ⟨g, 0, none⟩)) ∧ U.cell? ⟨w.heap.size, 1, none⟩ = some (.pointer (some ⟨r, 0, none⟩)) ∧ U.cell? ⟨w.heap.size + 1, 2, none⟩ = some (.int .i64 o) ∧ U.cell? ⟨w.heap.size + 1, 3, none⟩ = some (.int .u64 (hi : Int)) ∧ U.cell? ⟨w.heap.size + 1, 4, none⟩ = some (.int .u64 (lo : Int)) ∧ U.cell? ⟨w.heap.size + 1, 5, none⟩ = some (.int .i64 v)) ∧ But (Xb g gb r a) w1 U) := fun U hU => ⟨⟨cell_but hU x0 hnx0, cell_but hU x1 hnx0, cell_but hU x2 hnx1, cell_but hU x3 hnx1, cell_but hU x4 hnx1, cell_but hU x5 hnx1⟩, hU⟩
  have hri : Hid (∀ k, Xb g gb r a k ∧ (k = r ∨ Blk a k) → ¬ I.In g gb k) := by
    rintro k ⟨_, rfl | hk⟩ (e | e)
    · exact h.d1 e
    · exact h.d2 e
    · exact (h.d3 k hk).1 e
    · exact (h.d3 k hk).2 e
  have hgr : Hid (∀ k, I.In g gb k → ¬ (k = r ∨ Blk a k)) := by
    rintro k (rfl | rfl) (e | e)
    · exact h.d1 e.symm
    · exact (h.d3 _ e).1 rfl
    · exact h.d2 e.symm
    · exact (h.d3 _ e).2 rfl
  have hIx : Hid (∀ k, I.In g gb k → Xb g gb r a k) := by
    rintro k (rfl | rfl)
    · exact .inl rfl
    · exact .inr (.inl rfl)
  have hRx : Hid (∀ k, (k = r ∨ Blk a k) → Xb g gb r a k) := by
    rintro k (rfl | hk)
    · exact .inr (.inr (.inl rfl))
    · exact .inr (.inr (.inr hk))
  clear h hB1 hnx0 hnx1
  go_enter Try.func25, Try.ntmps25
  have HC := hid hc
  have HK := hid (key_mem hc)
  obtain ⟨E0, hE0⟩ := drop_one hc
  have HE0 := hid hE0
  clear hc hE0
  go_upto_region 1 with fail
  rw [← hw1]
  clear hw1
  go_upto_region 9 with fail
  go_region_held3 (fun U => (U.cell? ⟨w.heap.size, 0, none⟩ = some (.pointer (some ⟨g, 0, none⟩)) ∧ U.cell? ⟨w.heap.size, 1, none⟩ = some (.pointer (some ⟨r, 0, none⟩)) ∧ U.cell? ⟨w.heap.size + 1, 2, none⟩ = some (.int .i64 o) ∧ U.cell? ⟨w.heap.size + 1, 3, none⟩ = some (.int .u64 (hi : Int)) ∧ U.cell? ⟨w.heap.size + 1, 4, none⟩ = some (.int .u64 (lo : Int)) ∧ U.cell? ⟨w.heap.size + 1, 5, none⟩ = some (.int .i64 v)) ∧ But (Xb g gb r a) w1 U) (first | exact hC.out _ HB4.out | exact hC.out _ HB3.out | exact hC.out _ (But.of (Below.refl _ _).drew)) (first
    | (go_at_call 40; refine (rdrop_ok HF3.out o hi lo HK.out).mono ?_; rintro e w4 ⟨rfl, hr4⟩; have HR4 := hid hr4; have HB4 := hid (rdrop_but hRx.out HB3.out hr4); clear hr4)
    | (go_at_call 22; refine (I.drop_ok (H1.out.t.later (Below.refl _ _).drew) o hi lo h1 h2 u HC.out E0 HE0.out).mono ?_; rintro e w3 ⟨rfl, t3, b3⟩; have HT3 := hid t3; have hbd := (But.of (S := I.In g gb) (Below.refl w1.heap.size w1).drew).trans b3; have HB3 := hid (hbd.mono hIx.out); have HF3 := hid (H1.out.f.but hbd (hri.out r ⟨.inr (.inr (.inl rfl)), .inl rfl⟩) (fun k hk => hri.out k ⟨.inr (.inr (.inr hk)), .inr hk⟩)); clear t3 b3 hbd))
  go_wp2
  go_ret
  exact ⟨rfl, rdrop_fin HH.out hgr.out HE0.out HC.out HT3.out HR4.out (fun hb => ((But.of HB1.out).trans HB3.out).trans (hb.mono (fun k hk => hRx.out k (.inl hk)))) (Nat.le_trans HB1.out.size HB3.out.size)⟩
end Go.Proofs.Ytdkadmnhfnilkaa
