import Derived.Test.YtlelglfdamakaaaS1
namespace Go.Proofs.Ytlelglfdamakaaa
open Go.RowKit H
set_option linter.unusedVariables false
set_option linter.unusedSimpArgs false
variable {w w' : World} {Ha Hb : Hv} {X : List Tk} {l : Fo}

/-! ### Two desks -/
theorem Hv.Pw.all {H : Hv} {k : Nat} (h : H.Pw k) : H.All k := by
  rcases h with h | h
  · exact .inl (.inr (.inr h))
  · exact .inr (.inl h)
theorem Hv.g_all (H : Hv) : H.All H.g := .inr (.inl rfl)
theorem Hv.Dis.nd {H : Hv} (h : H.Dis) : ¬ H.Pw H.d := fun e => by
  rcases e with e | e
  · exact h.d1 (.inr (.inr e))
  · exact h.d2 e
/-- A desk's own call: its cells stay. -/
theorem Tp.own {H : Hv} (h : Tp w H.d H.A.g H.v H.r) (hd : H.Dis) (hb : But H.Pw w w') : Tp w' H.d H.A.g H.v H.r := h.but hb hd.nd
/-- Another desk's call. -/
theorem Ds.far (h : Ds w Hb X l) (hab : ∀ k, Ha.All k → ¬ Hb.All k) (hb : But Ha.Pw w w') : Ds w' Hb X l := h.but hb (fun k hk e => hab k e.all hk)
theorem Ds.gl {H : Hv} (h : Ds w H X l) : H.g < w.heap.size := by obtain ⟨_, ⟨_, ⟨_, _, _, hk⟩, _, _⟩, _⟩ := h.vt; exact hk.lt

/-! ### A call of a script -/
def opV (kd : Int) (c : Cp) (p n : Int) (a : Option Addr) (m cap : Nat) : Value := .agg #[.int .i64 kd, .int .i64 c.1, .int .u64 (c.2.1 : Int), .int .u64 (c.2.2 : Int), .int .i64 p, .int .i64 n, .slice a m cap]
def NdRel (v : World) (g : Cp → Int) (p : Int) (L : List Cp) (N : Cp × Int) (t s : Value) (w : World) : Prop :=
  ∃ (i : Nat) (q : Bool), t = .int .i64 (i : Int) ∧ s = .bool q ∧ i ≤ L.length ∧ N = namG g p (L.drop i) (if q then 4 else 3) ∧ Below v.heap.size v w
set_option maxRecDepth 100000 in
set_option maxHeartbeats 4000000 in
theorem lnamed_any (ha : Ds w Ha X l) (hb : Ds w Hb X l) (hab : ∀ k, Ha.All k → ¬ Hb.All k) (kd : Int) (c : Cp) (p nd : Int) {a : Option Addr} {m cap : Nat} {L : List Cp} (hr : Rd w a m L) (hm : m ≤ 9223372036854775807) (hk : ∀ c ∈ L, c.2.1 < B64 ∧ c.2.2 < B64) (hna : 0 < m → ∀ k, Blk a k → ¬ Ha.All k ∧ ¬ Hb.All k) :
    Calls Try.prog 17 #[.pointer (some ⟨Ha.d, 0, none⟩), .pointer (some ⟨Hb.d, 0, none⟩), opV kd c p nd a m cap] w fun e w' => e = .returned (.bool true) ∧ Ds w' Ha X l ∧ Ds w' Hb X l ∧ But (fun k => k = Ha.g ∨ k = Hb.g) w w' := by
  have hml := hr.len
  subst hml
  obtain ⟨Ab, hAb⟩ : ∃ Ab : Nat → Prop, Ab = fun k => k = Ha.g ∨ k = Hb.g := ⟨_, rfl⟩
  rw [← hAb]
  have HAb1 : Hid (∀ k, k = Ha.g → Ab k) := fun k e => by rw [hAb]; exact .inl e
  have HAb2 : Hid (∀ k, k = Hb.g → Ab k) := fun k e => by rw [hAb]; exact .inr e
  have HAbo : Hid (∀ k, Ab k → k = Ha.g ∨ k = Hb.g) := fun k e => by rw [hAb] at e; exact e
  clear hAb
  obtain ⟨w1, hw1⟩ : ∃ w1, w1 = w.alloc (Obj.cells #[.int .i64 kd, .int .i64 c.1, .int .u64 (c.2.1 : Int), .int .u64 (c.2.2 : Int), .int .i64 p, .int .i64 nd, .slice a L.length cap] 54) := ⟨_, rfl⟩
  have hB1 : Below w.heap.size w w1 := by rw [hw1]; exact below1 _ _
  have hga := ha.gl
  have hgb := hb.gl
  have HO : Hid (∀ U, But Ab w1 U → U.cell? ⟨w.heap.size, 4, none⟩ = some (.int .i64 p) ∧ U.cell? ⟨w.heap.size, 5, none⟩ = some (.int .i64 nd) ∧ U.cell? ⟨w.heap.size, 6, none⟩ = some (.slice a L.length cap)) := fun U hU => by
    have hne : ¬ Ab w.heap.size := fun e => by rcases HAbo.out _ e with e | e <;> omega
    exact ⟨cell_but hU (by rw [hw1]; simp [go_sem]) hne, cell_but hU (by rw [hw1]; simp [go_sem]) hne, cell_but hU (by rw [hw1]; simp [go_sem]) hne⟩
  have HDa := hid (ha.later hB1)
  have HDb := hid (hb.later hB1)
  have HRd : Hid (∀ U, But Ab w1 U → Rd U a L.length L) := fun U hU => (hr.later hB1).but0 hU (fun h0 k hk e => by
    rcases HAbo.out _ e with rfl | rfl
    · exact (hna h0 _ hk).1 Ha.g_all
    · exact (hna h0 _ hk).2 Hb.g_all)
  have HAB := hid hab
  have HW := hid hk
  have HB1 := hid hB1
  have HNg := hid hna
  obtain ⟨N, hN⟩ : ∃ N, N = namG (givE X l nd) p L 3 := ⟨_, rfl⟩
  have HN := hid hN
  have HNx : Hid (∀ (H : Hv) (U : World), Vt U H X l → Rd U a L.length L → (0 < L.length → ∀ k, Blk a k → k ≠ H.g) → Calls Try.prog 15 #[.pointer (some ⟨H.v, 0, none⟩), .int .i64 p, .int .i64 nd, .slice a L.length cap] U fun e w' => e = .returned (.tuple #[.agg #[.int .i64 N.1.1, .int .u64 (N.1.2.1 : Int), .int .u64 (N.1.2.2 : Int)], .int .i64 N.2]) ∧ Vt w' H X l ∧ But (fun k => k = H.g) U w') := fun H U hv hr hn => by
    rw [hN]
    exact named_any hv p nd cap hr hm HW.out hn
  clear hN ha hb hab hr hk hna hB1
  obtain ⟨⟨xo, xh, xl⟩, ee⟩ := N
  simp only at HNx
  have HN1 : Hid (∀ U, Below w1.heap.size w1 U → Calls Try.prog 15 #[.pointer (some ⟨Ha.v, 0, none⟩), .int .i64 p, .int .i64 nd, .slice a L.length cap] U fun e w' => e = .returned (.tuple #[.agg #[.int .i64 xo, .int .u64 (xh : Int), .int .u64 (xl : Int)], .int .i64 ee]) ∧ Vt w' Ha X l ∧ But (fun k => k = Ha.g) U w') := fun U hU => HNx.out Ha U (HDa.out.vt.later hU) (HRd.out U (But.of hU)) (fun h0 k hk e => (HNg.out h0 k hk).1 (e ▸ Ha.g_all))
  have HS1 : Hid (∀ U, But Ab w1 U → (U.cell? ⟨Ha.d, 1, none⟩ = some (.pointer (some ⟨Ha.v, 0, none⟩)) ∧ U.cell? ⟨w.heap.size, 4, none⟩ = some (.int .i64 p) ∧ U.cell? ⟨w.heap.size, 5, none⟩ = some (.int .i64 nd) ∧ U.cell? ⟨w.heap.size, 6, none⟩ = some (.slice a L.length cap)) ∧ But Ab w1 U) := fun U hU => ⟨⟨cell_but hU HDa.out.tp.c1 (fun e => by
    rcases HAbo.out _ e with e | e
    · exact HDa.out.vt.dis.d2 e
    · exact HAB.out Ha.d (.inr (.inr (.inr (.inl rfl)))) ((show Hb.g = Ha.d from e.symm) ▸ Hb.g_all)), HO.out U hU⟩, hU⟩
  have HBa1 : Hid (But Ab w1 w1) := But.refl _ _
  have HV1 := hid HDa.out.vt
  have HGl1 : Hid (Ha.g < w1.heap.size) := HDa.out.gl
  unfold opV
  go_enter Try.func17, Try.ntmps17
  go_upto_region 1 with fail
  rw [← hw1]
  clear hw1
  go_upto_region 1 with fail
  go_cut [7, 8] (fun s7 s8 W => ∃ b, s7 = .pointer (some ⟨b, 0, none⟩) ∧ s8 = .int .i64 ee ∧ Hid (Lw w1 Ha X l W b (xo, xh, xl)))
  case first =>
    go_region_held3 (fun U => (U.cell? ⟨Ha.d, 1, none⟩ = some (.pointer (some ⟨Ha.v, 0, none⟩)) ∧ U.cell? ⟨w.heap.size, 4, none⟩ = some (.int .i64 p) ∧ U.cell? ⟨w.heap.size, 5, none⟩ = some (.int .i64 nd) ∧ U.cell? ⟨w.heap.size, 6, none⟩ = some (.slice a L.length cap)) ∧ But Ab w1 U) (first | exact HS1.out _ HBu.out | exact HS1.out _ (HBa1.out.call (Below.refl _ _).drew) | exact HS1.out _ (HBa1.out.call (below1 _ _).drew) | exact HS1.out _ (HBu.out.alloc _) | exact HS1.out _ (((HBu.out.put HBa1.out.size _).put HBa1.out.size _).put HBa1.out.size _)) (first
      | (go_at_call 15; (with_reducible refine (HN1.out (w1.alloc (Obj.cells #[.int .i64 0, .int .u64 0, .int .u64 0] 32)).drew (below1 w1 (Obj.cells #[.int .i64 0, .int .u64 0, .int .u64 0] 32)).drew).mono ?_); rintro e u_ ⟨rfl, ht, hb⟩; have HVt := hid ht; have HBt := hid ((But.of (S := fun k => k = Ha.g) (below1 w1 (Obj.cells #[.int .i64 0, .int .u64 0, .int .u64 0] 32)).drew).trans hb); have HBu := hid (HBa1.out.trans (HBt.out.mono HAb1.out)); have hzc := (show Zc (w1.alloc (Obj.cells #[.int .i64 0, .int .u64 0, .int .u64 0] 32)).drew w1.heap.size from ⟨⟨by simp [go_sem], by simp [go_sem]⟩, ⟨by simp [go_sem], by simp [go_sem]⟩, ⟨by simp [go_sem], by simp [go_sem]⟩⟩).but hb (by have := HGl1.out; omega); have HZc := hid hzc; obtain ⟨⟨z0, f0⟩, ⟨z1, f1⟩, ⟨z2, f2⟩⟩ := hzc; clear ht hb)
      | (go_at_call 15; (with_reducible refine (HN1.out w1.drew (Below.refl w1.heap.size w1).drew).mono ?_); rintro e u_ ⟨rfl, ht, hb⟩; have HVt := hid ht; have HBt := hid ((But.of (S := fun k => k = Ha.g) (Below.refl w1.heap.size w1).drew).trans hb); have HBu := hid (HBa1.out.trans (HBt.out.mono HAb1.out)); clear ht hb))
    all_goals (try go_wp2)
    all_goals go_meet
    all_goals (first | exact ⟨_, rfl, rfl, Lw.put HV1.out HVt.out HBt.out (Nat.le_refl _) HZc.out (xo, xh, xl)⟩ | exact ⟨_, rfl, rfl, Lw.next HVt.out HBt.out (xo, xh, xl)⟩)
  case rest =>
  rename World => v2
  obtain ⟨b7, rfl, rfl, HL7⟩ := hcut
  have HBa2 : Hid (But Ab w1 v2) := HL7.out.bu.mono HAb1.out
  have HDa2 : Hid (Ds v2 Ha X l) := ⟨HL7.out.vt, HDa.out.tp.own HL7.out.vt.dis (Hv.Pw.of_g HL7.out.bu)⟩
  have HDb2 : Hid (Ds v2 Hb X l) := HDb.out.far HAB.out (Hv.Pw.of_g HL7.out.bu)
  have HN2 : Hid (∀ U, Below v2.heap.size v2 U → Calls Try.prog 15 #[.pointer (some ⟨Hb.v, 0, none⟩), .int .i64 p, .int .i64 nd, .slice a L.length cap] U fun e w' => e = .returned (.tuple #[.agg #[.int .i64 xo, .int .u64 (xh : Int), .int .u64 (xl : Int)], .int .i64 ee]) ∧ Vt w' Hb X l ∧ But (fun k => k = Hb.g) U w') := fun U hU => HNx.out Hb U (HDb2.out.vt.later hU) (HRd.out U (HBa2.out.call hU)) (fun h0 k hk e => (HNg.out h0 k hk).2 (e ▸ Hb.g_all))
  have HS2 : Hid (∀ U, But Ab w1 U → (U.cell? ⟨Hb.d, 1, none⟩ = some (.pointer (some ⟨Hb.v, 0, none⟩)) ∧ U.cell? ⟨w.heap.size, 4, none⟩ = some (.int .i64 p) ∧ U.cell? ⟨w.heap.size, 5, none⟩ = some (.int .i64 nd) ∧ U.cell? ⟨w.heap.size, 6, none⟩ = some (.slice a L.length cap)) ∧ But Ab w1 U) := fun U hU => ⟨⟨cell_but hU HDb.out.tp.c1 (fun e => by
    rcases HAbo.out _ e with e | e
    · exact HAB.out Ha.g Ha.g_all (.inr (.inr (.inr (.inl (show Ha.g = Hb.d from e.symm)))))
    · exact HDb.out.vt.dis.d2 e), HO.out U hU⟩, hU⟩
  have HV2 := hid HDb2.out.vt
  have HGl2 : Hid (Hb.g < v2.heap.size) := HDb2.out.gl
  clear HN1 HS1 HBa1 HV1 HGl1
  go_upto_region 2 with fail
  go_cut [9, 10] (fun s7 s8 W => ∃ b, s7 = .pointer (some ⟨b, 0, none⟩) ∧ s8 = .int .i64 ee ∧ Hid (Lw v2 Hb X l W b (xo, xh, xl)))
  case first =>
    go_region_held3 (fun U => (U.cell? ⟨Hb.d, 1, none⟩ = some (.pointer (some ⟨Hb.v, 0, none⟩)) ∧ U.cell? ⟨w.heap.size, 4, none⟩ = some (.int .i64 p) ∧ U.cell? ⟨w.heap.size, 5, none⟩ = some (.int .i64 nd) ∧ U.cell? ⟨w.heap.size, 6, none⟩ = some (.slice a L.length cap)) ∧ But Ab w1 U) (first | exact HS2.out _ HBu.out | exact HS2.out _ (HBa2.out.call (Below.refl _ _).drew) | exact HS2.out _ (HBa2.out.call (below1 _ _).drew) | exact HS2.out _ (HBu.out.alloc _) | exact HS2.out _ (((HBu.out.put HBa2.out.size _).put HBa2.out.size _).put HBa2.out.size _)) (first
      | (go_at_call 15; (with_reducible refine (HN2.out (v2.alloc (Obj.cells #[.int .i64 0, .int .u64 0, .int .u64 0] 32)).drew (below1 v2 (Obj.cells #[.int .i64 0, .int .u64 0, .int .u64 0] 32)).drew).mono ?_); rintro e u_ ⟨rfl, ht, hb⟩; have HVt := hid ht; have HBt := hid ((But.of (S := fun k => k = Hb.g) (below1 v2 (Obj.cells #[.int .i64 0, .int .u64 0, .int .u64 0] 32)).drew).trans hb); have HBu := hid (HBa2.out.trans (HBt.out.mono HAb2.out)); have hzc := (show Zc (v2.alloc (Obj.cells #[.int .i64 0, .int .u64 0, .int .u64 0] 32)).drew v2.heap.size from ⟨⟨by simp [go_sem], by simp [go_sem]⟩, ⟨by simp [go_sem], by simp [go_sem]⟩, ⟨by simp [go_sem], by simp [go_sem]⟩⟩).but hb (by have := HGl2.out; omega); have HZc := hid hzc; obtain ⟨⟨z0, f0⟩, ⟨z1, f1⟩, ⟨z2, f2⟩⟩ := hzc; clear ht hb)
      | (go_at_call 15; (with_reducible refine (HN2.out v2.drew (Below.refl v2.heap.size v2).drew).mono ?_); rintro e u_ ⟨rfl, ht, hb⟩; have HVt := hid ht; have HBt := hid ((But.of (S := fun k => k = Hb.g) (Below.refl v2.heap.size v2).drew).trans hb); have HBu := hid (HBa2.out.trans (HBt.out.mono HAb2.out)); clear ht hb))
    all_goals (try go_wp2)
    all_goals go_meet
    all_goals (first | exact ⟨_, rfl, rfl, Lw.put HV2.out HVt.out HBt.out (Nat.le_refl _) HZc.out (xo, xh, xl)⟩ | exact ⟨_, rfl, rfl, Lw.next HVt.out HBt.out (xo, xh, xl)⟩)
  case rest =>
  rename World => v3
  obtain ⟨b9, rfl, rfl, HL9⟩ := hcut
  have HBa3 : Hid (But Ab w1 v3) := HBa2.out.trans (HL9.out.bu.mono HAb2.out)
  have HDb3 : Hid (Ds v3 Hb X l) := ⟨HL9.out.vt, HDb2.out.tp.own HL9.out.vt.dis (Hv.Pw.of_g HL9.out.bu)⟩
  have HDa3 : Hid (Ds v3 Ha X l) := HDa2.out.far (fun k h1 h2 => HAB.out k h2 h1) (Hv.Pw.of_g HL9.out.bu)
  have hc7 : Cel v3 b7 0 (xo, xh, xl) := HL7.out.ce.but HL9.out.bu (by
    have h1 := HL7.out.lo
    have h2 := HDb.out.gl
    omega)
  have hc9 := HL9.out.ce
  have HGa : Hid (Ha.g < b7) := by
    have h1 := HL7.out.lo
    have h2 := HDa.out.gl
    unfold Hid; omega
  have HB7 : Hid (w.heap.size < b7) := by
    have h1 := HL7.out.lo
    have h2 := World.block_lt_of_cell? _ _ (HO.out w1 (But.refl _ _)).1
    simp only at h2
    unfold Hid; omega
  have HS3 : Hid (∀ U, But (fun k => k = Ha.g) v3 U → (U.cell? ⟨Ha.d, 1, none⟩ = some (.pointer (some ⟨Ha.v, 0, none⟩)) ∧ U.cell? ⟨w.heap.size, 4, none⟩ = some (.int .i64 p) ∧ U.cell? ⟨w.heap.size, 5, none⟩ = some (.int .i64 nd) ∧ U.cell? ⟨w.heap.size, 6, none⟩ = some (.slice a L.length cap) ∧ U.cell? ⟨b7, 0, none⟩ = some (.int .i64 xo) ∧ U.cell? ⟨b7, 1, none⟩ = some (.int .u64 (xh : Int)) ∧ U.cell? ⟨b7, 2, none⟩ = some (.int .u64 (xl : Int))) ∧ But (fun k => k = Ha.g) v3 U) := fun U hU => by
    have h7 := hc7.but hU (by have := HGa.out; omega)
    refine ⟨⟨cell_but hU HDa3.out.tp.c1 HDa3.out.vt.dis.d2, (HO.out U (HBa3.out.trans (hU.mono HAb1.out))).1, (HO.out U (HBa3.out.trans (hU.mono HAb1.out))).2.1, (HO.out U (HBa3.out.trans (hU.mono HAb1.out))).2.2, h7.c0, h7.c1, h7.c2⟩, hU⟩
  obtain ⟨x0, x1, x2⟩ := hc7
  obtain ⟨y0, y1, y2⟩ := hc9
  simp only [Nat.zero_add] at x0 x1 x2 y0 y1 y2
  have hne := fun W => neCp (xo, xh, xl) (xo, xh, xl) W
  simp only [decide_true, Bool.not_true] at hne
  clear HL7 HL9 HN2 HS2 HBa2 HDa2 HDb2 HV2 HGl2 HDa HDb
  go_upto_region 7 with fail
  clear x0 x1 x2 y0 y1 y2 hne
  have HFin : Hid (∀ U, But (fun k => k = Ha.g) v3 U → Vt U Ha X l → Ds U Ha X l ∧ Ds U Hb X l ∧ But Ab w U) := fun U hU hv =>
    ⟨⟨hv, HDa3.out.tp.own hv.dis (Hv.Pw.of_g hU)⟩, HDb3.out.far HAB.out (Hv.Pw.of_g hU), (But.of HB1.out).trans (HBa3.out.trans (hU.mono HAb1.out))⟩
  go_loopw [12, 11] (NdRel v3 (givE X l nd) p L ((xo, xh, xl), ee)) (fun t _ _ => L.length - (intOf t).toNat)
  case atStart => exact ⟨0, false, rfl, rfl, by omega, by simpa using HN.out, Below.refl _ _⟩
  case round =>
    obtain ⟨i, q, rfl, rfl, hi, hN, hB⟩ := hrel
    have HB := hid hB
    have HNi := hid hN
    obtain ⟨⟨d1, o4, o5, o6, c70, c71, c72⟩, _⟩ := HS3.out _ (But.of hB)
    clear hN hB
    by_cases hlt : i < L.length
    · have hd : decide ((i : Int) < (L.length : Int)) = true := decide_eq_true (by omega)
      obtain ⟨x, hx⟩ : ∃ x, L[i]? = some x := ⟨_, List.getElem?_eq_getElem hlt⟩
      obtain ⟨b, f, rfl, hat⟩ := (HRd.out _ (HBa3.out.call HB.out)).at_ (by omega)
      have HStp := hid (namG_step (g := givE X l nd) (o := p) hx (if q then 4 else 3))
      obtain ⟨e0, e1, e2⟩ := hat i x hx
      have HXw := hid (HW.out x (List.mem_of_getElem? hx))
      have HBk : Hid (b ≠ Ha.g) := fun e => (HNg.out (by omega) b ⟨_, rfl, rfl⟩).1 (e ▸ Ha.g_all)
      clear hx hat
      obtain ⟨ko, kh, kl⟩ := x
      simp only at e0 e1 e2
      by_cases hc : ko = p
      · have hq : (ko != p) = false := by simp [hc]
        have HS2 : Hid (((xo, xh, xl), ee) = if givE X l nd (ko, kh, kl) = 0 then ((ko, kh, kl), 0) else if givE X l nd (ko, kh, kl) = 4 then namG (givE X l nd) p (L.drop (i + 1)) 4 else namG (givE X l nd) p (L.drop (i + 1)) (if q then 4 else 3)) := by unfold Hid; rw [HNi.out, HStp.out, if_neg (by simpa using hc)]
        have HSay := hid (fun (U : World) (hU : Below v3.heap.size v3 U) => says_any (HDa3.out.later hU) (ko, kh, kl) nd HXw.out)
        have HGv := hid (fun (U : World) (hU : Below v3.heap.size v3 U) => given_any (HDa3.out.vt.later hU) (ko, kh, kl) nd HXw.out)
        have hcx := givE_cases X l nd (ko, kh, kl)
        clear hc HStp HNi
        go_upto_region 9 with fail
        go_quiet (fail)
        have HB3 := hid (below_drewN HB.out nq)
        have HE : Hid (∀ U, But (fun k => k = Ha.g) (wr.drewN nq) U → U.cell? ⟨b, f + i * 3, none⟩ = some (.int .i64 ko) ∧ U.cell? ⟨b, f + i * 3 + 1, none⟩ = some (.int .u64 (kh : Int)) ∧ U.cell? ⟨b, f + i * 3 + 2, none⟩ = some (.int .u64 (kl : Int))) := fun U hU =>
          ⟨cell_but hU (cell_later (below_drewN (Below.refl _ _) nq) e0) HBk.out, cell_but hU (cell_later (below_drewN (Below.refl _ _) nq) e1) HBk.out, cell_but hU (cell_later (below_drewN (Below.refl _ _) nq) e2) HBk.out⟩
        clear e0 e1 e2 d1 o4 o5 o6 c70 c71 c72 HB
        generalize wr.drewN nq = wq at *
        have HS5 : Hid (∀ U, Below wq.heap.size wq U → (U.cell? ⟨w.heap.size, 4, none⟩ = some (.int .i64 p) ∧ U.cell? ⟨w.heap.size, 5, none⟩ = some (.int .i64 nd) ∧ U.cell? ⟨w.heap.size, 6, none⟩ = some (.slice (some ⟨b, f, none⟩) L.length cap) ∧ U.cell? ⟨b, f + i * 3, none⟩ = some (.int .i64 ko) ∧ U.cell? ⟨b, f + i * 3 + 1, none⟩ = some (.int .u64 (kh : Int)) ∧ U.cell? ⟨b, f + i * 3 + 2, none⟩ = some (.int .u64 (kl : Int))) ∧ Below wq.heap.size wq U) := fun U hU => by
          obtain ⟨⟨_, a4, a5, a6, _, _, _⟩, _⟩ := HS3.out U (But.of (below_call HB3.out hU))
          exact ⟨⟨a4, a5, a6, HE.out U (But.of hU)⟩, hU⟩
        go_upto_region 10 with fail
        rcases hcx with ⟨_, h1⟩ | ⟨_, _, h1⟩ | ⟨_, _, h1⟩
        · rw [h1] at HSay HS2
          clear h1 HGv
          go_region_held3 (fun U => (U.cell? ⟨w.heap.size, 4, none⟩ = some (.int .i64 p) ∧ U.cell? ⟨w.heap.size, 5, none⟩ = some (.int .i64 nd) ∧ U.cell? ⟨w.heap.size, 6, none⟩ = some (.slice (some ⟨b, f, none⟩) L.length cap) ∧ U.cell? ⟨b, f + i * 3, none⟩ = some (.int .i64 ko) ∧ U.cell? ⟨b, f + i * 3 + 1, none⟩ = some (.int .u64 (kh : Int)) ∧ U.cell? ⟨b, f + i * 3 + 2, none⟩ = some (.int .u64 (kl : Int))) ∧ Below wq.heap.size wq U) (first | exact HS5.out _ HB5.out | exact HS5.out _ (Below.refl _ _).drew) (first | (go_at_call 16; refine (HSay.out _ (below_call HB3.out (Below.refl _ _).drew)).mono ?_; rintro e w4 ⟨rfl, hb4⟩; have HB5 := hid (below_call (Below.refl wq.heap.size wq).drew hb4); have HB4 := hid (below_call HB3.out HB5.out); clear hb4))
          cases q with
          | false =>
            go_wp2
            exact ⟨⟨i + 1, false, by go_num, rfl, by omega, HS2.out.trans (by simp), HB4.out⟩, by simp [intOf]; omega⟩
          | true =>
            go_wp2
            exact ⟨⟨i + 1, true, by go_num, rfl, by omega, HS2.out.trans (by simp), HB4.out⟩, by simp [intOf]; omega⟩
        · rw [h1] at HSay HS2
          clear h1 HGv
          go_region_held3 (fun U => (U.cell? ⟨w.heap.size, 4, none⟩ = some (.int .i64 p) ∧ U.cell? ⟨w.heap.size, 5, none⟩ = some (.int .i64 nd) ∧ U.cell? ⟨w.heap.size, 6, none⟩ = some (.slice (some ⟨b, f, none⟩) L.length cap) ∧ U.cell? ⟨b, f + i * 3, none⟩ = some (.int .i64 ko) ∧ U.cell? ⟨b, f + i * 3 + 1, none⟩ = some (.int .u64 (kh : Int)) ∧ U.cell? ⟨b, f + i * 3 + 2, none⟩ = some (.int .u64 (kl : Int))) ∧ Below wq.heap.size wq U) (first | exact HS5.out _ HB5.out | exact HS5.out _ (Below.refl _ _).drew) (first | (go_at_call 16; refine (HSay.out _ (below_call HB3.out (Below.refl _ _).drew)).mono ?_; rintro e w4 ⟨rfl, hb4⟩; have HB5 := hid (below_call (Below.refl wq.heap.size wq).drew hb4); have HB4 := hid (below_call HB3.out HB5.out); clear hb4))
          cases q with
          | false =>
            go_wp2
            exact ⟨⟨i + 1, true, by go_num, rfl, by omega, HS2.out.trans (by simp), HB4.out⟩, by simp [intOf]; omega⟩
          | true =>
            go_wp2
            exact ⟨⟨i + 1, true, by go_num, rfl, by omega, HS2.out.trans (by simp), HB4.out⟩, by simp [intOf]; omega⟩
        · rw [h1] at HSay HS2 HGv
          clear h1
          go_region_held3 (fun U => (U.cell? ⟨w.heap.size, 4, none⟩ = some (.int .i64 p) ∧ U.cell? ⟨w.heap.size, 5, none⟩ = some (.int .i64 nd) ∧ U.cell? ⟨w.heap.size, 6, none⟩ = some (.slice (some ⟨b, f, none⟩) L.length cap) ∧ U.cell? ⟨b, f + i * 3, none⟩ = some (.int .i64 ko) ∧ U.cell? ⟨b, f + i * 3 + 1, none⟩ = some (.int .u64 (kh : Int)) ∧ U.cell? ⟨b, f + i * 3 + 2, none⟩ = some (.int .u64 (kl : Int))) ∧ Below wq.heap.size wq U) (first | exact HS5.out _ HB5.out | exact HS5.out _ (Below.refl _ _).drew) (first | (go_at_call 16; refine (HSay.out _ (below_call HB3.out (Below.refl _ _).drew)).mono ?_; rintro e w4 ⟨rfl, hb4⟩; have HB5 := hid (below_call (Below.refl wq.heap.size wq).drew hb4); have HB4 := hid (below_call HB3.out HB5.out); clear hb4))
          have hx := HS2.out
          simp only [if_true, Prod.mk.injEq] at hx
          obtain ⟨⟨rfl, rfl, rfl⟩, rfl⟩ := hx
          have hqe := fun W => eqCp (xo, xh, xl) (xo, xh, xl) W
          simp only [decide_true] at hqe
          have HS6 : Hid (∀ U, But (fun k => k = Ha.g) w4 U → (U.cell? ⟨Ha.d, 1, none⟩ = some (.pointer (some ⟨Ha.v, 0, none⟩)) ∧ U.cell? ⟨w.heap.size, 4, none⟩ = some (.int .i64 p) ∧ U.cell? ⟨w.heap.size, 5, none⟩ = some (.int .i64 nd) ∧ U.cell? ⟨w.heap.size, 6, none⟩ = some (.slice (some ⟨b, f, none⟩) L.length cap) ∧ U.cell? ⟨b7, 0, none⟩ = some (.int .i64 xo) ∧ U.cell? ⟨b7, 1, none⟩ = some (.int .u64 (xh : Int)) ∧ U.cell? ⟨b7, 2, none⟩ = some (.int .u64 (xl : Int)) ∧ U.cell? ⟨b, f + i * 3, none⟩ = some (.int .i64 xo) ∧ U.cell? ⟨b, f + i * 3 + 1, none⟩ = some (.int .u64 (xh : Int)) ∧ U.cell? ⟨b, f + i * 3 + 2, none⟩ = some (.int .u64 (xl : Int))) ∧ But (fun k => k = Ha.g) w4 U) := fun U hU => by
            obtain ⟨⟨a1, a4, a5, a6, a7, a8, a9⟩, _⟩ := HS3.out U ((But.of HB4.out).trans hU)
            exact ⟨⟨a1, a4, a5, a6, a7, a8, a9, HE.out U ((But.of HB5.out).trans hU)⟩, hU⟩
          go_upto_region 12 with fail
          go_region_held3 (fun U => (U.cell? ⟨Ha.d, 1, none⟩ = some (.pointer (some ⟨Ha.v, 0, none⟩)) ∧ U.cell? ⟨w.heap.size, 4, none⟩ = some (.int .i64 p) ∧ U.cell? ⟨w.heap.size, 5, none⟩ = some (.int .i64 nd) ∧ U.cell? ⟨w.heap.size, 6, none⟩ = some (.slice (some ⟨b, f, none⟩) L.length cap) ∧ U.cell? ⟨b7, 0, none⟩ = some (.int .i64 xo) ∧ U.cell? ⟨b7, 1, none⟩ = some (.int .u64 (xh : Int)) ∧ U.cell? ⟨b7, 2, none⟩ = some (.int .u64 (xl : Int)) ∧ U.cell? ⟨b, f + i * 3, none⟩ = some (.int .i64 xo) ∧ U.cell? ⟨b, f + i * 3 + 1, none⟩ = some (.int .u64 (xh : Int)) ∧ U.cell? ⟨b, f + i * 3 + 2, none⟩ = some (.int .u64 (xl : Int))) ∧ But (fun k => k = Ha.g) w4 U) (first | exact HS6.out _ HB6.out | exact HS6.out _ (But.of (Below.refl _ _).drew)) (first
            | (go_at_call 12; refine (num_any _ _).mono ?_; rintro e w9 ⟨rfl, hw9⟩; obtain rfl := hw9.symm; clear hw9)
            | (go_at_call 11; refine (HGv.out _ (below_call HB4.out (Below.refl _ _).drew)).mono ?_; rintro e w5 ⟨rfl, hv, hb⟩; have HV6 := hid hv; have HB6 := hid ((But.of (S := fun k => k = Ha.g) (Below.refl w4.heap.size w4).drew).trans hb); clear hv hb))
          go_wp2
          go_ret
          exact ⟨rfl, HFin.out _ ((But.of HB4.out).trans HB6.out) HV6.out⟩
      · have hq : (ko != p) = true := by simp [hc]
        have HS2 : Hid (namG (givE X l nd) p (L.drop i) (if q then 4 else 3) = namG (givE X l nd) p (L.drop (i + 1)) (if q then 4 else 3)) := by unfold Hid; rw [HStp.out, if_pos hc]
        clear hc HStp
        go_upto_region 9 with fail
        go_quiet (fail)
        go_wp2
        exact ⟨⟨i + 1, q, by go_num, rfl, by omega, HNi.out.trans HS2.out, below_drewN HB.out _⟩, by simp [intOf]; omega⟩
    · have hd : decide ((i : Int) < (L.length : Int)) = false := decide_eq_false (by omega)
      have hx := HNi.out.trans (namG_end (by omega) _)
      simp only [Prod.mk.injEq] at hx
      obtain ⟨⟨rfl, rfl, rfl⟩, rfl⟩ := hx
      have hqe := fun W => eqCp (0, 0, 0) (0, 0, 0) W
      simp only [decide_true] at hqe
      have HFi := hid (HFin.out _ (But.of HB.out) (HDa3.out.vt.later HB.out))
      clear HNi
      cases q with
      | false =>
        simp only [Bool.false_eq_true, if_false]
        go_wp2_with (first | (go_at_call 12; refine (num_any _ _).mono ?_; rintro e w9 ⟨rfl, hw9⟩; obtain rfl := hw9.symm; clear hw9))
        go_ret
        exact ⟨rfl, HFi.out⟩
      | true =>
        simp only [if_true]
        go_wp2_with (first | (go_at_call 12; refine (num_any _ _).mono ?_; rintro e w9 ⟨rfl, hw9⟩; obtain rfl := hw9.symm; clear hw9))
        go_ret
        exact ⟨rfl, HFi.out⟩
end Go.Proofs.Ytlelglfdamakaaa
