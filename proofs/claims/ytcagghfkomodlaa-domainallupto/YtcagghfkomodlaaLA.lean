import Derived.Test.YtcagghfkomodlaaT7
namespace Go.Proofs.Ytcagghfkomodlaa
open Go.RowKit
set_option linter.unusedVariables false
set_option linter.unusedSimpArgs false
set_option maxRecDepth 100000 in
set_option maxHeartbeats 8000000 in
theorem all_tt (mo ot : Int) (w : World) {a : Option Addr} {k c : Nat} {f : Nat → Sp} (hS : Ss w a k f) (hk : k ≤ 9223372036854775807) (h1 : 1 ≤ mo ∧ mo ≤ 32) (h2 : 1 ≤ ot ∧ ot ≤ 32) :
    Calls Try.prog 5 #[.int .i64 mo, .int .i64 ot, .slice a k c] w fun e w' => e = .returned (.bool true) ∧ Below w.heap.size w w' := by
  have HS := hid hS
  have H1 := hid h1
  have H2 := hid h2
  clear hS h1 h2
  go_enter Try.func5, Try.ntmps5
  go_upto_region 2 with (first | (go_at_call 7; refine (new_ok mo _ H1.out.1 H1.out.2).mono ?_; rintro e w1 ⟨g1, rfl, hd, hb⟩; have HD1 := hid hd; have HB1 := hid hb; clear hd hb))
  go_upto_region 3 with (first | (go_at_call 17; refine (rnew_ok mo _ H1.out.1 H1.out.2).mono ?_; rintro e w2 ⟨r1, rfl, hd, hb⟩; have HE1 := hid hd; have HB2 := hid hb; clear hd hb))
  have HP1 := hid (Pd.new HD1.out HE1.out HB1.out HB2.out H1.out.1 H1.out.2)
  have HW2 := hid (below_call HB1.out HB2.out)
  obtain ⟨S1, hS1⟩ : ∃ S1, S1 = Two g1 none r1 none := ⟨_, rfl⟩
  rw [← hS1] at HP1
  clear HD1 HE1 HB1 HB2 hS1
  go_upto_region 4 with (first | (go_at_call 7; refine (new_ok ot _ H2.out.1 H2.out.2).mono ?_; rintro e w3 ⟨g2, rfl, hd, hb⟩; have HD2 := hid hd; have HB3 := hid hb; clear hd hb))
  go_upto_region 5 with (first | (go_at_call 17; refine (rnew_ok ot _ H2.out.1 H2.out.2).mono ?_; rintro e w4 ⟨r2, rfl, hd, hb⟩; have HE2 := hid hd; have HB4 := hid hb; clear hd hb))
  have HP2 := hid (Pd.new HD2.out HE2.out HB3.out HB4.out H2.out.1 H2.out.2)
  have HW4 := hid (below_call HB3.out HB4.out)
  obtain ⟨S2, hS2⟩ : ∃ S2, S2 = Two g2 none r2 none := ⟨_, rfl⟩
  rw [← hS2] at HP2
  clear HD2 HE2 HB3 HB4 hS2
  have hkn := hid (known_any w4)
  go_upto_region 7 with (first | (go_at_call 8; refine hkn.out.mono ?_; rintro e w5 ⟨rfl, hb⟩; have HB5 : Hid (Below w4.heap.size w4 w5) := hb; clear hb))
  obtain ⟨w7, hw7⟩ : ∃ w7, w7 = (w5.alloc (Obj.cells #[.pointer (some ⟨g1, 0, none⟩), .pointer (some ⟨r1, 0, none⟩)] 52)).alloc (Obj.cells #[.pointer (some ⟨g2, 0, none⟩), .pointer (some ⟨r2, 0, none⟩)] 52) := ⟨_, rfl⟩
  have hB7 : Below w5.heap.size w5 w7 := by rw [hw7]; exact below2 _ _ _
  have hB47 := below_call HB5.out hB7
  have hA : Al w w7 true true mo ot (.pointer (some ⟨g1, 0, none⟩)) (.pointer (some ⟨r1, 0, none⟩)) (.pointer (some ⟨g2, 0, none⟩)) (.pointer (some ⟨r2, 0, none⟩)) w5.heap.size S1 S2 := by
    have n1 : ∀ k, S1 k → k < w2.heap.size := fun k hk => (HP1.out.blk k hk).2
    have n2 : ∀ k, S2 k → w2.heap.size ≤ k ∧ k < w4.heap.size := fun k hk => HP2.out.blk k hk
    have s1 := HW4.out.size
    have s2 := HB5.out.size
    refine ⟨(HP1.out.later HW4.out).later hB47, (HP2.out.mono HW2.out.size).later hB47, fun k h1 h2 => by have := n1 k h1; have := n2 k h2; omega, ⟨fun e => by have := n1 _ e; omega, fun e => by have := n1 _ e; omega⟩, ⟨fun e => by have := n2 _ e; omega, fun e => by have := n2 _ e; omega⟩, by rw [hw7]; simp, by rw [hw7]; simp [go_sem], by rw [hw7]; simp [go_sem], by rw [hw7]; simp [go_sem], by rw [hw7]; simp [go_sem], ?_⟩
    exact (HW2.out.trans (HW4.out.mono HW2.out.size)).trans (hB47.mono (Nat.le_trans HW2.out.size HW4.out.size))
  have H0 : Hid (AlRel w true true mo ot (.pointer (some ⟨g1, 0, none⟩)) (.pointer (some ⟨r1, 0, none⟩)) (.pointer (some ⟨g2, 0, none⟩)) (.pointer (some ⟨r2, 0, none⟩)) w5.heap.size k (.int .i64 0) w7) := ⟨0, S1, S2, Nat.zero_le _, rfl, hA⟩
  clear hA hB7 hB47 HP1 HP2 HW2 HW4 HB5 hkn
  go_upto_region 9 with fail
  rw [← hw7]
  clear hw7
  obtain ⟨bx, hbx⟩ : ∃ bx, bx = w5.heap.size := ⟨_, rfl⟩
  rw [← hbx] at H0 ⊢
  clear hbx
  go_upto_region 10 with fail
  go_loopw [17] (AlRel w true true mo ot (.pointer (some ⟨g1, 0, none⟩)) (.pointer (some ⟨r1, 0, none⟩)) (.pointer (some ⟨g2, 0, none⟩)) (.pointer (some ⟨r2, 0, none⟩)) bx k) (fun t _ => k - (intOf t).toNat)
  case atStart => exact H0.out
  case round =>
    clear H0
    obtain ⟨i, S1, S2, hi, rfl, hA⟩ := hrel
    have HA := hid hA
    clear hA
    by_cases hlt : i < k
    · have hd : decide ((i : Int) < (k : Int)) = true := decide_eq_true (by omega)
      obtain ⟨b, o, rfl, hat⟩ := HS.out (by omega)
      obtain ⟨s, hs⟩ : ∃ s, s = f i := ⟨_, rfl⟩
      have hb0 := hat i hlt
      rw [← hs] at hb0
      have HSB := hid (fun (U : World) (hU : Below w.heap.size w U) => hb0.later hU)
      have c0 := (HSB.out wr HA.out.bl).c0
      clear hat hs hb0
      cases hsec : s.sec with
      | true =>
        have hsec2 := hsec
        rw [hsec] at c0
        go_upto_region 14 with fail
        have HCC : Hid (∀ U, But S2 wr U → (U.cell? ⟨bx + 1, 0, none⟩ = some (.pointer (some ⟨g2, 0, none⟩)) ∧ U.cell? ⟨bx + 1, 1, none⟩ = some (.pointer (some ⟨r2, 0, none⟩)) ∧ U.cell? ⟨b, o + i * 7, none⟩ = some (.bool true) ∧ U.cell? ⟨b, o + i * 7 + 1, none⟩ = some (.int .i64 s.kd) ∧ U.cell? ⟨b, o + i * 7 + 2, none⟩ = some (.int .i64 s.c.1) ∧ U.cell? ⟨b, o + i * 7 + 3, none⟩ = some (.int .u64 (s.c.2.1 : Int)) ∧ U.cell? ⟨b, o + i * 7 + 4, none⟩ = some (.int .u64 (s.c.2.2 : Int)) ∧ U.cell? ⟨b, o + i * 7 + 5, none⟩ = some (.int .i64 s.n) ∧ U.cell? ⟨b, o + i * 7 + 6, none⟩ = some (.slice s.la s.ln s.lc)) ∧ But S2 wr U) := fun U hU => by
          have hq := HSB.out U (HA.out.below2 hU)
          have hc0 := hq.c0
          rw [hsec2] at hc0
          exact ⟨⟨cell_but hU HA.out.y0 HA.out.n2.2, cell_but hU HA.out.y1 HA.out.n2.2, hc0, hq.c1, hq.c2, hq.c3, hq.c4, hq.c5, hq.c6⟩, hU⟩
        have hst := hid ((HA.out.two.later (Below.refl _ _).drew).step s (HSB.out wr.drew (HA.out.bl.trans ((Below.refl _ _).drew.mono HA.out.bl.size))).row (HSB.out wr HA.out.bl).small)
        rw [hsec2] at hst
        have HAS : Hid (∀ w' S', Pd true w' w.heap.size ot (.pointer (some ⟨g2, 0, none⟩)) (.pointer (some ⟨r2, 0, none⟩)) S' → But S2 wr.drew w' → (∀ k, S' k → S2 k ∨ wr.drew.heap.size ≤ k) → Al w w' true true mo ot (.pointer (some ⟨g1, 0, none⟩)) (.pointer (some ⟨r1, 0, none⟩)) (.pointer (some ⟨g2, 0, none⟩)) (.pointer (some ⟨r2, 0, none⟩)) bx S1 S' ∧ But S2 wr w') := fun w' S' h1 h2 h3 =>
          ⟨Al.step2 (HA.out.later (Below.refl _ _).drew) h1 h2 h3, (But.of (Below.refl _ _).drew).trans h2⟩
        clear c0 hsec hsec2
        go_region_held3 (fun U => (U.cell? ⟨bx + 1, 0, none⟩ = some (.pointer (some ⟨g2, 0, none⟩)) ∧ U.cell? ⟨bx + 1, 1, none⟩ = some (.pointer (some ⟨r2, 0, none⟩)) ∧ U.cell? ⟨b, o + i * 7, none⟩ = some (.bool true) ∧ U.cell? ⟨b, o + i * 7 + 1, none⟩ = some (.int .i64 s.kd) ∧ U.cell? ⟨b, o + i * 7 + 2, none⟩ = some (.int .i64 s.c.1) ∧ U.cell? ⟨b, o + i * 7 + 3, none⟩ = some (.int .u64 (s.c.2.1 : Int)) ∧ U.cell? ⟨b, o + i * 7 + 4, none⟩ = some (.int .u64 (s.c.2.2 : Int)) ∧ U.cell? ⟨b, o + i * 7 + 5, none⟩ = some (.int .i64 s.n) ∧ U.cell? ⟨b, o + i * 7 + 6, none⟩ = some (.slice s.la s.ln s.lc)) ∧ But S2 wr U) (first | exact HCC.out _ HN.out.2 | exact HCC.out _ (But.of (Below.refl _ _).drew)) (first
          | (go_at_call 18; refine hst.out.mono ?_; rintro e w3 ⟨S', rfl, hp, hb, hon⟩; have HN := hid (HAS.out _ _ hp hb hon); clear hp hb hon))
        go_wp2
        exact ⟨⟨i + 1, S1, S', by omega, by go_num, HN.out.1⟩, by simp [intOf]; omega⟩
      | false =>
        have hsec2 := hsec
        rw [hsec] at c0
        go_upto_region 16 with fail
        have HCC : Hid (∀ U, But S1 wr U → (U.cell? ⟨bx, 0, none⟩ = some (.pointer (some ⟨g1, 0, none⟩)) ∧ U.cell? ⟨bx, 1, none⟩ = some (.pointer (some ⟨r1, 0, none⟩)) ∧ U.cell? ⟨b, o + i * 7, none⟩ = some (.bool false) ∧ U.cell? ⟨b, o + i * 7 + 1, none⟩ = some (.int .i64 s.kd) ∧ U.cell? ⟨b, o + i * 7 + 2, none⟩ = some (.int .i64 s.c.1) ∧ U.cell? ⟨b, o + i * 7 + 3, none⟩ = some (.int .u64 (s.c.2.1 : Int)) ∧ U.cell? ⟨b, o + i * 7 + 4, none⟩ = some (.int .u64 (s.c.2.2 : Int)) ∧ U.cell? ⟨b, o + i * 7 + 5, none⟩ = some (.int .i64 s.n) ∧ U.cell? ⟨b, o + i * 7 + 6, none⟩ = some (.slice s.la s.ln s.lc)) ∧ But S1 wr U) := fun U hU => by
          have hq := HSB.out U (HA.out.below1 hU)
          have hc0 := hq.c0
          rw [hsec2] at hc0
          exact ⟨⟨cell_but hU HA.out.x0 HA.out.n1.1, cell_but hU HA.out.x1 HA.out.n1.1, hc0, hq.c1, hq.c2, hq.c3, hq.c4, hq.c5, hq.c6⟩, hU⟩
        have hst := hid ((HA.out.one.later (Below.refl _ _).drew).step s (HSB.out wr.drew (HA.out.bl.trans ((Below.refl _ _).drew.mono HA.out.bl.size))).row (HSB.out wr HA.out.bl).small)
        rw [hsec2] at hst
        have HAS : Hid (∀ w' S', Pd true w' w.heap.size mo (.pointer (some ⟨g1, 0, none⟩)) (.pointer (some ⟨r1, 0, none⟩)) S' → But S1 wr.drew w' → (∀ k, S' k → S1 k ∨ wr.drew.heap.size ≤ k) → Al w w' true true mo ot (.pointer (some ⟨g1, 0, none⟩)) (.pointer (some ⟨r1, 0, none⟩)) (.pointer (some ⟨g2, 0, none⟩)) (.pointer (some ⟨r2, 0, none⟩)) bx S' S2 ∧ But S1 wr w') := fun w' S' h1 h2 h3 =>
          ⟨Al.step1 (HA.out.later (Below.refl _ _).drew) h1 h2 h3, (But.of (Below.refl _ _).drew).trans h2⟩
        clear c0 hsec hsec2
        go_region_held3 (fun U => (U.cell? ⟨bx, 0, none⟩ = some (.pointer (some ⟨g1, 0, none⟩)) ∧ U.cell? ⟨bx, 1, none⟩ = some (.pointer (some ⟨r1, 0, none⟩)) ∧ U.cell? ⟨b, o + i * 7, none⟩ = some (.bool false) ∧ U.cell? ⟨b, o + i * 7 + 1, none⟩ = some (.int .i64 s.kd) ∧ U.cell? ⟨b, o + i * 7 + 2, none⟩ = some (.int .i64 s.c.1) ∧ U.cell? ⟨b, o + i * 7 + 3, none⟩ = some (.int .u64 (s.c.2.1 : Int)) ∧ U.cell? ⟨b, o + i * 7 + 4, none⟩ = some (.int .u64 (s.c.2.2 : Int)) ∧ U.cell? ⟨b, o + i * 7 + 5, none⟩ = some (.int .i64 s.n) ∧ U.cell? ⟨b, o + i * 7 + 6, none⟩ = some (.slice s.la s.ln s.lc)) ∧ But S1 wr U) (first | exact HCC.out _ HN.out.2 | exact HCC.out _ (But.of (Below.refl _ _).drew)) (first
          | (go_at_call 18; refine hst.out.mono ?_; rintro e w3 ⟨S', rfl, hp, hb, hon⟩; have HN := hid (HAS.out _ _ hp hb hon); clear hp hb hon))
        go_wp2
        exact ⟨⟨i + 1, S', S2, by omega, by go_num, HN.out.1⟩, by simp [intOf]; omega⟩
    · obtain rfl : i = k := by omega
      have hd : decide ((i : Int) < (i : Int)) = false := by simp
      go_upto_region 20 with fail
      obtain ⟨w8, hw8⟩ : ∃ w8, w8 = wr.alloc (Obj.cells #[.bool false, .int .i64 3, .int .i64 0, .int .u64 0, .int .u64 0, .int .i64 0, .slice none 0 0] 54) := ⟨_, rfl⟩
      have hB8 : Below wr.heap.size wr w8 := by rw [hw8]; exact below1 _ _
      have hsb : Sb w8 wr.heap.size 0 ⟨false, 3, (0, 0, 0), 0, none, 0, 0, []⟩ := by rw [hw8]; exact ⟨by simp [go_sem], by simp [go_sem], by simp [go_sem], by simp [go_sem], by simp [go_sem], by simp [go_sem], by simp [go_sem], row_nil _, by simp⟩
      rw [← hw8]
      clear hw8
      have HA8 := hid (HA.out.later hB8)
      obtain ⟨be, hbe⟩ : ∃ be, be = wr.heap.size := ⟨_, rfl⟩
      rw [← hbe] at hsb ⊢
      have hblt : be < w8.heap.size := World.block_lt_of_cell? _ _ hsb.c0
      have HNB1 : Hid (¬ S1 be) := fun e => by have := (HA.out.one.blk _ e).2; omega
      have HNB2 : Hid (¬ S2 be) := fun e => by have := (HA.out.two.blk _ e).2; omega
      have HSB := hid hsb
      clear hB8 hbe HA hsb
      obtain ⟨e0, e1, e2, e3, e4, e5, e6, _, _⟩ := HSB.out
      simp only [Nat.zero_add, Int.cast_ofNat_Int] at e0 e1 e2 e3 e4 e5 e6
      have x0 := HA8.out.x0
      have x1 := HA8.out.x1
      have hst := hid (HA8.out.one.step ⟨false, 3, (0, 0, 0), 0, none, 0, 0, []⟩ (row_nil _) (by simp))
      simp only [Int.cast_ofNat_Int] at hst
      have HAS : Hid (∀ w' S', Pd true w' w.heap.size mo (.pointer (some ⟨g1, 0, none⟩)) (.pointer (some ⟨r1, 0, none⟩)) S' → But S1 w8 w' → (∀ k, S' k → S1 k ∨ w8.heap.size ≤ k) → Al w w' true true mo ot (.pointer (some ⟨g1, 0, none⟩)) (.pointer (some ⟨r1, 0, none⟩)) (.pointer (some ⟨g2, 0, none⟩)) (.pointer (some ⟨r2, 0, none⟩)) bx S' S2 ∧ But S1 w8 w') := fun w' S' h1 h2 h3 => ⟨Al.step1 HA8.out h1 h2 h3, h2⟩
      have HSQ : Hid (∀ (w9 : World) (S' : Nat → Prop), Al w w9 true true mo ot (.pointer (some ⟨g1, 0, none⟩)) (.pointer (some ⟨r1, 0, none⟩)) (.pointer (some ⟨g2, 0, none⟩)) (.pointer (some ⟨r2, 0, none⟩)) bx S' S2 → Calls Try.prog 18 #[.agg #[.pointer (some ⟨g2, 0, none⟩), .pointer (some ⟨r2, 0, none⟩)], .agg #[.bool false, .int .i64 3, .int .i64 0, .int .u64 0, .int .u64 0, .int .i64 0, .slice none 0 0]] w9 fun e w' => e = .returned (.bool true) ∧ Below w.heap.size w w') := fun w9 S' hA => by
        have hst := hA.two.step ⟨false, 3, (0, 0, 0), 0, none, 0, 0, []⟩ (row_nil _) (by simp)
        refine Calls.mono hst ?_
        rintro e w' ⟨S'', rfl, hp, hb, hon⟩
        exact ⟨rfl, hA.below2 hb⟩
      go_wp2_with (first
        | (go_at_call 18; refine (HSQ.out _ _ HN.out.1).mono ?_; rintro e w10 ⟨rfl, hb⟩; have HBZ := hid hb; clear hb)
        | (go_at_call 18; refine hst.out.mono ?_; rintro e w9 ⟨S', rfl, hp, hb, hon⟩; have HN := hid (HAS.out _ _ hp hb hon); clear hp hb hon e0 e1 e2 e3 e4 e5 e6 x0 x1; obtain ⟨e0, e1, e2, e3, e4, e5, e6⟩ : w9.cell? ⟨be, 0, none⟩ = some (.bool false) ∧ w9.cell? ⟨be, 1, none⟩ = some (.int .i64 3) ∧ w9.cell? ⟨be, 2, none⟩ = some (.int .i64 0) ∧ w9.cell? ⟨be, 3, none⟩ = some (.int .u64 0) ∧ w9.cell? ⟨be, 4, none⟩ = some (.int .u64 0) ∧ w9.cell? ⟨be, 5, none⟩ = some (.int .i64 0) ∧ w9.cell? ⟨be, 6, none⟩ = some (.slice none 0 0) := (let h := HSB.out; ⟨cell_but HN.out.2 h.c0 HNB1.out, cell_but HN.out.2 h.c1 HNB1.out, cell_but HN.out.2 h.c2 HNB1.out, cell_but HN.out.2 h.c3 HNB1.out, cell_but HN.out.2 h.c4 HNB1.out, cell_but HN.out.2 h.c5 HNB1.out, cell_but HN.out.2 h.c6 HNB1.out⟩); have x0 := HN.out.1.y0; have x1 := HN.out.1.y1))
      go_ret
      exact ⟨rfl, HBZ.out⟩
end Go.Proofs.Ytcagghfkomodlaa
