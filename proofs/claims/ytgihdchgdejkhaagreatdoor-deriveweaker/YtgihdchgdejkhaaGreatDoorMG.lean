import Derived.Test.YtgihdchgdejkhaaGreatDoorMF
namespace Go.Proofs.YtgihdchgdejkhaaGreatDoor.D
open Go.RowKit
open Go.Proofs.YtgihdchgdejkhaaGreatDoor.H (B64 Cp)
set_option linter.unusedVariables false

set_option maxRecDepth 100000 in
set_option maxHeartbeats 2000000 in
/-- maker.root. -/
theorem mroot_any {w : World} {H : Hd} {s : Sta} (h : Tri w H s) (hf : Fit H.toPar s) (o : Int) (ho : (Lit.int .i64 o).wf = true) :
    Calls Tryz.prog 26 #[makV H, .int .i64 o] w (Made w H (rootA H.toPar s o)) := by
  obtain ⟨w0, hw0⟩ : ∃ w0, w0 = (w.alloc (Obj.cells #[.pointer (some ⟨H.g, 0, none⟩), .pointer (some ⟨H.A.g, 0, none⟩), .pointer (some ⟨H.qg, 0, none⟩)] 81)).alloc (Obj.cells #[.int .i64 0, .int .u64 0, .int .u64 0] 36) := ⟨_, rfl⟩
  have hB0 : Below w.heap.size w w0 := by rw [hw0]; exact below2 _ _ _
  have hmk : Mk w0 w.heap.size H := by rw [hw0]; exact ⟨by simp [go_sem], by simp [go_sem], by simp [go_sem]⟩
  have hz : Zc w0 (w.heap.size + 1) := by rw [hw0]; exact ⟨⟨by simp [go_sem], by simp [go_sem]⟩, ⟨by simp [go_sem], by simp [go_sem]⟩, ⟨by simp [go_sem], by simp [go_sem]⟩⟩
  have hlt := h.old
  have hwr : ∀ k, H.Wr k → k < w.heap.size := fun k hk => hlt k (Hd.wr_all hk)
  have HM : Hid (∀ U, But H.Wr w0 U → Mk U w.heap.size H ∧ Zc U (w.heap.size + 1)) := fun U hU => ⟨hmk.but hU (fun e => by have := hwr _ e; omega), hz.but hU (fun e => by have := hwr _ e; omega)⟩
  have y1 := hmk.c1
  have HO := hid hlt
  have HT := hid (h.later hB0)
  have HB0 := hid hB0
  have HI := hid (cin_any (h.later hB0).cat.cm o)
  unfold rootA makV
  by_cases hn : 0 < inN s.X s.l o
  · rw [if_pos hn]
    obtain ⟨m, hm⟩ : ∃ m : Nat, m = inN s.X s.l o := ⟨_, rfl⟩
    rw [← hm] at HI hn
    have hd : decide ((m : Int) > 0) = true := decide_eq_true (by omega)
    have hp : 0 < (m : Int) := by omega
    clear h hB0 hmk hz hlt hwr hf hm
    go_enter Tryz.func26, Tryz.ntmps26
    go_upto_region 1 with fail
    rw [← hw0]
    clear hw0
    go_upto_region 2 with (first
      | (go_at_call 50; refine HI.out.mono ?_; rintro e w2 ⟨rfl, hb2⟩; have HB2 := hid (below_call HB0.out hb2); have HT2 := hid (HT.out.later hb2); obtain ⟨⟨v0, f0⟩, ⟨v1, f1⟩, ⟨v2, f2⟩⟩ := (HM.out w2 (But.of hb2)).2; clear hb2))
    go_wp2_with (first
      | (go_at_call 51; refine (checked_no _ _ (by decide) _).mono ?_; unfold errV; rintro e w9 ⟨rfl, hw9⟩; obtain rfl := hw9.symm; clear hw9))
    have HQ := hid (three_set v0 v1 v2 (.int .i64 0) (.int .u64 0) (.int .u64 0))
    obtain ⟨hf1, hf2⟩ := Made.put (w1 := w) (b := w.heap.size + 1) HT2.out (But.of HB2.out) HO.out (by omega) (0, 0, 0)
    exact bodyPost_ret (v := .tuple #[.agg #[.int .i64 0, .int .u64 0, .int .u64 0], errV _ _]) (by simp [results, Tryz.results26, go_sem, HQ.out.1, HQ.out.2.1, HQ.out.2.2]; rfl) rfl ⟨⟨_, by rw [show (no s 19).code = 19 from rfl, errO_ne (by decide)]; rfl⟩, hf1, hf2⟩
  · rw [if_neg hn]
    obtain ⟨R, hR⟩ : ∃ R, R = tokR H.toPar s o (drawD H.toPar s.t) (-1) 31 := ⟨_, rfl⟩
    have HTk : Hid (∀ U, Below w.heap.size w U → Mk U w.heap.size H → Calls Tryz.prog 52 #[makV H, .int .i64 o, .func (.func 53) #[.pointer (some ⟨H.g, 0, none⟩)] #[], .func (.func 54) #[] #[.pointer (some ⟨w.heap.size, 0, none⟩)]] U (Made U H R)) := fun U hU hmU => by
      rw [hR]
      refine tokenR (h.later hU) o ho (drawD H.toPar s.t) ⟨(low s.l : Int), 0, s.X.set (low s.l) (cap o (drawD H.toPar s.t).1, 31), s.l ++ [((low s.l : Int), -1)]⟩ w.heap.size (fun V hV => draw_any ((h.later hU).later hV)) (fun hm hD => ⟨rfl, fun V hV hT => ?_⟩)
      have := enter54 hT (hmU.but hV (fun e => by have := hwr _ (.inl e); omega)) (cap o (drawD H.toPar s.t).1) (half_lt (drawD_small hf s.t))
      rwa [show rootR H.mo s.X s.l (cap o (drawD H.toPar s.t).1) 31 = _ from rootR_ok hf hm hn] at this
    rw [← hR]
    unfold makV at HTk
    obtain ⟨m, hm⟩ : ∃ m : Nat, m = inN s.X s.l o := ⟨_, rfl⟩
    rw [← hm] at HI hn
    have hd : decide ((m : Int) > 0) = false := decide_eq_false (by omega)
    have hp : ¬ 0 < (m : Int) := by omega
    clear h hB0 hmk hz hlt hwr hf hm hR
    go_enter Tryz.func26, Tryz.ntmps26
    go_upto_region 1 with fail
    rw [← hw0]
    clear hw0
    go_upto_region 3 with (first
      | (go_at_call 50; refine HI.out.mono ?_; rintro e w2 ⟨rfl, hb2⟩; have HB2 := hid (below_call HB0.out hb2); have HC2 := hid hb2; obtain ⟨x0, x1, x2⟩ := (HM.out w2 (But.of hb2)).1; clear hb2))
    go_wp2_with (first
      | (go_at_call 52; refine (HTk.out w2 HB2.out (HM.out w2 (But.of HC2.out)).1).mono ?_; rintro e w3 ⟨⟨st, rfl⟩, ht3, hb3⟩; have HT3 := hid ht3; have HB3 := hid ((But.of (S := H.Wr) HC2.out).trans hb3); obtain ⟨⟨v0, f0⟩, ⟨v1, f1⟩, ⟨v2, f2⟩⟩ := (HM.out w3 HB3.out).2; clear ht3 hb3))
    have HQ := hid (three_set v0 v1 v2 (.int .i64 R.c.1) (.int .u64 (R.c.2.1 : Int)) (.int .u64 (R.c.2.2 : Int)))
    obtain ⟨hf1, hf2⟩ := Made.put (w1 := w) (b := w.heap.size + 1) HT3.out ((But.of HB0.out).trans HB3.out) HO.out (by omega) R.c
    exact bodyPost_ret (v := .tuple #[.agg #[.int .i64 R.c.1, .int .u64 (R.c.2.1 : Int), .int .u64 (R.c.2.2 : Int)], errO st R.code]) (by simp [results, Tryz.results26, go_sem, HQ.out.1, HQ.out.2.1, HQ.out.2.2]) rfl ⟨⟨st, rfl⟩, hf1, hf2⟩
/-- What source gives. -/
def srcN (s : Sta) (c : Cp) (r : Int) : Int × Int := if hasC s.X s.l c = false then (0, 3) else if partB 4 (rgt s c) = false ∨ partB r (rgt s c) = false then (0, 4) else (findN s.X s.l c, 0)
theorem childA_eq (P : Par) (s : Sta) (c : Cp) (r : Int) : childA P s c r = if (srcN s c r).2 ≠ 0 then no s (srcN s c r).2 else tokR P s c.1 (childD P s c.1) (findN s.X s.l c) r := by
  unfold childA srcN
  by_cases h1 : hasC s.X s.l c = false
  · simp only [if_pos h1]; rfl
  · simp only [if_neg h1]
    by_cases h2 : partB 4 (rgt s c) = false ∨ partB r (rgt s c) = false
    · simp only [if_pos h2]; rfl
    · simp only [if_neg h2]; rfl
theorem srcN_ok {s : Sta} {c : Cp} {r : Int} (h : (srcN s c r).2 = 0) : hasC s.X s.l c = true ∧ partB r (rgt s c) = true ∧ (srcN s c r).1 = findN s.X s.l c := by
  unfold srcN at h ⊢
  by_cases h1 : hasC s.X s.l c = false
  · simp [if_pos h1] at h
  · simp only [if_neg h1] at h ⊢
    by_cases h2 : partB 4 (rgt s c) = false ∨ partB r (rgt s c) = false
    · simp [if_pos h2] at h
    · simp only [if_neg h2]
      refine ⟨by simpa using h1, ?_, trivial⟩
      cases hq : partB r (rgt s c) with
      | true => rfl
      | false => exact absurd (.inr hq) h2
theorem has_any (a b : Int) (w : World) : Calls Tryz.prog 90 #[.int .i64 a, .int .i64 b] w fun e w' => e = .returned (.bool (partB b a)) ∧ w' = w := by
  have hp := hid (part_any b a)
  go_enter Tryz.func90, Tryz.ntmps90
  go_wp2_with (first | (go_at_call 91; refine (hp.out _).mono ?_; rintro e w9 ⟨rfl, hw9⟩; obtain rfl := hw9.symm; clear hw9))
  go_ret
  exact ⟨rfl, rfl⟩
set_option maxRecDepth 100000 in
set_option maxHeartbeats 2000000 in
/-- maker.source. -/
theorem source_any {w : World} {H : Hd} {s : Sta} (h : Tri w H s) (c : Cp) (r : Int) (hw : c.2.1 < B64 ∧ c.2.2 < B64) :
    Calls Tryz.prog 57 #[makV H, cpV c, .int .i64 r] w fun e w' => (∃ st, e = .returned (.tuple #[.int .i64 (srcN s c r).1, errO st (srcN s c r).2])) ∧ Below w.heap.size w w' := by
  obtain ⟨o, hi, lo⟩ := c
  obtain ⟨w0, hw0⟩ : ∃ w0, w0 = (w.alloc (Obj.cells #[.pointer (some ⟨H.g, 0, none⟩), .pointer (some ⟨H.A.g, 0, none⟩), .pointer (some ⟨H.qg, 0, none⟩)] 81)).alloc (Obj.cells #[.int .i64 o, .int .u64 (hi : Int), .int .u64 (lo : Int)] 36) := ⟨_, rfl⟩
  have hB0 : Below w.heap.size w w0 := by rw [hw0]; exact below2 _ _ _
  have hmk : Mk w0 w.heap.size H := by rw [hw0]; exact ⟨by simp [go_sem], by simp [go_sem], by simp [go_sem]⟩
  have x0 : w0.cell? ⟨w.heap.size + 1, 0, none⟩ = some (.int .i64 o) := by rw [hw0]; simp [go_sem]
  have x1 : w0.cell? ⟨w.heap.size + 1, 1, none⟩ = some (.int .u64 (hi : Int)) := by rw [hw0]; simp [go_sem]
  have x2 : w0.cell? ⟨w.heap.size + 1, 2, none⟩ = some (.int .u64 (lo : Int)) := by rw [hw0]; simp [go_sem]
  have y1 := hmk.c1
  have HM := hid hmk
  have HT := hid (h.later hB0)
  have HB0 := hid hB0
  have HF := hid (cfind_any (h.later hB0).cat (o, hi, lo) hw)
  unfold makV srcN
  by_cases hc : hasC s.X s.l (o, hi, lo) = false
  · rw [hc] at HF
    simp only [if_pos hc]
    obtain ⟨m, hm⟩ : ∃ m, m = findN s.X s.l (o, hi, lo) := ⟨_, rfl⟩
    rw [← hm] at HF
    clear h hB0 hmk hc hm
    go_enter Tryz.func57, Tryz.ntmps57
    go_upto_region 1 with fail
    rw [← hw0]
    clear hw0
    go_wp2_with (first
      | (go_at_call 51; refine (checked_no _ _ (by decide) _).mono ?_; unfold errV; rintro e w9 ⟨rfl, hw9⟩; obtain rfl := hw9.symm; clear hw9)
      | (go_at_call 37; refine HF.out.mono ?_; rintro e w2 ⟨rfl, hb2⟩; have HB2 := hid (below_call HB0.out hb2); clear hb2))
    exact bodyPost_ret (v := .tuple #[.int .i64 0, errV _ _]) (by simp [results, Tryz.results57, go_sem]; rfl) rfl ⟨⟨_, by rw [errO_ne (by decide)]⟩, HB2.out⟩
  · have hc' : hasC s.X s.l (o, hi, lo) = true := by simpa using hc
    rw [hc'] at HF
    simp only [if_neg hc]
    obtain ⟨hfn, hft⟩ := found h.cat.inv hc'
    obtain ⟨p, hp⟩ := mem_nums.1 hfn
    have HA := hid (fun (U : World) (hU : Below w.heap.size w U) => at_in (h.later hU).cat.cm (findN s.X s.l (o, hi, lo)) p hp)
    rw [hft] at HA
    obtain ⟨q, hq⟩ : ∃ q, q = rgt s (o, hi, lo) := ⟨_, rfl⟩
    rw [← hq]
    unfold rgt at hq
    rw [← hq] at HA
    obtain ⟨m, hm⟩ : ∃ m, m = findN s.X s.l (o, hi, lo) := ⟨_, rfl⟩
    rw [← hm] at HF HA
    rw [← hm]
    have HP := hid (part_any r q)
    have HHs := hid (has_any q 4)
    have hcell : Hid (∀ (U : World), (U.alloc (Obj.cells #[.int .i64 o, .int .u64 (hi : Int), .int .u64 (lo : Int), .int .i64 q, .int .i64 p] 55)).cell? ⟨U.heap.size, 3, none⟩ = some (.int .i64 q)) := fun U => by simp [go_sem]
    unfold tokA at HA
    clear h hB0 hmk hc hc' hm hq hft hfn hp
    cases hp4 : partB 4 q with
    | false =>
      rw [hp4] at HHs
      simp only [true_or, if_true]
      clear hp4
      go_enter Tryz.func57, Tryz.ntmps57
      go_upto_region 1 with fail
      rw [← hw0]
      clear hw0
      go_upto_region 4 with (first
        | (go_at_call 37; refine HF.out.mono ?_; rintro e w2 ⟨rfl, hb2⟩; have HB2 := hid (below_call HB0.out hb2); have z1 := (HM.out.later hb2).c1; clear hb2))
      go_wp2_with (first
        | (go_at_call 51; refine (checked_no _ _ (by decide) _).mono ?_; unfold errV; rintro e w9 ⟨rfl, hw9⟩; obtain rfl := hw9.symm; clear hw9)
        | (go_at_call 90; refine (HHs.out _).mono ?_; rintro e w9 ⟨rfl, hw9⟩; obtain rfl := hw9.symm; clear hw9)
        | (go_at_call 31; refine (HA.out w2 HB2.out).mono ?_; rintro e w3 ⟨rfl, hb3⟩; have HB3 := hid (below_call HB2.out hb3); clear hb3))
      exact bodyPost_ret (v := .tuple #[.int .i64 0, errV _ _]) (by simp [results, Tryz.results57, go_sem]; rfl) rfl ⟨⟨_, by rw [errO_ne (by decide)]⟩, HB3.out.alloc HB3.out.size _⟩
    | true =>
      rw [hp4] at HHs
      clear hp4
      cases hpr : partB r q with
      | false =>
        rw [hpr] at HP
        simp only [or_true, if_true]
        clear hpr
        go_enter Tryz.func57, Tryz.ntmps57
        go_upto_region 1 with fail
        rw [← hw0]
        clear hw0
        go_upto_region 4 with (first
          | (go_at_call 37; refine HF.out.mono ?_; rintro e w2 ⟨rfl, hb2⟩; have HB2 := hid (below_call HB0.out hb2); have z1 := (HM.out.later hb2).c1; clear hb2))
        go_wp2_with (first
          | (go_at_call 51; refine (checked_no _ _ (by decide) _).mono ?_; unfold errV; rintro e w9 ⟨rfl, hw9⟩; obtain rfl := hw9.symm; clear hw9)
          | (go_at_call 91; refine (HP.out _).mono ?_; rintro e w9 ⟨rfl, hw9⟩; obtain rfl := hw9.symm; clear hw9)
          | (go_at_call 90; refine (HHs.out _).mono ?_; rintro e w9 ⟨rfl, hw9⟩; obtain rfl := hw9.symm; clear hw9)
          | (go_at_call 31; refine (HA.out w2 HB2.out).mono ?_; rintro e w3 ⟨rfl, hb3⟩; have HB3 := hid (below_call HB2.out hb3); clear hb3))
        exact bodyPost_ret (v := .tuple #[.int .i64 0, errV _ _]) (by simp [results, Tryz.results57, go_sem]; rfl) rfl ⟨⟨_, by rw [errO_ne (by decide)]⟩, HB3.out.alloc HB3.out.size _⟩
      | true =>
        rw [hpr] at HP
        simp only [Bool.true_eq_false, or_false, if_false]
        clear hpr
        go_enter Tryz.func57, Tryz.ntmps57
        go_upto_region 1 with fail
        rw [← hw0]
        clear hw0
        go_upto_region 4 with (first
          | (go_at_call 37; refine HF.out.mono ?_; rintro e w2 ⟨rfl, hb2⟩; have HB2 := hid (below_call HB0.out hb2); have z1 := (HM.out.later hb2).c1; clear hb2))
        go_wp2_with (first
          | (go_at_call 91; refine (HP.out _).mono ?_; rintro e w9 ⟨rfl, hw9⟩; obtain rfl := hw9.symm; clear hw9)
          | (go_at_call 90; refine (HHs.out _).mono ?_; rintro e w9 ⟨rfl, hw9⟩; obtain rfl := hw9.symm; clear hw9)
          | (go_at_call 31; refine (HA.out w2 HB2.out).mono ?_; rintro e w3 ⟨rfl, hb3⟩; have HB3 := hid (below_call HB2.out hb3); clear hb3))
        exact bodyPost_ret (v := .tuple #[.int .i64 m, .nilIface]) (by simp [results, Tryz.results57, go_sem]) rfl ⟨⟨default, rfl⟩, HB3.out.alloc HB3.out.size _⟩
end Go.Proofs.YtgihdchgdejkhaaGreatDoor.D
namespace Go.Proofs.YtgihdchgdejkhaaGreatDoor.D
open Go.RowKit
open Go.Proofs.YtgihdchgdejkhaaGreatDoor.H (B64 Cp)
set_option linter.unusedVariables false

set_option maxRecDepth 100000 in
set_option maxHeartbeats 2000000 in
/-- maker.child. -/
theorem mchild_any {w : World} {H : Hd} {s : Sta} (h : Tri w H s) (hf : Fit H.toPar s) (c : Cp) (r : Int) (ho : (Lit.int .i64 c.1).wf = true) (hw : c.2.1 < B64 ∧ c.2.2 < B64) :
    Calls Tryz.prog 28 #[makV H, cpV c, .int .i64 r] w (Made w H (childA H.toPar s c r)) := by
  obtain ⟨o, hi, lo⟩ := c
  obtain ⟨w0, hw0⟩ : ∃ w0, w0 = (((w.alloc (Obj.cells #[.pointer (some ⟨H.g, 0, none⟩), .pointer (some ⟨H.A.g, 0, none⟩), .pointer (some ⟨H.qg, 0, none⟩)] 81)).alloc (Obj.cells #[.int .i64 o, .int .u64 (hi : Int), .int .u64 (lo : Int)] 36)).alloc (Obj.cells #[.int .i64 r] 3)).alloc (Obj.cells #[.int .i64 0, .int .u64 0, .int .u64 0] 36) := ⟨_, rfl⟩
  have hB0 : Below w.heap.size w w0 := by rw [hw0]; exact ((below2 _ _ _).alloc (by simp; omega) _).alloc (by simp; omega) _
  have hmk : Mk w0 w.heap.size H := by rw [hw0]; exact ⟨by simp [go_sem], by simp [go_sem], by simp [go_sem]⟩
  have hcw : Cw w0 (w.heap.size + 1) (o, hi, lo) := by rw [hw0]; exact ⟨by simp [go_sem], by simp [go_sem], by simp [go_sem]⟩
  have hrr : w0.cell? ⟨w.heap.size + 1 + 1, 0, none⟩ = some (.int .i64 r) := by rw [hw0]; simp [go_sem]
  have hz : Zc w0 (w.heap.size + 1 + 1 + 1) := by rw [hw0]; exact ⟨⟨by simp [go_sem], by simp [go_sem]⟩, ⟨by simp [go_sem], by simp [go_sem]⟩, ⟨by simp [go_sem], by simp [go_sem]⟩⟩
  have hs0 : w0.heap.size = w.heap.size + 1 + 1 + 1 + 1 := by rw [hw0]; simp
  have hlt := h.old
  have hwr : ∀ k, H.Wr k → k < w.heap.size := fun k hk => hlt k (Hd.wr_all hk)
  have HM : Hid (∀ U, But H.Wr w0 U → Mk U w.heap.size H ∧ Cw U (w.heap.size + 1) (o, hi, lo) ∧ U.cell? ⟨w.heap.size + 1 + 1, 0, none⟩ = some (.int .i64 r) ∧ Zc U (w.heap.size + 1 + 1 + 1)) := fun U hU => ⟨hmk.but hU (fun e => by have := hwr _ e; omega), hcw.but hU (fun e => by have := hwr _ e; omega), cell_but hU hrr (fun e => by have := hwr _ e; simp at this; omega), hz.but hU (fun e => by have := hwr _ e; omega)⟩
  obtain ⟨x0, x1, x2⟩ := hmk
  obtain ⟨y0, y1, y2⟩ := hcw
  have HO := hid hlt
  have HT := hid (h.later hB0)
  have HB0 := hid hB0
  have HS0 := hid hs0
  rw [childA_eq]
  by_cases hn : (srcN s (o, hi, lo) r).2 = 0
  · rw [if_neg (by simp [hn])]
    obtain ⟨k1, k2, k3⟩ := srcN_ok hn
    obtain ⟨g1, g2⟩ := found h.cat.inv k1
    have HSr := hid (source_any (h.later hB0) (o, hi, lo) r hw)
    rw [hn, k3] at HSr
    obtain ⟨m, hm⟩ : ∃ m, m = findN s.X s.l (o, hi, lo) := ⟨_, rfl⟩
    rw [← hm] at HSr
    rw [← hm]
    obtain ⟨R, hR⟩ : ∃ R, R = tokR H.toPar s o (childD H.toPar s o) m r := ⟨_, rfl⟩
    have HTk : Hid (∀ (U : World) (nb : Nat), Below w.heap.size w U → Mk U w.heap.size H → U.cell? ⟨w.heap.size + 1, 0, none⟩ = some (.int .i64 o) → U.cell? ⟨w.heap.size + 1 + 1, 0, none⟩ = some (.int .i64 r) → U.cell? ⟨nb, 0, none⟩ = some (.int .i64 m) → w.heap.size ≤ nb → Calls Tryz.prog 52 #[makV H, .int .i64 o, .func (.func 58) #[] #[.pointer (some ⟨w.heap.size, 0, none⟩), .pointer (some ⟨w.heap.size + 1, 0, none⟩)], .func (.func 60) #[] #[.pointer (some ⟨w.heap.size, 0, none⟩), .pointer (some ⟨nb, 0, none⟩), .pointer (some ⟨w.heap.size + 1 + 1, 0, none⟩)]] U (Made U H R)) := fun U nb hU hmU hcU hrU hnU hnb => by
      rw [hR]
      refine tokenC (h.later hU) o ho (childD H.toPar s o) ⟨(low s.l : Int), 0, s.X.set (low s.l) (cap o (childD H.toPar s o).1, r), s.l ++ [((low s.l : Int), m)]⟩ w.heap.size (w.heap.size + 1) nb (w.heap.size + 1 + 1) (fun V hV => draw58 ((h.later hU).later hV) hf.cs (hmU.later hV) o (cell_later hV hcU)) (fun hm2 hD => ⟨rfl, fun V hV hT => ?_⟩)
      have hg : ∀ k, w.heap.size ≤ k → ¬ k = H.g := fun k hk e => by have := hwr k (.inl e); omega
      have := enter60 hT (hmU.but hV (hg _ (Nat.le_refl _))) m r (cell_but hV hnU (hg _ hnb)) (cell_but hV hrU (hg _ (by simp; omega))) (cap o (childD H.toPar s o).1) (half_lt (drawR_small hf.cs))
      rwa [show childR H.mo s.X s.l m (cap o (childD H.toPar s o).1) r = _ from childR_ok hf hm2 (childD_new hf hD) (by rw [hm]; exact g1) (by rw [hm]; unfold ob; rw [g2]) (by rw [hm]; exact k2)] at this
    rw [← hR]
    unfold makV at HTk HSr ⊢
    have hnil : ∀ st, errO st 0 = .nilIface := fun st => rfl
    simp only [hnil] at HSr
    clear h hB0 hlt hwr hf hm hR hz hrr hs0 hn k1 k2 k3 g1 g2 hnil
    go_enter Tryz.func28, Tryz.ntmps28
    go_upto_region 1 with fail
    rw [← hw0]
    clear hw0
    have hrr := (HM.out w0 (But.refl _ _)).2.2.1
    go_upto_region 2 with (first
      | (go_at_call 57; refine HSr.out.mono ?_; rintro e w2 ⟨⟨st0, rfl⟩, hb2⟩; have HB2 := hid (below_call HB0.out hb2); have HC2 := hid hb2; clear hb2))
    obtain ⟨w3, hw3⟩ : ∃ w3, w3 = w2.alloc (Obj.cells #[.int .i64 m] 3) := ⟨_, rfl⟩
    have hB3 : Below w2.heap.size w2 w3 := by rw [hw3]; exact below1 _ _
    have hn3 : w3.cell? ⟨w2.heap.size, 0, none⟩ = some (.int .i64 m) := by rw [hw3]; simp [go_sem]
    have HC3 := hid (But.of (S := H.Wr) (below_call HC2.out hB3))
    have HK3 := hid (below_call HB2.out hB3)
    have HN3 := hid hn3
    have HG3 := hid HB2.out.size
    obtain ⟨⟨p0, p1, p2⟩, ⟨q0, q1, q2⟩, q3, _⟩ := HM.out w3 HC3.out
    rw [← hw3]
    clear hw3 hB3 hn3
    go_upto_region 5 with fail
    go_wp2_with (first
      | (go_at_call 52; refine (HTk.out w3 w2.heap.size HK3.out (HM.out w3 HC3.out).1 q0 q3 HN3.out HG3.out).mono ?_; rintro e w4 ⟨⟨st, rfl⟩, ht4, hb4⟩; have HT4 := hid ht4; have HB4 := hid (HC3.out.trans hb4); obtain ⟨⟨v0, f0⟩, ⟨v1, f1⟩, ⟨v2, f2⟩⟩ := (HM.out w4 HB4.out).2.2.2; clear ht4 hb4))
    have HQ := hid (three_set v0 v1 v2 (.int .i64 R.c.1) (.int .u64 (R.c.2.1 : Int)) (.int .u64 (R.c.2.2 : Int)))
    obtain ⟨hf1, hf2⟩ := Made.put (w1 := w) (b := w.heap.size + 1 + 1 + 1) HT4.out ((But.of HB0.out).trans HB4.out) HO.out (by omega) R.c
    exact bodyPost_ret (v := .tuple #[.agg #[.int .i64 R.c.1, .int .u64 (R.c.2.1 : Int), .int .u64 (R.c.2.2 : Int)], errO st R.code]) (by simp [results, Tryz.results28, go_sem, HQ.out.1, HQ.out.2.1, HQ.out.2.2]) rfl ⟨⟨st, rfl⟩, hf1, hf2⟩
  · rw [if_pos hn]
    have HSr := hid (source_any (h.later hB0) (o, hi, lo) r hw)
    obtain ⟨m, hm⟩ : ∃ m, m = (srcN s (o, hi, lo) r).2 := ⟨_, rfl⟩
    obtain ⟨m1, hm1⟩ : ∃ m, m = (srcN s (o, hi, lo) r).1 := ⟨_, rfl⟩
    rw [← hm] at HSr hn
    rw [← hm1] at HSr
    rw [← hm]
    have HMn := hid hn
    simp only [errO_ne hn] at HSr
    unfold errV at HSr
    unfold makV at HSr ⊢
    clear h hB0 hlt hwr hf hm hm1 hz hrr hs0 hn
    go_enter Tryz.func28, Tryz.ntmps28
    go_upto_region 1 with fail
    rw [← hw0]
    clear hw0
    have hrr := (HM.out w0 (But.refl _ _)).2.2.1
    go_upto_region 2 with (first
      | (go_at_call 57; refine HSr.out.mono ?_; rintro e w2 ⟨⟨st0, rfl⟩, hb2⟩; have HB2 := hid (below_call HB0.out hb2); have HC2 := hid hb2; clear hb2))
    obtain ⟨w3, hw3⟩ : ∃ w3, w3 = w2.alloc (Obj.cells #[.int .i64 m1] 3) := ⟨_, rfl⟩
    have hB3 : Below w2.heap.size w2 w3 := by rw [hw3]; exact below1 _ _
    have HC3 := hid (But.of (S := H.Wr) (below_call HC2.out hB3))
    have HT3 := hid (HT.out.later (below_call HC2.out hB3))
    obtain ⟨⟨v0, f0⟩, ⟨v1, f1⟩, ⟨v2, f2⟩⟩ := (HM.out w3 HC3.out).2.2.2
    rw [← hw3]
    clear hw3 hB3
    go_wp2
    have HQ := hid (three_set v0 v1 v2 (.int .i64 0) (.int .u64 0) (.int .u64 0))
    obtain ⟨hf1, hf2⟩ := Made.put (w1 := w) (b := w.heap.size + 1 + 1 + 1) HT3.out ((But.of HB0.out).trans HC3.out) HO.out (by omega) (0, 0, 0)
    exact bodyPost_ret (v := .tuple #[.agg #[.int .i64 0, .int .u64 0, .int .u64 0], errV st0 m]) (by simp [results, Tryz.results28, go_sem, HQ.out.1, HQ.out.2.1, HQ.out.2.2]; rfl) rfl ⟨⟨st0, by rw [show (no s m).code = m from rfl, errO_ne HMn.out]; rfl⟩, hf1, hf2⟩
/-- Behind Root or Child. -/
def Gave (w : World) (H : Hd) (R : Ans) (e : Ending) (w' : World) : Prop :=
  e = .returned (.tuple #[cpV R.c, .int .i64 R.code]) ∧ Tri w' H R.s ∧ But H.Wr w w'
set_option maxRecDepth 100000 in
set_option maxHeartbeats 2000000 in
/-- derive.Root. -/
theorem root_any {w : World} {H : Hd} {s : Sta} (h : Tri w H s) (hf : Fit H.toPar s) (o : Int) (ho : (Lit.int .i64 o).wf = true) :
    Calls Tryz.prog 10 #[.pointer (some ⟨H.g, 0, none⟩), .pointer (some ⟨H.A.g, 0, none⟩), .pointer (some ⟨H.qg, 0, none⟩), .int .i64 o] w (Gave w H (rootA H.toPar s o)) := by
  have hB0 := below1 w (Obj.cells #[.int .i64 0, .int .u64 0, .int .u64 0] 36)
  have hz := Zc.mk_ w
  have hlt := h.old
  have hwr : ∀ k, H.Wr k → k < w.heap.size := fun k hk => hlt k (Hd.wr_all hk)
  have HZ : Hid (∀ U, But H.Wr (w.alloc (Obj.cells #[.int .i64 0, .int .u64 0, .int .u64 0] 36)) U → Zc U w.heap.size) := fun U hU => hz.but hU (fun e => by have := hwr _ e; omega)
  have HO := hid hlt
  have HB0 := hid hB0
  have HK := hid (mroot_any (h.later hB0) hf o ho)
  unfold makV at HK
  generalize rootA H.toPar s o = R at *
  clear h hB0 hz hlt hwr hf
  go_enter Tryz.func10, Tryz.ntmps10
  go_upto_region 2 with (first
    | (go_at_call 26; refine HK.out.mono ?_; rintro e w2 ⟨⟨st, rfl⟩, ht2, hb2⟩; have HT2 := hid ht2; have HB2 := hid hb2; clear ht2 hb2))
  obtain ⟨v, hv⟩ : ∃ v, v = w2.alloc (Obj.cells #[.int .i64 R.c.1, .int .u64 (R.c.2.1 : Int), .int .u64 (R.c.2.2 : Int)] 36) := ⟨_, rfl⟩
  have hBv : Below w2.heap.size w2 v := by rw [hv]; exact below1 _ _
  have hcw : Cw v w2.heap.size R.c := by rw [hv]; exact ⟨by simp [go_sem], by simp [go_sem], by simp [go_sem]⟩
  have hs2 : w.heap.size < w2.heap.size := by have := HB2.out.size; simp at this; omega
  have HTv := hid (HT2.out.later hBv)
  have HBv := hid (HB2.out.call hBv)
  have HN := hid (fun (U : World) (hU : Below v.heap.size v U) => number_any st R.code U (HTv.out.laid.later hU))
  have HL : Hid (∀ U, Below v.heap.size v U → Zc U w.heap.size) := fun U hU => HZ.out U (HBv.out.call hU)
  have HS : Hid (∀ U, But (· = w.heap.size) v U → (U.cell? ⟨w2.heap.size, 0, none⟩ = some (.int .i64 R.c.1) ∧ U.cell? ⟨w2.heap.size, 1, none⟩ = some (.int .u64 (R.c.2.1 : Int)) ∧ U.cell? ⟨w2.heap.size, 2, none⟩ = some (.int .u64 (R.c.2.2 : Int))) ∧ But (· = w.heap.size) v U) := fun U hU => by
    obtain ⟨q0, q1, q2⟩ := hcw.but hU (fun e => by omega)
    exact ⟨⟨q0, q1, q2⟩, hU⟩
  rw [← hv]
  clear hv hBv hcw hs2
  go_region_held3 (fun U => (U.cell? ⟨w2.heap.size, 0, none⟩ = some (.int .i64 R.c.1) ∧ U.cell? ⟨w2.heap.size, 1, none⟩ = some (.int .u64 (R.c.2.1 : Int)) ∧ U.cell? ⟨w2.heap.size, 2, none⟩ = some (.int .u64 (R.c.2.2 : Int))) ∧ But (· = w.heap.size) v U) (first | exact HS.out _ (But.of (Below.refl _ _).drew) | exact HS.out _ ((And.right (by assumption) : But (· = w.heap.size) v v.drew).call hb9) | exact HS.out _ ((((And.right (by assumption) : But (· = w.heap.size) v w9).own _ _).own _ _).own _ _)) (first | (go_at_call 27; refine (HN.out _ (Below.refl _ _).drew).mono ?_; rintro e w9 ⟨rfl, hb9⟩; have HB9 := hid (below_call (Below.refl v.heap.size v).drew hb9); obtain ⟨⟨v0, f0⟩, ⟨v1, f1⟩, ⟨v2, f2⟩⟩ := HL.out w9 HB9.out))
  go_wp2
  have HQ := hid (three_set v0 v1 v2 (.int .i64 R.c.1) (.int .u64 (R.c.2.1 : Int)) (.int .u64 (R.c.2.2 : Int)))
  obtain ⟨hf1, hf2⟩ := Made.put (w1 := w) (b := w.heap.size) (HTv.out.later HB9.out) (((But.of HB0.out).trans HBv.out).call HB9.out) HO.out (Nat.le_refl _) R.c
  exact bodyPost_ret (v := .tuple #[.agg #[.int .i64 R.c.1, .int .u64 (R.c.2.1 : Int), .int .u64 (R.c.2.2 : Int)], .int .i64 R.code]) (by simp [results, Tryz.results10, go_sem, HQ.out.1, HQ.out.2.1, HQ.out.2.2]) rfl ⟨rfl, hf1, hf2⟩
set_option maxRecDepth 100000 in
set_option maxHeartbeats 2000000 in
/-- derive.Child. -/
theorem dchild_any {w : World} {H : Hd} {s : Sta} (h : Tri w H s) (hf : Fit H.toPar s) (c : Cp) (r : Int) (ho : (Lit.int .i64 c.1).wf = true) (hw : c.2.1 < B64 ∧ c.2.2 < B64) :
    Calls Tryz.prog 11 #[.pointer (some ⟨H.g, 0, none⟩), .pointer (some ⟨H.A.g, 0, none⟩), .pointer (some ⟨H.qg, 0, none⟩), cpV c, .int .i64 r] w (Gave w H (childA H.toPar s c r)) := by
  obtain ⟨o, hi, lo⟩ := c
  obtain ⟨w0, hw0⟩ : ∃ w0, w0 = (w.alloc (Obj.cells #[.int .i64 o, .int .u64 (hi : Int), .int .u64 (lo : Int)] 36)).alloc (Obj.cells #[.int .i64 0, .int .u64 0, .int .u64 0] 36) := ⟨_, rfl⟩
  have hB0 : Below w.heap.size w w0 := by rw [hw0]; exact below2 _ _ _
  have x0 : w0.cell? ⟨w.heap.size, 0, none⟩ = some (.int .i64 o) := by rw [hw0]; simp [go_sem]
  have x1 : w0.cell? ⟨w.heap.size, 1, none⟩ = some (.int .u64 (hi : Int)) := by rw [hw0]; simp [go_sem]
  have x2 : w0.cell? ⟨w.heap.size, 2, none⟩ = some (.int .u64 (lo : Int)) := by rw [hw0]; simp [go_sem]
  have hz : Zc w0 (w.heap.size + 1) := by rw [hw0]; exact ⟨⟨by simp [go_sem], by simp [go_sem]⟩, ⟨by simp [go_sem], by simp [go_sem]⟩, ⟨by simp [go_sem], by simp [go_sem]⟩⟩
  have hs0 : w0.heap.size = w.heap.size + 1 + 1 := by rw [hw0]; simp
  have hlt := h.old
  have hwr : ∀ k, H.Wr k → k < w.heap.size := fun k hk => hlt k (Hd.wr_all hk)
  have HZ : Hid (∀ U, But H.Wr w0 U → Zc U (w.heap.size + 1)) := fun U hU => hz.but hU (fun e => by have := hwr _ e; omega)
  have HO := hid hlt
  have HB0 := hid hB0
  have HS0 := hid hs0
  have HK := hid (mchild_any (h.later hB0) hf (o, hi, lo) r ho hw)
  unfold makV at HK
  generalize childA H.toPar s (o, hi, lo) r = R at *
  clear h hB0 hz hlt hwr hf hs0
  go_enter Tryz.func11, Tryz.ntmps11
  go_upto_region 1 with fail
  rw [← hw0]
  clear hw0
  go_upto_region 2 with (first
    | (go_at_call 28; refine HK.out.mono ?_; rintro e w2 ⟨⟨st, rfl⟩, ht2, hb2⟩; have HT2 := hid ht2; have HB2 := hid hb2; clear ht2 hb2))
  obtain ⟨v, hv⟩ : ∃ v, v = w2.alloc (Obj.cells #[.int .i64 R.c.1, .int .u64 (R.c.2.1 : Int), .int .u64 (R.c.2.2 : Int)] 36) := ⟨_, rfl⟩
  have hBv : Below w2.heap.size w2 v := by rw [hv]; exact below1 _ _
  have hcw : Cw v w2.heap.size R.c := by rw [hv]; exact ⟨by simp [go_sem], by simp [go_sem], by simp [go_sem]⟩
  have hs2 : w.heap.size + 1 < w2.heap.size := by have := HB2.out.size; have := HS0.out; omega
  have HTv := hid (HT2.out.later hBv)
  have HBv := hid (HB2.out.call hBv)
  have HN := hid (fun (U : World) (hU : Below v.heap.size v U) => number_any st R.code U (HTv.out.laid.later hU))
  have HL : Hid (∀ U, Below v.heap.size v U → Zc U (w.heap.size + 1)) := fun U hU => HZ.out U (HBv.out.call hU)
  have HS : Hid (∀ U, But (· = w.heap.size + 1) v U → (U.cell? ⟨w2.heap.size, 0, none⟩ = some (.int .i64 R.c.1) ∧ U.cell? ⟨w2.heap.size, 1, none⟩ = some (.int .u64 (R.c.2.1 : Int)) ∧ U.cell? ⟨w2.heap.size, 2, none⟩ = some (.int .u64 (R.c.2.2 : Int))) ∧ But (· = w.heap.size + 1) v U) := fun U hU => by
    obtain ⟨q0, q1, q2⟩ := hcw.but hU (fun e => by omega)
    exact ⟨⟨q0, q1, q2⟩, hU⟩
  rw [← hv]
  clear hv hBv hcw hs2
  go_region_held3 (fun U => (U.cell? ⟨w2.heap.size, 0, none⟩ = some (.int .i64 R.c.1) ∧ U.cell? ⟨w2.heap.size, 1, none⟩ = some (.int .u64 (R.c.2.1 : Int)) ∧ U.cell? ⟨w2.heap.size, 2, none⟩ = some (.int .u64 (R.c.2.2 : Int))) ∧ But (· = w.heap.size + 1) v U) (first | exact HS.out _ (But.of (Below.refl _ _).drew) | exact HS.out _ ((And.right (by assumption) : But (· = w.heap.size + 1) v v.drew).call hb9) | exact HS.out _ ((((And.right (by assumption) : But (· = w.heap.size + 1) v w9).own _ _).own _ _).own _ _)) (first | (go_at_call 27; refine (HN.out _ (Below.refl _ _).drew).mono ?_; rintro e w9 ⟨rfl, hb9⟩; have HB9 := hid (below_call (Below.refl v.heap.size v).drew hb9); obtain ⟨⟨v0, f0⟩, ⟨v1, f1⟩, ⟨v2, f2⟩⟩ := HL.out w9 HB9.out))
  go_wp2
  have HQ := hid (three_set v0 v1 v2 (.int .i64 R.c.1) (.int .u64 (R.c.2.1 : Int)) (.int .u64 (R.c.2.2 : Int)))
  obtain ⟨hf1, hf2⟩ := Made.put (w1 := w) (b := w.heap.size + 1) (HTv.out.later HB9.out) (((But.of HB0.out).trans HBv.out).call HB9.out) HO.out (by omega) R.c
  exact bodyPost_ret (v := .tuple #[.agg #[.int .i64 R.c.1, .int .u64 (R.c.2.1 : Int), .int .u64 (R.c.2.2 : Int)], .int .i64 R.code]) (by simp [results, Tryz.results11, go_sem, HQ.out.1, HQ.out.2.1, HQ.out.2.2]) rfl ⟨rfl, hf1, hf2⟩
end Go.Proofs.YtgihdchgdejkhaaGreatDoor.D
