import Derived.Test.YtlelglfdamakaaaQ3
namespace Go.Proofs.Ytlelglfdamakaaa
open Go.RowKit H
set_option linter.unusedVariables false
set_option linter.unusedSimpArgs false
variable {w w' : World} {H : Hv} {X : List Tk} {l : Fo} {t mo : Nat}

set_option maxRecDepth 100000 in
theorem und46 : Try.prog.underlying 46 = some (.slice (Try.prog.elem 46)) := Try.underlying46
theorem el46 : Try.prog.elem 46 = 32 := by kernel_rfl
theorem sz32 (w : World) : (sizeOf 32).run Try.prog w = .ok 3 w := by
  obtain ⟨i, hi, hz0, hz1, hz2⟩ := info_parts info32
  simp [sizeOf, typeInfo, hi, hz1]
theorem slice_h46 (w : World) (a : Option Addr) (n c i : Nat) (h : i ≤ c) : (Instr.sliceAt 46 (.slice a n c) none (some (.int .i64 (i : Int))) none).run Try.prog w = .ok (.slice a i c) w := by
  rw [run_sliceAt_slice _ _ _ _ _ _ und46, run_slice_h _ _ _ _ _ und46 _ _ (by omega) (by omega), el46, sz32]
  simp [sliced]
  cases a <;> simp [Addr.add]
theorem Rd.pre {a : Option Addr} {n : Nat} {K M : List Cp} (h : Rd w a n (K ++ M)) : Rd w a K.length K := by
  refine ⟨rfl, fun h0 => ?_⟩
  obtain ⟨b, o, e, hat⟩ := h.at_ (by have := h.len; rw [List.length_append] at this; omega)
  exact ⟨b, o, e, fun i c hc => hat i c (by rw [List.getElem?_append_left (List.getElem?_eq_some_iff.1 hc).1]; exact hc)⟩
/-- Behind a call that only makes memory, whose answer is put into a variable. -/
structure Lb (v : World) (W : World) (b : Nat) (c : Cp) : Prop where
  lo : v.heap.size ≤ b
  ce : Cel W b 0 c
  be : Below v.heap.size v W
theorem Lb.put {v u : World} {b : Nat} (hb : Below v.heap.size v u) (hlo : v.heap.size ≤ b) (hz : Zc u b) (c : Cp) : Lb v (set3 u b c) b c :=
  ⟨hlo, Cel.set hz c, But.below hb (set3_but (S := fun k => k = b) (But.refl _ _) (b := b) rfl _) (fun k hk => by omega)⟩
theorem Lb.next {v u : World} (hb : Below v.heap.size v u) (c : Cp) : Lb v (u.alloc (Obj.cells #[.int .i64 c.1, .int .u64 (c.2.1 : Int), .int .u64 (c.2.2 : Int)] 32)) u.heap.size c :=
  ⟨hb.size, ⟨by simp [go_sem], by simp [go_sem], by simp [go_sem]⟩, hb.alloc hb.size _⟩
/-- A list's elements are written over. -/
def WrRel (v : World) (base gb n mc : Nat) (t : Value) (wr : World) : Prop :=
  ∃ (i : Nat) (M : List Value), t = .int .i64 (i : Int) ∧ i ≤ n ∧ Ow wr base 32 3 (some ⟨gb, 0, none⟩) n mc M ∧ But (fun k => k = gb) v wr
theorem Ow.lies {base gb n cap : Nat} {M : List Value} (h : Ow w base 32 3 (some ⟨gb, 0, none⟩) n cap M) {j : Nat} (hj : j < n * 3) : ∃ u, Lies w ⟨gb, j, none⟩ u := by
  have hl : M.length = n * 3 := h.1
  rcases h.form with ⟨e, _, _⟩ | ⟨g, e, hf, _⟩
  · cases e
  · cases e
    exact ⟨_, h.rv gb rfl j _ (List.getElem?_eq_getElem (by omega)), hf j⟩
set_option maxRecDepth 100000 in
set_option maxHeartbeats 8000000 in
theorem step5 (h : Ds w H X l) (hq : Rq w H X l t) (hm : H.mo = mo) (ht : t < 9223372036854775807) (c : Cp) (p nd : Int) (la : Option Addr) (ln lc : Nat) (hH : ∀ k, H.All k → k < w.heap.size) {L : List Cp} (hr : Rd w la ln L) (hcap : la = none → lc = 0) (hsz : (ln + 40) * 24 ≤ 140737488355328) (hal : ∀ c ∈ L, c.2.1 < B64 ∧ c.2.2 < B64) (hbl : 0 < ln → ∀ k, Blk la k → ¬ H.All k) :
    Calls Try.prog 18 #[.pointer (some ⟨H.d, 0, none⟩), opV 5 c p nd la ln lc] w (Sd w H t) := by
  obtain ⟨ko, kh, kl⟩ := c
  obtain ⟨w2, hw2⟩ : ∃ w2, w2 = w.alloc (Obj.cells #[.int .i64 5, .int .i64 ko, .int .u64 (kh : Int), .int .u64 (kl : Int), .int .i64 p, .int .i64 nd, .slice la ln lc] 54) := ⟨_, rfl⟩
  have hB2 : Below w.heap.size w w2 := by rw [hw2]; exact below1 _ _
  have hbq : Bq w2 w.heap.size 5 ko kh kl p nd la ln lc := by rw [hw2]; exact ⟨by simp [go_sem], by simp [go_sem], by simp [go_sem], by simp [go_sem], by simp [go_sem], by simp [go_sem], by simp [go_sem]⟩
  have HO : Hid (∀ U, But H.Sw w2 U → Bq U w.heap.size 5 ko kh kl p nd la ln lc) := fun U hU => hbq.but hU (fun e => absurd (hH _ e.all) (by omega))
  have HD2 := hid (h.later hB2)
  have HQ2 := hid (hq.later hB2)
  have HT : Hid (∀ U, But H.Sw w2 U → Tp U H.d H.A.g H.v H.r) := fun U hU => HD2.out.tp.but hU HD2.out.vt.dis.sd
  have HR2 : Hid (But H.Sw w2 w2) := But.refl _ _
  have HDi := hid h.vt.dis
  have HIv := hid h.vt.inv
  have HEnd : Hid (∀ U, But H.Sw w2 U → But H.Sw w U) := fun U hU => (But.of hB2).trans hU
  have HSz2 := hid hB2.size
  have HHi : Hid (∀ k, H.All k → k < w2.heap.size) := fun k hk => Nat.lt_of_lt_of_le (hH k hk) hB2.size
  have HRd : Hid (∀ U, But H.Sw w2 U → Rd U la ln L) := fun U hU => (hr.later hB2).but0 hU (fun h0 k hk e => hbl h0 k hk e.all)
  have HCap := hid hcap
  have HSz := hid hsz
  have HAl := hid hal
  have HLl := hid hr.len
  have hb47 : ln + 40 ≤ 140737488355328 := Nat.le_trans (Nat.le_mul_of_pos_right _ (by decide)) hsz
  have HS40 := hid hb47
  have HSn : Hid (ln ≤ 9223372036854775807) := by unfold Hid; omega
  have HSm : Hid (L.length ≤ 9223372036854775807) := by unfold Hid; rw [hr.len]; omega
  clear h hq hH hB2 hbq hm hr hcap hsz hal hbl hb47
  unfold opV
  go_enter Try.func18, Try.ntmps18
  go_upto_region 1 with fail
  rw [← hw2]
  clear hw2
  have z0 := (HO.out w2 HR2.out).c0
  go_upto_region 18 with fail
  clear z0
  have HLi := hid (fun (U : World) (hU : But H.Sw w2 U) => listed_any (HRd.out U hU) HCap.out HSz.out)
  have z6 := (HO.out w2 HR2.out).c6
  go_upto_region 19 with (first | (go_at_call 45; refine (HLi.out _ HR2.out).mono ?_; rintro e w3 ⟨mb, mc, rfl, hO, hb⟩; have HOm := hid hO; have HB3 : Hid (But H.Sw w2 w3) := (But.of hb); have HBb := hid hb; clear hO hb))
  clear z6
  obtain ⟨gb, hgb⟩ : ∃ gb, mb = some ⟨gb, 0, none⟩ := by
    rcases HOm.out.form with ⟨_, e, _⟩ | ⟨g, e, _⟩
    · omega
    · exact ⟨g, e⟩
  subst hgb
  have HGb : Hid (w2.heap.size ≤ gb ∧ gb < w3.heap.size) := HOm.out.blk gb ⟨_, rfl, rfl⟩
  have hmc : ln + 40 ≤ mc := by
    rcases HOm.out.form with ⟨e, _⟩ | ⟨g, _, _, e⟩
    · cases e
    · exact e
  have hmc1 : (ln : Int) ≤ (mc : Int) := by omega
  have hmc2 : ln ≤ mc := by omega
  have hsl := fun W => slice_h46 W (some ⟨gb, 0, none⟩) (ln + 40) mc ln hmc2
  have HRm : Hid (Rd w3 (some ⟨gb, 0, none⟩) (ln + 40) (L ++ marks 40)) := ow_rd HOm.out (by rw [List.length_append, marks_len, HLl.out])
  have HD3 := hid (HD2.out.later HBb.out)
  have HQ3 := hid (HQ2.out.later HBb.out)
  have HGl : Hid (H.g < w2.heap.size) := HD2.out.gl
  have HNx := hid (fun (U : World) (hU : Below w3.heap.size w3 U) => named_any (HD3.out.vt.later hU) p nd mc (HRm.out.pre.later hU) HSm.out HAl.out (fun _ k hk e => by obtain ⟨x, hx, e2⟩ := hk; cases hx; have := HGl.out; have := HGb.out.1; simp only at e2; omega))
  rw [HLl.out] at HNx
  have HQx := hid (fun (U : World) (hU : But H.Sw w2 U) (hq : Rq U H X l t) => rnamed_any hq HIv.out p nd lc (HRd.out U hU) HSn.out)
  generalize namG (givE X l nd) p L 3 = N at *
  obtain ⟨⟨xo, xh, xl⟩, ee⟩ := N
  have HN1 : Hid (∀ U, Below w3.heap.size w3 U → Calls Try.prog 15 #[.pointer (some ⟨H.v, 0, none⟩), .int .i64 p, .int .i64 nd, .slice (some ⟨gb, 0, none⟩) ln mc] U fun e w' => e = .returned (.tuple #[.agg #[.int .i64 xo, .int .u64 (xh : Int), .int .u64 (xl : Int)], .int .i64 ee]) ∧ Vt w' H X l ∧ But (fun k => k = H.g) U w') := HNx.out
  have HS19 : Hid (∀ U, But H.Sw w2 U → (U.cell? ⟨H.d, 1, none⟩ = some (.pointer (some ⟨H.v, 0, none⟩)) ∧ U.cell? ⟨w.heap.size, 4, none⟩ = some (.int .i64 p) ∧ U.cell? ⟨w.heap.size, 5, none⟩ = some (.int .i64 nd) ∧ U.cell? ⟨w.heap.size, 6, none⟩ = some (.slice la ln lc)) ∧ But H.Sw w2 U) := fun U hU => ⟨⟨(HT.out U hU).c1, (HO.out U hU).c4, (HO.out U hU).c5, (HO.out U hU).c6⟩, hU⟩
  clear HNx
  go_cut [18, 19] (fun s7 s8 W => ∃ b, s7 = .pointer (some ⟨b, 0, none⟩) ∧ s8 = .int .i64 ee ∧ Hid (Lw w3 H X l W b (xo, xh, xl)))
  case first =>
    go_region_held3 (fun U => (U.cell? ⟨H.d, 1, none⟩ = some (.pointer (some ⟨H.v, 0, none⟩)) ∧ U.cell? ⟨w.heap.size, 4, none⟩ = some (.int .i64 p) ∧ U.cell? ⟨w.heap.size, 5, none⟩ = some (.int .i64 nd) ∧ U.cell? ⟨w.heap.size, 6, none⟩ = some (.slice la ln lc)) ∧ But H.Sw w2 U) (first | exact HS19.out _ HBu.out | exact HS19.out _ (HB3.out.call (Below.refl _ _).drew) | exact HS19.out _ (HB3.out.call (below1 _ _).drew) | exact HS19.out _ (HBu.out.alloc _) | exact HS19.out _ (((HBu.out.put HB3.out.size _).put HB3.out.size _).put HB3.out.size _)) (first
      | (go_at_call 15; (with_reducible refine (HN1.out (w3.alloc (Obj.cells #[.int .i64 0, .int .u64 0, .int .u64 0] 32)).drew (below1 w3 (Obj.cells #[.int .i64 0, .int .u64 0, .int .u64 0] 32)).drew).mono ?_); rintro e u_ ⟨rfl, ht, hb⟩; have HVt := hid ht; have HBt := hid ((But.of (S := fun k => k = H.g) (below1 w3 (Obj.cells #[.int .i64 0, .int .u64 0, .int .u64 0] 32)).drew).trans hb); have HBu := hid (HB3.out.trans (Hv.Sw.p (Hv.Pw.of_g HBt.out))); have hzc := (show Zc (w3.alloc (Obj.cells #[.int .i64 0, .int .u64 0, .int .u64 0] 32)).drew w3.heap.size from ⟨⟨by simp [go_sem], by simp [go_sem]⟩, ⟨by simp [go_sem], by simp [go_sem]⟩, ⟨by simp [go_sem], by simp [go_sem]⟩⟩).but hb (by have := HGl.out; have := HB3.out.size; omega); have HZc := hid hzc; obtain ⟨⟨z0, f0⟩, ⟨z1, f1⟩, ⟨z2, f2⟩⟩ := hzc; clear ht hb)
      | (go_at_call 15; (with_reducible refine (HN1.out w3.drew (Below.refl w3.heap.size w3).drew).mono ?_); rintro e u_ ⟨rfl, ht, hb⟩; have HVt := hid ht; have HBt := hid ((But.of (S := fun k => k = H.g) (Below.refl w3.heap.size w3).drew).trans hb); have HBu := hid (HB3.out.trans (Hv.Sw.p (Hv.Pw.of_g HBt.out))); clear ht hb))
    all_goals (try go_wp2)
    all_goals go_meet
    all_goals (first | exact ⟨_, rfl, rfl, Lw.put HD3.out.vt HVt.out HBt.out (Nat.le_refl _) HZc.out (xo, xh, xl)⟩ | exact ⟨_, rfl, rfl, Lw.next HVt.out HBt.out (xo, xh, xl)⟩)
  case rest =>
  rename World => w4
  obtain ⟨b18, rfl, rfl, HL18⟩ := hcut
  have HB4 := hid (HB3.out.trans (Hv.Sw.p (Hv.Pw.of_g HL18.out.bu)))
  have HD4 : Hid (Ds w4 H X l) := HD3.out.own HL18.out.vt (Hv.Pw.of_g HL18.out.bu)
  have HQ4 := hid (HQ3.out.pw HDi.out (Hv.Pw.of_g HL18.out.bu))
  have HOm4 := hid (HOm.out.but HL18.out.bu (fun j hj e => by have := (HOm.out.blk j hj).1; have := HGl.out; omega))
  have HN2 : Hid (∀ U, Below w4.heap.size w4 U → Calls Try.prog 46 #[.pointer (some ⟨H.r, 0, none⟩), .int .i64 p, .int .i64 nd, .slice la ln lc] U fun e w' => e = .returned (.tuple #[.agg #[.int .i64 xo, .int .u64 (xh : Int), .int .u64 (xl : Int)], .int .i64 ee]) ∧ Below U.heap.size U w') := fun U hU => HQx.out U (HB4.out.call hU) (HQ4.out.later hU)
  have HS20 : Hid (∀ U, But H.Sw w2 U → (U.cell? ⟨H.d, 2, none⟩ = some (.pointer (some ⟨H.r, 0, none⟩)) ∧ U.cell? ⟨w.heap.size, 4, none⟩ = some (.int .i64 p) ∧ U.cell? ⟨w.heap.size, 5, none⟩ = some (.int .i64 nd) ∧ U.cell? ⟨w.heap.size, 6, none⟩ = some (.slice la ln lc)) ∧ But H.Sw w2 U) := fun U hU => ⟨⟨(HT.out U hU).c2, (HO.out U hU).c4, (HO.out U hU).c5, (HO.out U hU).c6⟩, hU⟩
  clear HN1 HS19 HQx hsl hmc1
  go_upto_region 20 with fail
  go_cut [20, 21] (fun s7 s8 W => ∃ b, s7 = .pointer (some ⟨b, 0, none⟩) ∧ s8 = .int .i64 ee ∧ Hid (Lb w4 W b (xo, xh, xl)))
  case first =>
    go_region_held3 (fun U => (U.cell? ⟨H.d, 2, none⟩ = some (.pointer (some ⟨H.r, 0, none⟩)) ∧ U.cell? ⟨w.heap.size, 4, none⟩ = some (.int .i64 p) ∧ U.cell? ⟨w.heap.size, 5, none⟩ = some (.int .i64 nd) ∧ U.cell? ⟨w.heap.size, 6, none⟩ = some (.slice la ln lc)) ∧ But H.Sw w2 U) (first | exact HS20.out _ HBu.out | exact HS20.out _ (HB4.out.call (Below.refl _ _).drew) | exact HS20.out _ (HB4.out.call (below1 _ _).drew) | exact HS20.out _ (HBu.out.alloc _) | exact HS20.out _ (((HBu.out.put HB4.out.size _).put HB4.out.size _).put HB4.out.size _)) (first
      | (go_at_call 46; (with_reducible refine (HN2.out (w4.alloc (Obj.cells #[.int .i64 0, .int .u64 0, .int .u64 0] 32)).drew (below1 w4 (Obj.cells #[.int .i64 0, .int .u64 0, .int .u64 0] 32)).drew).mono ?_); rintro e u_ ⟨rfl, hb⟩; have HBt := hid (below_call (below1 w4 (Obj.cells #[.int .i64 0, .int .u64 0, .int .u64 0] 32)).drew hb); have HBu := hid (HB4.out.call HBt.out); have hzc := (show Zc (w4.alloc (Obj.cells #[.int .i64 0, .int .u64 0, .int .u64 0] 32)).drew w4.heap.size from ⟨⟨by simp [go_sem], by simp [go_sem]⟩, ⟨by simp [go_sem], by simp [go_sem]⟩, ⟨by simp [go_sem], by simp [go_sem]⟩⟩).but (S := fun _ => False) (But.of hb) (fun h => h); have HZc := hid hzc; obtain ⟨⟨z0, f0⟩, ⟨z1, f1⟩, ⟨z2, f2⟩⟩ := hzc; clear hb)
      | (go_at_call 46; (with_reducible refine (HN2.out w4.drew (Below.refl w4.heap.size w4).drew).mono ?_); rintro e u_ ⟨rfl, hb⟩; have HBt := hid (below_call (Below.refl w4.heap.size w4).drew hb); have HBu := hid (HB4.out.call HBt.out); clear hb))
    all_goals (try go_wp2)
    all_goals go_meet
    all_goals (first | exact ⟨_, rfl, rfl, Lb.put HBt.out (Nat.le_refl _) HZc.out (xo, xh, xl)⟩ | exact ⟨_, rfl, rfl, Lb.next HBt.out (xo, xh, xl)⟩)
  case rest =>
  rename World => w5
  obtain ⟨b20, rfl, rfl, HL20⟩ := hcut
  have HB5 := hid (HB4.out.call HL20.out.be)
  have HD5 := hid (HD4.out.later HL20.out.be)
  have HQ5 := hid (HQ4.out.later HL20.out.be)
  have HOm5 := hid (HOm4.out.later HL20.out.be)
  obtain ⟨x0, x1, x2⟩ := HL18.out.ce.later HL20.out.be
  obtain ⟨y0, y1, y2⟩ := HL20.out.ce
  have z6 := (HO.out w5 HB5.out).c6
  have hqe := fun W => eqCp (xo, xh, xl) (xo, xh, xl) W
  simp only [decide_true, Nat.zero_add] at hqe x0 x1 x2 y0 y1 y2
  have HLi5 := hid (HLi.out w5 HB5.out)
  have HSa : Hid (∀ (U : World) (b : Option Addr) (cb : Nat), Rd U (some ⟨gb, 0, none⟩) (ln + 40) (L ++ marks 40) → Rd U b (ln + 40) (L ++ marks 40) → Calls Try.prog 44 #[.slice (some ⟨gb, 0, none⟩) (ln + 40) mc, .slice b (ln + 40) cb] U fun e w' => e = .returned (.bool true) ∧ ∃ q, w' = U.drewN q) := fun U b cb h1 h2 => by
    have := sameC_any mc cb h1 h2 HS40.out HS40.out
    simp only [decide_true] at this
    exact this
  have HLn : Hid ((L ++ marks 40).length = ln + 40) := by unfold Hid; rw [List.length_append, marks_len, HLl.out]
  clear HL18 HL20 HN2 HS20 HLi
  go_upto_region 23 with (first
    | (go_at_call 12; refine (num_any _ _).mono ?_; rintro e w9 ⟨rfl, hw9⟩; obtain rfl := hw9.symm; clear hw9)
    | (go_at_call 44; refine (HSa.out _ _ _ (ow_rd (HOm5.out.later HB6.out) HLn.out) (ow_rd HO6.out HLn.out)).mono ?_; rintro e w7 ⟨rfl, q7, hq7⟩; have HB7 : Hid (Below w5.heap.size w5 w7) := (by rw [hq7]; exact below_drewN HB6.out q7); clear hq7)
    | (go_at_call 45; refine HLi5.out.mono ?_; rintro e w6 ⟨nb, nc, rfl, hO, hb⟩; have HO6 := hid hO; have HB6 := hid hb; clear hO hb))
  clear x0 x1 x2 y0 y1 y2 z6 hqe
  have HOw := hid (HOm5.out.later HB7.out)
  have HEn : Hid (∀ U, But (fun k => k = gb) w7 U → (Ds U H X l ∧ Rq U H X l (t + 1)) ∧ But H.Sw w U) := fun U hU => by
    have hg := HGb.out.1
    have hn : ∀ k, H.All k → ¬ k = gb := fun k hk e => by have := HHi.out k hk; omega
    have hd := (HD5.out.later HB7.out).but hU hn
    have hq := (HQ5.out.later HB7.out).but hU (hn _ (.inr (.inr (.inr (.inr (.inl rfl)))))) (hn _ (.inr (.inr (.inr (.inr (.inr rfl))))))
    exact ⟨⟨hd, hq.up⟩, (HEnd.out _ (HB5.out.call HB7.out)).comp hU (fun k hk => by have := HSz2.out; omega)⟩
  generalize caps (L ++ marks 40) = CM at *
  generalize hnn : ln + 40 = nn at *
  have HS40' := HS40.out
  clear hnn HSa HLi5 HO6 HB6 HOm5 HB7 HOm4 HOm
  go_loopw [23] (WrRel w7 w2.heap.size gb nn mc) (fun t _ => nn - (intOf t).toNat)
  case atStart => exact ⟨0, CM, rfl, by omega, HOw.out, But.refl _ _⟩
  case round =>
    obtain ⟨i, M, rfl, hi, hO, hB⟩ := hrel
    have HB := hid hB
    by_cases hlt : i < nn
    · have hd : decide ((i : Int) < (nn : Int)) = true := decide_eq_true (by omega)
      obtain ⟨u0, r0, f0⟩ := hO.lies (j := i * 3) (by omega)
      obtain ⟨u1, r1, f1⟩ := hO.lies (j := i * 3 + 1) (by omega)
      obtain ⟨u2, r2, f2⟩ := hO.lies (j := i * 3 + 2) (by omega)
      have HN : Hid (WrRel w7 w2.heap.size gb nn mc (.int .i64 ((i + 1 : Nat) : Int)) (((wr.setCell ⟨gb, i * 3, none⟩ (.int .i64 (-1))).setCell ⟨gb, i * 3 + 1, none⟩ (.int .u64 0)).setCell ⟨gb, i * 3 + 2, none⟩ (.int .u64 0))) := ⟨i + 1, _, rfl, by omega, ((hO.set1 (i * 3) _).set1 (i * 3 + 1) _).set1 (i * 3 + 2) _, ((hB.setCell (p := ⟨gb, i * 3, none⟩) rfl _).setCell (p := ⟨gb, i * 3 + 1, none⟩) rfl _).setCell (p := ⟨gb, i * 3 + 2, none⟩) rfl _⟩
      clear hO hB
      go_wp2
      exact ⟨HN.out, by simp [intOf]; omega⟩
    · have hd : decide ((i : Int) < (nn : Int)) = false := decide_eq_false (by omega)
      clear hO hB
      go_wp2
      go_ret
      exact ⟨rfl, ⟨_, _, (HEn.out _ HB.out).1⟩, (HEn.out _ HB.out).2⟩
end Go.Proofs.Ytlelglfdamakaaa
