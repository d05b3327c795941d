import Derived.Test.YtgihdchgdejkhaaGreatDoorF2
namespace Go.Proofs.YtgihdchgdejkhaaGreatDoor.D
open Go.RowKit
open Go.Proofs.YtgihdchgdejkhaaGreatDoor.H (B64 Cp)
set_option linter.unusedVariables false

/-! ### The law's head -/
def exW (j : Nat) : Nat := if j = 2 then 5 else 3
theorem exW_wvs : wvs exW 4 = [.int .u64 0, .int .u64 3, .int .u64 0, .int .u64 3, .int .u64 0, .int .u64 5, .int .u64 0, .int .u64 3] := by kernel_rfl
theorem exW_ws (w : World) : Ws (w.alloc (Obj.cells #[.int .u64 0, .int .u64 3, .int .u64 0, .int .u64 3, .int .u64 0, .int .u64 5, .int .u64 0, .int .u64 3] 30)) (some ⟨w.heap.size, 0, none⟩) 4 4 exW := by
  refine ⟨Nat.le_refl _, fun h => (by cases h), fun x hx j u hu => ?_, fun i => ?_⟩
  · obtain rfl := Option.some.inj hx
    rw [exW_wvs] at hu
    have hj : j < 8 := (List.getElem?_eq_some_iff.1 hu).1
    rw [addr_add0]
    have : j = 0 ∨ j = 1 ∨ j = 2 ∨ j = 3 ∨ j = 4 ∨ j = 5 ∨ j = 6 ∨ j = 7 := by omega
    rcases this with rfl | rfl | rfl | rfl | rfl | rfl | rfl | rfl <;> (simp at hu; subst hu; simp [go_sem])
  · unfold exW; split <;> decide
def XP : Par := ⟨4, 3, 4, 4, cutF exW 4⟩
def x1 : Sta := (rootA XP (s0 4) 1).s
def x3 : Sta := (childA XP x1 (1, 0, 3) 5).s
def x5 : Sta := (childA XP x3 (1, 0, 5) 1).s
theorem ans1 : rootA XP (s0 4) 1 = ⟨(1, 0, 3), 0, x1⟩ := by kernel_rfl
theorem ans2 : rootA XP x1 1 = ⟨(0, 0, 0), 19, x1⟩ := by kernel_rfl
theorem ans3 : childA XP x1 (1, 0, 3) 5 = ⟨(1, 0, 5), 0, x3⟩ := by kernel_rfl
theorem ans4 : childA XP x3 (1, 0, 5) 2 = ⟨(0, 0, 0), 4, x3⟩ := by kernel_rfl
theorem ans5 : childA XP x3 (1, 0, 5) 1 = ⟨(0, 0, 0), 11, x5⟩ := by kernel_rfl
theorem x5_t : x5.t = 4 := by kernel_rfl
theorem x5_c : x5.L.count 1 = 2 := by kernel_rfl
theorem xp_small : ∀ i, i < XP.n → XP.c i < B64 * B64 := fun i hi => by
  have : i < 4 := hi
  have : i = 0 ∨ i = 1 ∨ i = 2 ∨ i = 3 := by omega
  rcases this with rfl | rfl | rfl | rfl <;> decide
theorem fit0 : Fit XP (s0 4) := Fit.start XP xp_small (by decide)
theorem fit1 : Fit XP x1 := fit0.root 1
theorem fit3 : Fit XP x3 := fit1.child (1, 0, 3) 5
theorem Zc.drew_ {w : World} {b : Nat} (h : Zc w b) : Zc w.drew b := h.but (S := fun _ => False) (But.of (Below.refl _ _).drew) (fun h => h)
/-- A result variable is set. -/
theorem Cw.put {w : World} {b : Nat} (h : Zc w b) (c : Cp) : Cw (((w.setCell ⟨b, 0, none⟩ (.int .i64 c.1)).setCell ⟨b, 1, none⟩ (.int .u64 (c.2.1 : Int))).setCell ⟨b, 2, none⟩ (.int .u64 (c.2.2 : Int))) b c := by
  obtain ⟨e0, e1, e2⟩ := three_set h.c0.1 h.c1.1 h.c2.1 (.int .i64 c.1) (.int .u64 (c.2.1 : Int)) (.int .u64 (c.2.2 : Int))
  exact ⟨cell_set_ne (cell_set_ne e0 (by omega)) (by omega), cell_set_ne e1 (by omega), e2⟩
/-- Behind a call whose answer is put into a variable. -/
structure Lv (v : World) (H : Hd) (W : World) (b : Nat) (c : Cp) (s : Sta) : Prop where
  lo : v.heap.size ≤ b
  cw : Cw W b c
  tri : Tri W H s
  but : But H.Wr v W
theorem Lv.first {v u : World} {H : Hd} {s s' : Sta} (h0 : Tri v H s') (ht : Tri u H s) (hb : But H.Wr v u) (hz : Zc u v.heap.size) (c : Cp) : Lv v H (((u.setCell ⟨v.heap.size, 0, none⟩ (.int .i64 c.1)).setCell ⟨v.heap.size, 1, none⟩ (.int .u64 (c.2.1 : Int))).setCell ⟨v.heap.size, 2, none⟩ (.int .u64 (c.2.2 : Int))) v.heap.size c s :=
  ⟨Nat.le_refl _, Cw.put hz c, ((ht.own h0.old 0 _).own h0.old 1 _).own h0.old 2 _, ((hb.put (p := ⟨v.heap.size, 0, none⟩) (Nat.le_refl _) _).put (p := ⟨v.heap.size, 1, none⟩) (Nat.le_refl _) _).put (p := ⟨v.heap.size, 2, none⟩) (Nat.le_refl _) _⟩
theorem Lv.then_ {v u : World} {H : Hd} {s : Sta} (ht : Tri u H s) (hb : But H.Wr v u) (c : Cp) : Lv v H (u.alloc (Obj.cells #[.int .i64 c.1, .int .u64 (c.2.1 : Int), .int .u64 (c.2.2 : Int)] 36)) u.heap.size c s :=
  ⟨hb.size, ⟨by simp [go_sem], by simp [go_sem], by simp [go_sem]⟩, ht.later (below1 _ _), hb.alloc _⟩
set_option maxRecDepth 100000 in
set_option maxHeartbeats 8000000 in
theorem head_any (w : World) (hl : Laid w) : Calls Tryz.prog 6 #[] w fun e w' => e = .returned (.bool true) ∧ Below w.heap.size w w' := by
  have hB0 := below1 w (Obj.cells #[.int .u64 0, .int .u64 3, .int .u64 0, .int .u64 3, .int .u64 0, .int .u64 5, .int .u64 0, .int .u64 3] 30)
  have HMd := hid (made_any (hl.later hB0) 4 4 3 0 (exW_ws w) (by decide) (by decide) (by decide) (by decide) (by decide) (by decide) (by decide) (by decide))
  have HB0 := hid hB0
  clear hl hB0
  unfold woV at HMd
  go_enter Tryz.func6, Tryz.ntmps6
  go_upto_region 4 with (first
    | (go_at_call 9; refine HMd.out.mono ?_; rintro e v0 ⟨H, K, sb, rb, rfl, hP, hT, hD, htp, _, hwr, hm1, hall, ⟨hsb, _⟩, _, hb0⟩; have HP : Hid (H.toPar = XP) := hP; have HT0 := hid hT; have HTp := hid htp; have HWr := hid (fun k (hk : H.Wr k) => And.intro (Nat.le_trans (Nat.le_succ _) (by simpa using hwr k hk)) (hall k (Hd.wr_all hk))); have HSb := hid hsb; have HBz := hid (below_call HB0.out hb0); clear hP hT hD htp hwr hm1 hall hsb hb0))
  have HZ : Hid (∀ k, H.Wr k → k < v0.heap.size) := fun k hk => HT0.out.lt k hk
  have HTo0 : Hid (But H.Wr v0 v0) := But.refl _ _
  have HR1 : Hid (∀ U, Below v0.heap.size v0 U → Calls Tryz.prog 10 #[.pointer (some ⟨H.g, 0, none⟩), .pointer (some ⟨H.A.g, 0, none⟩), .pointer (some ⟨H.qg, 0, none⟩), .int .i64 1] U fun e w' => e = .returned (.tuple #[.agg #[.int .i64 1, .int .u64 0, .int .u64 3], .int .i64 0]) ∧ Tri w' H (x1) ∧ But H.Wr U w') := fun U hU => by
    have := root_any (HT0.out.later hU) (by rw [HP.out]; exact fit0) 1 (by decide)
    rw [HP.out, ans1] at this
    exact this
  have HS1 : Hid (∀ U, But H.Wr v0 U → (U.cell? ⟨sb, 0, none⟩ = some (.pointer (some ⟨H.g, 0, none⟩)) ∧ U.cell? ⟨sb, 1, none⟩ = some (.pointer (some ⟨H.A.g, 0, none⟩)) ∧ U.cell? ⟨sb, 2, none⟩ = some (.pointer (some ⟨H.qg, 0, none⟩))) ∧ But H.Wr v0 U) := fun U hU => by
    obtain ⟨q0, q1, q2⟩ := HTp.out.but (HTo0.out.trans hU) (fun e => by have := (HWr.out _ e).2; have := HSb.out; omega)
    exact ⟨⟨q0, q1, q2⟩, hU⟩
  go_upto_region 4 with fail
  go_cut [3, 4] (fun s3 s4 W => ∃ b, s3 = .pointer (some ⟨b, 0, none⟩) ∧ s4 = .int .i64 0 ∧ Hid (Lv v0 H W b (1, 0, 3) (x1)))
  case first =>
    go_region_held3 (fun U => (U.cell? ⟨sb, 0, none⟩ = some (.pointer (some ⟨H.g, 0, none⟩)) ∧ U.cell? ⟨sb, 1, none⟩ = some (.pointer (some ⟨H.A.g, 0, none⟩)) ∧ U.cell? ⟨sb, 2, none⟩ = some (.pointer (some ⟨H.qg, 0, none⟩))) ∧ But H.Wr v0 U) (first | exact HS1.out _ HBt.out | exact HS1.out _ (But.of (Below.refl _ _).drew) | exact HS1.out _ (But.of (below1 _ _).drew) | exact HS1.out _ (But.of (below1 _ _)) | exact HS1.out _ (HBt.out.alloc _) | exact HS1.out _ (((HBt.out.put (Nat.le_refl _) _).put (Nat.le_refl _) _).put (Nat.le_refl _) _)) (first
      | (go_at_call 10; refine (HR1.out _ (below1 _ _).drew).mono ?_; rintro e u_ ⟨rfl, ht, hb⟩; have HTt := hid ht; have HBt := hid ((But.of (S := H.Wr) (below1 v0 (Obj.cells #[.int .i64 0, .int .u64 0, .int .u64 0] 36)).drew).trans hb); have hzc := (Zc.mk_ v0).drew_.but hb (fun e => by have := HZ.out _ e; have := HTo0.out.size; omega); have HZc := hid hzc; obtain ⟨⟨z0, f0⟩, ⟨z1, f1⟩, ⟨z2, f2⟩⟩ := hzc; clear ht hb)
      | (go_at_call 10; refine (HR1.out _ (Below.refl _ _).drew).mono ?_; rintro e u_ ⟨rfl, ht, hb⟩; have HTt := hid ht; have HBt := hid ((But.of (S := H.Wr) (Below.refl v0.heap.size v0).drew).trans hb); clear ht hb))
    all_goals (try go_wp2)
    all_goals go_meet
    all_goals (first | exact ⟨_, rfl, rfl, Lv.first HT0.out HTt.out HBt.out HZc.out (1, 0, 3)⟩ | exact ⟨_, rfl, rfl, Lv.then_ HTt.out HBt.out (1, 0, 3)⟩)
  case rest =>
  rename World => v1
  obtain ⟨b1, rfl, rfl, HLv⟩ := hcut
  have HT1 := hid HLv.out.tri
  have HBv := hid HLv.out.but
  have HTo1 : Hid (But H.Wr v0 v1) := HTo0.out.trans HBv.out
  have HCb1 : Hid (∀ U, But H.Wr v1 U → Cw U b1 (1, 0, 3)) := fun U hU => HLv.out.cw.but hU (fun e => by have := HZ.out _ e; have := HTo0.out.size; have := HLv.out.lo; omega)
  clear HLv HBv HR1 HS1 HT0
  have HR2 : Hid (∀ U, Below v1.heap.size v1 U → Calls Tryz.prog 10 #[.pointer (some ⟨H.g, 0, none⟩), .pointer (some ⟨H.A.g, 0, none⟩), .pointer (some ⟨H.qg, 0, none⟩), .int .i64 1] U fun e w' => e = .returned (.tuple #[.agg #[.int .i64 0, .int .u64 0, .int .u64 0], .int .i64 19]) ∧ Tri w' H (x1) ∧ But H.Wr U w') := fun U hU => by
    have := root_any (HT1.out.later hU) (by rw [HP.out]; exact fit1) 1 (by decide)
    rw [HP.out, ans2] at this
    exact this
  have HS2 : Hid (∀ U, But H.Wr v1 U → (U.cell? ⟨sb, 0, none⟩ = some (.pointer (some ⟨H.g, 0, none⟩)) ∧ U.cell? ⟨sb, 1, none⟩ = some (.pointer (some ⟨H.A.g, 0, none⟩)) ∧ U.cell? ⟨sb, 2, none⟩ = some (.pointer (some ⟨H.qg, 0, none⟩))) ∧ But H.Wr v1 U) := fun U hU => by
    obtain ⟨q0, q1, q2⟩ := HTp.out.but (HTo1.out.trans hU) (fun e => by have := (HWr.out _ e).2; have := HSb.out; omega)
    exact ⟨⟨q0, q1, q2⟩, hU⟩
  go_upto_region 5 with fail
  go_cut [5, 6] (fun s3 s4 W => ∃ b, s3 = .pointer (some ⟨b, 0, none⟩) ∧ s4 = .int .i64 19 ∧ Hid (Lv v1 H W b (0, 0, 0) (x1)))
  case first =>
    go_region_held3 (fun U => (U.cell? ⟨sb, 0, none⟩ = some (.pointer (some ⟨H.g, 0, none⟩)) ∧ U.cell? ⟨sb, 1, none⟩ = some (.pointer (some ⟨H.A.g, 0, none⟩)) ∧ U.cell? ⟨sb, 2, none⟩ = some (.pointer (some ⟨H.qg, 0, none⟩))) ∧ But H.Wr v1 U) (first | exact HS2.out _ HBt.out | exact HS2.out _ (But.of (Below.refl _ _).drew) | exact HS2.out _ (But.of (below1 _ _).drew) | exact HS2.out _ (But.of (below1 _ _)) | exact HS2.out _ (HBt.out.alloc _) | exact HS2.out _ (((HBt.out.put (Nat.le_refl _) _).put (Nat.le_refl _) _).put (Nat.le_refl _) _)) (first
      | (go_at_call 10; refine (HR2.out _ (below1 _ _).drew).mono ?_; rintro e u_ ⟨rfl, ht, hb⟩; have HTt := hid ht; have HBt := hid ((But.of (S := H.Wr) (below1 v1 (Obj.cells #[.int .i64 0, .int .u64 0, .int .u64 0] 36)).drew).trans hb); have hzc := (Zc.mk_ v1).drew_.but hb (fun e => by have := HZ.out _ e; have := HTo1.out.size; omega); have HZc := hid hzc; obtain ⟨⟨z0, f0⟩, ⟨z1, f1⟩, ⟨z2, f2⟩⟩ := hzc; clear ht hb)
      | (go_at_call 10; refine (HR2.out _ (Below.refl _ _).drew).mono ?_; rintro e u_ ⟨rfl, ht, hb⟩; have HTt := hid ht; have HBt := hid ((But.of (S := H.Wr) (Below.refl v1.heap.size v1).drew).trans hb); clear ht hb))
    all_goals (try go_wp2)
    all_goals go_meet
    all_goals (first | exact ⟨_, rfl, rfl, Lv.first HT1.out HTt.out HBt.out HZc.out (0, 0, 0)⟩ | exact ⟨_, rfl, rfl, Lv.then_ HTt.out HBt.out (0, 0, 0)⟩)
  case rest =>
  rename World => v2
  obtain ⟨b2, rfl, rfl, HLv⟩ := hcut
  have HT2 := hid HLv.out.tri
  have HBv := hid HLv.out.but
  have HTo2 : Hid (But H.Wr v0 v2) := HTo1.out.trans HBv.out
  have HCb1 : Hid (∀ U, But H.Wr v2 U → Cw U b1 (1, 0, 3)) := fun U hU => HCb1.out U (HBv.out.trans hU)
  clear HLv HBv HR2 HS2 HT1
  have HR3 : Hid (∀ U, Below v2.heap.size v2 U → Calls Tryz.prog 11 #[.pointer (some ⟨H.g, 0, none⟩), .pointer (some ⟨H.A.g, 0, none⟩), .pointer (some ⟨H.qg, 0, none⟩), .agg #[.int .i64 1, .int .u64 0, .int .u64 3], .int .i64 5] U fun e w' => e = .returned (.tuple #[.agg #[.int .i64 1, .int .u64 0, .int .u64 5], .int .i64 0]) ∧ Tri w' H (x3) ∧ But H.Wr U w') := fun U hU => by
    have := dchild_any (HT2.out.later hU) (by rw [HP.out]; exact fit1) (1, 0, 3) 5 (by decide) (by decide)
    rw [HP.out, ans3] at this
    exact this
  have HS3 : Hid (∀ U, But H.Wr v2 U → (U.cell? ⟨sb, 0, none⟩ = some (.pointer (some ⟨H.g, 0, none⟩)) ∧ U.cell? ⟨sb, 1, none⟩ = some (.pointer (some ⟨H.A.g, 0, none⟩)) ∧ U.cell? ⟨sb, 2, none⟩ = some (.pointer (some ⟨H.qg, 0, none⟩)) ∧ U.cell? ⟨b1, 0, none⟩ = some (.int .i64 1) ∧ U.cell? ⟨b1, 1, none⟩ = some (.int .u64 0) ∧ U.cell? ⟨b1, 2, none⟩ = some (.int .u64 3)) ∧ But H.Wr v2 U) := fun U hU => by
    obtain ⟨q0, q1, q2⟩ := HTp.out.but (HTo2.out.trans hU) (fun e => by have := (HWr.out _ e).2; have := HSb.out; omega)
    obtain ⟨p0, p1, p2⟩ := HCb1.out U hU
    exact ⟨⟨q0, q1, q2, p0, p1, p2⟩, hU⟩
  go_upto_region 6 with fail
  go_cut [7, 8] (fun s3 s4 W => ∃ b, s3 = .pointer (some ⟨b, 0, none⟩) ∧ s4 = .int .i64 0 ∧ Hid (Lv v2 H W b (1, 0, 5) (x3)))
  case first =>
    go_region_held3 (fun U => (U.cell? ⟨sb, 0, none⟩ = some (.pointer (some ⟨H.g, 0, none⟩)) ∧ U.cell? ⟨sb, 1, none⟩ = some (.pointer (some ⟨H.A.g, 0, none⟩)) ∧ U.cell? ⟨sb, 2, none⟩ = some (.pointer (some ⟨H.qg, 0, none⟩)) ∧ U.cell? ⟨b1, 0, none⟩ = some (.int .i64 1) ∧ U.cell? ⟨b1, 1, none⟩ = some (.int .u64 0) ∧ U.cell? ⟨b1, 2, none⟩ = some (.int .u64 3)) ∧ But H.Wr v2 U) (first | exact HS3.out _ HBt.out | exact HS3.out _ (But.of (Below.refl _ _).drew) | exact HS3.out _ (But.of (below1 _ _).drew) | exact HS3.out _ (But.of (below1 _ _)) | exact HS3.out _ (HBt.out.alloc _) | exact HS3.out _ (((HBt.out.put (Nat.le_refl _) _).put (Nat.le_refl _) _).put (Nat.le_refl _) _)) (first
      | (go_at_call 11; refine (HR3.out _ (below1 _ _).drew).mono ?_; rintro e u_ ⟨rfl, ht, hb⟩; have HTt := hid ht; have HBt := hid ((But.of (S := H.Wr) (below1 v2 (Obj.cells #[.int .i64 0, .int .u64 0, .int .u64 0] 36)).drew).trans hb); have hzc := (Zc.mk_ v2).drew_.but hb (fun e => by have := HZ.out _ e; have := HTo2.out.size; omega); have HZc := hid hzc; obtain ⟨⟨z0, f0⟩, ⟨z1, f1⟩, ⟨z2, f2⟩⟩ := hzc; clear ht hb)
      | (go_at_call 11; refine (HR3.out _ (Below.refl _ _).drew).mono ?_; rintro e u_ ⟨rfl, ht, hb⟩; have HTt := hid ht; have HBt := hid ((But.of (S := H.Wr) (Below.refl v2.heap.size v2).drew).trans hb); clear ht hb))
    all_goals (try go_wp2)
    all_goals go_meet
    all_goals (first | exact ⟨_, rfl, rfl, Lv.first HT2.out HTt.out HBt.out HZc.out (1, 0, 5)⟩ | exact ⟨_, rfl, rfl, Lv.then_ HTt.out HBt.out (1, 0, 5)⟩)
  case rest =>
  rename World => v3
  obtain ⟨b3, rfl, rfl, HLv⟩ := hcut
  have HT3 := hid HLv.out.tri
  have HBv := hid HLv.out.but
  have HTo3 : Hid (But H.Wr v0 v3) := HTo2.out.trans HBv.out
  have HCb1 : Hid (∀ U, But H.Wr v3 U → Cw U b1 (1, 0, 3)) := fun U hU => HCb1.out U (HBv.out.trans hU)
  have HCb3 : Hid (∀ U, But H.Wr v3 U → Cw U b3 (1, 0, 5)) := fun U hU => HLv.out.cw.but hU (fun e => by have := HZ.out _ e; have := HTo2.out.size; have := HLv.out.lo; omega)
  clear HLv HBv HR3 HS3 HT2
  have HR4 : Hid (∀ U, Below v3.heap.size v3 U → Calls Tryz.prog 11 #[.pointer (some ⟨H.g, 0, none⟩), .pointer (some ⟨H.A.g, 0, none⟩), .pointer (some ⟨H.qg, 0, none⟩), .agg #[.int .i64 1, .int .u64 0, .int .u64 5], .int .i64 2] U fun e w' => e = .returned (.tuple #[.agg #[.int .i64 0, .int .u64 0, .int .u64 0], .int .i64 4]) ∧ Tri w' H (x3) ∧ But H.Wr U w') := fun U hU => by
    have := dchild_any (HT3.out.later hU) (by rw [HP.out]; exact fit3) (1, 0, 5) 2 (by decide) (by decide)
    rw [HP.out, ans4] at this
    exact this
  have HS4 : Hid (∀ U, But H.Wr v3 U → (U.cell? ⟨sb, 0, none⟩ = some (.pointer (some ⟨H.g, 0, none⟩)) ∧ U.cell? ⟨sb, 1, none⟩ = some (.pointer (some ⟨H.A.g, 0, none⟩)) ∧ U.cell? ⟨sb, 2, none⟩ = some (.pointer (some ⟨H.qg, 0, none⟩)) ∧ U.cell? ⟨b3, 0, none⟩ = some (.int .i64 1) ∧ U.cell? ⟨b3, 1, none⟩ = some (.int .u64 0) ∧ U.cell? ⟨b3, 2, none⟩ = some (.int .u64 5)) ∧ But H.Wr v3 U) := fun U hU => by
    obtain ⟨q0, q1, q2⟩ := HTp.out.but (HTo3.out.trans hU) (fun e => by have := (HWr.out _ e).2; have := HSb.out; omega)
    obtain ⟨p0, p1, p2⟩ := HCb3.out U hU
    exact ⟨⟨q0, q1, q2, p0, p1, p2⟩, hU⟩
  go_upto_region 7 with fail
  go_cut [9, 10] (fun s3 s4 W => ∃ b, s3 = .pointer (some ⟨b, 0, none⟩) ∧ s4 = .int .i64 4 ∧ Hid (Lv v3 H W b (0, 0, 0) (x3)))
  case first =>
    go_region_held3 (fun U => (U.cell? ⟨sb, 0, none⟩ = some (.pointer (some ⟨H.g, 0, none⟩)) ∧ U.cell? ⟨sb, 1, none⟩ = some (.pointer (some ⟨H.A.g, 0, none⟩)) ∧ U.cell? ⟨sb, 2, none⟩ = some (.pointer (some ⟨H.qg, 0, none⟩)) ∧ U.cell? ⟨b3, 0, none⟩ = some (.int .i64 1) ∧ U.cell? ⟨b3, 1, none⟩ = some (.int .u64 0) ∧ U.cell? ⟨b3, 2, none⟩ = some (.int .u64 5)) ∧ But H.Wr v3 U) (first | exact HS4.out _ HBt.out | exact HS4.out _ (But.of (Below.refl _ _).drew) | exact HS4.out _ (But.of (below1 _ _).drew) | exact HS4.out _ (But.of (below1 _ _)) | exact HS4.out _ (HBt.out.alloc _) | exact HS4.out _ (((HBt.out.put (Nat.le_refl _) _).put (Nat.le_refl _) _).put (Nat.le_refl _) _)) (first
      | (go_at_call 11; refine (HR4.out _ (below1 _ _).drew).mono ?_; rintro e u_ ⟨rfl, ht, hb⟩; have HTt := hid ht; have HBt := hid ((But.of (S := H.Wr) (below1 v3 (Obj.cells #[.int .i64 0, .int .u64 0, .int .u64 0] 36)).drew).trans hb); have hzc := (Zc.mk_ v3).drew_.but hb (fun e => by have := HZ.out _ e; have := HTo3.out.size; omega); have HZc := hid hzc; obtain ⟨⟨z0, f0⟩, ⟨z1, f1⟩, ⟨z2, f2⟩⟩ := hzc; clear ht hb)
      | (go_at_call 11; refine (HR4.out _ (Below.refl _ _).drew).mono ?_; rintro e u_ ⟨rfl, ht, hb⟩; have HTt := hid ht; have HBt := hid ((But.of (S := H.Wr) (Below.refl v3.heap.size v3).drew).trans hb); clear ht hb))
    all_goals (try go_wp2)
    all_goals go_meet
    all_goals (first | exact ⟨_, rfl, rfl, Lv.first HT3.out HTt.out HBt.out HZc.out (0, 0, 0)⟩ | exact ⟨_, rfl, rfl, Lv.then_ HTt.out HBt.out (0, 0, 0)⟩)
  case rest =>
  rename World => v4
  obtain ⟨b4, rfl, rfl, HLv⟩ := hcut
  have HT4 := hid HLv.out.tri
  have HBv := hid HLv.out.but
  have HTo4 : Hid (But H.Wr v0 v4) := HTo3.out.trans HBv.out
  have HCb1 : Hid (∀ U, But H.Wr v4 U → Cw U b1 (1, 0, 3)) := fun U hU => HCb1.out U (HBv.out.trans hU)
  have HCb3 : Hid (∀ U, But H.Wr v4 U → Cw U b3 (1, 0, 5)) := fun U hU => HCb3.out U (HBv.out.trans hU)
  clear HLv HBv HR4 HS4 HT3
  have HR5 : Hid (∀ U, Below v4.heap.size v4 U → Calls Tryz.prog 11 #[.pointer (some ⟨H.g, 0, none⟩), .pointer (some ⟨H.A.g, 0, none⟩), .pointer (some ⟨H.qg, 0, none⟩), .agg #[.int .i64 1, .int .u64 0, .int .u64 5], .int .i64 1] U fun e w' => e = .returned (.tuple #[.agg #[.int .i64 0, .int .u64 0, .int .u64 0], .int .i64 11]) ∧ Tri w' H (x5) ∧ But H.Wr U w') := fun U hU => by
    have := dchild_any (HT4.out.later hU) (by rw [HP.out]; exact fit3) (1, 0, 5) 1 (by decide) (by decide)
    rw [HP.out, ans5] at this
    exact this
  have HS5 : Hid (∀ U, But H.Wr v4 U → (U.cell? ⟨sb, 0, none⟩ = some (.pointer (some ⟨H.g, 0, none⟩)) ∧ U.cell? ⟨sb, 1, none⟩ = some (.pointer (some ⟨H.A.g, 0, none⟩)) ∧ U.cell? ⟨sb, 2, none⟩ = some (.pointer (some ⟨H.qg, 0, none⟩)) ∧ U.cell? ⟨b3, 0, none⟩ = some (.int .i64 1) ∧ U.cell? ⟨b3, 1, none⟩ = some (.int .u64 0) ∧ U.cell? ⟨b3, 2, none⟩ = some (.int .u64 5)) ∧ But H.Wr v4 U) := fun U hU => by
    obtain ⟨q0, q1, q2⟩ := HTp.out.but (HTo4.out.trans hU) (fun e => by have := (HWr.out _ e).2; have := HSb.out; omega)
    obtain ⟨p0, p1, p2⟩ := HCb3.out U hU
    exact ⟨⟨q0, q1, q2, p0, p1, p2⟩, hU⟩
  go_upto_region 8 with fail
  go_cut [11, 12] (fun s3 s4 W => ∃ b, s3 = .pointer (some ⟨b, 0, none⟩) ∧ s4 = .int .i64 11 ∧ Hid (Lv v4 H W b (0, 0, 0) (x5)))
  case first =>
    go_region_held3 (fun U => (U.cell? ⟨sb, 0, none⟩ = some (.pointer (some ⟨H.g, 0, none⟩)) ∧ U.cell? ⟨sb, 1, none⟩ = some (.pointer (some ⟨H.A.g, 0, none⟩)) ∧ U.cell? ⟨sb, 2, none⟩ = some (.pointer (some ⟨H.qg, 0, none⟩)) ∧ U.cell? ⟨b3, 0, none⟩ = some (.int .i64 1) ∧ U.cell? ⟨b3, 1, none⟩ = some (.int .u64 0) ∧ U.cell? ⟨b3, 2, none⟩ = some (.int .u64 5)) ∧ But H.Wr v4 U) (first | exact HS5.out _ HBt.out | exact HS5.out _ (But.of (Below.refl _ _).drew) | exact HS5.out _ (But.of (below1 _ _).drew) | exact HS5.out _ (But.of (below1 _ _)) | exact HS5.out _ (HBt.out.alloc _) | exact HS5.out _ (((HBt.out.put (Nat.le_refl _) _).put (Nat.le_refl _) _).put (Nat.le_refl _) _)) (first
      | (go_at_call 11; refine (HR5.out _ (below1 _ _).drew).mono ?_; rintro e u_ ⟨rfl, ht, hb⟩; have HTt := hid ht; have HBt := hid ((But.of (S := H.Wr) (below1 v4 (Obj.cells #[.int .i64 0, .int .u64 0, .int .u64 0] 36)).drew).trans hb); have hzc := (Zc.mk_ v4).drew_.but hb (fun e => by have := HZ.out _ e; have := HTo4.out.size; omega); have HZc := hid hzc; obtain ⟨⟨z0, f0⟩, ⟨z1, f1⟩, ⟨z2, f2⟩⟩ := hzc; clear ht hb)
      | (go_at_call 11; refine (HR5.out _ (Below.refl _ _).drew).mono ?_; rintro e u_ ⟨rfl, ht, hb⟩; have HTt := hid ht; have HBt := hid ((But.of (S := H.Wr) (Below.refl v4.heap.size v4).drew).trans hb); clear ht hb))
    all_goals (try go_wp2)
    all_goals go_meet
    all_goals (first | exact ⟨_, rfl, rfl, Lv.first HT4.out HTt.out HBt.out HZc.out (0, 0, 0)⟩ | exact ⟨_, rfl, rfl, Lv.then_ HTt.out HBt.out (0, 0, 0)⟩)
  case rest =>
  rename World => v5
  obtain ⟨b5, rfl, rfl, HLv⟩ := hcut
  have HT5 := hid HLv.out.tri
  have HBv := hid HLv.out.but
  have HTo5 : Hid (But H.Wr v0 v5) := HTo4.out.trans HBv.out
  have HCb1 : Hid (∀ U, But H.Wr v5 U → Cw U b1 (1, 0, 3)) := fun U hU => HCb1.out U (HBv.out.trans hU)
  have HCb3 : Hid (∀ U, But H.Wr v5 U → Cw U b3 (1, 0, 5)) := fun U hU => HCb3.out U (HBv.out.trans hU)
  clear HLv HBv HR5 HS5 HT4
  obtain ⟨p0, p1, p2⟩ := HCb1.out v5 (But.refl _ _)
  obtain ⟨r0, r1, r2⟩ := HCb3.out v5 (But.refl _ _)
  obtain ⟨q0, q1, q2⟩ := HTp.out.but HTo5.out (fun e => by have := (HWr.out _ e).2; have := HSb.out; omega)
  have HTk : Hid (Calls Tryz.prog 12 #[.pointer (some ⟨H.g, 0, none⟩)] v5 fun e w' => e = .returned (.int .i64 4) ∧ w' = v5) := by
    have := taken_any _ _ _ _ _ _ HT5.out.d
    rw [x5_t] at this
    exact this
  have HOf : Hid (Calls Tryz.prog 13 #[.pointer (some ⟨H.qg, 0, none⟩), .int .i64 1] v5 fun e w' => e = .returned (.int .i64 2) ∧ w' = v5) := by
    have := Q.of_any HT5.out.qu 1 (by decide)
    rw [x5_c] at this
    exact this
  have heq := Go.Proofs.YtgihdchgdejkhaaGreatDoor.H.eqlC
  go_wp2_with (first
    | (go_at_call 12; refine HTk.out.mono ?_; rintro e w9 ⟨rfl, hw9⟩; obtain rfl := hw9.symm; clear hw9)
    | (go_at_call 13; refine HOf.out.mono ?_; rintro e w9 ⟨rfl, hw9⟩; obtain rfl := hw9.symm; clear hw9))
  go_ret
  exact ⟨rfl, But.below HBz.out HTo5.out (fun k hk => (HWr.out k hk).1)⟩
end Go.Proofs.YtgihdchgdejkhaaGreatDoor.D
