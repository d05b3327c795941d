import Derived.Test.YtgihdchgdejkhaaGreatDoorKG
namespace Go.Proofs.YtgihdchgdejkhaaGreatDoor.D
open Go.RowKit
open Go.Proofs.YtgihdchgdejkhaaGreatDoor.H (B64 Cp)
set_option linter.unusedVariables false
set_option maxRecDepth 100000 in
set_option maxHeartbeats 16000000 in
theorem play_child1 {w : World} {H : Hd} {K : Kd} {s : Sta} {T sb rb : Nat} (h : Duo w H K s s T sb rb) (hf : Fit H.toPar s) (hmo : H.mo ≤ 1024) (hT : T < 9223372036854775807) (p : Sp) (hok : p.ok) (hk : p.kd = 1) :
    Calls Tryz.prog 18 #[.pointer (some ⟨sb, 0, none⟩), .pointer (some ⟨rb, 0, none⟩), spV p] w (PlayP w H K T sb rb) := by
  obtain ⟨w0, hw0⟩ : ∃ w0, w0 = w.alloc (Obj.cells #[.int .i64 p.kd, .int .i64 p.ob, .int .i64 p.at_, .int .i64 p.r, .int .i64 p.c.1, .int .u64 (p.c.2.1 : Int), .int .u64 (p.c.2.2 : Int)] 51) := ⟨_, rfl⟩
  have hB0 : Below w.heap.size w w0 := by rw [hw0]; exact below1 _ _
  have hsb : Sb w0 w.heap.size 0 p := by rw [hw0]; exact ⟨by simp [go_sem], by simp [go_sem], by simp [go_sem], by simp [go_sem], by simp [go_sem], by simp [go_sem], by simp [go_sem]⟩
  have HSb := hid hsb
  have HM0 := hid (h.mid.later hB0)
  have HB0 := hid hB0
  have HF := hid hf
  have HOk := hid hok
  have HNo := hid (named_ok hf.inv hok)
  have HR1 := hid (fun (U : World) (hU : Below w0.heap.size w0 U) => named_any ((h.mid.later hB0).later hU).doc.doc hf hmo p)
  obtain ⟨c, hc⟩ : ∃ c, c = namedC H.mo s p := ⟨_, rfl⟩
  rw [show namedC H.toPar.mo s p = c from hc.symm] at HR1 HNo
  unfold spV at HR1 ⊢
  have HS1 : Hid (∀ U, Below w0.heap.size w0 U → (U.cell? ⟨rb, 1, none⟩ = some (.pointer (some ⟨K.r, 0, none⟩)) ∧ U.cell? ⟨w.heap.size, 0, none⟩ = some (.int .i64 p.kd) ∧ U.cell? ⟨w.heap.size, 1, none⟩ = some (.int .i64 p.ob) ∧ U.cell? ⟨w.heap.size, 2, none⟩ = some (.int .i64 p.at_) ∧ U.cell? ⟨w.heap.size, 3, none⟩ = some (.int .i64 p.r) ∧ U.cell? ⟨w.heap.size, 4, none⟩ = some (.int .i64 p.c.1) ∧ U.cell? ⟨w.heap.size, 5, none⟩ = some (.int .u64 (p.c.2.1 : Int)) ∧ U.cell? ⟨w.heap.size, 6, none⟩ = some (.int .u64 (p.c.2.2 : Int))) ∧ Below w0.heap.size w0 U) := fun U hU => ⟨⟨(HM0.out.later hU).t2.c1, (HSb.out.later hU).zero⟩, hU⟩
  clear h hf hB0 hsb hok hc
  have hb0 : (p.kd == 0) = false := by rw [beq_eq_false_iff_ne]; omega
  have hb1 : (p.kd == 1) = true := by rw [beq_iff_eq]; exact hk
  clear hk
  go_enter Tryz.func18, Tryz.ntmps18
  go_upto_region 1 with fail
  rw [← hw0]
  clear hw0
  go_cut [7] (fun s7 W => ∃ b, s7 = .pointer (some ⟨b, 0, none⟩) ∧ Hid (Nv w0 W b c))
  case first =>
    go_region_held3 (fun U => (U.cell? ⟨rb, 1, none⟩ = some (.pointer (some ⟨K.r, 0, none⟩)) ∧ U.cell? ⟨w.heap.size, 0, none⟩ = some (.int .i64 p.kd) ∧ U.cell? ⟨w.heap.size, 1, none⟩ = some (.int .i64 p.ob) ∧ U.cell? ⟨w.heap.size, 2, none⟩ = some (.int .i64 p.at_) ∧ U.cell? ⟨w.heap.size, 3, none⟩ = some (.int .i64 p.r) ∧ U.cell? ⟨w.heap.size, 4, none⟩ = some (.int .i64 p.c.1) ∧ U.cell? ⟨w.heap.size, 5, none⟩ = some (.int .u64 (p.c.2.1 : Int)) ∧ U.cell? ⟨w.heap.size, 6, none⟩ = some (.int .u64 (p.c.2.2 : Int))) ∧ Below w0.heap.size w0 U) (first | exact HS1.out _ HBt.out | exact HS1.out _ (Below.refl _ _).drew | exact HS1.out _ (below1 _ _).drew | exact HS1.out _ (below1 _ _) | exact HS1.out _ (HBt.out.alloc HBt.out.size _) | exact HS1.out _ (below_ofBut (set3_but (But.of HBt.out) (Nat.le_refl _) c))) (first
      | (go_at_call 33; refine (HR1.out _ (below1 _ _).drew).mono ?_; rintro e u_ ⟨rfl, hb⟩; have HBt := hid (below_call (below1 w0 (Obj.cells #[.int .i64 0, .int .u64 0, .int .u64 0] 36)).drew hb); have hzc := (Zc.mk_ w0).drew_.but (S := fun _ => False) (But.of hb) (fun h => h); have HZc := hid hzc; obtain ⟨⟨z0, f0⟩, ⟨z1, f1⟩, ⟨z2, f2⟩⟩ := hzc; clear hb)
      | (go_at_call 33; refine (HR1.out _ (Below.refl _ _).drew).mono ?_; rintro e u_ ⟨rfl, hb⟩; have HBt := hid (below_call (Below.refl w0.heap.size w0).drew hb); clear hb))
    all_goals (try go_wp2)
    all_goals go_meet
    all_goals (first | exact ⟨_, rfl, Nv.first HBt.out HZc.out c⟩ | exact ⟨_, rfl, Nv.then_ HBt.out c⟩)
  case rest =>
  rename World => v1
  obtain ⟨b7, rfl, HNv⟩ := hcut
  have HM1 := hid (HM0.out.later HNv.out.bel)
  have HSb1 := hid (HSb.out.later HNv.out.bel)
  obtain ⟨o0, o1, o2, o3, _⟩ := HSb1.out.zero
  have HB1 := hid (below_call HB0.out HNv.out.bel)
  have HLo : Hid (w.heap.size ≤ b7) := Nat.le_trans HB0.out.size HNv.out.lo
  clear HS1 HR1 HM0 HSb
  obtain ⟨R, hR⟩ : ∃ R, R = childA H.toPar s c p.r := ⟨_, rfl⟩
  have HRR := hid hR
  have HR4 : Hid (∀ U, Below v1.heap.size v1 U → Calls Tryz.prog 11 #[.pointer (some ⟨H.g, 0, none⟩), .pointer (some ⟨H.A.g, 0, none⟩), .pointer (some ⟨H.qg, 0, none⟩), .agg #[.int .i64 c.1, .int .u64 (c.2.1 : Int), .int .u64 (c.2.2 : Int)], .int .i64 p.r] U fun e w' => e = .returned (.tuple #[.agg #[.int .i64 R.c.1, .int .u64 (R.c.2.1 : Int), .int .u64 (R.c.2.2 : Int)], .int .i64 R.code]) ∧ Tri w' H R.s ∧ But H.Wr U w') := fun U hU => by
    have := dchild_any (HM1.out.tri.later hU) HF.out c p.r HNo.out.1 HNo.out.2
    rw [← hR] at this
    exact this
  clear hR
  have hno : ∀ k, w.heap.size ≤ k → ¬ H.Wr k := fun k hk e => by have := HM1.out.all k (Hd.wr_all e); omega
  have HNW := hid hno
  have HS4 : Hid (∀ U, But H.Wr v1 U → (U.cell? ⟨sb, 0, none⟩ = some (.pointer (some ⟨H.g, 0, none⟩)) ∧ U.cell? ⟨sb, 1, none⟩ = some (.pointer (some ⟨H.A.g, 0, none⟩)) ∧ U.cell? ⟨sb, 2, none⟩ = some (.pointer (some ⟨H.qg, 0, none⟩)) ∧ U.cell? ⟨b7, 0, none⟩ = some (.int .i64 c.1) ∧ U.cell? ⟨b7, 1, none⟩ = some (.int .u64 (c.2.1 : Int)) ∧ U.cell? ⟨b7, 2, none⟩ = some (.int .u64 (c.2.2 : Int)) ∧ U.cell? ⟨w.heap.size, 3, none⟩ = some (.int .i64 p.r)) ∧ But H.Wr v1 U) := fun U hU => by
    have hlt := HM1.out.lt
    have hat := HM1.out.at_
    have hmq := HM1.out.mq
    obtain ⟨q0, q1, q2⟩ := HM1.out.t1.but hU (fun e => by have := HM1.out.sep _ (Hd.wr_all e); omega)
    obtain ⟨r0, r1, r2, r3, _⟩ := (HSb1.out.but hU (hno _ (Nat.le_refl _))).zero
    obtain ⟨c0, c1, c2⟩ := HNv.out.cw.but hU (hno _ HLo.out)
    exact ⟨⟨q0, q1, q2, c0, c1, c2, r3⟩, hU⟩
  have HZ : Hid (∀ k, H.Wr k → k < v1.heap.size) := fun k hk => HM1.out.tri.lt k hk
  clear hno
  go_upto_region 10 with fail
  go_cut [12, 13] (fun s3 s4 W => ∃ b, s3 = .pointer (some ⟨b, 0, none⟩) ∧ s4 = .int .i64 (R.code) ∧ Hid (Lv v1 H W b (R.c) (R.s)))
  case first =>
    go_region_held3 (fun U => (U.cell? ⟨sb, 0, none⟩ = some (.pointer (some ⟨H.g, 0, none⟩)) ∧ U.cell? ⟨sb, 1, none⟩ = some (.pointer (some ⟨H.A.g, 0, none⟩)) ∧ U.cell? ⟨sb, 2, none⟩ = some (.pointer (some ⟨H.qg, 0, none⟩)) ∧ U.cell? ⟨b7, 0, none⟩ = some (.int .i64 c.1) ∧ U.cell? ⟨b7, 1, none⟩ = some (.int .u64 (c.2.1 : Int)) ∧ U.cell? ⟨b7, 2, none⟩ = some (.int .u64 (c.2.2 : Int)) ∧ U.cell? ⟨w.heap.size, 3, none⟩ = some (.int .i64 p.r)) ∧ But H.Wr v1 U) (first | exact HS4.out _ HBt.out | exact HS4.out _ (But.of (Below.refl _ _).drew) | exact HS4.out _ (But.of (below1 _ _).drew) | exact HS4.out _ (But.of (below1 _ _)) | exact HS4.out _ (HBt.out.alloc _) | exact HS4.out _ (((HBt.out.put (Nat.le_refl _) _).put (Nat.le_refl _) _).put (Nat.le_refl _) _)) (first
      | (go_at_call 11; refine (HR4.out _ (below1 _ _).drew).mono ?_; rintro e u_ ⟨rfl, ht, hb⟩; have HTt := hid ht; have HBt := hid ((But.of (S := H.Wr) (below1 v1 (Obj.cells #[.int .i64 0, .int .u64 0, .int .u64 0] 36)).drew).trans hb); have hzc := (Zc.mk_ v1).drew_.but hb (fun e => by have := HZ.out _ e; omega); have HZc := hid hzc; obtain ⟨⟨z0, f0⟩, ⟨z1, f1⟩, ⟨z2, f2⟩⟩ := hzc; clear ht hb)
      | (go_at_call 11; refine (HR4.out _ (Below.refl _ _).drew).mono ?_; rintro e u_ ⟨rfl, ht, hb⟩; have HTt := hid ht; have HBt := hid ((But.of (S := H.Wr) (Below.refl v1.heap.size v1).drew).trans hb); clear ht hb))
    all_goals (try go_wp2)
    all_goals go_meet
    all_goals (first | exact ⟨_, rfl, rfl, Lv.first HM1.out.tri HTt.out HBt.out HZc.out (R.c)⟩ | exact ⟨_, rfl, rfl, Lv.then_ HTt.out HBt.out (R.c)⟩)
  case rest =>
  rename World => v2
  obtain ⟨b8, rfl, rfl, HLv⟩ := hcut
  have HM2 := hid (HM1.out.prog HLv.out.tri HLv.out.but)
  have HSb2 := hid (HSb1.out.but HLv.out.but (HNW.out _ (Nat.le_refl _)))
  have HC7 := hid (HNv.out.cw.but HLv.out.but (HNW.out _ HLo.out))
  have HLo8 : Hid (w.heap.size ≤ b8) := Nat.le_trans HB1.out.size HLv.out.lo
  clear HS4 HR4
  have HR5 : Hid (∀ U, Below v2.heap.size v2 U → Calls Tryz.prog 35 #[.agg #[.pointer (some ⟨K.g, 0, none⟩), .pointer (some ⟨K.r, 0, none⟩), .pointer (some ⟨K.q, 0, none⟩)], .agg #[.int .i64 c.1, .int .u64 (c.2.1 : Int), .int .u64 (c.2.2 : Int)], .int .i64 p.r] U fun e w' => e = .returned (.tuple #[.agg #[.int .i64 R.c.1, .int .u64 (R.c.2.1 : Int), .int .u64 (R.c.2.2 : Int)], .int .i64 R.code]) ∧ Dz w' H.toPar K R.s (T + 1) (gapN w.heap.size U.heap.size rb) ∧ But (Kw K w.heap.size (gapN w.heap.size U.heap.size rb)) U w') := fun U hU => by
    have hm := HM2.out.later hU
    have := wchild_any (hm.doc.regap (fun _ h => h) (by have := hm.lt; omega)) hm.lt.2 HF.out hT c p.r HNo.out.2
    rw [← HRR.out] at this
    exact this
  have hno : ∀ k, w.heap.size ≤ k → ¬ Kw K w.heap.size (fun k => rb < k) k := fun k hk e => by have := e.2.1; omega
  have HNK := hid hno
  have HS5 : Hid (∀ U, But (Kw K w.heap.size (fun k => rb < k)) v2 U → (U.cell? ⟨rb, 0, none⟩ = some (.pointer (some ⟨K.g, 0, none⟩)) ∧ U.cell? ⟨rb, 1, none⟩ = some (.pointer (some ⟨K.r, 0, none⟩)) ∧ U.cell? ⟨rb, 2, none⟩ = some (.pointer (some ⟨K.q, 0, none⟩)) ∧ U.cell? ⟨b7, 0, none⟩ = some (.int .i64 c.1) ∧ U.cell? ⟨b7, 1, none⟩ = some (.int .u64 (c.2.1 : Int)) ∧ U.cell? ⟨b7, 2, none⟩ = some (.int .u64 (c.2.2 : Int)) ∧ U.cell? ⟨w.heap.size, 3, none⟩ = some (.int .i64 p.r)) ∧ But (Kw K w.heap.size (fun k => rb < k)) v2 U) := fun U hU => by
    have hat := HM2.out.at_
    obtain ⟨q0, q1, q2⟩ := HM2.out.t2.but hU (fun e => by
      rcases e.2.2 with g | g
      · omega
      · exact absurd g (Nat.lt_irrefl _))
    obtain ⟨r0, r1, r2, r3, _⟩ := (HSb2.out.but hU (hno _ (Nat.le_refl _))).zero
    obtain ⟨c0, c1, c2⟩ := HC7.out.but hU (hno _ HLo.out)
    exact ⟨⟨q0, q1, q2, c0, c1, c2, r3⟩, hU⟩
  have HWl : Hid (w.heap.size ≤ v2.heap.size) := HM2.out.lt.2
  clear hno
  go_upto_region 11 with fail
  go_cut [14, 15] (fun s3 s4 W => ∃ b, s3 = .pointer (some ⟨b, 0, none⟩) ∧ s4 = .int .i64 (R.code) ∧ Hid (Dv v2 H K R.s R.s (T + 1) sb rb w.heap.size W b R.c))
  case first =>
    go_region_held3 (fun U => (U.cell? ⟨rb, 0, none⟩ = some (.pointer (some ⟨K.g, 0, none⟩)) ∧ U.cell? ⟨rb, 1, none⟩ = some (.pointer (some ⟨K.r, 0, none⟩)) ∧ U.cell? ⟨rb, 2, none⟩ = some (.pointer (some ⟨K.q, 0, none⟩)) ∧ U.cell? ⟨b7, 0, none⟩ = some (.int .i64 c.1) ∧ U.cell? ⟨b7, 1, none⟩ = some (.int .u64 (c.2.1 : Int)) ∧ U.cell? ⟨b7, 2, none⟩ = some (.int .u64 (c.2.2 : Int)) ∧ U.cell? ⟨w.heap.size, 3, none⟩ = some (.int .i64 p.r)) ∧ But (Kw K w.heap.size (fun k => rb < k)) v2 U) (first | exact HS5.out _ (kw_wide HBt.out) | exact HS5.out _ (But.of (Below.refl _ _).drew) | exact HS5.out _ (But.of (below1 _ _).drew) | exact HS5.out _ (But.of (below1 _ _)) | exact HS5.out _ ((kw_wide HBt.out).alloc _) | exact HS5.out _ ((((kw_wide HBt.out).put (Nat.le_refl _) _).put (Nat.le_refl _) _).put (Nat.le_refl _) _)) (first
      | (go_at_call 35; refine (HR5.out _ (below1 _ _).drew).mono ?_; rintro e u_ ⟨rfl, ht, hb⟩; have HTt := hid ht; have HBt := hid ((But.of (below1 v2 (Obj.cells #[.int .i64 0, .int .u64 0, .int .u64 0] 36)).drew).trans hb); have hzc := (Zc.mk_ v2).drew_.but (kw_wide hb) (HNK.out _ HWl.out); have HZc := hid hzc; obtain ⟨⟨z0, f0⟩, ⟨z1, f1⟩, ⟨z2, f2⟩⟩ := hzc; clear ht hb)
      | (go_at_call 35; refine (HR5.out _ (Below.refl _ _).drew).mono ?_; rintro e u_ ⟨rfl, ht, hb⟩; have HTt := hid ht; have HBt := hid ((But.of (Below.refl v2.heap.size v2).drew).trans hb); clear ht hb))
    all_goals (try go_wp2)
    all_goals go_meet
    all_goals (first | exact ⟨_, rfl, rfl, Dv.first HM2.out HTt.out (by simp [World.drew]) HBt.out HZc.out (R.c)⟩ | exact ⟨_, rfl, rfl, Dv.then_ HM2.out HTt.out HBt.out (R.c)⟩)
  case rest =>
  rename World => v3
  obtain ⟨b9, rfl, rfl, HDv⟩ := hcut
  obtain ⟨k0, k1, k2⟩ := HLv.out.cw.but HDv.out.but (HNK.out _ HLo8.out)
  obtain ⟨l0, l1, l2⟩ := HDv.out.cw
  have heq := Go.Proofs.YtgihdchgdejkhaaGreatDoor.H.eqlC
  have hce := cEq_self R.c.1 (R.c.2.1 : Int) (R.c.2.2 : Int)
  have hcode : (R.code == R.code) = true := by simp
  have hfin : But (fun k => H.Wr k ∨ (K.m1 ≤ k ∧ k < w.heap.size)) w v3 := (((But.of HB1.out).trans (HLv.out.but.mono (fun k hk => .inl hk))).trans (HDv.out.but.mono (fun k hk => .inr ⟨hk.1, hk.2.1⟩)))
  have HFin := hid hfin
  have HDuo := hid HDv.out.duo
  have HFit : Hid (Fit H.toPar R.s) := by unfold Hid; rw [HRR.out]; exact HF.out.child c p.r
  clear hfin HS5 HR5 HM1 HM2 HSb1 HSb2 HC7 HDv HLv HNv HNK HNW
  generalize R.c.1 = g0 at *
  generalize (R.c.2.1 : Int) = g1 at *
  generalize (R.c.2.2 : Int) = g2 at *
  generalize R.code = g3 at *
  go_wp2
  go_ret
  exact ⟨rfl, ⟨_, HDuo.out, HFit.out⟩, HFin.out⟩
end Go.Proofs.YtgihdchgdejkhaaGreatDoor.D
namespace Go.Proofs.YtgihdchgdejkhaaGreatDoor.D
open Go.RowKit
open Go.Proofs.YtgihdchgdejkhaaGreatDoor.H (B64 Cp)
set_option linter.unusedVariables false
set_option maxRecDepth 100000 in
set_option maxHeartbeats 16000000 in
theorem play_child2 {w : World} {H : Hd} {K : Kd} {s : Sta} {T sb rb : Nat} (h : Duo w H K s s T sb rb) (hf : Fit H.toPar s) (hmo : H.mo ≤ 1024) (hT : T < 9223372036854775807) (p : Sp) (hok : p.ok) (hk : p.kd = 2) :
    Calls Tryz.prog 18 #[.pointer (some ⟨sb, 0, none⟩), .pointer (some ⟨rb, 0, none⟩), spV p] w (PlayP w H K T sb rb) := by
  obtain ⟨w0, hw0⟩ : ∃ w0, w0 = w.alloc (Obj.cells #[.int .i64 p.kd, .int .i64 p.ob, .int .i64 p.at_, .int .i64 p.r, .int .i64 p.c.1, .int .u64 (p.c.2.1 : Int), .int .u64 (p.c.2.2 : Int)] 51) := ⟨_, rfl⟩
  have hB0 : Below w.heap.size w w0 := by rw [hw0]; exact below1 _ _
  have hsb : Sb w0 w.heap.size 0 p := by rw [hw0]; exact ⟨by simp [go_sem], by simp [go_sem], by simp [go_sem], by simp [go_sem], by simp [go_sem], by simp [go_sem], by simp [go_sem]⟩
  have HSb := hid hsb
  have HM0 := hid (h.mid.later hB0)
  have HB0 := hid hB0
  have HF := hid hf
  have HOk := hid hok
  have HNo := hid (named_ok hf.inv hok)
  have HR1 := hid (fun (U : World) (hU : Below w0.heap.size w0 U) => named_any ((h.mid.later hB0).later hU).doc.doc hf hmo p)
  obtain ⟨c, hc⟩ : ∃ c, c = namedC H.mo s p := ⟨_, rfl⟩
  rw [show namedC H.toPar.mo s p = c from hc.symm] at HR1 HNo
  unfold spV at HR1 ⊢
  have HS1 : Hid (∀ U, Below w0.heap.size w0 U → (U.cell? ⟨rb, 1, none⟩ = some (.pointer (some ⟨K.r, 0, none⟩)) ∧ U.cell? ⟨w.heap.size, 0, none⟩ = some (.int .i64 p.kd) ∧ U.cell? ⟨w.heap.size, 1, none⟩ = some (.int .i64 p.ob) ∧ U.cell? ⟨w.heap.size, 2, none⟩ = some (.int .i64 p.at_) ∧ U.cell? ⟨w.heap.size, 3, none⟩ = some (.int .i64 p.r) ∧ U.cell? ⟨w.heap.size, 4, none⟩ = some (.int .i64 p.c.1) ∧ U.cell? ⟨w.heap.size, 5, none⟩ = some (.int .u64 (p.c.2.1 : Int)) ∧ U.cell? ⟨w.heap.size, 6, none⟩ = some (.int .u64 (p.c.2.2 : Int))) ∧ Below w0.heap.size w0 U) := fun U hU => ⟨⟨(HM0.out.later hU).t2.c1, (HSb.out.later hU).zero⟩, hU⟩
  clear h hf hB0 hsb hok hc
  have hb0 : (p.kd == 0) = false := by rw [beq_eq_false_iff_ne]; omega
  have hb1 : (p.kd == 1) = false := by rw [beq_eq_false_iff_ne]; omega
  have hb2 : (p.kd == 2) = true := by rw [beq_iff_eq]; exact hk
  clear hk
  go_enter Tryz.func18, Tryz.ntmps18
  go_upto_region 1 with fail
  rw [← hw0]
  clear hw0
  go_cut [7] (fun s7 W => ∃ b, s7 = .pointer (some ⟨b, 0, none⟩) ∧ Hid (Nv w0 W b c))
  case first =>
    go_region_held3 (fun U => (U.cell? ⟨rb, 1, none⟩ = some (.pointer (some ⟨K.r, 0, none⟩)) ∧ U.cell? ⟨w.heap.size, 0, none⟩ = some (.int .i64 p.kd) ∧ U.cell? ⟨w.heap.size, 1, none⟩ = some (.int .i64 p.ob) ∧ U.cell? ⟨w.heap.size, 2, none⟩ = some (.int .i64 p.at_) ∧ U.cell? ⟨w.heap.size, 3, none⟩ = some (.int .i64 p.r) ∧ U.cell? ⟨w.heap.size, 4, none⟩ = some (.int .i64 p.c.1) ∧ U.cell? ⟨w.heap.size, 5, none⟩ = some (.int .u64 (p.c.2.1 : Int)) ∧ U.cell? ⟨w.heap.size, 6, none⟩ = some (.int .u64 (p.c.2.2 : Int))) ∧ Below w0.heap.size w0 U) (first | exact HS1.out _ HBt.out | exact HS1.out _ (Below.refl _ _).drew | exact HS1.out _ (below1 _ _).drew | exact HS1.out _ (below1 _ _) | exact HS1.out _ (HBt.out.alloc HBt.out.size _) | exact HS1.out _ (below_ofBut (set3_but (But.of HBt.out) (Nat.le_refl _) c))) (first
      | (go_at_call 33; refine (HR1.out _ (below1 _ _).drew).mono ?_; rintro e u_ ⟨rfl, hb⟩; have HBt := hid (below_call (below1 w0 (Obj.cells #[.int .i64 0, .int .u64 0, .int .u64 0] 36)).drew hb); have hzc := (Zc.mk_ w0).drew_.but (S := fun _ => False) (But.of hb) (fun h => h); have HZc := hid hzc; obtain ⟨⟨z0, f0⟩, ⟨z1, f1⟩, ⟨z2, f2⟩⟩ := hzc; clear hb)
      | (go_at_call 33; refine (HR1.out _ (Below.refl _ _).drew).mono ?_; rintro e u_ ⟨rfl, hb⟩; have HBt := hid (below_call (Below.refl w0.heap.size w0).drew hb); clear hb))
    all_goals (try go_wp2)
    all_goals go_meet
    all_goals (first | exact ⟨_, rfl, Nv.first HBt.out HZc.out c⟩ | exact ⟨_, rfl, Nv.then_ HBt.out c⟩)
  case rest =>
  rename World => v1
  obtain ⟨b7, rfl, HNv⟩ := hcut
  have HM1 := hid (HM0.out.later HNv.out.bel)
  have HSb1 := hid (HSb.out.later HNv.out.bel)
  obtain ⟨o0, o1, o2, o3, _⟩ := HSb1.out.zero
  have HB1 := hid (below_call HB0.out HNv.out.bel)
  have HLo : Hid (w.heap.size ≤ b7) := Nat.le_trans HB0.out.size HNv.out.lo
  clear HS1 HR1 HM0 HSb
  obtain ⟨R, hR⟩ : ∃ R, R = childA H.toPar s c p.r := ⟨_, rfl⟩
  have HRR := hid hR
  have HR4 : Hid (∀ U, Below v1.heap.size v1 U → Calls Tryz.prog 11 #[.pointer (some ⟨H.g, 0, none⟩), .pointer (some ⟨H.A.g, 0, none⟩), .pointer (some ⟨H.qg, 0, none⟩), .agg #[.int .i64 c.1, .int .u64 (c.2.1 : Int), .int .u64 (c.2.2 : Int)], .int .i64 p.r] U fun e w' => e = .returned (.tuple #[.agg #[.int .i64 R.c.1, .int .u64 (R.c.2.1 : Int), .int .u64 (R.c.2.2 : Int)], .int .i64 R.code]) ∧ Tri w' H R.s ∧ But H.Wr U w') := fun U hU => by
    have := dchild_any (HM1.out.tri.later hU) HF.out c p.r HNo.out.1 HNo.out.2
    rw [← hR] at this
    exact this
  clear hR
  have hno : ∀ k, w.heap.size ≤ k → ¬ H.Wr k := fun k hk e => by have := HM1.out.all k (Hd.wr_all e); omega
  have HNW := hid hno
  have HS4 : Hid (∀ U, But H.Wr v1 U → (U.cell? ⟨sb, 0, none⟩ = some (.pointer (some ⟨H.g, 0, none⟩)) ∧ U.cell? ⟨sb, 1, none⟩ = some (.pointer (some ⟨H.A.g, 0, none⟩)) ∧ U.cell? ⟨sb, 2, none⟩ = some (.pointer (some ⟨H.qg, 0, none⟩)) ∧ U.cell? ⟨b7, 0, none⟩ = some (.int .i64 c.1) ∧ U.cell? ⟨b7, 1, none⟩ = some (.int .u64 (c.2.1 : Int)) ∧ U.cell? ⟨b7, 2, none⟩ = some (.int .u64 (c.2.2 : Int)) ∧ U.cell? ⟨w.heap.size, 3, none⟩ = some (.int .i64 p.r)) ∧ But H.Wr v1 U) := fun U hU => by
    have hlt := HM1.out.lt
    have hat := HM1.out.at_
    have hmq := HM1.out.mq
    obtain ⟨q0, q1, q2⟩ := HM1.out.t1.but hU (fun e => by have := HM1.out.sep _ (Hd.wr_all e); omega)
    obtain ⟨r0, r1, r2, r3, _⟩ := (HSb1.out.but hU (hno _ (Nat.le_refl _))).zero
    obtain ⟨c0, c1, c2⟩ := HNv.out.cw.but hU (hno _ HLo.out)
    exact ⟨⟨q0, q1, q2, c0, c1, c2, r3⟩, hU⟩
  have HZ : Hid (∀ k, H.Wr k → k < v1.heap.size) := fun k hk => HM1.out.tri.lt k hk
  clear hno
  go_upto_region 10 with fail
  go_cut [12, 13] (fun s3 s4 W => ∃ b, s3 = .pointer (some ⟨b, 0, none⟩) ∧ s4 = .int .i64 (R.code) ∧ Hid (Lv v1 H W b (R.c) (R.s)))
  case first =>
    go_region_held3 (fun U => (U.cell? ⟨sb, 0, none⟩ = some (.pointer (some ⟨H.g, 0, none⟩)) ∧ U.cell? ⟨sb, 1, none⟩ = some (.pointer (some ⟨H.A.g, 0, none⟩)) ∧ U.cell? ⟨sb, 2, none⟩ = some (.pointer (some ⟨H.qg, 0, none⟩)) ∧ U.cell? ⟨b7, 0, none⟩ = some (.int .i64 c.1) ∧ U.cell? ⟨b7, 1, none⟩ = some (.int .u64 (c.2.1 : Int)) ∧ U.cell? ⟨b7, 2, none⟩ = some (.int .u64 (c.2.2 : Int)) ∧ U.cell? ⟨w.heap.size, 3, none⟩ = some (.int .i64 p.r)) ∧ But H.Wr v1 U) (first | exact HS4.out _ HBt.out | exact HS4.out _ (But.of (Below.refl _ _).drew) | exact HS4.out _ (But.of (below1 _ _).drew) | exact HS4.out _ (But.of (below1 _ _)) | exact HS4.out _ (HBt.out.alloc _) | exact HS4.out _ (((HBt.out.put (Nat.le_refl _) _).put (Nat.le_refl _) _).put (Nat.le_refl _) _)) (first
      | (go_at_call 11; refine (HR4.out _ (below1 _ _).drew).mono ?_; rintro e u_ ⟨rfl, ht, hb⟩; have HTt := hid ht; have HBt := hid ((But.of (S := H.Wr) (below1 v1 (Obj.cells #[.int .i64 0, .int .u64 0, .int .u64 0] 36)).drew).trans hb); have hzc := (Zc.mk_ v1).drew_.but hb (fun e => by have := HZ.out _ e; omega); have HZc := hid hzc; obtain ⟨⟨z0, f0⟩, ⟨z1, f1⟩, ⟨z2, f2⟩⟩ := hzc; clear ht hb)
      | (go_at_call 11; refine (HR4.out _ (Below.refl _ _).drew).mono ?_; rintro e u_ ⟨rfl, ht, hb⟩; have HTt := hid ht; have HBt := hid ((But.of (S := H.Wr) (Below.refl v1.heap.size v1).drew).trans hb); clear ht hb))
    all_goals (try go_wp2)
    all_goals go_meet
    all_goals (first | exact ⟨_, rfl, rfl, Lv.first HM1.out.tri HTt.out HBt.out HZc.out (R.c)⟩ | exact ⟨_, rfl, rfl, Lv.then_ HTt.out HBt.out (R.c)⟩)
  case rest =>
  rename World => v2
  obtain ⟨b8, rfl, rfl, HLv⟩ := hcut
  have HM2 := hid (HM1.out.prog HLv.out.tri HLv.out.but)
  have HSb2 := hid (HSb1.out.but HLv.out.but (HNW.out _ (Nat.le_refl _)))
  have HC7 := hid (HNv.out.cw.but HLv.out.but (HNW.out _ HLo.out))
  have HLo8 : Hid (w.heap.size ≤ b8) := Nat.le_trans HB1.out.size HLv.out.lo
  clear HS4 HR4
  have HR5 : Hid (∀ U, Below v2.heap.size v2 U → Calls Tryz.prog 35 #[.agg #[.pointer (some ⟨K.g, 0, none⟩), .pointer (some ⟨K.r, 0, none⟩), .pointer (some ⟨K.q, 0, none⟩)], .agg #[.int .i64 c.1, .int .u64 (c.2.1 : Int), .int .u64 (c.2.2 : Int)], .int .i64 p.r] U fun e w' => e = .returned (.tuple #[.agg #[.int .i64 R.c.1, .int .u64 (R.c.2.1 : Int), .int .u64 (R.c.2.2 : Int)], .int .i64 R.code]) ∧ Dz w' H.toPar K R.s (T + 1) (gapN w.heap.size U.heap.size rb) ∧ But (Kw K w.heap.size (gapN w.heap.size U.heap.size rb)) U w') := fun U hU => by
    have hm := HM2.out.later hU
    have := wchild_any (hm.doc.regap (fun _ h => h) (by have := hm.lt; omega)) hm.lt.2 HF.out hT c p.r HNo.out.2
    rw [← HRR.out] at this
    exact this
  have hno : ∀ k, w.heap.size ≤ k → ¬ Kw K w.heap.size (fun k => rb < k) k := fun k hk e => by have := e.2.1; omega
  have HNK := hid hno
  have HS5 : Hid (∀ U, But (Kw K w.heap.size (fun k => rb < k)) v2 U → (U.cell? ⟨rb, 0, none⟩ = some (.pointer (some ⟨K.g, 0, none⟩)) ∧ U.cell? ⟨rb, 1, none⟩ = some (.pointer (some ⟨K.r, 0, none⟩)) ∧ U.cell? ⟨rb, 2, none⟩ = some (.pointer (some ⟨K.q, 0, none⟩)) ∧ U.cell? ⟨b7, 0, none⟩ = some (.int .i64 c.1) ∧ U.cell? ⟨b7, 1, none⟩ = some (.int .u64 (c.2.1 : Int)) ∧ U.cell? ⟨b7, 2, none⟩ = some (.int .u64 (c.2.2 : Int)) ∧ U.cell? ⟨w.heap.size, 3, none⟩ = some (.int .i64 p.r)) ∧ But (Kw K w.heap.size (fun k => rb < k)) v2 U) := fun U hU => by
    have hat := HM2.out.at_
    obtain ⟨q0, q1, q2⟩ := HM2.out.t2.but hU (fun e => by
      rcases e.2.2 with g | g
      · omega
      · exact absurd g (Nat.lt_irrefl _))
    obtain ⟨r0, r1, r2, r3, _⟩ := (HSb2.out.but hU (hno _ (Nat.le_refl _))).zero
    obtain ⟨c0, c1, c2⟩ := HC7.out.but hU (hno _ HLo.out)
    exact ⟨⟨q0, q1, q2, c0, c1, c2, r3⟩, hU⟩
  have HWl : Hid (w.heap.size ≤ v2.heap.size) := HM2.out.lt.2
  clear hno
  go_upto_region 11 with fail
  go_cut [14, 15] (fun s3 s4 W => ∃ b, s3 = .pointer (some ⟨b, 0, none⟩) ∧ s4 = .int .i64 (R.code) ∧ Hid (Dv v2 H K R.s R.s (T + 1) sb rb w.heap.size W b R.c))
  case first =>
    go_region_held3 (fun U => (U.cell? ⟨rb, 0, none⟩ = some (.pointer (some ⟨K.g, 0, none⟩)) ∧ U.cell? ⟨rb, 1, none⟩ = some (.pointer (some ⟨K.r, 0, none⟩)) ∧ U.cell? ⟨rb, 2, none⟩ = some (.pointer (some ⟨K.q, 0, none⟩)) ∧ U.cell? ⟨b7, 0, none⟩ = some (.int .i64 c.1) ∧ U.cell? ⟨b7, 1, none⟩ = some (.int .u64 (c.2.1 : Int)) ∧ U.cell? ⟨b7, 2, none⟩ = some (.int .u64 (c.2.2 : Int)) ∧ U.cell? ⟨w.heap.size, 3, none⟩ = some (.int .i64 p.r)) ∧ But (Kw K w.heap.size (fun k => rb < k)) v2 U) (first | exact HS5.out _ (kw_wide HBt.out) | exact HS5.out _ (But.of (Below.refl _ _).drew) | exact HS5.out _ (But.of (below1 _ _).drew) | exact HS5.out _ (But.of (below1 _ _)) | exact HS5.out _ ((kw_wide HBt.out).alloc _) | exact HS5.out _ ((((kw_wide HBt.out).put (Nat.le_refl _) _).put (Nat.le_refl _) _).put (Nat.le_refl _) _)) (first
      | (go_at_call 35; refine (HR5.out _ (below1 _ _).drew).mono ?_; rintro e u_ ⟨rfl, ht, hb⟩; have HTt := hid ht; have HBt := hid ((But.of (below1 v2 (Obj.cells #[.int .i64 0, .int .u64 0, .int .u64 0] 36)).drew).trans hb); have hzc := (Zc.mk_ v2).drew_.but (kw_wide hb) (HNK.out _ HWl.out); have HZc := hid hzc; obtain ⟨⟨z0, f0⟩, ⟨z1, f1⟩, ⟨z2, f2⟩⟩ := hzc; clear ht hb)
      | (go_at_call 35; refine (HR5.out _ (Below.refl _ _).drew).mono ?_; rintro e u_ ⟨rfl, ht, hb⟩; have HTt := hid ht; have HBt := hid ((But.of (Below.refl v2.heap.size v2).drew).trans hb); clear ht hb))
    all_goals (try go_wp2)
    all_goals go_meet
    all_goals (first | exact ⟨_, rfl, rfl, Dv.first HM2.out HTt.out (by simp [World.drew]) HBt.out HZc.out (R.c)⟩ | exact ⟨_, rfl, rfl, Dv.then_ HM2.out HTt.out HBt.out (R.c)⟩)
  case rest =>
  rename World => v3
  obtain ⟨b9, rfl, rfl, HDv⟩ := hcut
  obtain ⟨k0, k1, k2⟩ := HLv.out.cw.but HDv.out.but (HNK.out _ HLo8.out)
  obtain ⟨l0, l1, l2⟩ := HDv.out.cw
  have heq := Go.Proofs.YtgihdchgdejkhaaGreatDoor.H.eqlC
  have hce := cEq_self R.c.1 (R.c.2.1 : Int) (R.c.2.2 : Int)
  have hcode : (R.code == R.code) = true := by simp
  have hfin : But (fun k => H.Wr k ∨ (K.m1 ≤ k ∧ k < w.heap.size)) w v3 := (((But.of HB1.out).trans (HLv.out.but.mono (fun k hk => .inl hk))).trans (HDv.out.but.mono (fun k hk => .inr ⟨hk.1, hk.2.1⟩)))
  have HFin := hid hfin
  have HDuo := hid HDv.out.duo
  have HFit : Hid (Fit H.toPar R.s) := by unfold Hid; rw [HRR.out]; exact HF.out.child c p.r
  clear hfin HS5 HR5 HM1 HM2 HSb1 HSb2 HC7 HDv HLv HNv HNK HNW
  generalize R.c.1 = g0 at *
  generalize (R.c.2.1 : Int) = g1 at *
  generalize (R.c.2.2 : Int) = g2 at *
  generalize R.code = g3 at *
  go_wp2
  go_ret
  exact ⟨rfl, ⟨_, HDuo.out, HFit.out⟩, HFin.out⟩
end Go.Proofs.YtgihdchgdejkhaaGreatDoor.D
namespace Go.Proofs.YtgihdchgdejkhaaGreatDoor.D
open Go.RowKit
open Go.Proofs.YtgihdchgdejkhaaGreatDoor.H (B64 Cp)
set_option linter.unusedVariables false
set_option maxRecDepth 100000 in
set_option maxHeartbeats 16000000 in
theorem play_child3 {w : World} {H : Hd} {K : Kd} {s : Sta} {T sb rb : Nat} (h : Duo w H K s s T sb rb) (hf : Fit H.toPar s) (hmo : H.mo ≤ 1024) (hT : T < 9223372036854775807) (p : Sp) (hok : p.ok) (hk : p.kd = 3) :
    Calls Tryz.prog 18 #[.pointer (some ⟨sb, 0, none⟩), .pointer (some ⟨rb, 0, none⟩), spV p] w (PlayP w H K T sb rb) := by
  obtain ⟨w0, hw0⟩ : ∃ w0, w0 = w.alloc (Obj.cells #[.int .i64 p.kd, .int .i64 p.ob, .int .i64 p.at_, .int .i64 p.r, .int .i64 p.c.1, .int .u64 (p.c.2.1 : Int), .int .u64 (p.c.2.2 : Int)] 51) := ⟨_, rfl⟩
  have hB0 : Below w.heap.size w w0 := by rw [hw0]; exact below1 _ _
  have hsb : Sb w0 w.heap.size 0 p := by rw [hw0]; exact ⟨by simp [go_sem], by simp [go_sem], by simp [go_sem], by simp [go_sem], by simp [go_sem], by simp [go_sem], by simp [go_sem]⟩
  have HSb := hid hsb
  have HM0 := hid (h.mid.later hB0)
  have HB0 := hid hB0
  have HF := hid hf
  have HOk := hid hok
  have HNo := hid (named_ok hf.inv hok)
  have HR1 := hid (fun (U : World) (hU : Below w0.heap.size w0 U) => named_any ((h.mid.later hB0).later hU).doc.doc hf hmo p)
  obtain ⟨c, hc⟩ : ∃ c, c = namedC H.mo s p := ⟨_, rfl⟩
  rw [show namedC H.toPar.mo s p = c from hc.symm] at HR1 HNo
  unfold spV at HR1 ⊢
  have HS1 : Hid (∀ U, Below w0.heap.size w0 U → (U.cell? ⟨rb, 1, none⟩ = some (.pointer (some ⟨K.r, 0, none⟩)) ∧ U.cell? ⟨w.heap.size, 0, none⟩ = some (.int .i64 p.kd) ∧ U.cell? ⟨w.heap.size, 1, none⟩ = some (.int .i64 p.ob) ∧ U.cell? ⟨w.heap.size, 2, none⟩ = some (.int .i64 p.at_) ∧ U.cell? ⟨w.heap.size, 3, none⟩ = some (.int .i64 p.r) ∧ U.cell? ⟨w.heap.size, 4, none⟩ = some (.int .i64 p.c.1) ∧ U.cell? ⟨w.heap.size, 5, none⟩ = some (.int .u64 (p.c.2.1 : Int)) ∧ U.cell? ⟨w.heap.size, 6, none⟩ = some (.int .u64 (p.c.2.2 : Int))) ∧ Below w0.heap.size w0 U) := fun U hU => ⟨⟨(HM0.out.later hU).t2.c1, (HSb.out.later hU).zero⟩, hU⟩
  clear h hf hB0 hsb hok hc
  have hb0 : (p.kd == 0) = false := by rw [beq_eq_false_iff_ne]; omega
  have hb1 : (p.kd == 1) = false := by rw [beq_eq_false_iff_ne]; omega
  have hb2 : (p.kd == 2) = false := by rw [beq_eq_false_iff_ne]; omega
  have hb3 : (p.kd == 3) = true := by rw [beq_iff_eq]; exact hk
  clear hk
  go_enter Tryz.func18, Tryz.ntmps18
  go_upto_region 1 with fail
  rw [← hw0]
  clear hw0
  go_cut [7] (fun s7 W => ∃ b, s7 = .pointer (some ⟨b, 0, none⟩) ∧ Hid (Nv w0 W b c))
  case first =>
    go_region_held3 (fun U => (U.cell? ⟨rb, 1, none⟩ = some (.pointer (some ⟨K.r, 0, none⟩)) ∧ U.cell? ⟨w.heap.size, 0, none⟩ = some (.int .i64 p.kd) ∧ U.cell? ⟨w.heap.size, 1, none⟩ = some (.int .i64 p.ob) ∧ U.cell? ⟨w.heap.size, 2, none⟩ = some (.int .i64 p.at_) ∧ U.cell? ⟨w.heap.size, 3, none⟩ = some (.int .i64 p.r) ∧ U.cell? ⟨w.heap.size, 4, none⟩ = some (.int .i64 p.c.1) ∧ U.cell? ⟨w.heap.size, 5, none⟩ = some (.int .u64 (p.c.2.1 : Int)) ∧ U.cell? ⟨w.heap.size, 6, none⟩ = some (.int .u64 (p.c.2.2 : Int))) ∧ Below w0.heap.size w0 U) (first | exact HS1.out _ HBt.out | exact HS1.out _ (Below.refl _ _).drew | exact HS1.out _ (below1 _ _).drew | exact HS1.out _ (below1 _ _) | exact HS1.out _ (HBt.out.alloc HBt.out.size _) | exact HS1.out _ (below_ofBut (set3_but (But.of HBt.out) (Nat.le_refl _) c))) (first
      | (go_at_call 33; refine (HR1.out _ (below1 _ _).drew).mono ?_; rintro e u_ ⟨rfl, hb⟩; have HBt := hid (below_call (below1 w0 (Obj.cells #[.int .i64 0, .int .u64 0, .int .u64 0] 36)).drew hb); have hzc := (Zc.mk_ w0).drew_.but (S := fun _ => False) (But.of hb) (fun h => h); have HZc := hid hzc; obtain ⟨⟨z0, f0⟩, ⟨z1, f1⟩, ⟨z2, f2⟩⟩ := hzc; clear hb)
      | (go_at_call 33; refine (HR1.out _ (Below.refl _ _).drew).mono ?_; rintro e u_ ⟨rfl, hb⟩; have HBt := hid (below_call (Below.refl w0.heap.size w0).drew hb); clear hb))
    all_goals (try go_wp2)
    all_goals go_meet
    all_goals (first | exact ⟨_, rfl, Nv.first HBt.out HZc.out c⟩ | exact ⟨_, rfl, Nv.then_ HBt.out c⟩)
  case rest =>
  rename World => v1
  obtain ⟨b7, rfl, HNv⟩ := hcut
  have HM1 := hid (HM0.out.later HNv.out.bel)
  have HSb1 := hid (HSb.out.later HNv.out.bel)
  obtain ⟨o0, o1, o2, o3, _⟩ := HSb1.out.zero
  have HB1 := hid (below_call HB0.out HNv.out.bel)
  have HLo : Hid (w.heap.size ≤ b7) := Nat.le_trans HB0.out.size HNv.out.lo
  clear HS1 HR1 HM0 HSb
  obtain ⟨R, hR⟩ : ∃ R, R = childA H.toPar s c p.r := ⟨_, rfl⟩
  have HRR := hid hR
  have HR4 : Hid (∀ U, Below v1.heap.size v1 U → Calls Tryz.prog 11 #[.pointer (some ⟨H.g, 0, none⟩), .pointer (some ⟨H.A.g, 0, none⟩), .pointer (some ⟨H.qg, 0, none⟩), .agg #[.int .i64 c.1, .int .u64 (c.2.1 : Int), .int .u64 (c.2.2 : Int)], .int .i64 p.r] U fun e w' => e = .returned (.tuple #[.agg #[.int .i64 R.c.1, .int .u64 (R.c.2.1 : Int), .int .u64 (R.c.2.2 : Int)], .int .i64 R.code]) ∧ Tri w' H R.s ∧ But H.Wr U w') := fun U hU => by
    have := dchild_any (HM1.out.tri.later hU) HF.out c p.r HNo.out.1 HNo.out.2
    rw [← hR] at this
    exact this
  clear hR
  have hno : ∀ k, w.heap.size ≤ k → ¬ H.Wr k := fun k hk e => by have := HM1.out.all k (Hd.wr_all e); omega
  have HNW := hid hno
  have HS4 : Hid (∀ U, But H.Wr v1 U → (U.cell? ⟨sb, 0, none⟩ = some (.pointer (some ⟨H.g, 0, none⟩)) ∧ U.cell? ⟨sb, 1, none⟩ = some (.pointer (some ⟨H.A.g, 0, none⟩)) ∧ U.cell? ⟨sb, 2, none⟩ = some (.pointer (some ⟨H.qg, 0, none⟩)) ∧ U.cell? ⟨b7, 0, none⟩ = some (.int .i64 c.1) ∧ U.cell? ⟨b7, 1, none⟩ = some (.int .u64 (c.2.1 : Int)) ∧ U.cell? ⟨b7, 2, none⟩ = some (.int .u64 (c.2.2 : Int)) ∧ U.cell? ⟨w.heap.size, 3, none⟩ = some (.int .i64 p.r)) ∧ But H.Wr v1 U) := fun U hU => by
    have hlt := HM1.out.lt
    have hat := HM1.out.at_
    have hmq := HM1.out.mq
    obtain ⟨q0, q1, q2⟩ := HM1.out.t1.but hU (fun e => by have := HM1.out.sep _ (Hd.wr_all e); omega)
    obtain ⟨r0, r1, r2, r3, _⟩ := (HSb1.out.but hU (hno _ (Nat.le_refl _))).zero
    obtain ⟨c0, c1, c2⟩ := HNv.out.cw.but hU (hno _ HLo.out)
    exact ⟨⟨q0, q1, q2, c0, c1, c2, r3⟩, hU⟩
  have HZ : Hid (∀ k, H.Wr k → k < v1.heap.size) := fun k hk => HM1.out.tri.lt k hk
  clear hno
  go_upto_region 10 with fail
  go_cut [12, 13] (fun s3 s4 W => ∃ b, s3 = .pointer (some ⟨b, 0, none⟩) ∧ s4 = .int .i64 (R.code) ∧ Hid (Lv v1 H W b (R.c) (R.s)))
  case first =>
    go_region_held3 (fun U => (U.cell? ⟨sb, 0, none⟩ = some (.pointer (some ⟨H.g, 0, none⟩)) ∧ U.cell? ⟨sb, 1, none⟩ = some (.pointer (some ⟨H.A.g, 0, none⟩)) ∧ U.cell? ⟨sb, 2, none⟩ = some (.pointer (some ⟨H.qg, 0, none⟩)) ∧ U.cell? ⟨b7, 0, none⟩ = some (.int .i64 c.1) ∧ U.cell? ⟨b7, 1, none⟩ = some (.int .u64 (c.2.1 : Int)) ∧ U.cell? ⟨b7, 2, none⟩ = some (.int .u64 (c.2.2 : Int)) ∧ U.cell? ⟨w.heap.size, 3, none⟩ = some (.int .i64 p.r)) ∧ But H.Wr v1 U) (first | exact HS4.out _ HBt.out | exact HS4.out _ (But.of (Below.refl _ _).drew) | exact HS4.out _ (But.of (below1 _ _).drew) | exact HS4.out _ (But.of (below1 _ _)) | exact HS4.out _ (HBt.out.alloc _) | exact HS4.out _ (((HBt.out.put (Nat.le_refl _) _).put (Nat.le_refl _) _).put (Nat.le_refl _) _)) (first
      | (go_at_call 11; refine (HR4.out _ (below1 _ _).drew).mono ?_; rintro e u_ ⟨rfl, ht, hb⟩; have HTt := hid ht; have HBt := hid ((But.of (S := H.Wr) (below1 v1 (Obj.cells #[.int .i64 0, .int .u64 0, .int .u64 0] 36)).drew).trans hb); have hzc := (Zc.mk_ v1).drew_.but hb (fun e => by have := HZ.out _ e; omega); have HZc := hid hzc; obtain ⟨⟨z0, f0⟩, ⟨z1, f1⟩, ⟨z2, f2⟩⟩ := hzc; clear ht hb)
      | (go_at_call 11; refine (HR4.out _ (Below.refl _ _).drew).mono ?_; rintro e u_ ⟨rfl, ht, hb⟩; have HTt := hid ht; have HBt := hid ((But.of (S := H.Wr) (Below.refl v1.heap.size v1).drew).trans hb); clear ht hb))
    all_goals (try go_wp2)
    all_goals go_meet
    all_goals (first | exact ⟨_, rfl, rfl, Lv.first HM1.out.tri HTt.out HBt.out HZc.out (R.c)⟩ | exact ⟨_, rfl, rfl, Lv.then_ HTt.out HBt.out (R.c)⟩)
  case rest =>
  rename World => v2
  obtain ⟨b8, rfl, rfl, HLv⟩ := hcut
  have HM2 := hid (HM1.out.prog HLv.out.tri HLv.out.but)
  have HSb2 := hid (HSb1.out.but HLv.out.but (HNW.out _ (Nat.le_refl _)))
  have HC7 := hid (HNv.out.cw.but HLv.out.but (HNW.out _ HLo.out))
  have HLo8 : Hid (w.heap.size ≤ b8) := Nat.le_trans HB1.out.size HLv.out.lo
  clear HS4 HR4
  have HR5 : Hid (∀ U, Below v2.heap.size v2 U → Calls Tryz.prog 35 #[.agg #[.pointer (some ⟨K.g, 0, none⟩), .pointer (some ⟨K.r, 0, none⟩), .pointer (some ⟨K.q, 0, none⟩)], .agg #[.int .i64 c.1, .int .u64 (c.2.1 : Int), .int .u64 (c.2.2 : Int)], .int .i64 p.r] U fun e w' => e = .returned (.tuple #[.agg #[.int .i64 R.c.1, .int .u64 (R.c.2.1 : Int), .int .u64 (R.c.2.2 : Int)], .int .i64 R.code]) ∧ Dz w' H.toPar K R.s (T + 1) (gapN w.heap.size U.heap.size rb) ∧ But (Kw K w.heap.size (gapN w.heap.size U.heap.size rb)) U w') := fun U hU => by
    have hm := HM2.out.later hU
    have := wchild_any (hm.doc.regap (fun _ h => h) (by have := hm.lt; omega)) hm.lt.2 HF.out hT c p.r HNo.out.2
    rw [← HRR.out] at this
    exact this
  have hno : ∀ k, w.heap.size ≤ k → ¬ Kw K w.heap.size (fun k => rb < k) k := fun k hk e => by have := e.2.1; omega
  have HNK := hid hno
  have HS5 : Hid (∀ U, But (Kw K w.heap.size (fun k => rb < k)) v2 U → (U.cell? ⟨rb, 0, none⟩ = some (.pointer (some ⟨K.g, 0, none⟩)) ∧ U.cell? ⟨rb, 1, none⟩ = some (.pointer (some ⟨K.r, 0, none⟩)) ∧ U.cell? ⟨rb, 2, none⟩ = some (.pointer (some ⟨K.q, 0, none⟩)) ∧ U.cell? ⟨b7, 0, none⟩ = some (.int .i64 c.1) ∧ U.cell? ⟨b7, 1, none⟩ = some (.int .u64 (c.2.1 : Int)) ∧ U.cell? ⟨b7, 2, none⟩ = some (.int .u64 (c.2.2 : Int)) ∧ U.cell? ⟨w.heap.size, 3, none⟩ = some (.int .i64 p.r)) ∧ But (Kw K w.heap.size (fun k => rb < k)) v2 U) := fun U hU => by
    have hat := HM2.out.at_
    obtain ⟨q0, q1, q2⟩ := HM2.out.t2.but hU (fun e => by
      rcases e.2.2 with g | g
      · omega
      · exact absurd g (Nat.lt_irrefl _))
    obtain ⟨r0, r1, r2, r3, _⟩ := (HSb2.out.but hU (hno _ (Nat.le_refl _))).zero
    obtain ⟨c0, c1, c2⟩ := HC7.out.but hU (hno _ HLo.out)
    exact ⟨⟨q0, q1, q2, c0, c1, c2, r3⟩, hU⟩
  have HWl : Hid (w.heap.size ≤ v2.heap.size) := HM2.out.lt.2
  clear hno
  go_upto_region 11 with fail
  go_cut [14, 15] (fun s3 s4 W => ∃ b, s3 = .pointer (some ⟨b, 0, none⟩) ∧ s4 = .int .i64 (R.code) ∧ Hid (Dv v2 H K R.s R.s (T + 1) sb rb w.heap.size W b R.c))
  case first =>
    go_region_held3 (fun U => (U.cell? ⟨rb, 0, none⟩ = some (.pointer (some ⟨K.g, 0, none⟩)) ∧ U.cell? ⟨rb, 1, none⟩ = some (.pointer (some ⟨K.r, 0, none⟩)) ∧ U.cell? ⟨rb, 2, none⟩ = some (.pointer (some ⟨K.q, 0, none⟩)) ∧ U.cell? ⟨b7, 0, none⟩ = some (.int .i64 c.1) ∧ U.cell? ⟨b7, 1, none⟩ = some (.int .u64 (c.2.1 : Int)) ∧ U.cell? ⟨b7, 2, none⟩ = some (.int .u64 (c.2.2 : Int)) ∧ U.cell? ⟨w.heap.size, 3, none⟩ = some (.int .i64 p.r)) ∧ But (Kw K w.heap.size (fun k => rb < k)) v2 U) (first | exact HS5.out _ (kw_wide HBt.out) | exact HS5.out _ (But.of (Below.refl _ _).drew) | exact HS5.out _ (But.of (below1 _ _).drew) | exact HS5.out _ (But.of (below1 _ _)) | exact HS5.out _ ((kw_wide HBt.out).alloc _) | exact HS5.out _ ((((kw_wide HBt.out).put (Nat.le_refl _) _).put (Nat.le_refl _) _).put (Nat.le_refl _) _)) (first
      | (go_at_call 35; refine (HR5.out _ (below1 _ _).drew).mono ?_; rintro e u_ ⟨rfl, ht, hb⟩; have HTt := hid ht; have HBt := hid ((But.of (below1 v2 (Obj.cells #[.int .i64 0, .int .u64 0, .int .u64 0] 36)).drew).trans hb); have hzc := (Zc.mk_ v2).drew_.but (kw_wide hb) (HNK.out _ HWl.out); have HZc := hid hzc; obtain ⟨⟨z0, f0⟩, ⟨z1, f1⟩, ⟨z2, f2⟩⟩ := hzc; clear ht hb)
      | (go_at_call 35; refine (HR5.out _ (Below.refl _ _).drew).mono ?_; rintro e u_ ⟨rfl, ht, hb⟩; have HTt := hid ht; have HBt := hid ((But.of (Below.refl v2.heap.size v2).drew).trans hb); clear ht hb))
    all_goals (try go_wp2)
    all_goals go_meet
    all_goals (first | exact ⟨_, rfl, rfl, Dv.first HM2.out HTt.out (by simp [World.drew]) HBt.out HZc.out (R.c)⟩ | exact ⟨_, rfl, rfl, Dv.then_ HM2.out HTt.out HBt.out (R.c)⟩)
  case rest =>
  rename World => v3
  obtain ⟨b9, rfl, rfl, HDv⟩ := hcut
  obtain ⟨k0, k1, k2⟩ := HLv.out.cw.but HDv.out.but (HNK.out _ HLo8.out)
  obtain ⟨l0, l1, l2⟩ := HDv.out.cw
  have heq := Go.Proofs.YtgihdchgdejkhaaGreatDoor.H.eqlC
  have hce := cEq_self R.c.1 (R.c.2.1 : Int) (R.c.2.2 : Int)
  have hcode : (R.code == R.code) = true := by simp
  have hfin : But (fun k => H.Wr k ∨ (K.m1 ≤ k ∧ k < w.heap.size)) w v3 := (((But.of HB1.out).trans (HLv.out.but.mono (fun k hk => .inl hk))).trans (HDv.out.but.mono (fun k hk => .inr ⟨hk.1, hk.2.1⟩)))
  have HFin := hid hfin
  have HDuo := hid HDv.out.duo
  have HFit : Hid (Fit H.toPar R.s) := by unfold Hid; rw [HRR.out]; exact HF.out.child c p.r
  clear hfin HS5 HR5 HM1 HM2 HSb1 HSb2 HC7 HDv HLv HNv HNK HNW
  generalize R.c.1 = g0 at *
  generalize (R.c.2.1 : Int) = g1 at *
  generalize (R.c.2.2 : Int) = g2 at *
  generalize R.code = g3 at *
  go_wp2
  go_ret
  exact ⟨rfl, ⟨_, HDuo.out, HFit.out⟩, HFin.out⟩
end Go.Proofs.YtgihdchgdejkhaaGreatDoor.D
