import Derived.Test.YtgihdchgdejkhaaGreatDoorKF
import Derived.Test.YtgihdchgdejkhaaGreatDoorVB
import Derived.Test.YtgihdchgdejkhaaGreatDoorRH
namespace Go.Proofs.YtgihdchgdejkhaaGreatDoor.D
open Go.RowKit
open Go.Proofs.YtgihdchgdejkhaaGreatDoor.H (B64 Cp)
set_option linter.unusedVariables false

/-! ### play -/
theorem below_ofBut {w w' : World} (h : But (fun _ => False) w w') : Below w.heap.size w w' := But.below (Below.refl _ _) h (fun _ h => h.elim)
def set3 (u : World) (b : Nat) (c : Cp) : World := ((u.setCell ⟨b, 0, none⟩ (.int .i64 c.1)).setCell ⟨b, 1, none⟩ (.int .u64 (c.2.1 : Int))).setCell ⟨b, 2, none⟩ (.int .u64 (c.2.2 : Int))
theorem set3_but {S : Nat → Prop} {a u : World} (h : But S a u) {b : Nat} (hb : a.heap.size ≤ b) (c : Cp) : But S a (set3 u b c) := ((h.put (p := ⟨b, 0, none⟩) hb _).put (p := ⟨b, 1, none⟩) hb _).put (p := ⟨b, 2, none⟩) hb _
/-- Behind a call that only makes memory, its answer in a variable. -/
structure Nv (v W : World) (b : Nat) (c : Cp) : Prop where
  lo : v.heap.size ≤ b
  cw : Cw W b c
  bel : Below v.heap.size v W
theorem Nv.first {v u : World} (hb : Below v.heap.size v u) (hz : Zc u v.heap.size) (c : Cp) : Nv v (set3 u v.heap.size c) v.heap.size c := ⟨Nat.le_refl _, Cw.put hz c, below_ofBut (set3_but (But.of hb) (Nat.le_refl _) c)⟩
theorem Nv.then_ {v u : World} (hb : Below v.heap.size v u) (c : Cp) : Nv v (u.alloc (Obj.cells #[.int .i64 c.1, .int .u64 (c.2.1 : Int), .int .u64 (c.2.2 : Int)] 36)) u.heap.size c := ⟨hb.size, ⟨by simp [go_sem], by simp [go_sem], by simp [go_sem]⟩, hb.alloc hb.size _⟩
/-- Behind the document's call, its answer in a variable. -/
structure Dv (v : World) (H : Hd) (K : Kd) (s d : Sta) (T sb rb M : Nat) (W : World) (b : Nat) (c : Cp) : Prop where
  lo : v.heap.size ≤ b
  cw : Cw W b c
  duo : Duo W H K s d T sb rb
  but : But (Kw K M (fun k => rb < k)) v W
theorem kw_wide {K : Kd} {M X rb : Nat} {a u : World} (h : But (Kw K M (gapN M X rb)) a u) : But (Kw K M (fun k => rb < k)) a u := h.mono (fun k hk => ⟨hk.1, hk.2.1, hk.2.2.elim .inl (fun g => .inr g.1)⟩)
theorem Dv.first {v u : World} {H : Hd} {K : Kd} {s d d' : Sta} {T T' sb rb M X : Nat} (hm : Mid v H K s d T sb rb M) (hd : Dz u H.toPar K d' T' (gapN M X rb)) (hX : v.heap.size < X) (hb : But (Kw K M (gapN M X rb)) v u) (hz : Zc u v.heap.size) (c : Cp) : Dv v H K s d' T' sb rb M (set3 u v.heap.size c) v.heap.size c := by
  have hl := hm.lt
  have hn : ¬ gapN M X rb v.heap.size := fun e => by
    rcases e.2 with g | g <;> omega
  have hq : K.q < v.heap.size := Nat.lt_of_lt_of_le hm.doc.lt hl.2
  have hB := set3_but hb (Nat.le_refl _) c
  exact ⟨Nat.le_refl _, Cw.put hz c, hm.docd (((hd.own hn hq 0 _).own hn hq 1 _).own hn hq 2 _) hB, kw_wide hB⟩
theorem Dv.then_ {v u : World} {H : Hd} {K : Kd} {s d d' : Sta} {T T' sb rb M X : Nat} (hm : Mid v H K s d T sb rb M) (hd : Dz u H.toPar K d' T' (gapN M X rb)) (hb : But (Kw K M (gapN M X rb)) v u) (c : Cp) : Dv v H K s d' T' sb rb M (u.alloc (Obj.cells #[.int .i64 c.1, .int .u64 (c.2.1 : Int), .int .u64 (c.2.2 : Int)] 36)) u.heap.size c :=
  ⟨hb.size, ⟨by simp [go_sem], by simp [go_sem], by simp [go_sem]⟩, (hm.docd hd hb).later (below1 _ _), kw_wide (hb.alloc _)⟩
def PlayP (w : World) (H : Hd) (K : Kd) (T sb rb : Nat) (e : Ending) (w' : World) : Prop :=
  e = .returned (.bool true) ∧ (∃ s, Duo w' H K s s (T + 1) sb rb ∧ Fit H.toPar s) ∧ But (fun k => H.Wr k ∨ (K.m1 ≤ k ∧ k < w.heap.size)) w w'
theorem Sb.zero {w : World} {b : Nat} {p : Sp} (h : Sb w b 0 p) : w.cell? ⟨b, 0, none⟩ = some (.int .i64 p.kd) ∧ w.cell? ⟨b, 1, none⟩ = some (.int .i64 p.ob) ∧ w.cell? ⟨b, 2, none⟩ = some (.int .i64 p.at_) ∧ w.cell? ⟨b, 3, none⟩ = some (.int .i64 p.r) ∧ w.cell? ⟨b, 4, none⟩ = some (.int .i64 p.c.1) ∧ w.cell? ⟨b, 5, none⟩ = some (.int .u64 (p.c.2.1 : Int)) ∧ w.cell? ⟨b, 6, none⟩ = some (.int .u64 (p.c.2.2 : Int)) := ⟨h.c0, h.c1, h.c2, h.c3, h.c4, h.c5, h.c6⟩
theorem named_ok {m : Nat} {s : Sta} (h : Inv m s.X s.l) {p : Sp} (hp : p.ok) : (Lit.int .i64 (namedC m s p).1).wf = true ∧ (namedC m s p).2.1 < B64 ∧ (namedC m s p).2.2 < B64 := by
  unfold namedC
  by_cases hk : (ofL m s.X s.l p.ob).length = 0 ∨ p.kd = 3
  · rw [if_pos hk]
    exact ⟨hp.1.2, hp.2⟩
  · rw [if_neg hk]
    have hj := intoN_lt p.at_ (t := (ofL m s.X s.l p.ob).length) (by omega)
    rw [List.getElem?_eq_getElem hj]
    obtain ⟨h1, h2⟩ := (ofL_iff h p.ob _).1 ⟨_, _, List.getElem?_eq_getElem hj, rfl⟩
    obtain ⟨n, hn, e⟩ := hasC_iff.1 h2
    simp only [Option.getD_some]
    rw [h1]
    refine ⟨hp.1.1, ?_⟩
    rw [← e]
    exact h.wide n hn
theorem cEq_self (a b c : Int) : Go.Proofs.YtgihdchgdejkhaaGreatDoor.H.cEq a b c a b c = true := by unfold Go.Proofs.YtgihdchgdejkhaaGreatDoor.H.cEq; simp
set_option maxRecDepth 100000 in
set_option maxHeartbeats 16000000 in
theorem play_root {w : World} {H : Hd} {K : Kd} {s : Sta} {T sb rb : Nat} (h : Duo w H K s s T sb rb) (hf : Fit H.toPar s) (hmo : H.mo ≤ 1024) (hT : T < 9223372036854775807) (p : Sp) (hok : p.ok) (hk : p.kd = 0) :
    Calls Tryz.prog 18 #[.pointer (some ⟨sb, 0, none⟩), .pointer (some ⟨rb, 0, none⟩), spV p] w (PlayP w H K T sb rb) := by
  obtain ⟨w0, hw0⟩ : ∃ w0, w0 = w.alloc (Obj.cells #[.int .i64 p.kd, .int .i64 p.ob, .int .i64 p.at_, .int .i64 p.r, .int .i64 p.c.1, .int .u64 (p.c.2.1 : Int), .int .u64 (p.c.2.2 : Int)] 51) := ⟨_, rfl⟩
  have hB0 : Below w.heap.size w w0 := by rw [hw0]; exact below1 _ _
  have hsb : Sb w0 w.heap.size 0 p := by rw [hw0]; exact ⟨by simp [go_sem], by simp [go_sem], by simp [go_sem], by simp [go_sem], by simp [go_sem], by simp [go_sem], by simp [go_sem]⟩
  have HSb := hid hsb
  have HM0 := hid (h.mid.later hB0)
  have HB0 := hid hB0
  have HF := hid hf
  have HOk := hid hok
  have HNo := hid (named_ok hf.inv hok)
  have HR1 := hid (fun (U : World) (hU : Below w0.heap.size w0 U) => named_any ((h.mid.later hB0).later hU).doc.doc hf hmo p)
  obtain ⟨c, hc⟩ : ∃ c, c = namedC H.mo s p := ⟨_, rfl⟩
  rw [show namedC H.toPar.mo s p = c from hc.symm] at HR1 HNo
  unfold spV at HR1 ⊢
  have HS1 : Hid (∀ U, Below w0.heap.size w0 U → (U.cell? ⟨rb, 1, none⟩ = some (.pointer (some ⟨K.r, 0, none⟩)) ∧ U.cell? ⟨w.heap.size, 0, none⟩ = some (.int .i64 p.kd) ∧ U.cell? ⟨w.heap.size, 1, none⟩ = some (.int .i64 p.ob) ∧ U.cell? ⟨w.heap.size, 2, none⟩ = some (.int .i64 p.at_) ∧ U.cell? ⟨w.heap.size, 3, none⟩ = some (.int .i64 p.r) ∧ U.cell? ⟨w.heap.size, 4, none⟩ = some (.int .i64 p.c.1) ∧ U.cell? ⟨w.heap.size, 5, none⟩ = some (.int .u64 (p.c.2.1 : Int)) ∧ U.cell? ⟨w.heap.size, 6, none⟩ = some (.int .u64 (p.c.2.2 : Int))) ∧ Below w0.heap.size w0 U) := fun U hU => ⟨⟨(HM0.out.later hU).t2.c1, (HSb.out.later hU).zero⟩, hU⟩
  clear h hf hB0 hsb hok hc
  have hb0 : (p.kd == 0) = true := by rw [beq_iff_eq]; exact hk
  clear hk
  go_enter Tryz.func18, Tryz.ntmps18
  go_upto_region 1 with fail
  rw [← hw0]
  clear hw0
  go_cut [7] (fun s7 W => ∃ b, s7 = .pointer (some ⟨b, 0, none⟩) ∧ Hid (Nv w0 W b c))
  case first =>
    go_region_held3 (fun U => (U.cell? ⟨rb, 1, none⟩ = some (.pointer (some ⟨K.r, 0, none⟩)) ∧ U.cell? ⟨w.heap.size, 0, none⟩ = some (.int .i64 p.kd) ∧ U.cell? ⟨w.heap.size, 1, none⟩ = some (.int .i64 p.ob) ∧ U.cell? ⟨w.heap.size, 2, none⟩ = some (.int .i64 p.at_) ∧ U.cell? ⟨w.heap.size, 3, none⟩ = some (.int .i64 p.r) ∧ U.cell? ⟨w.heap.size, 4, none⟩ = some (.int .i64 p.c.1) ∧ U.cell? ⟨w.heap.size, 5, none⟩ = some (.int .u64 (p.c.2.1 : Int)) ∧ U.cell? ⟨w.heap.size, 6, none⟩ = some (.int .u64 (p.c.2.2 : Int))) ∧ Below w0.heap.size w0 U) (first | exact HS1.out _ HBt.out | exact HS1.out _ (Below.refl _ _).drew | exact HS1.out _ (below1 _ _).drew | exact HS1.out _ (below1 _ _) | exact HS1.out _ (HBt.out.alloc HBt.out.size _) | exact HS1.out _ (below_ofBut (set3_but (But.of HBt.out) (Nat.le_refl _) c))) (first
      | (go_at_call 33; refine (HR1.out _ (below1 _ _).drew).mono ?_; rintro e u_ ⟨rfl, hb⟩; have HBt := hid (below_call (below1 w0 (Obj.cells #[.int .i64 0, .int .u64 0, .int .u64 0] 36)).drew hb); have hzc := (Zc.mk_ w0).drew_.but (S := fun _ => False) (But.of hb) (fun h => h); have HZc := hid hzc; obtain ⟨⟨z0, f0⟩, ⟨z1, f1⟩, ⟨z2, f2⟩⟩ := hzc; clear hb)
      | (go_at_call 33; refine (HR1.out _ (Below.refl _ _).drew).mono ?_; rintro e u_ ⟨rfl, hb⟩; have HBt := hid (below_call (Below.refl w0.heap.size w0).drew hb); clear hb))
    all_goals (try go_wp2)
    all_goals go_meet
    all_goals (first | exact ⟨_, rfl, Nv.first HBt.out HZc.out c⟩ | exact ⟨_, rfl, Nv.then_ HBt.out c⟩)
  case rest =>
  rename World => v1
  obtain ⟨b7, rfl, HNv⟩ := hcut
  have HM1 := hid (HM0.out.later HNv.out.bel)
  have HSb1 := hid (HSb.out.later HNv.out.bel)
  obtain ⟨o0, o1, o2, o3, _⟩ := HSb1.out.zero
  have HB1 := hid (below_call HB0.out HNv.out.bel)
  have HLo : Hid (w.heap.size ≤ b7) := Nat.le_trans HB0.out.size HNv.out.lo
  clear HS1 HR1 HM0 HSb
  obtain ⟨R, hR⟩ : ∃ R, R = rootA H.toPar s p.ob := ⟨_, rfl⟩
  have HRR := hid hR
  have HR4 : Hid (∀ U, Below v1.heap.size v1 U → Calls Tryz.prog 10 #[.pointer (some ⟨H.g, 0, none⟩), .pointer (some ⟨H.A.g, 0, none⟩), .pointer (some ⟨H.qg, 0, none⟩), .int .i64 p.ob] U fun e w' => e = .returned (.tuple #[.agg #[.int .i64 R.c.1, .int .u64 (R.c.2.1 : Int), .int .u64 (R.c.2.2 : Int)], .int .i64 R.code]) ∧ Tri w' H R.s ∧ But H.Wr U w') := fun U hU => by
    have := root_any (HM1.out.tri.later hU) HF.out p.ob HOk.out.1.1
    rw [← hR] at this
    exact this
  clear hR
  have hno : ∀ k, w.heap.size ≤ k → ¬ H.Wr k := fun k hk e => by have := HM1.out.all k (Hd.wr_all e); omega
  have HNW := hid hno
  have HS4 : Hid (∀ U, But H.Wr v1 U → (U.cell? ⟨sb, 0, none⟩ = some (.pointer (some ⟨H.g, 0, none⟩)) ∧ U.cell? ⟨sb, 1, none⟩ = some (.pointer (some ⟨H.A.g, 0, none⟩)) ∧ U.cell? ⟨sb, 2, none⟩ = some (.pointer (some ⟨H.qg, 0, none⟩)) ∧ U.cell? ⟨w.heap.size, 1, none⟩ = some (.int .i64 p.ob)) ∧ But H.Wr v1 U) := fun U hU => by
    have hlt := HM1.out.lt
    have hat := HM1.out.at_
    have hmq := HM1.out.mq
    obtain ⟨q0, q1, q2⟩ := HM1.out.t1.but hU (fun e => by have := HM1.out.sep _ (Hd.wr_all e); omega)
    obtain ⟨r0, r1, r2, r3, _⟩ := (HSb1.out.but hU (hno _ (Nat.le_refl _))).zero
    exact ⟨⟨q0, q1, q2, r1⟩, hU⟩
  have HZ : Hid (∀ k, H.Wr k → k < v1.heap.size) := fun k hk => HM1.out.tri.lt k hk
  clear hno
  go_upto_region 4 with fail
  go_cut [8, 9] (fun s3 s4 W => ∃ b, s3 = .pointer (some ⟨b, 0, none⟩) ∧ s4 = .int .i64 (R.code) ∧ Hid (Lv v1 H W b (R.c) (R.s)))
  case first =>
    go_region_held3 (fun U => (U.cell? ⟨sb, 0, none⟩ = some (.pointer (some ⟨H.g, 0, none⟩)) ∧ U.cell? ⟨sb, 1, none⟩ = some (.pointer (some ⟨H.A.g, 0, none⟩)) ∧ U.cell? ⟨sb, 2, none⟩ = some (.pointer (some ⟨H.qg, 0, none⟩)) ∧ U.cell? ⟨w.heap.size, 1, none⟩ = some (.int .i64 p.ob)) ∧ But H.Wr v1 U) (first | exact HS4.out _ HBt.out | exact HS4.out _ (But.of (Below.refl _ _).drew) | exact HS4.out _ (But.of (below1 _ _).drew) | exact HS4.out _ (But.of (below1 _ _)) | exact HS4.out _ (HBt.out.alloc _) | exact HS4.out _ (((HBt.out.put (Nat.le_refl _) _).put (Nat.le_refl _) _).put (Nat.le_refl _) _)) (first
      | (go_at_call 10; refine (HR4.out _ (below1 _ _).drew).mono ?_; rintro e u_ ⟨rfl, ht, hb⟩; have HTt := hid ht; have HBt := hid ((But.of (S := H.Wr) (below1 v1 (Obj.cells #[.int .i64 0, .int .u64 0, .int .u64 0] 36)).drew).trans hb); have hzc := (Zc.mk_ v1).drew_.but hb (fun e => by have := HZ.out _ e; omega); have HZc := hid hzc; obtain ⟨⟨z0, f0⟩, ⟨z1, f1⟩, ⟨z2, f2⟩⟩ := hzc; clear ht hb)
      | (go_at_call 10; refine (HR4.out _ (Below.refl _ _).drew).mono ?_; rintro e u_ ⟨rfl, ht, hb⟩; have HTt := hid ht; have HBt := hid ((But.of (S := H.Wr) (Below.refl v1.heap.size v1).drew).trans hb); clear ht hb))
    all_goals (try go_wp2)
    all_goals go_meet
    all_goals (first | exact ⟨_, rfl, rfl, Lv.first HM1.out.tri HTt.out HBt.out HZc.out (R.c)⟩ | exact ⟨_, rfl, rfl, Lv.then_ HTt.out HBt.out (R.c)⟩)
  case rest =>
  rename World => v2
  obtain ⟨b8, rfl, rfl, HLv⟩ := hcut
  have HM2 := hid (HM1.out.prog HLv.out.tri HLv.out.but)
  have HSb2 := hid (HSb1.out.but HLv.out.but (HNW.out _ (Nat.le_refl _)))
  have HC7 := hid (HNv.out.cw.but HLv.out.but (HNW.out _ HLo.out))
  have HLo8 : Hid (w.heap.size ≤ b8) := Nat.le_trans HB1.out.size HLv.out.lo
  clear HS4 HR4
  have HR5 : Hid (∀ U, Below v2.heap.size v2 U → Calls Tryz.prog 34 #[.agg #[.pointer (some ⟨K.g, 0, none⟩), .pointer (some ⟨K.r, 0, none⟩), .pointer (some ⟨K.q, 0, none⟩)], .int .i64 p.ob] U fun e w' => e = .returned (.tuple #[.agg #[.int .i64 R.c.1, .int .u64 (R.c.2.1 : Int), .int .u64 (R.c.2.2 : Int)], .int .i64 R.code]) ∧ Dz w' H.toPar K R.s (T + 1) (gapN w.heap.size U.heap.size rb) ∧ But (Kw K w.heap.size (gapN w.heap.size U.heap.size rb)) U w') := fun U hU => by
    have hm := HM2.out.later hU
    have := wroot_any (hm.doc.regap (fun _ h => h) (by have := hm.lt; omega)) hm.lt.2 HF.out hT p.ob
    rw [← HRR.out] at this
    exact this
  have hno : ∀ k, w.heap.size ≤ k → ¬ Kw K w.heap.size (fun k => rb < k) k := fun k hk e => by have := e.2.1; omega
  have HNK := hid hno
  have HS5 : Hid (∀ U, But (Kw K w.heap.size (fun k => rb < k)) v2 U → (U.cell? ⟨rb, 0, none⟩ = some (.pointer (some ⟨K.g, 0, none⟩)) ∧ U.cell? ⟨rb, 1, none⟩ = some (.pointer (some ⟨K.r, 0, none⟩)) ∧ U.cell? ⟨rb, 2, none⟩ = some (.pointer (some ⟨K.q, 0, none⟩)) ∧ U.cell? ⟨w.heap.size, 1, none⟩ = some (.int .i64 p.ob)) ∧ But (Kw K w.heap.size (fun k => rb < k)) v2 U) := fun U hU => by
    have hat := HM2.out.at_
    obtain ⟨q0, q1, q2⟩ := HM2.out.t2.but hU (fun e => by
      rcases e.2.2 with g | g
      · omega
      · exact absurd g (Nat.lt_irrefl _))
    obtain ⟨r0, r1, r2, r3, _⟩ := (HSb2.out.but hU (hno _ (Nat.le_refl _))).zero
    exact ⟨⟨q0, q1, q2, r1⟩, hU⟩
  have HWl : Hid (w.heap.size ≤ v2.heap.size) := HM2.out.lt.2
  clear hno
  go_upto_region 5 with fail
  go_cut [10, 11] (fun s3 s4 W => ∃ b, s3 = .pointer (some ⟨b, 0, none⟩) ∧ s4 = .int .i64 (R.code) ∧ Hid (Dv v2 H K R.s R.s (T + 1) sb rb w.heap.size W b R.c))
  case first =>
    go_region_held3 (fun U => (U.cell? ⟨rb, 0, none⟩ = some (.pointer (some ⟨K.g, 0, none⟩)) ∧ U.cell? ⟨rb, 1, none⟩ = some (.pointer (some ⟨K.r, 0, none⟩)) ∧ U.cell? ⟨rb, 2, none⟩ = some (.pointer (some ⟨K.q, 0, none⟩)) ∧ U.cell? ⟨w.heap.size, 1, none⟩ = some (.int .i64 p.ob)) ∧ But (Kw K w.heap.size (fun k => rb < k)) v2 U) (first | exact HS5.out _ (kw_wide HBt.out) | exact HS5.out _ (But.of (Below.refl _ _).drew) | exact HS5.out _ (But.of (below1 _ _).drew) | exact HS5.out _ (But.of (below1 _ _)) | exact HS5.out _ ((kw_wide HBt.out).alloc _) | exact HS5.out _ ((((kw_wide HBt.out).put (Nat.le_refl _) _).put (Nat.le_refl _) _).put (Nat.le_refl _) _)) (first
      | (go_at_call 34; refine (HR5.out _ (below1 _ _).drew).mono ?_; rintro e u_ ⟨rfl, ht, hb⟩; have HTt := hid ht; have HBt := hid ((But.of (below1 v2 (Obj.cells #[.int .i64 0, .int .u64 0, .int .u64 0] 36)).drew).trans hb); have hzc := (Zc.mk_ v2).drew_.but (kw_wide hb) (HNK.out _ HWl.out); have HZc := hid hzc; obtain ⟨⟨z0, f0⟩, ⟨z1, f1⟩, ⟨z2, f2⟩⟩ := hzc; clear ht hb)
      | (go_at_call 34; refine (HR5.out _ (Below.refl _ _).drew).mono ?_; rintro e u_ ⟨rfl, ht, hb⟩; have HTt := hid ht; have HBt := hid ((But.of (Below.refl v2.heap.size v2).drew).trans hb); clear ht hb))
    all_goals (try go_wp2)
    all_goals go_meet
    all_goals (first | exact ⟨_, rfl, rfl, Dv.first HM2.out HTt.out (by simp [World.drew]) HBt.out HZc.out (R.c)⟩ | exact ⟨_, rfl, rfl, Dv.then_ HM2.out HTt.out HBt.out (R.c)⟩)
  case rest =>
  rename World => v3
  obtain ⟨b9, rfl, rfl, HDv⟩ := hcut
  obtain ⟨k0, k1, k2⟩ := HLv.out.cw.but HDv.out.but (HNK.out _ HLo8.out)
  obtain ⟨l0, l1, l2⟩ := HDv.out.cw
  have heq := Go.Proofs.YtgihdchgdejkhaaGreatDoor.H.eqlC
  have hce := cEq_self R.c.1 (R.c.2.1 : Int) (R.c.2.2 : Int)
  have hcode : (R.code == R.code) = true := by simp
  have hfin : But (fun k => H.Wr k ∨ (K.m1 ≤ k ∧ k < w.heap.size)) w v3 := (((But.of HB1.out).trans (HLv.out.but.mono (fun k hk => .inl hk))).trans (HDv.out.but.mono (fun k hk => .inr ⟨hk.1, hk.2.1⟩)))
  have HFin := hid hfin
  have HDuo := hid HDv.out.duo
  have HFit : Hid (Fit H.toPar R.s) := by unfold Hid; rw [HRR.out]; exact HF.out.root p.ob
  clear hfin HS5 HR5 HM1 HM2 HSb1 HSb2 HC7 HDv HLv HNv HNK HNW
  generalize R.c.1 = g0 at *
  generalize (R.c.2.1 : Int) = g1 at *
  generalize (R.c.2.2 : Int) = g2 at *
  generalize R.code = g3 at *
  go_wp2
  go_ret
  exact ⟨rfl, ⟨_, HDuo.out, HFit.out⟩, HFin.out⟩
end Go.Proofs.YtgihdchgdejkhaaGreatDoor.D
namespace Go.Proofs.YtgihdchgdejkhaaGreatDoor.D
open Go.RowKit
open Go.Proofs.YtgihdchgdejkhaaGreatDoor.H (B64 Cp)
set_option linter.unusedVariables false

/-! ### What Drop leaves -/
def drS (s : Sta) (n x : Int) : Sta := ⟨zer s.X (G true s.l n), cuts s.l (G true s.l n), Q.subS s.L x ((G true s.l n).length : Int), s.t⟩
theorem nd_app {A B : List Int} (hA : A.Nodup) (hB : B.Nodup) (h : ∀ x ∈ A, x ∉ B) : (A ++ B).Nodup := List.nodup_append.2 ⟨hA, hB, fun a ha b hb e => h a ha (e ▸ hb)⟩
theorem nums_cuts_nd {m : Nat} {l : Fo} (h : Ok m l) (A : List Int) : (nums (cuts l A)).Nodup := by
  have h1 : (nums (cuts l A)).Sublist (nums l) := by
    unfold nums cuts
    exact List.Sublist.map _ List.filter_sublist
  exact h1.nodup h.nodup
theorem G_obj {m : Nat} {X : List Tk} {l : Fo} (h : Inv m X l) {n k : Int} (hk : k ∈ G true l n) : ob X k = ob X n := by
  have h1 := (mem_G_iff h.ok).1 hk
  exact (h.same k (U_mem h1) n h1).symm
theorem inN_drop {m : Nat} {X : List Tk} {l : Fo} (h : Inv m X l) (n o : Int) : inN (zer X (G true l n)) (cuts l (G true l n)) o + (if ob X n = o then (G true l n).length else 0) = inN X l o := by
  have hob : ∀ k ∈ nums (cuts l (G true l n)), ob (zer X (G true l n)) k = ob X k := fun k hk => by
    unfold ob
    rw [zer_tk _ _ _ (nums_nn h.ok (nums_cuts.1 hk).1) (fun a ha => nums_nn h.ok (G_nums h.ok ha)) (nums_cuts.1 hk).2]
  have hmem : ∀ k, k ∈ (nums (cuts l (G true l n))).filter (fun k => decide (ob (zer X (G true l n)) k = o)) ↔ k ∈ nums l ∧ k ∉ G true l n ∧ ob X k = o := fun k => by
    rw [List.mem_filter, decide_eq_true_eq]
    constructor
    · rintro ⟨h1, h2⟩
      rw [hob k h1] at h2
      exact ⟨(nums_cuts.1 h1).1, (nums_cuts.1 h1).2, h2⟩
    · rintro ⟨h1, h2, h3⟩
      have h4 := nums_cuts.2 ⟨h1, h2⟩
      exact ⟨h4, by rw [hob k h4]; exact h3⟩
  have hnd : ((nums (cuts l (G true l n))).filter (fun k => decide (ob (zer X (G true l n)) k = o))).Nodup := List.Nodup.sublist List.filter_sublist (nums_cuts_nd h.ok _)
  have hnd2 : ((nums l).filter (fun k => decide (ob X k = o))).Nodup := List.Nodup.sublist List.filter_sublist h.ok.nodup
  unfold inN
  by_cases e : ob X n = o
  · rw [if_pos e, ← List.length_append]
    refine same_len (nd_app hnd (G_nodup h.ok true n) (fun x hx => ((hmem x).1 hx).2.1)) hnd2 (fun x => ?_)
    rw [List.mem_append, hmem, List.mem_filter, decide_eq_true_eq]
    constructor
    · rintro (⟨h1, _, h3⟩ | h1)
      · exact ⟨h1, h3⟩
      · exact ⟨G_nums h.ok h1, by rw [G_obj h h1]; exact e⟩
    · rintro ⟨h1, h2⟩
      by_cases hg : x ∈ G true l n
      · exact .inr hg
      · exact .inl ⟨h1, hg, h2⟩
  · rw [if_neg e, Nat.add_zero]
    refine same_len hnd hnd2 (fun x => ?_)
    rw [hmem, List.mem_filter, decide_eq_true_eq]
    constructor
    · rintro ⟨h1, _, h3⟩
      exact ⟨h1, h3⟩
    · rintro ⟨h1, h2⟩
      exact ⟨h1, fun hg => e (by rw [← G_obj h hg]; exact h2), h2⟩
theorem cuts_len {m : Nat} {X : List Tk} {l : Fo} (h : Inv m X l) (n : Int) : (cuts l (G true l n)).length + (G true l n).length = l.length := by
  rw [← nums_len, ← nums_len l, ← List.length_append]
  refine same_len (nd_app (nums_cuts_nd h.ok _) (G_nodup h.ok true n) (fun x hx => (nums_cuts.1 hx).2)) h.ok.nodup (fun x => ?_)
  rw [List.mem_append, nums_cuts]
  constructor
  · rintro (⟨h1, _⟩ | h1)
    · exact h1
    · exact G_nums h.ok h1
  · intro h1
    by_cases hg : x ∈ G true l n
    · exact .inr hg
    · exact .inl ⟨h1, hg⟩
theorem Fit.drop {P : Par} {s : Sta} (h : Fit P s) {n x : Int} (hx : ob s.X n = x) (hi : Inv P.mo (zer s.X (G true s.l n)) (cuts s.l (G true s.l n))) : Fit P (drS s n x) ∧ Q.subO s.L x ((G true s.l n).length : Int) = 0 := by
  have hin := inN_drop h.inv n
  have hxx := hin x
  rw [if_pos hx, ← h.cnt x] at hxx
  have hno : ¬ (((G true s.l n).length : Int) < 0 ∨ (s.L.count x : Int) < ((G true s.l n).length : Int)) := by omega
  have hL : Q.subS s.L x ((G true s.l n).length : Int) = Q.subL x (G true s.l n).length s.L := by
    unfold Q.subS
    rw [if_neg hno]; simp
  refine ⟨⟨hi, fun o => ?_, ?_, h.top, h.le, h.cs⟩, by unfold Q.subO; rw [if_neg hno]⟩
  · show (Q.subS s.L x _).count o = inN (zer s.X _) (cuts s.l _) o
    have := hin o
    rw [← h.cnt o] at this
    rw [hL]
    by_cases e : o = x
    · subst e
      rw [Q.subL_count]
      rw [if_pos hx] at this
      omega
    · rw [Q.subL_other _ _ _ _ e]
      rw [if_neg (fun h => e (by rw [← h]; exact hx))] at this
      omega
  · show (Q.subS s.L x _).length = (cuts s.l _).length
    rw [hL]
    have h1 := Q.subL_len x (G true s.l n).length s.L (by omega)
    have h2 := cuts_len h.inv n
    have h3 := h.len
    omega
/-- Behind a call of the document's that leaves its quota. -/
theorem Mid.dent {w w' : World} {H : Hd} {K : Kd} {s d d' : Sta} {T T' sb rb M : Nat} (h : Mid w H K s d T sb rb M) (hd : Dm w' H.toPar K d' T' M (fun k => rb < k)) (hb : But (Kw K M (fun k => rb < k)) w w') : Mid w' H K s d' T' sb rb M := by
  have ha := h.at_
  have hl := h.lt
  have hn : ∀ k, K.q < k → k ≤ rb → ¬ Kw K M (fun k => rb < k) k := fun k h1 h2 e => by
    rcases e.2.2 with g | g
    · omega
    · exact absurd g (by omega)
  exact ⟨h.tri.but hb (fun k hk e => by have := h.sep k hk; have := e.1; omega), hd, h.sep, h.at_, h.t1.but hb (hn _ ha.1 (by omega)), h.t2.but hb (hn _ (by omega) (Nat.le_refl _)), ⟨h.lt.1, Nat.le_trans h.lt.2 hb.size⟩, h.mq⟩
theorem Duo.mono {w : World} {H : Hd} {K : Kd} {s d : Sta} {T T' sb rb : Nat} (h : Duo w H K s d T sb rb) (ht : T ≤ T') : Duo w H K s d T' sb rb := ⟨h.tri, h.doc.mono ht, h.sep, h.at_, h.t1, h.t2⟩
end Go.Proofs.YtgihdchgdejkhaaGreatDoor.D
namespace Go.Proofs.YtgihdchgdejkhaaGreatDoor.D
open Go.RowKit
open Go.Proofs.YtgihdchgdejkhaaGreatDoor.H (B64 Cp)
set_option linter.unusedVariables false
set_option maxRecDepth 100000 in
set_option maxHeartbeats 16000000 in
theorem play_lost {w : World} {H : Hd} {K : Kd} {s : Sta} {T sb rb : Nat} (h : Duo w H K s s T sb rb) (hf : Fit H.toPar s) (hmo : H.mo ≤ 1024) (hT : T < 9223372036854775807) (p : Sp) (hok : p.ok) (hk : p.kd ≠ 0 ∧ p.kd ≠ 1 ∧ p.kd ≠ 2 ∧ p.kd ≠ 3) (hhas : hasC s.X s.l (namedC H.mo s p) = false) :
    Calls Tryz.prog 18 #[.pointer (some ⟨sb, 0, none⟩), .pointer (some ⟨rb, 0, none⟩), spV p] w (PlayP w H K T sb rb) := by
  obtain ⟨w0, hw0⟩ : ∃ w0, w0 = w.alloc (Obj.cells #[.int .i64 p.kd, .int .i64 p.ob, .int .i64 p.at_, .int .i64 p.r, .int .i64 p.c.1, .int .u64 (p.c.2.1 : Int), .int .u64 (p.c.2.2 : Int)] 51) := ⟨_, rfl⟩
  have hB0 : Below w.heap.size w w0 := by rw [hw0]; exact below1 _ _
  have hsb : Sb w0 w.heap.size 0 p := by rw [hw0]; exact ⟨by simp [go_sem], by simp [go_sem], by simp [go_sem], by simp [go_sem], by simp [go_sem], by simp [go_sem], by simp [go_sem]⟩
  have HSb := hid hsb
  have HM0 := hid (h.mid.later hB0)
  have HB0 := hid hB0
  have HF := hid hf
  have HOk := hid hok
  have HNo := hid (named_ok hf.inv hok)
  have HR1 := hid (fun (U : World) (hU : Below w0.heap.size w0 U) => named_any ((h.mid.later hB0).later hU).doc.doc hf hmo p)
  obtain ⟨c, hc⟩ : ∃ c, c = namedC H.mo s p := ⟨_, rfl⟩
  rw [show namedC H.toPar.mo s p = c from hc.symm] at HR1 HNo
  have HDuo := hid h
  rw [show namedC H.mo s p = c from hc.symm] at hhas
  have HHas := hid hhas
  unfold spV at HR1 ⊢
  have HS1 : Hid (∀ U, Below w0.heap.size w0 U → (U.cell? ⟨rb, 1, none⟩ = some (.pointer (some ⟨K.r, 0, none⟩)) ∧ U.cell? ⟨w.heap.size, 0, none⟩ = some (.int .i64 p.kd) ∧ U.cell? ⟨w.heap.size, 1, none⟩ = some (.int .i64 p.ob) ∧ U.cell? ⟨w.heap.size, 2, none⟩ = some (.int .i64 p.at_) ∧ U.cell? ⟨w.heap.size, 3, none⟩ = some (.int .i64 p.r) ∧ U.cell? ⟨w.heap.size, 4, none⟩ = some (.int .i64 p.c.1) ∧ U.cell? ⟨w.heap.size, 5, none⟩ = some (.int .u64 (p.c.2.1 : Int)) ∧ U.cell? ⟨w.heap.size, 6, none⟩ = some (.int .u64 (p.c.2.2 : Int))) ∧ Below w0.heap.size w0 U) := fun U hU => ⟨⟨(HM0.out.later hU).t2.c1, (HSb.out.later hU).zero⟩, hU⟩
  clear h hf hB0 hsb hok hc hhas
  have hb0 : (p.kd == 0) = false := by rw [beq_eq_false_iff_ne]; omega
  have hb1 : (p.kd == 1) = false := by rw [beq_eq_false_iff_ne]; omega
  have hb2 : (p.kd == 2) = false := by rw [beq_eq_false_iff_ne]; omega
  have hb3 : (p.kd == 3) = false := by rw [beq_eq_false_iff_ne]; omega
  clear hk
  go_enter Tryz.func18, Tryz.ntmps18
  go_upto_region 1 with fail
  rw [← hw0]
  clear hw0
  go_cut [7] (fun s7 W => ∃ b, s7 = .pointer (some ⟨b, 0, none⟩) ∧ Hid (Nv w0 W b c))
  case first =>
    go_region_held3 (fun U => (U.cell? ⟨rb, 1, none⟩ = some (.pointer (some ⟨K.r, 0, none⟩)) ∧ U.cell? ⟨w.heap.size, 0, none⟩ = some (.int .i64 p.kd) ∧ U.cell? ⟨w.heap.size, 1, none⟩ = some (.int .i64 p.ob) ∧ U.cell? ⟨w.heap.size, 2, none⟩ = some (.int .i64 p.at_) ∧ U.cell? ⟨w.heap.size, 3, none⟩ = some (.int .i64 p.r) ∧ U.cell? ⟨w.heap.size, 4, none⟩ = some (.int .i64 p.c.1) ∧ U.cell? ⟨w.heap.size, 5, none⟩ = some (.int .u64 (p.c.2.1 : Int)) ∧ U.cell? ⟨w.heap.size, 6, none⟩ = some (.int .u64 (p.c.2.2 : Int))) ∧ Below w0.heap.size w0 U) (first | exact HS1.out _ HBt.out | exact HS1.out _ (Below.refl _ _).drew | exact HS1.out _ (below1 _ _).drew | exact HS1.out _ (below1 _ _) | exact HS1.out _ (HBt.out.alloc HBt.out.size _) | exact HS1.out _ (below_ofBut (set3_but (But.of HBt.out) (Nat.le_refl _) c))) (first
      | (go_at_call 33; refine (HR1.out _ (below1 _ _).drew).mono ?_; rintro e u_ ⟨rfl, hb⟩; have HBt := hid (below_call (below1 w0 (Obj.cells #[.int .i64 0, .int .u64 0, .int .u64 0] 36)).drew hb); have hzc := (Zc.mk_ w0).drew_.but (S := fun _ => False) (But.of hb) (fun h => h); have HZc := hid hzc; obtain ⟨⟨z0, f0⟩, ⟨z1, f1⟩, ⟨z2, f2⟩⟩ := hzc; clear hb)
      | (go_at_call 33; refine (HR1.out _ (Below.refl _ _).drew).mono ?_; rintro e u_ ⟨rfl, hb⟩; have HBt := hid (below_call (Below.refl w0.heap.size w0).drew hb); clear hb))
    all_goals (try go_wp2)
    all_goals go_meet
    all_goals (first | exact ⟨_, rfl, Nv.first HBt.out HZc.out c⟩ | exact ⟨_, rfl, Nv.then_ HBt.out c⟩)
  case rest =>
  rename World => v1
  obtain ⟨b7, rfl, HNv⟩ := hcut
  have HM1 := hid (HM0.out.later HNv.out.bel)
  have HSb1 := hid (HSb.out.later HNv.out.bel)
  obtain ⟨o0, o1, o2, o3, _⟩ := HSb1.out.zero
  have HB1 := hid (below_call HB0.out HNv.out.bel)
  have HLo : Hid (w.heap.size ≤ b7) := Nat.le_trans HB0.out.size HNv.out.lo
  clear HS1 HR1 HM0 HSb
  have HM := HM1
  have HC7 := hid HNv.out.cw
  have HBw := HB1
  clear HM1 HNv HSb1 o1 o2 o3
  obtain ⟨n, hnn⟩ : ∃ n, n = findN s.X s.l c := ⟨_, rfl⟩
  have HN := hid hnn
  clear hnn
  have HR : Hid (∀ U, Below v1.heap.size v1 U → Calls Tryz.prog 36 #[.pointer (some ⟨K.r, 0, none⟩), .agg #[.int .i64 c.1, .int .u64 (c.2.1 : Int), .int .u64 (c.2.2 : Int)]] U fun e w' => e = .returned (.tuple #[.int .i64 n, .bool false]) ∧ Below U.heap.size U w') := fun U hU => by
    obtain ⟨wh, ev, hr, ht, he⟩ := (HM.out.later hU).doc.doc.c
    have := rfind_any hr HF.out.inv c.1 c.2.1 c.2.2
    rw [show findN s.X s.l (c.1, c.2.1, c.2.2) = n from HN.out.symm, show hasC s.X s.l (c.1, c.2.1, c.2.2) = false from HHas.out] at this
    exact this
  have HS : Hid (∀ U, Below v1.heap.size v1 U → (U.cell? ⟨rb, 1, none⟩ = some (.pointer (some ⟨K.r, 0, none⟩)) ∧ U.cell? ⟨b7, 0, none⟩ = some (.int .i64 c.1) ∧ U.cell? ⟨b7, 1, none⟩ = some (.int .u64 (c.2.1 : Int)) ∧ U.cell? ⟨b7, 2, none⟩ = some (.int .u64 (c.2.2 : Int))) ∧ Below v1.heap.size v1 U) := fun U hU => by
    obtain ⟨c0, c1, c2⟩ := HC7.out.but (S := fun _ => False) (But.of hU) (fun h => h)
    exact ⟨⟨(HM.out.later hU).t2.c1, c0, c1, c2⟩, hU⟩
  go_upto_region 13 with fail
  go_cut [16, 17] (fun s3 s4 W => s3 = .int .i64 n ∧ s4 = .bool false ∧ Hid (Below v1.heap.size v1 W))
  case first =>
    go_region_held3 (fun U => (U.cell? ⟨rb, 1, none⟩ = some (.pointer (some ⟨K.r, 0, none⟩)) ∧ U.cell? ⟨b7, 0, none⟩ = some (.int .i64 c.1) ∧ U.cell? ⟨b7, 1, none⟩ = some (.int .u64 (c.2.1 : Int)) ∧ U.cell? ⟨b7, 2, none⟩ = some (.int .u64 (c.2.2 : Int))) ∧ Below v1.heap.size v1 U) (first | exact HS.out _ HBt.out | exact HS.out _ (Below.refl _ _).drew) (first
      | (go_at_call 36; refine (HR.out _ (Below.refl _ _).drew).mono ?_; rintro e u_ ⟨rfl, hb⟩; have HBt := hid (below_call (Below.refl v1.heap.size v1).drew hb); clear hb))
    all_goals (try go_wp2)
    all_goals go_meet
    all_goals exact ⟨rfl, rfl, HBt.out⟩
  case rest =>
  rename World => v2
  obtain ⟨rfl, rfl, HBe⟩ := hcut
  have HM' := hid (HM.out.later HBe.out)
  have HC' := hid (HC7.out.but (S := fun _ => False) (But.of HBe.out) (fun h => h))
  have HBw' := hid (below_call HBw.out HBe.out)
  clear HR HS HM HC7 HBw HBe
  have HM := HM'; have HC7 := HC'; have HBw := HBw'
  clear HM' HC' HBw'
  have HR : Hid (∀ U, Below v2.heap.size v2 U → Calls Tryz.prog 37 #[.pointer (some ⟨H.A.g, 0, none⟩), .agg #[.int .i64 c.1, .int .u64 (c.2.1 : Int), .int .u64 (c.2.2 : Int)]] U fun e w' => e = .returned (.tuple #[.int .i64 n, .bool false]) ∧ Below U.heap.size U w') := fun U hU => by
    have := cfind_any (HM.out.later hU).tri.cat c HNo.out.2
    rw [← HN.out, HHas.out] at this
    exact this
  have HS : Hid (∀ U, Below v2.heap.size v2 U → (U.cell? ⟨sb, 1, none⟩ = some (.pointer (some ⟨H.A.g, 0, none⟩)) ∧ U.cell? ⟨b7, 0, none⟩ = some (.int .i64 c.1) ∧ U.cell? ⟨b7, 1, none⟩ = some (.int .u64 (c.2.1 : Int)) ∧ U.cell? ⟨b7, 2, none⟩ = some (.int .u64 (c.2.2 : Int))) ∧ Below v2.heap.size v2 U) := fun U hU => by
    obtain ⟨c0, c1, c2⟩ := HC7.out.but (S := fun _ => False) (But.of hU) (fun h => h)
    exact ⟨⟨(HM.out.later hU).t1.c1, c0, c1, c2⟩, hU⟩
  go_upto_region 14 with fail
  go_cut [18, 19] (fun s3 s4 W => s3 = .int .i64 n ∧ s4 = .bool false ∧ Hid (Below v2.heap.size v2 W))
  case first =>
    go_region_held3 (fun U => (U.cell? ⟨sb, 1, none⟩ = some (.pointer (some ⟨H.A.g, 0, none⟩)) ∧ U.cell? ⟨b7, 0, none⟩ = some (.int .i64 c.1) ∧ U.cell? ⟨b7, 1, none⟩ = some (.int .u64 (c.2.1 : Int)) ∧ U.cell? ⟨b7, 2, none⟩ = some (.int .u64 (c.2.2 : Int))) ∧ Below v2.heap.size v2 U) (first | exact HS.out _ HBt.out | exact HS.out _ (Below.refl _ _).drew) (first
      | (go_at_call 37; refine (HR.out _ (Below.refl _ _).drew).mono ?_; rintro e u_ ⟨rfl, hb⟩; have HBt := hid (below_call (Below.refl v2.heap.size v2).drew hb); clear hb))
    all_goals (try go_wp2)
    all_goals go_meet
    all_goals exact ⟨rfl, rfl, HBt.out⟩
  case rest =>
  rename World => v3
  obtain ⟨rfl, rfl, HBe⟩ := hcut
  have HM' := hid (HM.out.later HBe.out)
  have HC' := hid (HC7.out.but (S := fun _ => False) (But.of HBe.out) (fun h => h))
  have HBw' := hid (below_call HBw.out HBe.out)
  clear HR HS HM HC7 HBw HBe
  have HM := HM'; have HC7 := HC'; have HBw := HBw'
  clear HM' HC' HBw'
  go_wp2
  go_ret
  exact ⟨rfl, ⟨_, (HDuo.out.later HBw.out).mono (by omega), HF.out⟩, But.of HBw.out⟩
end Go.Proofs.YtgihdchgdejkhaaGreatDoor.D
