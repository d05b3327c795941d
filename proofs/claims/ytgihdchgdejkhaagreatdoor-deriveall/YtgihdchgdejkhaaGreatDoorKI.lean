import Derived.Test.YtgihdchgdejkhaaGreatDoorKG
import Derived.Test.YtgihdchgdejkhaaGreatDoorKH
import Derived.Test.YtgihdchgdejkhaaGreatDoorPU
namespace Go.Proofs.YtgihdchgdejkhaaGreatDoor.D
open Go.RowKit
open Go.Proofs.YtgihdchgdejkhaaGreatDoor.H (B64 Cp)
set_option linter.unusedVariables false
set_option maxRecDepth 100000 in
set_option maxHeartbeats 16000000 in
theorem play_drop {w : World} {H : Hd} {K : Kd} {s : Sta} {T sb rb : Nat} (h : Duo w H K s s T sb rb) (hf : Fit H.toPar s) (hmo : H.mo ≤ 1024) (hT : T < 9223372036854775807) (p : Sp) (hok : p.ok) (hk : p.kd ≠ 0 ∧ p.kd ≠ 1 ∧ p.kd ≠ 2 ∧ p.kd ≠ 3) (hhas : hasC s.X s.l (namedC H.mo s p) = true) :
    Calls Tryz.prog 18 #[.pointer (some ⟨sb, 0, none⟩), .pointer (some ⟨rb, 0, none⟩), spV p] w (PlayP w H K T sb rb) := by
  obtain ⟨w0, hw0⟩ : ∃ w0, w0 = w.alloc (Obj.cells #[.int .i64 p.kd, .int .i64 p.ob, .int .i64 p.at_, .int .i64 p.r, .int .i64 p.c.1, .int .u64 (p.c.2.1 : Int), .int .u64 (p.c.2.2 : Int)] 51) := ⟨_, rfl⟩
  have hB0 : Below w.heap.size w w0 := by rw [hw0]; exact below1 _ _
  have hsb : Sb w0 w.heap.size 0 p := by rw [hw0]; exact ⟨by simp [go_sem], by simp [go_sem], by simp [go_sem], by simp [go_sem], by simp [go_sem], by simp [go_sem], by simp [go_sem]⟩
  have HSb := hid hsb
  have HM0 := hid (h.mid.later hB0)
  have HB0 := hid hB0
  have HF := hid hf
  have HOk := hid hok
  have HNo := hid (named_ok hf.inv hok)
  have HR1 := hid (fun (U : World) (hU : Below w0.heap.size w0 U) => named_any ((h.mid.later hB0).later hU).doc.doc hf hmo p)
  obtain ⟨c, hc⟩ : ∃ c, c = namedC H.mo s p := ⟨_, rfl⟩
  rw [show namedC H.toPar.mo s p = c from hc.symm] at HR1 HNo
  rw [show namedC H.mo s p = c from hc.symm] at hhas
  have HHas := hid hhas
  have HFo := hid (found hf.inv hhas)
  unfold spV at HR1 ⊢
  have HS1 : Hid (∀ U, Below w0.heap.size w0 U → (U.cell? ⟨rb, 1, none⟩ = some (.pointer (some ⟨K.r, 0, none⟩)) ∧ U.cell? ⟨w.heap.size, 0, none⟩ = some (.int .i64 p.kd) ∧ U.cell? ⟨w.heap.size, 1, none⟩ = some (.int .i64 p.ob) ∧ U.cell? ⟨w.heap.size, 2, none⟩ = some (.int .i64 p.at_) ∧ U.cell? ⟨w.heap.size, 3, none⟩ = some (.int .i64 p.r) ∧ U.cell? ⟨w.heap.size, 4, none⟩ = some (.int .i64 p.c.1) ∧ U.cell? ⟨w.heap.size, 5, none⟩ = some (.int .u64 (p.c.2.1 : Int)) ∧ U.cell? ⟨w.heap.size, 6, none⟩ = some (.int .u64 (p.c.2.2 : Int))) ∧ Below w0.heap.size w0 U) := fun U hU => ⟨⟨(HM0.out.later hU).t2.c1, (HSb.out.later hU).zero⟩, hU⟩
  clear h hf hB0 hsb hok hc hhas
  have hb0 : (p.kd == 0) = false := by rw [beq_eq_false_iff_ne]; omega
  have hb1 : (p.kd == 1) = false := by rw [beq_eq_false_iff_ne]; omega
  have hb2 : (p.kd == 2) = false := by rw [beq_eq_false_iff_ne]; omega
  have hb3 : (p.kd == 3) = false := by rw [beq_eq_false_iff_ne]; omega
  clear hk
  go_enter Tryz.func18, Tryz.ntmps18
  go_upto_region 1 with fail
  rw [← hw0]
  clear hw0
  go_cut [7] (fun s7 W => ∃ b, s7 = .pointer (some ⟨b, 0, none⟩) ∧ Hid (Nv w0 W b c))
  case first =>
    go_region_held3 (fun U => (U.cell? ⟨rb, 1, none⟩ = some (.pointer (some ⟨K.r, 0, none⟩)) ∧ U.cell? ⟨w.heap.size, 0, none⟩ = some (.int .i64 p.kd) ∧ U.cell? ⟨w.heap.size, 1, none⟩ = some (.int .i64 p.ob) ∧ U.cell? ⟨w.heap.size, 2, none⟩ = some (.int .i64 p.at_) ∧ U.cell? ⟨w.heap.size, 3, none⟩ = some (.int .i64 p.r) ∧ U.cell? ⟨w.heap.size, 4, none⟩ = some (.int .i64 p.c.1) ∧ U.cell? ⟨w.heap.size, 5, none⟩ = some (.int .u64 (p.c.2.1 : Int)) ∧ U.cell? ⟨w.heap.size, 6, none⟩ = some (.int .u64 (p.c.2.2 : Int))) ∧ Below w0.heap.size w0 U) (first | exact HS1.out _ HBt.out | exact HS1.out _ (Below.refl _ _).drew | exact HS1.out _ (below1 _ _).drew | exact HS1.out _ (below1 _ _) | exact HS1.out _ (HBt.out.alloc HBt.out.size _) | exact HS1.out _ (below_ofBut (set3_but (But.of HBt.out) (Nat.le_refl _) c))) (first
      | (go_at_call 33; refine (HR1.out _ (below1 _ _).drew).mono ?_; rintro e u_ ⟨rfl, hb⟩; have HBt := hid (below_call (below1 w0 (Obj.cells #[.int .i64 0, .int .u64 0, .int .u64 0] 36)).drew hb); have hzc := (Zc.mk_ w0).drew_.but (S := fun _ => False) (But.of hb) (fun h => h); have HZc := hid hzc; obtain ⟨⟨z0, f0⟩, ⟨z1, f1⟩, ⟨z2, f2⟩⟩ := hzc; clear hb)
      | (go_at_call 33; refine (HR1.out _ (Below.refl _ _).drew).mono ?_; rintro e u_ ⟨rfl, hb⟩; have HBt := hid (below_call (Below.refl w0.heap.size w0).drew hb); clear hb))
    all_goals (try go_wp2)
    all_goals go_meet
    all_goals (first | exact ⟨_, rfl, Nv.first HBt.out HZc.out c⟩ | exact ⟨_, rfl, Nv.then_ HBt.out c⟩)
  case rest =>
  rename World => v1
  obtain ⟨b7, rfl, HNv⟩ := hcut
  have HM1 := hid (HM0.out.later HNv.out.bel)
  have HSb1 := hid (HSb.out.later HNv.out.bel)
  obtain ⟨o0, o1, o2, o3, _⟩ := HSb1.out.zero
  have HB1 := hid (below_call HB0.out HNv.out.bel)
  have HLo : Hid (w.heap.size ≤ b7) := Nat.le_trans HB0.out.size HNv.out.lo
  clear HS1 HR1 HM0 HSb
  have HM := HM1
  have HC7 := hid HNv.out.cw
  have HBw := HB1
  clear HM1 HNv HSb1 o1 o2 o3
  obtain ⟨n, hnn⟩ : ∃ n, n = findN s.X s.l c := ⟨_, rfl⟩
  have HN := hid hnn
  clear hnn
  have HR : Hid (∀ U, Below v1.heap.size v1 U → Calls Tryz.prog 36 #[.pointer (some ⟨K.r, 0, none⟩), .agg #[.int .i64 c.1, .int .u64 (c.2.1 : Int), .int .u64 (c.2.2 : Int)]] U fun e w' => e = .returned (.tuple #[.int .i64 n, .bool true]) ∧ Below U.heap.size U w') := fun U hU => by
    obtain ⟨wh, ev, hr, ht, he⟩ := (HM.out.later hU).doc.doc.c
    have := rfind_any hr HF.out.inv c.1 c.2.1 c.2.2
    rw [show findN s.X s.l (c.1, c.2.1, c.2.2) = n from HN.out.symm, show hasC s.X s.l (c.1, c.2.1, c.2.2) = true from HHas.out] at this
    exact this
  have HS : Hid (∀ U, Below v1.heap.size v1 U → (U.cell? ⟨rb, 1, none⟩ = some (.pointer (some ⟨K.r, 0, none⟩)) ∧ U.cell? ⟨b7, 0, none⟩ = some (.int .i64 c.1) ∧ U.cell? ⟨b7, 1, none⟩ = some (.int .u64 (c.2.1 : Int)) ∧ U.cell? ⟨b7, 2, none⟩ = some (.int .u64 (c.2.2 : Int))) ∧ Below v1.heap.size v1 U) := fun U hU => by
    obtain ⟨c0, c1, c2⟩ := HC7.out.but (S := fun _ => False) (But.of hU) (fun h => h)
    exact ⟨⟨(HM.out.later hU).t2.c1, c0, c1, c2⟩, hU⟩
  go_upto_region 13 with fail
  go_cut [16, 17] (fun s3 s4 W => s3 = .int .i64 n ∧ s4 = .bool true ∧ Hid (Below v1.heap.size v1 W))
  case first =>
    go_region_held3 (fun U => (U.cell? ⟨rb, 1, none⟩ = some (.pointer (some ⟨K.r, 0, none⟩)) ∧ U.cell? ⟨b7, 0, none⟩ = some (.int .i64 c.1) ∧ U.cell? ⟨b7, 1, none⟩ = some (.int .u64 (c.2.1 : Int)) ∧ U.cell? ⟨b7, 2, none⟩ = some (.int .u64 (c.2.2 : Int))) ∧ Below v1.heap.size v1 U) (first | exact HS.out _ HBt.out | exact HS.out _ (Below.refl _ _).drew) (first
      | (go_at_call 36; refine (HR.out _ (Below.refl _ _).drew).mono ?_; rintro e u_ ⟨rfl, hb⟩; have HBt := hid (below_call (Below.refl v1.heap.size v1).drew hb); clear hb))
    all_goals (try go_wp2)
    all_goals go_meet
    all_goals exact ⟨rfl, rfl, HBt.out⟩
  case rest =>
  rename World => v2
  obtain ⟨rfl, rfl, HBe⟩ := hcut
  have HM' := hid (HM.out.later HBe.out)
  have HC' := hid (HC7.out.but (S := fun _ => False) (But.of HBe.out) (fun h => h))
  have HBw' := hid (below_call HBw.out HBe.out)
  clear HR HS HM HC7 HBw HBe
  have HM := HM'; have HC7 := HC'; have HBw := HBw'
  clear HM' HC' HBw'
  have HR : Hid (∀ U, Below v2.heap.size v2 U → Calls Tryz.prog 37 #[.pointer (some ⟨H.A.g, 0, none⟩), .agg #[.int .i64 c.1, .int .u64 (c.2.1 : Int), .int .u64 (c.2.2 : Int)]] U fun e w' => e = .returned (.tuple #[.int .i64 n, .bool true]) ∧ Below U.heap.size U w') := fun U hU => by
    have := cfind_any (HM.out.later hU).tri.cat c HNo.out.2
    rw [← HN.out, HHas.out] at this
    exact this
  have HS : Hid (∀ U, Below v2.heap.size v2 U → (U.cell? ⟨sb, 1, none⟩ = some (.pointer (some ⟨H.A.g, 0, none⟩)) ∧ U.cell? ⟨b7, 0, none⟩ = some (.int .i64 c.1) ∧ U.cell? ⟨b7, 1, none⟩ = some (.int .u64 (c.2.1 : Int)) ∧ U.cell? ⟨b7, 2, none⟩ = some (.int .u64 (c.2.2 : Int))) ∧ Below v2.heap.size v2 U) := fun U hU => by
    obtain ⟨c0, c1, c2⟩ := HC7.out.but (S := fun _ => False) (But.of hU) (fun h => h)
    exact ⟨⟨(HM.out.later hU).t1.c1, c0, c1, c2⟩, hU⟩
  go_upto_region 14 with fail
  go_cut [18, 19] (fun s3 s4 W => s3 = .int .i64 n ∧ s4 = .bool true ∧ Hid (Below v2.heap.size v2 W))
  case first =>
    go_region_held3 (fun U => (U.cell? ⟨sb, 1, none⟩ = some (.pointer (some ⟨H.A.g, 0, none⟩)) ∧ U.cell? ⟨b7, 0, none⟩ = some (.int .i64 c.1) ∧ U.cell? ⟨b7, 1, none⟩ = some (.int .u64 (c.2.1 : Int)) ∧ U.cell? ⟨b7, 2, none⟩ = some (.int .u64 (c.2.2 : Int))) ∧ Below v2.heap.size v2 U) (first | exact HS.out _ HBt.out | exact HS.out _ (Below.refl _ _).drew) (first
      | (go_at_call 37; refine (HR.out _ (Below.refl _ _).drew).mono ?_; rintro e u_ ⟨rfl, hb⟩; have HBt := hid (below_call (Below.refl v2.heap.size v2).drew hb); clear hb))
    all_goals (try go_wp2)
    all_goals go_meet
    all_goals exact ⟨rfl, rfl, HBt.out⟩
  case rest =>
  rename World => v3
  obtain ⟨rfl, rfl, HBe⟩ := hcut
  have HM' := hid (HM.out.later HBe.out)
  have HC' := hid (HC7.out.but (S := fun _ => False) (But.of HBe.out) (fun h => h))
  have HBw' := hid (below_call HBw.out HBe.out)
  clear HR HS HM HC7 HBw HBe
  have HM := HM'; have HC7 := HC'; have HBw := HBw'
  clear HM' HC' HBw'
  rw [← HN.out] at HFo
  obtain ⟨k, hkG⟩ : ∃ k, k = (G true s.l n).length := ⟨_, rfl⟩
  have HK := hid hkG
  have HR19 := hid (drop_ok HM.out.tri.cat n HFo.out.1)
  rw [← hkG] at HR19
  clear hkG
  obtain ⟨t0, t1, t2⟩ := HM.out.t1
  go_upto_region 20 with (first | (go_at_call 38; refine HR19.out.mono ?_; rintro e v4 ⟨a4, c4, rfl, hO4, hc4, hb4⟩; have HC4 := hid hc4; have HB4 := hid hb4; clear hO4 hc4 hb4))
  have HM4 := hid (HM.out.prog (HM.out.tri.enter HB4.out HC4.out) (But.ofA HB4.out))
  have hno : ∀ k, w.heap.size ≤ k → ¬ H.Wr k := fun k hk e => by have := HM.out.all k (Hd.wr_all e); omega
  have HNW := hid hno
  have HC74 := hid (HC7.out.but (But.ofA HB4.out) (hno _ HLo.out))
  have HBt4 : Hid (But (fun k => H.Wr k ∨ (K.m1 ≤ k ∧ k < w.heap.size)) w v4) := (But.of HBw.out).trans ((But.ofA HB4.out).mono (fun k hk => .inl hk))
  have HFD := hid (HF.out.drop (n := n) (x := c.1) (by unfold ob; rw [HFo.out.2]) HC4.out.inv)
  have HR20 : Hid (Calls Tryz.prog 39 #[.pointer (some ⟨K.r, 0, none⟩), .int .i64 n] v4 fun e w' => ∃ a5 c5, e = .returned (.tuple #[.slice a5 k c5, .int .i64 0]) ∧ Mid w' H K { s with X := zer s.X (G true s.l n), l := cuts s.l (G true s.l n) } { s with X := zer s.X (G true s.l n), l := cuts s.l (G true s.l n) } T sb rb w.heap.size ∧ But (Kw K w.heap.size (fun k => rb < k)) v4 w') := by
    obtain ⟨wh, ev, hr, ht, he⟩ := HM4.out.doc.doc.c
    refine (rdrop_any hr HF.out.inv.ok ht n).mono ?_
    rintro e w' ⟨a5, c5, rfl, hO5, hr5, hb5⟩
    rw [if_pos HFo.out.1, ← HK.out]
    obtain ⟨g1, g2⟩ := HM4.out.doc.enter (T' := T) (hb5.mono (fun k hk => .inr hk)) ⟨wh, ev, hr5, ht.cuts _, he⟩
    exact ⟨a5, c5, rfl, HM4.out.dent g1 g2, g2⟩
  clear hno HM HC7 HBw HB4 HC4 t0 t1 t2 HR19
  obtain ⟨t0, t1, t2⟩ := HM4.out.t2
  go_upto_region 21 with (first | (go_at_call 39; refine HR20.out.mono ?_; rintro e v5 ⟨a5, c5, rfl, hm5, hb5⟩; have HM5 := hid hm5; have HB5 := hid hb5; clear hm5 hb5))
  have HNK : Hid (∀ k, w.heap.size ≤ k → ¬ Kw K w.heap.size (fun k => rb < k) k) := fun k hk e => by have := e.2.1; omega
  have HC75 := hid (HC74.out.but HB5.out (HNK.out _ HLo.out))
  have HBt5 : Hid (But (fun k => H.Wr k ∨ (K.m1 ≤ k ∧ k < w.heap.size)) w v5) := HBt4.out.trans (HB5.out.mono (fun k hk => .inr ⟨hk.1, hk.2.1⟩))
  clear HM4 HC74 HBt4 HB5 HR20 t0 t1 t2
  have HR23 : Hid (∀ U, Below v5.heap.size v5 U → Calls Tryz.prog 40 #[.pointer (some ⟨H.qg, 0, none⟩), .int .i64 c.1, .int .i64 (k : Int)] U fun e w' => e = .returned (.int .i64 0) ∧ Tri w' H (drS s n c.1) ∧ But H.Wr U w') := fun U hU => by
    have hm := HM5.out.later hU
    refine (Q.sub_any hm.tri.qu c.1 (k : Int) HNo.out.1).mono ?_
    rintro e w' ⟨rfl, hq, hb⟩
    rw [HK.out] at hq ⊢
    exact ⟨by rw [HFD.out.2], hm.tri.count hb hq, But.ofQ hb⟩
  have HS23 : Hid (∀ U, But H.Wr v5 U → (U.cell? ⟨sb, 2, none⟩ = some (.pointer (some ⟨H.qg, 0, none⟩)) ∧ U.cell? ⟨b7, 0, none⟩ = some (.int .i64 c.1)) ∧ But H.Wr v5 U) := fun U hU => by
    have hlt := HM5.out.lt
    have hat := HM5.out.at_
    have hmq := HM5.out.mq
    obtain ⟨q0, q1, q2⟩ := HM5.out.t1.but hU (fun e => by have := HM5.out.sep _ (Hd.wr_all e); omega)
    exact ⟨⟨q2, (HC75.out.but hU (HNW.out _ HLo.out)).c0⟩, hU⟩
  have hkk : ((k : Int) == (k : Int)) = true := by simp
  have hkk2 : ((k : Int) != (k : Int)) = false := by simp
  go_upto_region 23 with fail
  go_cut [24] (fun s3 W => s3 = .int .i64 0 ∧ Hid (Tri W H (drS s n c.1) ∧ But H.Wr v5 W))
  case first =>
    go_region_held3 (fun U => (U.cell? ⟨sb, 2, none⟩ = some (.pointer (some ⟨H.qg, 0, none⟩)) ∧ U.cell? ⟨b7, 0, none⟩ = some (.int .i64 c.1)) ∧ But H.Wr v5 U) (first | exact HS23.out _ HBt.out.2 | exact HS23.out _ (But.of (Below.refl _ _).drew)) (first
      | (go_at_call 40; refine (HR23.out _ (Below.refl _ _).drew).mono ?_; rintro e u_ ⟨rfl, ht, hb⟩; have HBt := hid (And.intro ht ((But.of (S := H.Wr) (Below.refl v5.heap.size v5).drew).trans hb)); clear ht hb))
    all_goals (try go_wp2)
    all_goals go_meet
    all_goals exact ⟨rfl, HBt.out⟩
  case rest =>
  rename World => v6
  obtain ⟨rfl, HTB⟩ := hcut
  have HM6 := hid (HM5.out.prog HTB.out.1 HTB.out.2)
  have HC76 := hid (HC75.out.but HTB.out.2 (HNW.out _ HLo.out))
  have HBt6 : Hid (But (fun k => H.Wr k ∨ (K.m1 ≤ k ∧ k < w.heap.size)) w v6) := HBt5.out.trans (HTB.out.2.mono (fun k hk => .inl hk))
  clear HM5 HC75 HBt5 HTB HR23 HS23
  have HR24 : Hid (∀ U, Below v6.heap.size v6 U → Calls Tryz.prog 41 #[.pointer (some ⟨K.q, 0, none⟩), .int .i64 c.1, .int .i64 (k : Int)] U fun e w' => e = .returned (.int .i64 0) ∧ Duo w' H K (drS s n c.1) (drS s n c.1) T sb rb ∧ But (Kw K w.heap.size (fun k => rb < k)) U w') := fun U hU => by
    have hm := HM6.out.later hU
    refine (rsub14 (hm.doc.regap (fun _ h => h) (by have := hm.lt; omega)) hm.lt.2 c.1 (k : Int)).mono ?_
    rintro e w' ⟨rfl, hq, hb⟩
    rw [HK.out] at hq ⊢
    exact ⟨by rw [show ({ s with X := zer s.X (G true s.l n), l := cuts s.l (G true s.l n) } : Sta).L = s.L from rfl, HFD.out.2], hm.docd hq hb, kw_wide hb⟩
  have HS24 : Hid (∀ U, But (Kw K w.heap.size (fun k => rb < k)) v6 U → (U.cell? ⟨rb, 2, none⟩ = some (.pointer (some ⟨K.q, 0, none⟩)) ∧ U.cell? ⟨b7, 0, none⟩ = some (.int .i64 c.1)) ∧ But (Kw K w.heap.size (fun k => rb < k)) v6 U) := fun U hU => by
    have hat := HM6.out.at_
    obtain ⟨q0, q1, q2⟩ := HM6.out.t2.but hU (fun e => by
      rcases e.2.2 with g | g
      · omega
      · exact absurd g (Nat.lt_irrefl _))
    exact ⟨⟨q2, (HC76.out.but hU (HNK.out _ HLo.out)).c0⟩, hU⟩
  go_upto_region 24 with fail
  go_cut [6] (fun s3 W => s3 = .bool true ∧ Hid (Duo W H K (drS s n c.1) (drS s n c.1) T sb rb ∧ But (Kw K w.heap.size (fun k => rb < k)) v6 W))
  case first =>
    go_region_held3 (fun U => (U.cell? ⟨rb, 2, none⟩ = some (.pointer (some ⟨K.q, 0, none⟩)) ∧ U.cell? ⟨b7, 0, none⟩ = some (.int .i64 c.1)) ∧ But (Kw K w.heap.size (fun k => rb < k)) v6 U) (first | exact HS24.out _ HBt.out.2 | exact HS24.out _ (But.of (Below.refl _ _).drew)) (first
      | (go_at_call 41; refine (HR24.out _ (Below.refl _ _).drew).mono ?_; rintro e u_ ⟨rfl, ht, hb⟩; have HBt := hid (And.intro ht ((But.of (Below.refl v6.heap.size v6).drew).trans hb)); clear ht hb))
    all_goals (try go_wp2)
    all_goals go_meet
    all_goals exact ⟨rfl, HBt.out⟩
  case rest =>
  rename World => v7
  obtain ⟨rfl, HTB⟩ := hcut
  go_wp2
  go_ret
  exact ⟨rfl, ⟨_, HTB.out.1.mono (by omega), HFD.out.1⟩, HBt6.out.trans (HTB.out.2.mono (fun k hk => .inr ⟨hk.1, hk.2.1⟩))⟩
end Go.Proofs.YtgihdchgdejkhaaGreatDoor.D
namespace Go.Proofs.YtgihdchgdejkhaaGreatDoor.D
open Go.RowKit
open Go.Proofs.YtgihdchgdejkhaaGreatDoor.H (B64 Cp)
set_option linter.unusedVariables false

/-- play. -/
theorem play_any {w : World} {H : Hd} {K : Kd} {s : Sta} {T sb rb : Nat} (h : Duo w H K s s T sb rb) (hf : Fit H.toPar s) (hmo : H.mo ≤ 1024) (hT : T < 9223372036854775807) (p : Sp) (hok : p.ok) :
    Calls Tryz.prog 18 #[.pointer (some ⟨sb, 0, none⟩), .pointer (some ⟨rb, 0, none⟩), spV p] w (PlayP w H K T sb rb) := by
  by_cases h0 : p.kd = 0
  · exact play_root h hf hmo hT p hok h0
  by_cases h1 : p.kd = 1
  · exact play_child1 h hf hmo hT p hok h1
  by_cases h2 : p.kd = 2
  · exact play_child2 h hf hmo hT p hok h2
  by_cases h3 : p.kd = 3
  · exact play_child3 h hf hmo hT p hok h3
  cases hc : hasC s.X s.l (namedC H.mo s p) with
  | true => exact play_drop h hf hmo hT p hok ⟨h0, h1, h2, h3⟩ hc
  | false => exact play_lost h hf hmo hT p hok ⟨h0, h1, h2, h3⟩ hc
/-- Behind i calls of the script. -/
structure AllI (w W : World) (H : Hd) (K : Kd) (i sb rb : Nat) : Prop where
  duo : ∃ s, Duo W H K s s i sb rb ∧ Fit H.toPar s
  bel : Below w.heap.size w W
def AllRel (w : World) (H : Hd) (K : Kd) (n sb rb : Nat) (t : Value) (W : World) : Prop := ∃ i : Nat, i ≤ n ∧ t = .int .i64 (i : Int) ∧ Hid (AllI w W H K i sb rb)
set_option maxRecDepth 100000 in
set_option maxHeartbeats 8000000 in
theorem all_any {w : World} (hl : Laid w) (wd en ea kn : Int) {a : Option Addr} {n0 cap : Nat} {f : Nat → Nat} (h : Ws w a n0 cap f) (hn0 : n0 ≤ 9223372036854775807) {sa : Option Addr} {sn sc : Nat} {sf : Nat → Sp} (hs : Ss w sa sn sf) (hsn : sn ≤ 9223372036854775807) :
    Calls Tryz.prog 5 #[woV wd en ea kn a n0 cap, .slice sa sn sc] w fun e w' => e = .returned (.bool true) ∧ Below w.heap.size w w' := by
  obtain ⟨w0, hw0⟩ : ∃ w0, w0 = w.alloc (Obj.cells #[.int .i64 wd, .int .i64 en, .int .i64 ea, .int .i64 kn, .slice a n0 cap] 24) := ⟨_, rfl⟩
  have hB0 : Below w.heap.size w w0 := by rw [hw0]; exact below1 _ _
  have hv : Wo w0 w.heap.size wd en ea kn a n0 cap := by rw [hw0]; exact ⟨by simp [go_sem], by simp [go_sem], by simp [go_sem], by simp [go_sem], by simp [go_sem]⟩
  have HHd := hid (head_any w0 (hl.later hB0))
  have HRt := hid (fun (U : World) (hU : Below w0.heap.size w0 U) => right_any wd en ea kn (h.later (below_call hB0 hU)) hn0)
  have HV : Hid (∀ U, Below w0.heap.size w0 U → Wo U w.heap.size wd en ea kn a n0 cap) := fun U hU => hv.but (S := fun _ => False) (But.of hU) (fun h => h)
  have HB0 := hid hB0
  have HL := hid hl
  have HS := hid hs
  have q1 : intoN wd 128 < 128 := intoN_lt _ (by decide)
  have q2 : intoN en 256 < 256 := intoN_lt _ (by decide)
  have q3 : intoN ea 256 < 256 := intoN_lt _ (by decide)
  have q4 : intoN kn 65 < 65 := intoN_lt _ (by decide)
  generalize intoN wd 128 = m1 at *
  generalize intoN en 256 = m2 at *
  generalize intoN ea 256 = m3 at *
  generalize intoN kn 65 = m4 at *
  have HMd : Hid (∀ (U V : World) (n : Nat), Below w.heap.size w U → Below U.heap.size U V → n ≤ 4096 → Ws U a n cap f → Calls Tryz.prog 9 #[.agg #[.int .i64 (1 + (m1 : Int)), .int .i64 (1 + (m2 : Int)), .int .i64 (1 + (m3 : Int)), .int .i64 (m4 : Int), .slice a n cap]] V fun e W => ∃ (H : Hd) (K : Kd) (sb rb : Nat), e = .returned (.tuple #[.pointer (some ⟨sb, 0, none⟩), .pointer (some ⟨rb, 0, none⟩)]) ∧ H.mo ≤ 1024 ∧ AllI w W H K 0 sb rb ∧ (∀ k, H.Wr k → w.heap.size ≤ k) ∧ w.heap.size ≤ K.m1) := fun U V n hU hV hn hW => by
    have hUV := below_call hU hV
    have := made_all (hl.later hUV) (1 + (m1 : Int)) (1 + m2) (1 + m3) m4 (hW.later hV) hn (by omega) (by omega) (by omega) (by omega) (by omega) (by omega) (by omega)
    unfold woV at this
    rw [show (((1 + m2 : Nat) : Int)) = 1 + (m2 : Int) by omega, show (((1 + m3 : Nat) : Int)) = 1 + (m3 : Int) by omega] at this
    refine this.mono ?_
    rintro e W ⟨H, K, sb, rb, rfl, hP, hT, hD, ht1, ht2, hwr, hm1, hall, hat, hb⟩
    have hsz := hUV.size
    rw [← hP] at hT hD
    refine ⟨H, K, sb, rb, rfl, ?_, ⟨⟨_, ⟨hT, hD, hall, hat, ht1, ht2⟩, ?_⟩, below_call hUV hb⟩, fun k hk => Nat.le_trans hsz (hwr k hk), Nat.le_trans hsz hm1⟩
    · rw [show H.mo = H.toPar.mo from rfl, hP]; show 1 + m2 ≤ 1024; omega
    · rw [hP]
      exact Fit.start _ (fun i _ => cutN_lt (hW.small i) _) (by show (1 + (m2 : Int)) ≤ ((1 + m2 : Nat) : Int); omega)
  clear h hl hB0 hv hs
  unfold woV at HRt ⊢
  go_enter Tryz.func5, Tryz.ntmps5
  go_upto_region 1 with fail
  rw [← hw0]
  clear hw0
  go_upto_region 3 with (first | (go_at_call 6; refine HHd.out.mono ?_; rintro e w1 ⟨rfl, hb1⟩; have HB1 := hid hb1; obtain ⟨x0, x1, x2, x3, x4⟩ := HV.out w1 hb1; clear hb1))
  go_upto_region 4 with (first
    | (have hq := HB2; clear hq; go_at_call 9; refine (HMd.out w1 w2 n (below_call HB0.out HB1.out) HB2.out hn HW.out).mono ?_; rintro e w3 ⟨H, K, sb, rb, rfl, hmo, hI, hwr, hm1⟩; have HI := hid hI; have HWr := hid (And.intro hwr hm1); clear hI hwr hm1)
    | (go_at_call 7; refine (HRt.out w1 HB1.out).mono ?_; rintro e w2 ⟨n, hn, _, hW, rfl, hb2⟩; have HB2 := hid hb2; have HW := hid hW; clear hb2 hW))
  clear HHd HRt HMd HV HB0 HB1 HB2 HW x0 x1 x2 x3 x4
  go_wp2
  go_loopw [7] (AllRel w H K sn sb rb) (fun t _ => sn - (intOf t).toNat)
  case atStart => exact ⟨0, Nat.zero_le _, rfl, HI⟩
  case round =>
    clear HI
    obtain ⟨i, hi, rfl, hI⟩ := hrel
    by_cases hlt : i < sn
    · obtain ⟨ab, ao, rfl, hc⟩ := (HS.out.later hI.out.bel).at_ (by omega)
      have hok := HS.out.ok i hlt
      obtain ⟨s, hD, hF⟩ := hI.out.duo
      obtain ⟨y0, y1, y2, y3, y4, y5, y6⟩ := hc i hlt
      have hd : decide ((i : Int) < (sn : Int)) = true := decide_eq_true (by omega)
      have hd2 : (i : Int) < (sn : Int) := by omega
      have HPl := hid (play_any hD hF hmo (by omega) (sf i) hok)
      obtain ⟨p, hp⟩ : ∃ p, p = sf i := ⟨_, rfl⟩
      rw [← hp] at y0 y1 y2 y3 y4 y5 y6 hok HPl
      have HBel := hid hI.out.bel
      have HNx : Hid (∀ W, PlayP wr H K i sb rb (.returned (.bool true)) W → AllI w W H K (i + 1) sb rb ∧ Sb W ab (ao + i * 7) p) := fun W hW => by
        obtain ⟨_, ⟨s', hD', hF'⟩, hb⟩ := hW
        have hB : Below w.heap.size w W := But.below HBel.out hb (fun k hk => by
          rcases hk with g | g
          · exact HWr.out.1 k g
          · exact Nat.le_trans HWr.out.2 g.1)
        refine ⟨⟨⟨s', hD', hF'⟩, hB⟩, ?_⟩
        have hss := (HS.out.later hB).at_ (by omega)
        obtain ⟨b2, o2, e2, h2⟩ := hss
        cases e2
        rw [hp]
        exact h2 i hlt
      have HTo : Hid (∀ W o, AllI w W H K (i + 1) sb rb → (Lit.int .i64 o).wf = true → Calls Tryz.prog 19 #[.pointer (some ⟨sb, 0, none⟩), .pointer (some ⟨rb, 0, none⟩), .int .i64 o] W fun e w' => e = .returned (.bool true) ∧ Below W.heap.size W w' ∧ AllI w w' H K (i + 1) sb rb) := fun W o hW ho => by
        obtain ⟨s', hD', hF'⟩ := hW.duo
        refine (told_any hD' hF' hmo o ho).mono ?_
        rintro e w' ⟨rfl, hb⟩
        exact ⟨rfl, hb, ⟨s', hD'.later hb, hF'⟩, below_call hW.bel hb⟩
      have HOk := hid hok
      unfold spV at HPl
      clear hc hD hF hp hok hI
      go_upto_region 10 with (first
        | (go_at_call 18; refine HPl.out.mono ?_; rintro e v1 hp1; obtain rfl := hp1.1; have HN1 := hid (HNx.out v1 hp1); clear hp1))
      clear y0 y1 y2 y3 y4 y5 y6
      obtain ⟨y0, y1, y2, y3, y4, y5, y6⟩ := HN1.out.2
      go_wp2_with (first
        | (have hq := HA1; clear hq; go_at_call 19; refine (HTo.out _ p.c.1 HA1.out HOk.out.1.2).mono ?_; rintro e v3 ⟨rfl, hb2, hA2⟩; have HA2 := hid hA2; clear hb2 hA2)
        | (go_at_call 19; refine (HTo.out v1 p.ob HN1.out.1 HOk.out.1.1).mono ?_; rintro e v2 ⟨rfl, hb1, hA1⟩; have HA1 := hid hA1; have HSb2 := hid (HN1.out.2.later hb1); clear hb1 hA1; clear y0 y1 y2 y3 y4 y5 y6; obtain ⟨y0, y1, y2, y3, y4, y5, y6⟩ := HSb2.out))
      exact ⟨⟨i + 1, by omega, by go_num, HA2⟩, by simp [intOf]; omega⟩
    · obtain rfl : i = sn := by omega
      have hd2 : ¬ (i : Int) < (i : Int) := by omega
      have HFin := hid hI.out.bel
      clear hI
      go_wp2
      go_ret
      exact ⟨rfl, HFin.out⟩
end Go.Proofs.YtgihdchgdejkhaaGreatDoor.D
namespace Go.Proofs.YtgihdchgdejkhaaGreatDoor.D
open Go.ChangeShapes Go.WideShapes Go.ChangeAt Go.RowKit Go.Joins

set_option maxRecDepth 100000 in
theorem deriveAll_lifted (os : Os) (started : os.Started) (H : Type) (enc : TypeId × Value → H) :
    ReturnsInHanded {} Tryz.checked os 5 .any (fun w args => (Rows.deriveAllSpec.pre enc Tryz.prog Tryz.f5 [] false w args ∧ laidMetH Tryz.prog lay_ w) ∧ sizedMet enc Tryz.prog Tryz.f5 (OpenSpec.ofChange Rows.deriveAllSpec) false w args)
      (Rows.deriveAllSpec.post enc Tryz.prog Tryz.f5 false true false false) := by
  refine returnsInHanded_of_change_and (C := Tryz.checked) (X := fun w _ => laidMetH Tryz.prog lay_ w) (fun _ _ _ hh h => h.of_heap hh) ownK started (by kernel_rfl) Tryz.func5
    (ChangeSpec.witness_at (enc := enc) (C := Tryz.checked) (os := os) (X := fun w _ => laidMetH Tryz.prog lay_ w) false (laidWorld os) #[.agg #[.int .i64 0, .int .i64 0, .int .i64 0, .int .i64 0, .slice none 0 0], .slice none 0 0] 8 rfl (by kernel_rfl) (by kernel_rfl) (by kernel_rfl) (by kernel_rfl) (by kernel_rfl) (laidWorld_met os _)) ?_
  intro W base args ds gs before hval0 hW _ _ hL _
  have hval : ∀ (j : Nat) t v, Tryz.f5.params[j]? = some t → args[j]? = some v → Value.okWide Tryz.prog W .any base t v := hval0
  have hW' := hW
  obtain ⟨p, q, hA0, hV0, rfl, hfz, hnd⟩ := hW
  have hA : DataW.TrodAll enc Tryz.prog W 0 (fun _ => true) true Tryz.f5.params.toList args.toList ds p := hA0
  rw [Tryz.params5] at hA hval
  obtain ⟨v0, vs0, d0, ds0, p0, q0, hargs, rfl, rfl, h0, r0⟩ := trodAll_cons hA
  obtain ⟨v1, vs1, d1, ds1, p1, q1, rfl, rfl, rfl, h1, r1⟩ := trodAll_cons r0
  obtain ⟨rfl, rfl, rfl⟩ := trodAll_nil r1
  obtain rfl : args = #[v0, v1] := by cases args; simp_all
  obtain ⟨rfl, rfl⟩ := trodVars_none hV0
  have k0 := h0
  have lt0 : ∀ x ∈ p0, x.block < W.heap.size := by obtain ⟨m, hm⟩ := k0; exact DataW.trod_lt m _ _ _ hm
  obtain ⟨wd, en, ea, kn, a, n, cap, f, rfl, hR, hn⟩ := open_world (hval 0 24 v0 rfl rfl) h0
  have k1 := h1
  have lt1 : ∀ x ∈ p1, x.block < W.heap.size := by obtain ⟨m, hm⟩ := k1; exact DataW.trod_lt m _ _ _ hm
  obtain ⟨sa, sn, sc, sf, rfl, hS, hsn⟩ := open_ops (hval 1 49 v1 rfl rfl) h1
  clear hA0 hval0
  refine (all_any (handle_of_laid hL) wd en ea kn hR hn hS hsn).mono fun e W' ⟨he, bel⟩ => ?_
  subst he
  exact ⟨_, rfl, _, _, _, [], _, [], hW', trodAll_mk1 (shut_bool Tryz.underlying4 _), (trodAll_cons_mk (Below.trod laidOut (by kernel_rfl) (of_decide_eq_true (by kernel_rfl)) k0 bel lt0) (trodAll_cons_mk (Below.trod laidOut (by kernel_rfl) (of_decide_eq_true (by kernel_rfl)) k1 bel lt1) trodAll_mk0)), rfl, bel.frame _, fun h => by cases h⟩
theorem deriveAll_row : Rows.DeriveAllSaid :=
  OpenClaim.holds_of_wide 5 Tryz.f5 rfl rfl rfl rfl rfl rfl rfl ⟨rfl, rfl, rfl, rfl, rfl⟩ rfl rfl rfl rfl rfl (by kernel_rfl) Tryz.func5 (by kernel_rfl)
    (of_decide_eq_true (by kernel_rfl)) (by unfold Func.isWrapper; first | (rw [if_pos (by decide +kernel)]; kernel_rfl) | (rw [if_neg (by decide +kernel)]; exact ⟨rfl, rfl⟩))
    (fun os started H enc _ => deriveAll_lifted os started H enc)
end Go.Proofs.YtgihdchgdejkhaaGreatDoor.D
namespace Go.Proofs.YtgihdchgdejkhaaGreatDoor
open Go
set_option maxRecDepth 100000 in
theorem deriveAll_holds : Rows.DeriveAllCardSaid :=
  Claim7.holds_tied_plain_at .later [] [.handle] true (true, "096f737d3d8ba766a5f905820888bc58acf212af1aafd00a76e9d284967c37af") true
    D.deriveAll_row (fun _ h => by cases h) (by kernel_rfl) (fun _ h => by cases h) deriveAll_row_tie rfl ⟨rfl, rfl⟩ (by kernel_rfl) rfl
    (fun f fn hf hfn => by
      obtain rfl : f = 5 := Option.some.inj ((show Tryz.prog.funcNamed "sesame/sesamelaw14.DeriveAll" = some 5 by kernel_rfl).symm.trans hf) |>.symm
      obtain rfl : fn = Tryz.f5 := (Option.some.inj (Tryz.func5.symm.trans hfn)).symm
      exact ⟨by kernel_rfl, fun j t ht => by
        rw [Tryz.params5] at ht
        have h3 : t = 24 ∨ t = 49 := by
          rcases j with _ | _ | j
          · exact .inl (by simpa using ht.symm)
          · exact .inr (by simpa using ht.symm)
          · simp at ht
        rcases h3 with rfl | rfl
        · exact (show Tryz.prog.wantsStandIn 24 = false by kernel_rfl)
        · exact (show Tryz.prog.wantsStandIn 49 = false by kernel_rfl)⟩)
    (by kernel_rfl)
#print axioms deriveAll_holds
end Go.Proofs.YtgihdchgdejkhaaGreatDoor
