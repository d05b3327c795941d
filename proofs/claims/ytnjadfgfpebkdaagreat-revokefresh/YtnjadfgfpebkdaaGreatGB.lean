import Derived.Test.YtnjadfgfpebkdaaGreatGA
namespace Go.Proofs.YtnjadfgfpebkdaaGreat.D
open Go.RowKit
open Go.Proofs.YtnjadfgfpebkdaaGreat.H (B64 Cp)
set_option linter.unusedVariables false

theorem mayV_nx {s : Sta} {k : Int} (h : S.mayV 8 64 s.nx s.V k = 0) : s.nx ≤ 4611686018427387904 := by
  unfold S.mayV at h
  split at h
  · exact absurd h (by decide)
  · split at h
    · exact absurd h (by decide)
    · omega
set_option maxRecDepth 100000 in
set_option maxHeartbeats 2000000 in
/-- An object is made, with its root. -/
theorem grow0_ok {w : World} {H : Hd} {s : Sta} {T : Nat} {N : Nat → Prop} (h : Duo w H s s T N) (hf : Fit H.mo s) (h1 : 1 ≤ s.nx) (hT : T < 9223372036854775807) (o : Opr) (ok : o.Ok) (hk : o.kd = 0) (hq : ¬ (H.mo : Int) ≤ (s.L.length : Int)) (hm : S.mayV 8 64 s.nx s.V (intoN o.sz 200 : Int) = 0) :
    Calls Tryz.prog 8 #[.pointer (some ⟨H.sb, 0, none⟩), .pointer (some ⟨H.rb, 0, none⟩), opV o] w (Grew w H (addS s (s.nx, o.wh, o.wl) (-1) 31 (s.nx + 1) (s.V ++ [(s.nx, List.replicate (intoN o.sz 200) 0)])) T N) := by
  obtain ⟨w0, hw0⟩ : ∃ w0, w0 = w.alloc (Obj.cells (opC o) 29) := ⟨_, rfl⟩
  have hB0 : Below w.heap.size w w0 := by rw [hw0]; exact below1 _ _
  have hob : OpB w0 w.heap.size 0 o := by rw [hw0]; exact opb_new w o 29
  have hb6 : (o.kd == 6) = false := by simp [hk]
  have hb0 : (o.kd == 0) = true := by simp [hk]
  have HB0 := hid hB0
  have HRg := hid h.rng
  have HD0 := hid (h.later hB0)
  have HOB := hid hob
  have x0 := hob.zero.1
  have y1 := (h.later hB0).t2.c1
  obtain ⟨pa, cap, hrq⟩ := (h.later hB0).rq
  have y2 := hrq.c2.1
  have y3 := hrq.c1
  have hnx := mayV_nx hm
  have HNx : Hid (S.i64ok s.nx) := by unfold Hid S.i64ok; omega
  have ho := not_new hf
  have hroom : s.l.length < H.mo := may_room hf (by omega)
  have hR := rootR_ok (c := (s.nx, o.wh, o.wl)) hroom ho
  have HW : Hid (o.wh < B64 ∧ o.wl < B64) := ⟨ok.wh, ok.wl⟩
  have hcnt : s.L.count s.nx = 0 := by
    rw [hf.cnt]
    have := (not_congr hasO_inN).1 (by rw [ho]; decide : ¬ hasO s.X s.l s.nx = true)
    omega
  have hmay : Q.may 256 (H.mo : Int) s.L s.nx = 0 := by
    unfold Q.may
    rw [if_neg (by rw [hcnt]; decide), if_neg (by omega)]
  have hadd : Q.addL 256 (H.mo : Int) s.L s.nx = s.L ++ [s.nx] := by unfold Q.addL; rw [if_pos hmay]
  obtain ⟨n, hn⟩ : ∃ n, n = s.L.length := ⟨_, rfl⟩
  rw [← hn] at hq y2
  obtain ⟨mo, hmo⟩ : ∃ mo, mo = H.mo := ⟨_, rfl⟩
  rw [← hmo] at hq y3
  have hd : decide ((n : Int) ≥ (mo : Int)) = false := decide_eq_false hq
  have hd2 : decide ((mo : Int) ≤ (n : Int)) = false := decide_eq_false hq
  have hd3 : decide (mo ≤ n) = false := decide_eq_false (by omega)
  have HMod := hid (fun U => mod_any o.sz 200 200 rfl U (by decide) (by decide))
  obtain ⟨k, hk2⟩ : ∃ k, k = intoN o.sz 200 := ⟨_, rfl⟩
  rw [← hk2] at hm HMod
  rw [← hk2]
  obtain ⟨nx, hnxe⟩ : ∃ nx, nx = s.nx := ⟨_, rfl⟩
  obtain ⟨V1, hV1⟩ : ∃ V1, V1 = s.V ++ [(s.nx, List.replicate k 0)] := ⟨_, rfl⟩
  have HC1 : Hid (∀ (U : World), Below w0.heap.size w0 U → Calls Tryz.prog 36 #[.pointer (some ⟨H.z.s, 0, none⟩), .int .i64 (k : Int)] U fun e w' => e = .returned (.tuple #[.int .i64 nx, .int .i64 0]) ∧ ∃ N', Duo w' H { s with nx := s.nx + 1, V := V1 } s T N' ∧ Went U N w' N') := fun U hU => by
    have := pCreate_ok (HD0.out.later hU) k hm
    rw [hnxe, hV1]
    exact this
  have HC2 : Hid (∀ (U : World) (N1 : Nat → Prop), Duo U H { s with nx := s.nx + 1, V := V1 } s T N1 → Calls Tryz.prog 37 #[.pointer (some ⟨H.v, 0, none⟩), .int .i64 (k : Int)] U fun e w' => e = .returned (.tuple #[.int .i64 nx, .int .i64 0]) ∧ ∃ N', Duo w' H { s with nx := s.nx + 1, V := V1 } { s with nx := s.nx + 1, V := V1 } T N' ∧ Went U N1 w' N') := fun U N1 hd1 => by
    rw [hV1] at hd1
    have := rCreate_ok hd1 k hm
    rw [hnxe, hV1]
    exact this
  obtain ⟨X', hX'⟩ : ∃ X', X' = s.X.set (low s.l) ((s.nx, o.wh, o.wl), 31) := ⟨_, rfl⟩
  obtain ⟨l', hl'⟩ : ∃ l', l' = s.l ++ [((low s.l : Int), -1)] := ⟨_, rfl⟩
  obtain ⟨q, hqq⟩ : ∃ q, q = (low s.l : Int) := ⟨_, rfl⟩
  have hR1 : rootR H.mo s.X s.l (s.nx, o.wh, o.wl) 31 = ⟨q, 0, X', l'⟩ := by rw [hR.1, hX', hl', hqq]
  have HC3 : Hid (∀ (U : World) (N1 : Nat → Prop), Duo U H { s with nx := s.nx + 1, V := V1 } { s with nx := s.nx + 1, V := V1 } T N1 → Calls Tryz.prog 38 #[.pointer (some ⟨H.A.g, 0, none⟩), .agg #[.int .i64 nx, .int .u64 (o.wh : Int), .int .u64 (o.wl : Int)], .int .i64 31] U fun e w' => e = .returned (.tuple #[.int .i64 q, .int .i64 0]) ∧ Duo w' H { s with nx := s.nx + 1, V := V1, X := X', l := l' } { s with nx := s.nx + 1, V := V1 } T N1 ∧ But N1 U w') := fun U N1 hd1 => by
    have := pRoot hd1 (s.nx, o.wh, o.wl) 31 HW.out
    simp only [hR1] at this
    rw [hnxe]
    exact this
  have HC4 : Hid (∀ (U : World) (N1 : Nat → Prop), Duo U H { s with nx := s.nx + 1, V := V1, X := X', l := l' } { s with nx := s.nx + 1, V := V1 } T N1 → Calls Tryz.prog 39 #[.pointer (some ⟨H.r, 0, none⟩), .agg #[.int .i64 nx, .int .u64 (o.wh : Int), .int .u64 (o.wl : Int)], .int .i64 31] U fun e w' => e = .returned (.tuple #[.int .i64 q, .int .i64 0]) ∧ Duo w' H { s with nx := s.nx + 1, V := V1, X := X', l := l' } { s with nx := s.nx + 1, V := V1, X := X', l := l' } (T + 1) N1 ∧ But N1 U w') := fun U N1 hd1 => by
    have := rRoot hd1 hf.inv hT (s.nx, o.wh, o.wl) 31 HW.out
    simp only [hR1] at this
    rw [hnxe]
    exact this
  obtain ⟨sx, hsx⟩ : ∃ sx, sx = ({ s with nx := s.nx + 1, V := V1, X := X', l := l', L := s.L ++ [s.nx] } : Sta) := ⟨_, rfl⟩
  have HC5 : Hid (∀ (U : World) (N1 : Nat → Prop), Duo U H { s with nx := s.nx + 1, V := V1, X := X', l := l' } { s with nx := s.nx + 1, V := V1, X := X', l := l' } (T + 1) N1 → Calls Tryz.prog 40 #[.pointer (some ⟨H.qg, 0, none⟩), .int .i64 nx] U fun e w' => e = .returned (.int .i64 0) ∧ Duo w' H sx { s with nx := s.nx + 1, V := V1, X := X', l := l' } (T + 1) N1 ∧ But N1 U w') := fun U N1 hd1 => by
    have := pAdd hd1 s.nx (wf_of HNx.out)
    simp only [hmay, hadd] at this
    rw [hnxe, hsx]
    exact this
  have HC6 : Hid (∀ (U : World) (N1 : Nat → Prop), Duo U H sx { s with nx := s.nx + 1, V := V1, X := X', l := l' } (T + 1) N1 → Calls Tryz.prog 41 #[.pointer (some ⟨H.q, 0, none⟩), .int .i64 nx] U fun e w' => e = .returned (.int .i64 0) ∧ ∃ N', Duo w' H sx sx (T + 1) N' ∧ Went U N1 w' N') := fun U N1 hd1 => by
    have := rAdd hd1 s.nx
    simp only [hmay, hadd] at this
    rw [hnxe]
    rw [← hsx] at this
    exact this
  have hans : addS s (s.nx, o.wh, o.wl) (-1) 31 (s.nx + 1) (s.V ++ [(s.nx, List.replicate k 0)]) = sx := by
    rw [hsx, hV1, hX', hl']; rfl
  rw [hans]
  obtain ⟨sa, hsa⟩ : ∃ sa, sa = ({ s with nx := s.nx + 1, V := V1 } : Sta) := ⟨_, rfl⟩
  obtain ⟨sb', hsb'⟩ : ∃ sb', sb' = ({ s with nx := s.nx + 1, V := V1, X := X', l := l' } : Sta) := ⟨_, rfl⟩
  rw [← hsa] at HC1 HC2 HC3 HC4
  rw [← hsb'] at HC3 HC4 HC5 HC6
  have hne : (nx != nx) = false := by simp
  have HF : Hid (∀ U N1, Went w0 N U N1 → OpB U w.heap.size 0 o) := fun U N1 hU => HOB.out.but hU.2 (fun e => by have := HRg.out _ e; omega)
  have HSz := hid HB0.out.size
  unfold opV Grew
  clear h hk hB0 hob hrq hn hmo hq hk2 hm hf ho hroom hR hcnt hmay hadd hnx hnxe hV1 hX' hl' hqq hR1 hsx hans hsa hsb' ok h1 hT
  go_enter Tryz.func8, Tryz.ntmps8
  go_upto_region 1 with fail
  rw [← hw0]
  clear hw0
  go_upto_region 5 with fail
  go_quiet (fail)
  have HBq := hid (below_drewN (Below.refl w0.heap.size w0) nq)
  generalize w0.drewN nq = u0 at *
  clear y1 y2 y3 x0
  go_upto_region 7 with fail
  have HSa : Hid (∀ U, Below w0.heap.size w0 U → U.cell? ⟨H.sb, 2, none⟩ = some (.pointer (some ⟨H.z.s, 0, none⟩)) ∧ U.cell? ⟨w.heap.size, 4, none⟩ = some (.int .i64 o.sz)) := fun U hU => ⟨(HD0.out.later hU).t1.c2, (HOB.out.later hU).zero.2.2.2.2.1⟩
  go_region_held3 (fun U => U.cell? ⟨H.sb, 2, none⟩ = some (.pointer (some ⟨H.z.s, 0, none⟩)) ∧ U.cell? ⟨w.heap.size, 4, none⟩ = some (.int .i64 o.sz)) (first | exact ⟨HD2.out.t1.c2, (HF.out _ _ HW2.out).zero.2.2.2.2.1⟩ | exact HSa.out _ HB1.out | exact HSa.out _ (below_call HBq.out (Below.refl _ _).drew) | exact HSa.out _ HBq.out) (first
    | (go_at_call 36; refine (HC1.out _ HB1.out).mono ?_; rintro e u2 ⟨rfl, N2, hd2, hw2⟩; have HD2 := hid hd2; have HW2 := hid ((Went.later (N := N) HB1.out).trans hw2); clear hd2 hw2)
    | (go_at_call 10; refine (HMod.out _).mono ?_; rintro e u1 ⟨rfl, hw9⟩; have HB1 : Hid (Below w0.heap.size w0 u1) := (by unfold Hid; rw [hw9]; exact below_call HBq.out (Below.refl _ _).drew); clear hw9))
  go_upto_region 8 with fail
  have HSb : Hid (∀ U, Below u2.heap.size u2 U → U.cell? ⟨H.rb, 2, none⟩ = some (.pointer (some ⟨H.v, 0, none⟩)) ∧ U.cell? ⟨w.heap.size, 4, none⟩ = some (.int .i64 o.sz)) := fun U hU => ⟨(HD2.out.later hU).t2.c2, ((HF.out _ _ HW2.out).later hU).zero.2.2.2.2.1⟩
  go_region_held3 (fun U => U.cell? ⟨H.rb, 2, none⟩ = some (.pointer (some ⟨H.v, 0, none⟩)) ∧ U.cell? ⟨w.heap.size, 4, none⟩ = some (.int .i64 o.sz)) (first | exact ⟨HD4.out.t2.c2, (HF.out _ _ HW4.out).zero.2.2.2.2.1⟩ | exact HSb.out _ HB3.out | exact HSb.out _ (Below.refl _ _).drew | exact HSb.out _ (Below.refl _ _)) (first
    | (go_at_call 37; refine (HC2.out _ N2 (HD2.out.later HB3.out)).mono ?_; rintro e u4 ⟨rfl, N4, hd4, hw4⟩; have HD4 := hid hd4; have HW4 := hid (HW2.out.trans ((Went.later (N := N2) HB3.out).trans hw4)); clear hd4 hw4)
    | (go_at_call 10; refine (HMod.out _).mono ?_; rintro e u3 ⟨rfl, hw9⟩; have HB3 : Hid (Below u2.heap.size u2 u3) := (by unfold Hid; rw [hw9]; exact (Below.refl _ _).drew); clear hw9))
  obtain ⟨p0, p1, p2, p3, p4, p5, p6, p7, p8, p9⟩ := (HF.out _ _ HW4.out).zero
  go_upto_region 14 with fail
  obtain ⟨u5, hu5⟩ : ∃ u5, u5 = u4.alloc (Obj.cells #[.int .i64 nx, .int .u64 (o.wh : Int), .int .u64 (o.wl : Int)] 27) := ⟨_, rfl⟩
  have hcel : Cel u5 u4.heap.size 0 (nx, o.wh, o.wl) := by rw [hu5]; exact cel_new u4 (nx, o.wh, o.wl) 27
  have hb5 : Below u4.heap.size u4 u5 := by rw [hu5]; exact below1 _ _
  rw [← hu5]
  have HD5 := hid (HD4.out.later hb5)
  have HW5 := hid (HW4.out.trans (Went.later (N := N4) hb5))
  have HCe := hid hcel
  have HG5 : Hid (∀ U N1, Went u5 N4 U N1 → Cel U u4.heap.size 0 (nx, o.wh, o.wl)) := fun U N1 hU => HCe.out.but hU.2 (fun (e : N4 u4.heap.size) => by have := HD4.out.rng _ e; omega)
  clear hu5 hcel hb5 p0 p1 p2 p3 p4 p5 p6 p7 p8 p9
  have HSc : Hid (∀ U, But N4 u5 U → Duo U H sa sa T N4 ∨ Duo U H sb' sa T N4 → U.cell? ⟨H.sb, 0, none⟩ = some (.pointer (some ⟨H.A.g, 0, none⟩)) ∧ U.cell? ⟨u4.heap.size, 0, none⟩ = some (.int .i64 nx) ∧ U.cell? ⟨u4.heap.size, 1, none⟩ = some (.int .u64 (o.wh : Int)) ∧ U.cell? ⟨u4.heap.size, 2, none⟩ = some (.int .u64 (o.wl : Int))) := fun U hU hd1 => by
    have hz := (HG5.out U N4 (Went.stay hU)).zero
    rcases hd1 with h1 | h1
    · exact ⟨h1.t1.c0, hz⟩
    · exact ⟨h1.t1.c0, hz⟩
  go_region_held3 (fun U => U.cell? ⟨H.sb, 0, none⟩ = some (.pointer (some ⟨H.A.g, 0, none⟩)) ∧ U.cell? ⟨u4.heap.size, 0, none⟩ = some (.int .i64 nx) ∧ U.cell? ⟨u4.heap.size, 1, none⟩ = some (.int .u64 (o.wh : Int)) ∧ U.cell? ⟨u4.heap.size, 2, none⟩ = some (.int .u64 (o.wl : Int))) (first | exact HSc.out _ HW6.out (.inr HD6.out) | exact HSc.out _ (But.of (Below.refl _ _).drew) (.inl (HD5.out.later (Below.refl _ _).drew)) | exact HSc.out _ (But.refl _ _) (.inl HD5.out)) (first
    | (go_at_call 38; refine (HC3.out _ N4 (HD5.out.later (Below.refl _ _).drew)).mono ?_; rintro e u6 ⟨rfl, hd6, hw6⟩; have HD6 := hid hd6; have HW6 := hid ((But.of (S := N4) (Below.refl u5.heap.size u5).drew).trans hw6); clear hd6 hw6))
  go_upto_region 15 with fail
  have HSd : Hid (∀ U, But N4 u5 U → Duo U H sb' sa T N4 ∨ Duo U H sb' sb' (T + 1) N4 → U.cell? ⟨H.rb, 0, none⟩ = some (.pointer (some ⟨H.r, 0, none⟩)) ∧ U.cell? ⟨u4.heap.size, 0, none⟩ = some (.int .i64 nx) ∧ U.cell? ⟨u4.heap.size, 1, none⟩ = some (.int .u64 (o.wh : Int)) ∧ U.cell? ⟨u4.heap.size, 2, none⟩ = some (.int .u64 (o.wl : Int))) := fun U hU hd1 => by
    have hz := (HG5.out U N4 (Went.stay hU)).zero
    rcases hd1 with h1 | h1
    · exact ⟨h1.t2.c0, hz⟩
    · exact ⟨h1.t2.c0, hz⟩
  go_region_held3 (fun U => U.cell? ⟨H.rb, 0, none⟩ = some (.pointer (some ⟨H.r, 0, none⟩)) ∧ U.cell? ⟨u4.heap.size, 0, none⟩ = some (.int .i64 nx) ∧ U.cell? ⟨u4.heap.size, 1, none⟩ = some (.int .u64 (o.wh : Int)) ∧ U.cell? ⟨u4.heap.size, 2, none⟩ = some (.int .u64 (o.wl : Int))) (first | exact HSd.out _ HW7.out (.inr HD7.out) | exact HSd.out _ (HW6.out.trans (But.of (Below.refl _ _).drew)) (.inl (HD6.out.later (Below.refl _ _).drew)) | exact HSd.out _ HW6.out (.inl HD6.out)) (first
    | (go_at_call 39; refine (HC4.out _ N4 (HD6.out.later (Below.refl _ _).drew)).mono ?_; rintro e u7 ⟨rfl, hd7, hw7⟩; have HD7 := hid hd7; have HW7 := hid ((HW6.out.trans (But.of (S := N4) (Below.refl u6.heap.size u6).drew)).trans hw7); clear hd7 hw7))
  have t1 := HD7.out.t1.c1
  go_wp2_with (first
    | (go_at_call 41; refine (HC6.out _ N4 HD8.out).mono ?_; rintro e u9 ⟨rfl, N9, hd9, hw9⟩; have HD9 := hid hd9; have HW9 := hid (HW8.out.trans hw9); clear hd9 hw9)
    | (go_at_call 40; refine (HC5.out _ N4 HD7.out).mono ?_; rintro e u8 ⟨rfl, hd8, hw8⟩; have HD8 := hid hd8; have HW8 := hid (Went.stay (HW7.out.trans hw8)); have t2 := hd8.t2.c1; clear hd8 hw8))
  go_ret
  exact ⟨rfl, N9, HD9.out, (Went.later (N := N) HB0.out).trans (HW5.out.trans HW9.out)⟩
end Go.Proofs.YtnjadfgfpebkdaaGreat.D
namespace Go.Proofs.YtnjadfgfpebkdaaGreat.D
open Go.RowKit
open Go.Proofs.YtnjadfgfpebkdaaGreat.H (B64 Cp)
set_option linter.unusedVariables false

set_option maxRecDepth 100000 in
set_option maxHeartbeats 2000000 in
/-- No child: there is no such object, or the quota is full. -/
theorem growC_no {w : World} {H : Hd} {s : Sta} {T : Nat} {N : Nat → Prop} (h : Duo w H s s T N) (hv : Inv H.mo s.X s.l) (o : Opr) (hk6 : o.kd ≠ 6) (hk0 : o.kd ≠ 0) (hno : ofL H.mo s.X s.l o.ob = [] ∨ Q.may 256 (H.mo : Int) s.L o.ob ≠ 0) :
    Calls Tryz.prog 8 #[.pointer (some ⟨H.sb, 0, none⟩), .pointer (some ⟨H.rb, 0, none⟩), opV o] w (Grew w H s T N) := by
  obtain ⟨w0, hw0⟩ : ∃ w0, w0 = w.alloc (Obj.cells (opC o) 29) := ⟨_, rfl⟩
  have hB0 : Below w.heap.size w w0 := by rw [hw0]; exact below1 _ _
  have hob : OpB w0 w.heap.size 0 o := by rw [hw0]; exact opb_new w o 29
  have hb6 : (o.kd == 6) = false := by simp [hk6]
  have hb0 : (o.kd == 0) = false := by simp [hk0]
  have HB0 := hid hB0
  have HD := hid h
  have HD0 := hid (h.later hB0)
  have HOB := hid hob
  have x0 := hob.zero.1
  have HOf : Hid (∀ (U : World), Below w0.heap.size w0 U → Calls Tryz.prog 20 #[.pointer (some ⟨H.r, 0, none⟩), .int .i64 o.ob] U fun e w' => ∃ a c, e = .returned (.slice a (ofL H.mo s.X s.l o.ob).length c) ∧ Ow w' U.heap.size 47 5 a (ofL H.mo s.X s.l o.ob).length c (toks (ofL H.mo s.X s.l o.ob)) ∧ Below U.heap.size U w') := fun U hU => by
    obtain ⟨wh, ev, hr, ht⟩ := (HD0.out.later hU).rc
    exact rof_any hr hv ht o.ob
  obtain ⟨E, hE⟩ : ∃ E, E = Q.may 256 (H.mo : Int) s.L o.ob := ⟨_, rfl⟩
  have HMy : Hid (∀ (U : World), Below w0.heap.size w0 U → Calls Tryz.prog 42 #[.pointer (some ⟨H.q, 0, none⟩), .int .i64 o.ob] U fun e w' => e = .returned (.int .i64 E) ∧ Below U.heap.size U w') := fun U hU => by
    obtain ⟨pa, cap, hq⟩ := (HD0.out.later hU).rq
    rw [hE]
    exact Q.rmay_any hq o.ob
  have HS1 : Hid (∀ U, Below w0.heap.size w0 U → U.cell? ⟨H.rb, 0, none⟩ = some (.pointer (some ⟨H.r, 0, none⟩)) ∧ U.cell? ⟨H.rb, 1, none⟩ = some (.pointer (some ⟨H.q, 0, none⟩)) ∧ U.cell? ⟨w.heap.size, 1, none⟩ = some (.int .i64 o.ob)) := fun U hU => ⟨(HD0.out.later hU).t2.c0, (HD0.out.later hU).t2.c1, (HOB.out.later hU).zero.2.1⟩
  rw [← hE] at hno
  obtain ⟨O, hO⟩ : ∃ O, O = ofL H.mo s.X s.l o.ob := ⟨_, rfl⟩
  rw [← hO] at HOf hno
  obtain ⟨n, hn⟩ : ∃ n, n = O.length := ⟨_, rfl⟩
  rw [← hn] at HOf
  unfold opV Grew
  clear h hk6 hk0 hB0 hob hO hE hv
  by_cases hz : n = 0
  · have hd : ((n : Int) == 0) = true := by simp [hz]
    clear hno hn hz
    go_enter Tryz.func8, Tryz.ntmps8
    go_upto_region 1 with fail
    rw [← hw0]
    clear hw0
    go_upto_region 17 with fail
    go_region_held3 (fun U => U.cell? ⟨H.rb, 0, none⟩ = some (.pointer (some ⟨H.r, 0, none⟩)) ∧ U.cell? ⟨H.rb, 1, none⟩ = some (.pointer (some ⟨H.q, 0, none⟩)) ∧ U.cell? ⟨w.heap.size, 1, none⟩ = some (.int .i64 o.ob)) (first | exact HS1.out _ HB1.out | exact HS1.out _ (Below.refl _ _).drew | exact HS1.out _ (Below.refl _ _)) (first
      | (go_at_call 20; refine (HOf.out _ (Below.refl _ _).drew).mono ?_; rintro e u1 ⟨a, c, rfl, hO1, hb1⟩; have HB1 := hid (below_call (Below.refl w0.heap.size w0).drew hb1); clear hO1 hb1))
    go_upto_region 18 with fail
    go_quiet (fail)
    go_wp2
    go_ret
    exact ⟨rfl, N, (HD.out.mono (Nat.le_succ _)).later (below_drewN (below_call HB0.out HB1.out) nq), Went.later (below_drewN (below_call HB0.out HB1.out) nq)⟩
  · have hE0 : E ≠ 0 := by
      rcases hno with e | e
      · rw [e] at hn; exact absurd hn hz
      · exact e
    have hd : ((n : Int) == 0) = false := by simp [hz]
    have hEE : (E != 0) = true := by simp [hE0]
    clear hno hn hz hE0
    go_enter Tryz.func8, Tryz.ntmps8
    go_upto_region 1 with fail
    rw [← hw0]
    clear hw0
    go_upto_region 17 with fail
    go_region_held3 (fun U => U.cell? ⟨H.rb, 0, none⟩ = some (.pointer (some ⟨H.r, 0, none⟩)) ∧ U.cell? ⟨H.rb, 1, none⟩ = some (.pointer (some ⟨H.q, 0, none⟩)) ∧ U.cell? ⟨w.heap.size, 1, none⟩ = some (.int .i64 o.ob)) (first | exact HS1.out _ HB1.out | exact HS1.out _ (Below.refl _ _).drew | exact HS1.out _ (Below.refl _ _)) (first
      | (go_at_call 20; refine (HOf.out _ (Below.refl _ _).drew).mono ?_; rintro e u1 ⟨a, c, rfl, hO1, hb1⟩; have HB1 := hid (below_call (Below.refl w0.heap.size w0).drew hb1); clear hO1 hb1))
    go_upto_region 18 with fail
    go_region_held3 (fun U => U.cell? ⟨H.rb, 0, none⟩ = some (.pointer (some ⟨H.r, 0, none⟩)) ∧ U.cell? ⟨H.rb, 1, none⟩ = some (.pointer (some ⟨H.q, 0, none⟩)) ∧ U.cell? ⟨w.heap.size, 1, none⟩ = some (.int .i64 o.ob)) (first | exact HS1.out _ HB2.out | exact HS1.out _ (below_call HB1.out (Below.refl _ _).drew) | exact HS1.out _ HB1.out) (first
      | (go_at_call 42; refine (HMy.out _ (below_call HB1.out (Below.refl _ _).drew)).mono ?_; rintro e u2 ⟨rfl, hb2⟩; have HB2 := hid (below_call (below_call HB1.out (Below.refl _ _).drew) hb2); clear hb2))
    go_wp2
    go_ret
    exact ⟨rfl, N, (HD.out.mono (Nat.le_succ _)).later (below_call HB0.out HB2.out), Went.later (below_call HB0.out HB2.out)⟩
end Go.Proofs.YtnjadfgfpebkdaaGreat.D
