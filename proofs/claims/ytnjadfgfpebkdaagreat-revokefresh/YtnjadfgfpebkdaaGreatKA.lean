import Derived.Test.YtnjadfgfpebkdaaGreatGA
import Derived.Test.YtnjadfgfpebkdaaGreatGB
import Derived.Test.YtnjadfgfpebkdaaGreatG4
import Derived.Test.YtnjadfgfpebkdaaGreatG6
namespace Go.Proofs.YtnjadfgfpebkdaaGreat.D
open Go.RowKit
open Go.Proofs.YtnjadfgfpebkdaaGreat.H (B64 Cp)
set_option linter.unusedVariables false

theorem Duo.nx1 {w : World} {H : Hd} {s d : Sta} {T : Nat} {N : Nat → Prop} (h : Duo w H s d T N) : 1 ≤ d.nx := by
  obtain ⟨G, a, cap, col, hr⟩ := h.rs
  exact hr.nx1.1
/-- grow. -/
theorem grow_any {w : World} {H : Hd} {s : Sta} {T : Nat} {N : Nat → Prop} (h : Duo w H s s T N) (hf : Fit H.mo s) (hT : T < 9223372036854775807) (o : Opr) (ok : o.Ok) :
    Calls Tryz.prog 8 #[.pointer (some ⟨H.sb, 0, none⟩), .pointer (some ⟨H.rb, 0, none⟩), opV o] w (Grew w H (growS H.mo s o) T N) := by
  by_cases k6 : o.kd = 6
  · exact grow6 h o ok k6
  · by_cases k0 : o.kd = 0
    · by_cases hq : (H.mo : Int) ≤ (s.L.length : Int)
      · have e : growS H.mo s o = s := by unfold growS; rw [if_neg k6, if_pos k0, if_pos hq]
        rw [e]
        exact grow0_full h o k0 hq
      · by_cases hm : S.mayV 8 64 s.nx s.V (intoN o.sz 200 : Int) = 0
        · have e : growS H.mo s o = addS s (s.nx, o.wh, o.wl) (-1) 31 (s.nx + 1) (s.V ++ [(s.nx, List.replicate (intoN o.sz 200) 0)]) := by unfold growS; rw [if_neg k6, if_pos k0, if_neg hq, if_neg (by rw [hm]; decide)]
          rw [e]
          exact grow0_ok h hf h.nx1 hT o ok k0 hq hm
        · have e : growS H.mo s o = s := by unfold growS; rw [if_neg k6, if_pos k0, if_neg hq, if_pos hm]
          rw [e]
          exact grow0_bad h o k0 hq hm
    · by_cases hno : ofL H.mo s.X s.l o.ob = [] ∨ Q.may 256 (H.mo : Int) s.L o.ob ≠ 0
      · have e : growS H.mo s o = s := by unfold growS; rw [if_neg k6, if_neg k0, if_pos hno]
        rw [e]
        exact growC_no h hf.inv o k6 k0 hno
      · have e : growS H.mo s o = if (chR H.mo s o).code ≠ 0 then s else addS s (chC o) (findN s.X s.l (upC H.mo s o)) o.rt s.nx s.V := by unfold growS; rw [if_neg k6, if_neg k0, if_neg hno]
        rw [e]
        exact growC_yes h hf hT o ok k6 k0 (fun e => hno (.inl e)) (Classical.byContradiction fun e => hno (.inr e))
theorem revA_fit {mo : Nat} {s : Sta} (h : Fit mo s) (all : Bool) (c : Cp) (hi : Inv mo (revA all s c).s.X (revA all s c).s.l) : Fit mo (revA all s c).s ∧ (revA all s c).s.nx = s.nx := by
  unfold revA at hi ⊢
  by_cases h1 : hasC s.X s.l c = false
  · rw [if_pos h1]; exact ⟨h, rfl⟩
  · rw [if_neg h1] at hi ⊢
    by_cases h2 : partB (needB all) (rg s.X (findN s.X s.l c)) = false
    · rw [if_pos h2]; exact ⟨h, rfl⟩
    · rw [if_neg h2] at hi ⊢
      have hw := whom_in h.inv (by simpa using h1) all
      exact ⟨(felled_fit h hw.1 hw.2.1 hi).1, rfl⟩
theorem word_any (n : Nat) (x : Int) (hx : x = (n : Int)) (w : World) : Calls Tryz.prog 26 #[.int .u64 x] w fun e w' => e = .returned (.agg #[.int .i64 1, .int .u64 0, .int .u64 x]) ∧ Below w.heap.size w w' := by
  obtain ⟨w0, hw0⟩ : ∃ w0, w0 = w.alloc (Obj.cells #[.int .i64 0, .int .u64 0, .int .u64 0] 27) := ⟨_, rfl⟩
  have hB0 : Below w.heap.size w w0 := by rw [hw0]; exact below1 _ _
  have y0 : w0.cell? ⟨w.heap.size, 0, none⟩ = some (.int .i64 0) := by rw [hw0]; simp [go_sem]
  have y1 : w0.cell? ⟨w.heap.size, 1, none⟩ = some (.int .u64 0) := by rw [hw0]; simp [go_sem]
  have y2 : w0.cell? ⟨w.heap.size, 2, none⟩ = some (.int .u64 0) := by rw [hw0]; simp [go_sem]
  have f0 : w0.frozen? ⟨w.heap.size, 0, none⟩ = false := by rw [hw0]; simp [go_sem]
  have f1 : w0.frozen? ⟨w.heap.size, 1, none⟩ = false := by rw [hw0]; simp [go_sem]
  have f2 : w0.frozen? ⟨w.heap.size, 2, none⟩ = false := by rw [hw0]; simp [go_sem]
  obtain ⟨W, hW⟩ : ∃ W, W = ((w0.setCell ⟨w.heap.size, 0, none⟩ (.int .i64 1)).setCell ⟨w.heap.size, 1, none⟩ (.int .u64 0)).setCell ⟨w.heap.size, 2, none⟩ (.int .u64 x) := ⟨_, rfl⟩
  have r0 : W.cell? ⟨w.heap.size, 0, none⟩ = some (.int .i64 1) := by rw [hW]; exact cell_ne (cell_ne (World.cell?_setCell_same _ _ _ y0) (by omega)) (by omega)
  have r1 : W.cell? ⟨w.heap.size, 1, none⟩ = some (.int .u64 0) := by rw [hW]; exact cell_ne (World.cell?_setCell_same _ _ _ (cell_ne y1 (by omega))) (by omega)
  have r2 : W.cell? ⟨w.heap.size, 2, none⟩ = some (.int .u64 x) := by rw [hW]; exact World.cell?_setCell_same _ _ _ (cell_ne (cell_ne y2 (by omega)) (by omega))
  have HBW : Hid (Below w.heap.size w W) := by
    unfold Hid
    rw [hW]
    exact But.below hB0 ((((But.refl (· = w.heap.size) w0).setCell (p := ⟨w.heap.size, 0, none⟩) rfl _).setCell (p := ⟨w.heap.size, 1, none⟩) rfl _).setCell (p := ⟨w.heap.size, 2, none⟩) rfl _) (fun k hk => by omega)
  clear hB0 hx
  go_enter Tryz.func26, Tryz.ntmps26
  go_upto_region 1 with fail
  rw [← hw0]
  clear hw0
  go_wp2
  rw [← hW]
  clear hW
  exact bodyPost_ret (v := .agg #[.int .i64 1, .int .u64 0, .int .u64 x]) (by simp [results, Tryz.results26, go_sem, r0, r1, r2]) rfl ⟨rfl, HBW.out⟩
/-- A literal of two capabilities. -/
theorem rd_lit2 (W : World) (x y : Cp) : Rd (W.alloc (Obj.cells #[.int .i64 x.1, .int .u64 (x.2.1 : Int), .int .u64 (x.2.2 : Int), .int .i64 y.1, .int .u64 (y.2.1 : Int), .int .u64 (y.2.2 : Int)] 27)) (some ⟨W.heap.size, 0, none⟩) 2 [x, y] :=
  ⟨rfl, fun _ => ⟨W.heap.size, 0, rfl, fun i c hi => by
    match i, hi with
    | 0, hi => cases hi; exact ⟨by simp [go_sem], by simp [go_sem], by simp [go_sem]⟩
    | 1, hi => cases hi; exact ⟨by simp [go_sem], by simp [go_sem], by simp [go_sem]⟩
    | i + 2, hi => simp at hi⟩⟩
end Go.Proofs.YtnjadfgfpebkdaaGreat.D
namespace Go.Proofs.YtnjadfgfpebkdaaGreat.D
open Go.RowKit
open Go.Proofs.YtnjadfgfpebkdaaGreat.H (B64 Cp)
set_option linter.unusedVariables false

/-! ### head -/
def opN : Nat → Opr
  | 0 => ⟨0, 0, 0, 0, 0, 0, 3, (0, 0, 0)⟩
  | 1 => ⟨1, 1, 0, 12, 0, 0, 5, (0, 0, 0)⟩
  | 2 => ⟨1, 1, 1, 4, 0, 0, 9, (0, 0, 0)⟩
  | _ => ⟨1, 1, 0, 16, 0, 0, 7, (0, 0, 0)⟩
theorem opN_ok : ∀ i, (opN i).Ok
  | 0 => ⟨by unfold S.i64ok; decide, by unfold S.i64ok; decide, by decide, by decide, by unfold S.i64ok; decide, by decide⟩
  | 1 => ⟨by unfold S.i64ok; decide, by unfold S.i64ok; decide, by decide, by decide, by unfold S.i64ok; decide, by decide⟩
  | 2 => ⟨by unfold S.i64ok; decide, by unfold S.i64ok; decide, by decide, by decide, by unfold S.i64ok; decide, by decide⟩
  | _ + 3 => by
    show Opr.Ok ⟨1, 1, 0, 16, 0, 0, 7, (0, 0, 0)⟩
    exact ⟨by unfold S.i64ok; decide, by unfold S.i64ok; decide, by decide, by decide, by unfold S.i64ok; decide, by decide⟩
def stN : Nat → Sta
  | 0 => s0 9
  | i + 1 => growS 9 (stN i) (opN i)
theorem stN_fit : ∀ i, Fit 9 (stN i) ∧ 1 ≤ (stN i).nx
  | 0 => ⟨fit0 9, by decide⟩
  | i + 1 => ⟨growS_fit (stN_fit i).1 (stN_fit i).2 (opN_ok i), growS_nx (stN_fit i).2 _⟩
theorem ans9 : revA false (stN 4) (1, 0, 9) = ⟨[], 4, stN 4⟩ := by kernel_rfl
theorem ans4 : revA false (stN 4) (1, 0, 4) = ⟨[], 3, stN 4⟩ := by kernel_rfl
theorem ans5K : (revA false (stN 4) (1, 0, 5)).K = [(1, 0, 5), (1, 0, 9)] := by kernel_rfl
theorem ans5c : (revA false (stN 4) (1, 0, 5)).code = 0 := by kernel_rfl
theorem ans7K : (revA true (revA false (stN 4) (1, 0, 5)).s (1, 0, 7)).K = [(1, 0, 3), (1, 0, 7)] := by kernel_rfl
theorem ans7c : (revA true (revA false (stN 4) (1, 0, 5)).s (1, 0, 7)).code = 0 := by kernel_rfl
theorem ans7L : (revA true (revA false (stN 4) (1, 0, 5)).s (1, 0, 7)).s.L = [] := by kernel_rfl
theorem ans7V : (revA true (revA false (stN 4) (1, 0, 5)).s (1, 0, 7)).s.V = [] := by kernel_rfl
def headC : Array Value := #[.int .i64 0, .int .i64 0, .int .i64 0, .int .i64 0, .int .i64 0, .int .u64 0, .int .u64 3, .int .i64 0, .int .u64 0, .int .u64 0, .int .i64 1, .int .i64 1, .int .i64 0, .int .i64 12, .int .i64 0, .int .u64 0, .int .u64 5, .int .i64 0, .int .u64 0, .int .u64 0, .int .i64 1, .int .i64 1, .int .i64 1, .int .i64 4, .int .i64 0, .int .u64 0, .int .u64 9, .int .i64 0, .int .u64 0, .int .u64 0, .int .i64 1, .int .i64 1, .int .i64 0, .int .i64 16, .int .i64 0, .int .u64 0, .int .u64 7, .int .i64 0, .int .u64 0, .int .u64 0]
theorem head_row (w : World) : ∀ i, i < 4 → OpB (w.alloc (Obj.cells headC 29)) w.heap.size (i * 10) (opN i)
  | 0, _ => by unfold headC; exact ⟨by simp [go_sem, opN], by simp [go_sem, opN], by simp [go_sem, opN], by simp [go_sem, opN], by simp [go_sem, opN], by simp [go_sem, opN], by simp [go_sem, opN], by simp [go_sem, opN], by simp [go_sem, opN], by simp [go_sem, opN]⟩
  | 1, _ => by unfold headC; exact ⟨by simp [go_sem, opN], by simp [go_sem, opN], by simp [go_sem, opN], by simp [go_sem, opN], by simp [go_sem, opN], by simp [go_sem, opN], by simp [go_sem, opN], by simp [go_sem, opN], by simp [go_sem, opN], by simp [go_sem, opN]⟩
  | 2, _ => by unfold headC; exact ⟨by simp [go_sem, opN], by simp [go_sem, opN], by simp [go_sem, opN], by simp [go_sem, opN], by simp [go_sem, opN], by simp [go_sem, opN], by simp [go_sem, opN], by simp [go_sem, opN], by simp [go_sem, opN], by simp [go_sem, opN]⟩
  | 3, _ => by unfold headC; exact ⟨by simp [go_sem, opN], by simp [go_sem, opN], by simp [go_sem, opN], by simp [go_sem, opN], by simp [go_sem, opN], by simp [go_sem, opN], by simp [go_sem, opN], by simp [go_sem, opN], by simp [go_sem, opN], by simp [go_sem, opN]⟩
  | i + 4, h => absurd h (by omega)
def HeadI (w : World) (H : Hd) (lb : Nat) (t : Value) (W : World) : Prop :=
  ∃ (i : Nat) (N : Nat → Prop), i ≤ 4 ∧ t = .int .i64 (i : Int) ∧ Duo W H (stN i) (stN i) i N ∧ ¬ N lb ∧ (∀ j, j < 4 → OpB W lb (j * 10) (opN j)) ∧ Below w.heap.size w W
set_option maxRecDepth 100000 in
set_option maxHeartbeats 4000000 in
theorem head_any (w : World) : Calls Tryz.prog 6 #[] w fun e w' => e = .returned (.bool true) ∧ Below w.heap.size w w' := by
  have HMd := hid (made_any 8 3 w)
  have e9 : 1 + intoN 8 256 = 9 := by decide
  rw [e9] at HMd
  have hrow := head_row
  have HRow := hid hrow
  have e1 : headC = headC := rfl
  conv at e1 => rhs; unfold headC
  clear e9 hrow
  go_enter Tryz.func6, Tryz.ntmps6
  go_upto_region 4 with (first
    | (go_at_call 7; refine HMd.out.mono ?_; rintro e w1 ⟨H, N, rfl, hmo, hbase, hd1, hb1, hs1, hs2⟩; have HD1 := hid hd1; have HB1 := hid hb1; have HMo := hid hmo; have HBa := hid hbase; clear hd1 hb1 hs1 hs2 hmo hbase))
  go_upto_region 6 with fail
  rw [← e1]
  clear e1
  obtain ⟨w2, hw2⟩ : ∃ w2, w2 = w1.alloc (Obj.cells headC 29) := ⟨_, rfl⟩
  have hb2 : Below w1.heap.size w1 w2 := by rw [hw2]; exact below1 _ _
  have hr2 : ∀ j, j < 4 → OpB w2 w1.heap.size (j * 10) (opN j) := by rw [hw2]; exact HRow.out w1
  rw [← hw2]
  obtain ⟨lb, hlb⟩ : ∃ lb, lb = w1.heap.size := ⟨_, rfl⟩
  have HNl : Hid (¬ N lb) := fun e => by have := HD1.out.rng _ e; omega
  rw [← hlb] at hr2
  rw [← hlb]
  have HR2 := hid hr2
  have HD2 := hid (HD1.out.later hb2)
  have HB2 := hid (below_call HB1.out hb2)
  clear hw2 hb2 hr2 hlb HRow HD1 HB1 HMd
  go_loopw [4] (HeadI w H lb) (fun t _ => 4 - (intOf t).toNat)
  case atStart => exact ⟨0, N, by omega, rfl, HD2.out, HNl.out, HR2.out, HB2.out⟩
  case round =>
    obtain ⟨i, N3, hi, rfl, hd3, hl3, hr3, hB3⟩ := hrel
    have HD3 := hid hd3
    have HL3 := hid hl3
    have HR3 := hid hr3
    have HB3 := hid hB3
    clear hd3 hl3 hr3 hB3
    by_cases hi4 : i = 4
    · subst hi4
      have hd : decide (((4 : Nat) : Int) < 4) = false := by decide
      have S9 := hid ans9
      have HT9 := hid (fun (U : World) (hU : Below wr.heap.size wr U) => token_any (HD3.out.later hU) (1, 0, 9) (by decide) (by unfold S.i64ok; decide))
      have HT4 := hid (fun (U : World) (hU : Duo U H (stN 4) (stN 4) 4 N3) => token_any hU (1, 0, 4) (by decide) (by unfold S.i64ok; decide))
      have HT5 := hid (fun (U : World) (hU : Duo U H (stN 4) (stN 4) 4 N3) => token_any hU (1, 0, 5) (by decide) (by unfold S.i64ok; decide))
      have HT7 := hid (fun (U : World) (hU : Duo U H (revA false (stN 4) (1, 0, 5)).s (stN 4) 4 N3) => object_any hU (1, 0, 7) (by decide) (by unfold S.i64ok; decide))
      unfold Took at HT9 HT4 HT5 HT7
      rw [ans9] at HT9
      rw [ans4] at HT4
      rw [ans5K, ans5c] at HT5
      rw [ans7K, ans7c] at HT7
      obtain ⟨s5, hs5⟩ : ∃ s5, s5 = (revA false (stN 4) (1, 0, 5)).s := ⟨_, rfl⟩
      obtain ⟨s7, hs7⟩ : ∃ s7, s7 = (revA true (revA false (stN 4) (1, 0, 5)).s (1, 0, 7)).s := ⟨_, rfl⟩
      have HL7 : Hid (s7.L = []) := by unfold Hid; rw [hs7]; exact ans7L
      have HV7 : Hid (s7.V = []) := by unfold Hid; rw [hs7]; exact ans7V
      rw [← hs7] at HT7
      rw [← hs5] at HT5 HT7
      obtain ⟨s4, hs4⟩ : ∃ s4, s4 = stN 4 := ⟨_, rfl⟩
      rw [← hs4] at HT9 HT4 HT5 HT7 HD3
      have W9 := hid (word_any 9 9 rfl)
      have W4 := hid (word_any 4 4 rfl)
      have W5 := hid (word_any 5 5 rfl)
      have W7 := hid (word_any 7 7 rfl)
      have W3 := hid (word_any 3 3 rfl)
      unfold cpV at HT9 HT4 HT5 HT7
      simp only [List.length_nil, List.length_cons, Nat.zero_add, Nat.reduceAdd] at HT9 HT4 HT5 HT7
      clear hi hs5 hs7 hs4 S9
      go_upto_region 10 with fail
      go_region_held3 (fun U => U.cell? ⟨H.sb, 0, none⟩ = some (.pointer (some ⟨H.A.g, 0, none⟩)) ∧ U.cell? ⟨H.sb, 1, none⟩ = some (.pointer (some ⟨H.qg, 0, none⟩)) ∧ U.cell? ⟨H.sb, 2, none⟩ = some (.pointer (some ⟨H.z.s, 0, none⟩))) (first | exact ⟨HD10.out.t1.c0, HD10.out.t1.c1, HD10.out.t1.c2⟩ | exact ⟨HE10.out.t1.c0, HE10.out.t1.c1, HE10.out.t1.c2⟩ | exact ⟨(HD3.out.later (Below.refl _ _).drew).t1.c0, (HD3.out.later (Below.refl _ _).drew).t1.c1, (HD3.out.later (Below.refl _ _).drew).t1.c2⟩ | exact ⟨HD3.out.t1.c0, HD3.out.t1.c1, HD3.out.t1.c2⟩) (first
        | (go_at_call 13; refine (HT9.out _ HBx10.out).mono ?_; rintro e y10 ⟨a10, c10, rfl, hO, hd, hb⟩; have HD10 := hid hd; have HO10 := hid hO; have HY10 := hid ((But.of (S := N3) HBx10.out).trans hb); clear hO hd hb)
        | (go_at_call 26; refine (W9.out _).mono ?_; rintro e x10 ⟨rfl, hb⟩; have HBx10 := hid (below_call (Below.refl wr.heap.size wr).drew hb); have HE10 := hid (HD3.out.later (below_call (Below.refl wr.heap.size wr).drew hb)); clear hb))
      go_upto_region 11 with fail
      go_region_held3 (fun U => U.cell? ⟨H.sb, 0, none⟩ = some (.pointer (some ⟨H.A.g, 0, none⟩)) ∧ U.cell? ⟨H.sb, 1, none⟩ = some (.pointer (some ⟨H.qg, 0, none⟩)) ∧ U.cell? ⟨H.sb, 2, none⟩ = some (.pointer (some ⟨H.z.s, 0, none⟩))) (first | exact ⟨HD11.out.t1.c0, HD11.out.t1.c1, HD11.out.t1.c2⟩ | exact ⟨HE11.out.t1.c0, HE11.out.t1.c1, HE11.out.t1.c2⟩ | exact ⟨(HD10.out.later (Below.refl _ _).drew).t1.c0, (HD10.out.later (Below.refl _ _).drew).t1.c1, (HD10.out.later (Below.refl _ _).drew).t1.c2⟩ | exact ⟨HD10.out.t1.c0, HD10.out.t1.c1, HD10.out.t1.c2⟩) (first
        | (go_at_call 13; refine (HT4.out _ HE11.out).mono ?_; rintro e y11 ⟨a11, c11, rfl, hO, hd, hb⟩; have HD11 := hid hd; have HO11 := hid hO; have HY11 := hid ((But.of (S := N3) HBx11.out).trans hb); clear hO hd hb)
        | (go_at_call 26; refine (W4.out _).mono ?_; rintro e x11 ⟨rfl, hb⟩; have HBx11 := hid (below_call (Below.refl y10.heap.size y10).drew hb); have HE11 := hid (HD10.out.later (below_call (Below.refl y10.heap.size y10).drew hb)); clear hb))
      go_upto_region 12 with fail
      go_region_held3 (fun U => U.cell? ⟨H.sb, 0, none⟩ = some (.pointer (some ⟨H.A.g, 0, none⟩)) ∧ U.cell? ⟨H.sb, 1, none⟩ = some (.pointer (some ⟨H.qg, 0, none⟩)) ∧ U.cell? ⟨H.sb, 2, none⟩ = some (.pointer (some ⟨H.z.s, 0, none⟩))) (first | exact ⟨HD12.out.t1.c0, HD12.out.t1.c1, HD12.out.t1.c2⟩ | exact ⟨HE12.out.t1.c0, HE12.out.t1.c1, HE12.out.t1.c2⟩ | exact ⟨(HD11.out.later (Below.refl _ _).drew).t1.c0, (HD11.out.later (Below.refl _ _).drew).t1.c1, (HD11.out.later (Below.refl _ _).drew).t1.c2⟩ | exact ⟨HD11.out.t1.c0, HD11.out.t1.c1, HD11.out.t1.c2⟩) (first
        | (go_at_call 13; refine (HT5.out _ HE12.out).mono ?_; rintro e y12 ⟨a12, c12, rfl, hO, hd, hb⟩; have HD12 := hid hd; have HO12 := hid hO; have HY12 := hid ((But.of (S := N3) HBx12.out).trans hb); clear hO hd hb)
        | (go_at_call 26; refine (W5.out _).mono ?_; rintro e x12 ⟨rfl, hb⟩; have HBx12 := hid (below_call (Below.refl y11.heap.size y11).drew hb); have HE12 := hid (HD11.out.later (below_call (Below.refl y11.heap.size y11).drew hb)); clear hb))
      go_upto_region 13 with fail
      go_region_held3 (fun U => U.cell? ⟨H.sb, 0, none⟩ = some (.pointer (some ⟨H.A.g, 0, none⟩)) ∧ U.cell? ⟨H.sb, 1, none⟩ = some (.pointer (some ⟨H.qg, 0, none⟩)) ∧ U.cell? ⟨H.sb, 2, none⟩ = some (.pointer (some ⟨H.z.s, 0, none⟩))) (first | exact ⟨HD13.out.t1.c0, HD13.out.t1.c1, HD13.out.t1.c2⟩ | exact ⟨HE13.out.t1.c0, HE13.out.t1.c1, HE13.out.t1.c2⟩ | exact ⟨(HD12.out.later (Below.refl _ _).drew).t1.c0, (HD12.out.later (Below.refl _ _).drew).t1.c1, (HD12.out.later (Below.refl _ _).drew).t1.c2⟩ | exact ⟨HD12.out.t1.c0, HD12.out.t1.c1, HD12.out.t1.c2⟩) (first
        | (go_at_call 12; refine (HT7.out _ HE13.out).mono ?_; rintro e y13 ⟨a13, c13, rfl, hO, hd, hb⟩; have HD13 := hid hd; have HO13 := hid hO; have HY13 := hid ((But.of (S := N3) HBx13.out).trans hb); clear hO hd hb)
        | (go_at_call 26; refine (W7.out _).mono ?_; rintro e x13 ⟨rfl, hb⟩; have HBx13 := hid (below_call (Below.refl y12.heap.size y12).drew hb); have HE13 := hid (HD12.out.later (below_call (Below.refl y12.heap.size y12).drew hb)); clear hb))
      have HO12b := hid ((HO12.out.rd rfl).but HY13.out (fun k hk e => by have h1 := (HO12.out.blk k hk).1; have h2 := HD11.out.rng _ e; have h3 := HBx12.out.size; omega))
      have HO13b := hid (HO13.out.rd rfl)
      obtain ⟨Os, hst, hvw⟩ := HD13.out.st
      have hOs : Os = [] := by
        rw [HV7.out] at hvw
        unfold S.vw at hvw
        exact List.map_eq_nil_iff.1 hvw
      subst hOs
      have HAll := hid (fun (U : World) (hU : Below y13.heap.size y13 U) => Q.all_any (HD13.out.later hU).qu)
      rw [HL7.out] at HAll
      have HIds := hid (fun (U : World) (hU : Below y13.heap.size y13 U) => S.st_ids H.z s7.nx [] U (hst.later hU))
      have t1 := HD13.out.t1.c1
      have t2 := HD13.out.t1.c2
      have HSb := hid (fun (U : World) (hU : Below y13.heap.size y13 U) => (HD13.out.later hU).t1)
      have HBw : Hid (Below w.heap.size w y13) := HD3.out.went HB3.out (Went.stay (((HY10.out.trans HY11.out).trans HY12.out).trans HY13.out)) (Nat.le_of_eq HBa.out.symm)
      clear hvw hst
      simp only [List.length_nil, List.map_nil] at HAll HIds
      go_wp2_with (first
        | (go_at_call 9; refine (HIds.out _ HZ7.out).mono ?_; rintro e z8 ⟨a8, c8, rfl, _, hb⟩; have HZ8 := hid (below_call HZ7.out hb); clear hb)
        | (go_at_call 27; refine (HAll.out _ HZ6.out).mono ?_; rintro e z7 ⟨rfl, hb⟩; have HZ7 := hid (below_call HZ6.out hb); have t5 := (HSb.out z7 HZ7.out).c2; clear hb)
        | (go_at_call 24; have hq_ := mk5; clear hq_; refine (sameC_any _ _ (HO13b.out.later (HZ5.out.alloc HZ5.out.size _)) (rd_lit2 z5 (1, 0, 3) (1, 0, 7)) (by decide) (by decide)).mono ?_; rintro e z6 ⟨rfl, q6, hw6⟩; have HZ6 : Hid (Below y13.heap.size y13 z6) := (by unfold Hid; rw [hw6]; exact below_drewN (HZ5.out.alloc HZ5.out.size _) q6); have t4 := (HSb.out z6 HZ6.out).c1; rw [show decide (([(1, 0, 3), (1, 0, 7)] : List Cp) = [(1, 0, 3), (1, 0, 7)]) = true by decide]; clear hw6)
        | (go_at_call 26; have hq_ := mk4; clear hq_; refine (W7.out _).mono ?_; rintro e z5 ⟨rfl, hb⟩; have HZ5 := hid (below_call HZ4.out hb); clear hb; obtain ⟨mk5, _⟩ : ∃ m : Nat, m = 0 := ⟨0, rfl⟩)
        | (go_at_call 26; have hq_ := mk3; clear hq_; refine (W3.out _).mono ?_; rintro e z4 ⟨rfl, hb⟩; have HZ4 := hid (below_call HZ3.out hb); clear hb; obtain ⟨mk4, _⟩ : ∃ m : Nat, m = 0 := ⟨0, rfl⟩)
        | (go_at_call 24; refine (sameC_any _ _ (HO12b.out.later (HZ2.out.alloc HZ2.out.size _)) (rd_lit2 z2 (1, 0, 5) (1, 0, 9)) (by decide) (by decide)).mono ?_; rintro e z3 ⟨rfl, q3, hw3⟩; have HZ3 : Hid (Below y13.heap.size y13 z3) := (by unfold Hid; rw [hw3]; exact below_drewN (HZ2.out.alloc HZ2.out.size _) q3); rw [show decide (([(1, 0, 5), (1, 0, 9)] : List Cp) = [(1, 0, 5), (1, 0, 9)]) = true by decide]; clear hw3; obtain ⟨mk3, _⟩ : ∃ m : Nat, m = 0 := ⟨0, rfl⟩)
        | (go_at_call 26; have hq_ := mk1; clear hq_; refine (W9.out _).mono ?_; rintro e z2 ⟨rfl, hb⟩; have HZ2 := hid (below_call HZ1.out hb); clear hb)
        | (go_at_call 26; refine (W5.out _).mono ?_; rintro e z1 ⟨rfl, hb⟩; have HZ1 := hid hb; clear hb; obtain ⟨mk1, _⟩ : ∃ m : Nat, m = 0 := ⟨0, rfl⟩))
      go_ret
      exact ⟨rfl, below_call HBw.out HZ8.out⟩
    · have hi4' : i < 4 := by omega
      have hd : decide ((i : Int) < 4) = true := decide_eq_true (by omega)
      have hG := grow_any HD3.out (by rw [HMo.out]; exact (stN_fit i).1) (by omega) (opN i) (opN_ok i)
      rw [HMo.out] at hG
      have e2 : growS 9 (stN i) (opN i) = stN (i + 1) := rfl
      rw [e2] at hG
      obtain ⟨q0, q1, q2, q3, q4, q5, q6, q7, q8, q9⟩ := HR3.out i hi4'
      obtain ⟨o, ho⟩ : ∃ o, o = opN i := ⟨_, rfl⟩
      rw [← ho] at hG q0 q1 q2 q3 q4 q5 q6 q7 q8 q9
      unfold opV opC at hG
      have HG := hid hG
      have hlt : (i : Int) < 4 := by omega
      have HI := hid hi4'
      clear hG e2 ho hi hi4 hi4'
      go_wp2_with (first
        | (go_at_call 8; refine HG.out.mono ?_; rintro e w5 ⟨rfl, N5, hd5, hw5⟩; have HD5 := hid hd5; have HW5 := hid hw5; clear hd5 hw5))
      refine ⟨⟨i + 1, N5, HI.out, rfl, HD5.out, HW5.out.out (HR3.out i HI.out).lt HL3.out, fun j hj => (HR3.out j hj).but HW5.out.2 HL3.out, HD3.out.went HB3.out HW5.out (Nat.le_of_eq HBa.out.symm)⟩, ?_⟩
      have := HI.out
      simp [intOf]; omega
end Go.Proofs.YtnjadfgfpebkdaaGreat.D
