import Derived.Test.YtnjadfgfpebkdaaGreatGA
namespace Go.Proofs.YtnjadfgfpebkdaaGreat.D
open Go.RowKit
open Go.Proofs.YtnjadfgfpebkdaaGreat.H (B64 Cp)
set_option linter.unusedVariables false

/-! ### told -/
/-- What a round of told knows. -/
def ToldI (w w1 : World) (t : Value) (w' : World) : Prop := ∃ i : Nat, i ≤ 10 ∧ t = .int .i64 (i : Int) ∧ Below w.heap.size w w' ∧ Below w1.heap.size w1 w'
theorem szV_form (V : List (Int × List Nat)) (x : Int) : ∃ (sz : Nat) (ok : Bool), S.szV (S.atV V x) = .tuple #[.int .i64 (sz : Int), .bool ok] := by
  cases S.atV V x with
  | none => exact ⟨0, false, rfl⟩
  | some l => exact ⟨l.length, true, rfl⟩
theorem rvL_small {w : World} {base r room n : Nat} {nx : Int} {V : List (Int × List Nat)} {G : Int → Nat} {a : Option Addr} {cap : Nat} {col : Nat → Nat} (h : S.Rf w base r room n nx V G a cap col) (id off k : Int) : ∀ x ∈ S.rvL V id off k, x < 256 := by
  intro x hx
  unfold S.rvL at hx
  cases ho : S.atV V id with
  | none => rw [ho] at hx; simp at hx
  | some l =>
    rw [ho] at hx
    simp only at hx
    unfold S.atV at ho
    cases hf : V.find? (fun p => decide (p.1 = id)) with
    | none => rw [hf] at ho; simp at ho
    | some q =>
      rw [hf] at ho
      simp only [Option.map_some, Option.some.injEq] at ho
      have hm := List.mem_of_find?_eq_some hf
      split at hx
      · rw [← ho] at hx
        exact h.small q hm x (List.mem_of_mem_drop (List.mem_of_mem_take hx))
      · cases hx
set_option maxRecDepth 100000 in
set_option maxHeartbeats 4000000 in
theorem told_any {w : World} {H : Hd} {s : Sta} {T : Nat} {N : Nat → Prop} (h : Duo w H s s T N) (hv : Inv H.mo s.X s.l) :
    Calls Tryz.prog 15 #[.pointer (some ⟨H.sb, 0, none⟩), .pointer (some ⟨H.rb, 0, none⟩)] w fun e w' => e = .returned (.bool true) ∧ Below w.heap.size w w' := by
  obtain ⟨Os, hst, hvw⟩ := h.st
  obtain ⟨G6, a6, c6, col6, hrs⟩ := h.rs
  obtain ⟨wh, ev, hr, ht⟩ := h.rc
  obtain ⟨pa, cap, hq⟩ := h.rq
  have hz := h.hz
  have HC : Hid (∀ U, Below w.heap.size w U → Tp U H.sb H.A.g H.qg H.z.s ∧ Tp U H.rb H.r H.q H.v ∧ U.cell? ⟨H.q, 2, none⟩ = some (.slice pa s.L.length cap) ∧ U.cell? ⟨H.v, 3, none⟩ = some (.int .i64 s.nx)) := fun U hU => ⟨h.t1.later hU, h.t2.later hU, cell_later hU hq.c2.1, cell_later hU hrs.c3.1⟩
  have hvl : Os.length = s.V.length := by rw [← hvw, S.vw_length]
  have hus : S.usedN Os = S.usedV s.V := by rw [← hvw, S.vw_used]
  have k1 := hid (fun (U : World) (hU : Below w.heap.size w U) => S.rids_any _ _ _ _ _ _ _ _ _ _ U (hrs.later hU))
  have k2 : Hid (∀ (U : World), Below w.heap.size w U → Calls Tryz.prog 9 #[.pointer (some ⟨H.z.s, 0, none⟩)] U fun e w' => ∃ a c, e = .returned (.slice a s.V.length c) ∧ Below U.heap.size U w') := fun U hU => by
    refine (S.st_ids H.z s.nx Os U (hst.later hU)).mono ?_
    rintro e w' ⟨a, c, rfl, _, hb⟩
    exact ⟨a, c, by rw [hvl], hb⟩
  have k3 := hid (fun (U : World) (hU : Below w.heap.size w U) => ccount_any (h.later hU).cat)
  have k4 := hid (fun (U : World) (hU : Below w.heap.size w U) => rcount_any (hr.later hU) hv.ok)
  have k5 := hid (fun (U : World) (hU : Below w.heap.size w U) => Q.all_any (h.later hU).qu)
  have k6 : Hid (∀ (U : World), Below w.heap.size w U → Calls Tryz.prog 57 #[.pointer (some ⟨H.z.s, 0, none⟩)] U fun e w' => e = .returned (.int .i64 (64 - (S.usedV s.V : Int))) ∧ Below U.heap.size U w') := fun U hU => by
    refine (S.st_free H.z s.nx Os U (hst.later hU)).mono ?_
    rintro e w' ⟨rfl, hb⟩
    have hu := hst.used
    rw [hz.1, hus] at hu
    refine ⟨?_, hb⟩
    rw [hz.1, hus]
    congr 3
    omega
  have k7 := hid (fun (U : World) (hU : Below w.heap.size w U) => S.rfree_any _ _ _ _ _ _ _ _ _ _ U (hrs.later hU))
  have k8 := hid (fun (U : World) (hU : Below w.heap.size w U) => S.st_next H.z s.nx Os U (hst.later hU))
  obtain ⟨n5, hn5⟩ : ∃ n5, n5 = s.V.length := ⟨_, rfl⟩
  have hrm := hrs.rm
  have hidsok : ∀ p ∈ s.V, S.i64ok p.1 := fun p hp => by
    have h1 := hrs.ids p hp
    have h2 := hrs.nx1
    unfold S.i64ok
    omega
  -- what a round asks
  have k9 := hid (fun (U : World) (hU : Below w.heap.size w U) (x : Int) => S.rsize_any _ _ _ _ _ _ _ _ _ _ x U (hrs.later hU))
  have k10 : Hid (∀ (U : World), Below w.heap.size w U → ∀ x, S.i64ok x → Calls Tryz.prog 18 #[.pointer (some ⟨H.z.s, 0, none⟩), .int .i64 x] U fun e w' => e = .returned (S.szV (S.atV s.V x)) ∧ Below U.heap.size U w') := fun U hU x hx => by
    have := S.st_size H.z s.nx Os x U (hst.later hU) hx
    rw [← hvw, S.vw_at]
    cases ho : S.at? Os x with
    | none => rw [ho] at this; exact this
    | some o9 => rw [ho] at this; exact this
  have k11 := hid (fun (U : World) (hU : Below w.heap.size w U) (x k : Int) => S.rread_any _ _ _ _ _ _ _ _ _ _ x 0 k U (hrs.later hU) (by unfold S.i64ok; decide))
  have k12 : Hid (∀ (U : World), Below w.heap.size w U → ∀ x k, S.i64ok x → Calls Tryz.prog 62 #[.pointer (some ⟨H.z.s, 0, none⟩), .int .i64 x, .int .i64 0, .int .i64 k] U fun e w' => ∃ a c, e = .returned (.tuple #[.slice a (S.rvL s.V x 0 k).length c, .int .i64 (S.rvE s.V x 0 k)]) ∧ Own w' U.heap.size 5 a (S.rvL s.V x 0 k).length c (S.u8s (S.rvL s.V x 0 k)) ∧ Below U.heap.size U w') := fun U hU x k hx => by
    have := S.st_read H.z s.nx Os x 0 k U (hst.later hU) hx
    rw [← S.vw_rdE, ← S.vw_rdL, hvw] at this
    exact this
  have k13 := hid (fun (U : World) (hU : Below w.heap.size w U) (x : Int) (hx : S.i64ok x) => Q.of_any (h.later hU).qu x (wf_of hx))
  have k14 := hid (fun (U : World) (hU : Below w.heap.size w U) (x : Int) => Q.rof_any (hq.later hU) x)
  have k15 := hid (fun (U : World) (hU : Below w.heap.size w U) (x : Int) => cof_any (h.later hU).cat x)
  have k16 := hid (fun (U : World) (hU : Below w.heap.size w U) (x : Int) => rof_any (hr.later hU) hv ht x)
  have hsmall := hid (fun (x k : Int) => rvL_small hrs x 0 k)
  have hlenO := hid (fun (x : Int) => Nat.le_trans (len_small hv x) h.hmo.2)
  have HIds := hid hidsok
  have hn8 : n5 ≤ 8 := by rw [hn5]; exact hrm.1
  have k9s := hid (fun x => szV_form s.V x)
  rw [← hn5] at k1 k2
  have HN5 := hid hn5
  have HIL : Hid ((ints (List.map Prod.fst s.V)).length = n5) := by unfold Hid; rw [ints_length, List.length_map, hn5]
  obtain ⟨VV, hVV⟩ : ∃ VV, VV = s.V := ⟨_, rfl⟩
  rw [← hVV] at k1 k6 k7 k9 k10 k11 k12 hsmall HIds k9s HN5 HIL
  obtain ⟨us, hus2⟩ : ∃ us, us = S.usedV VV := ⟨_, rfl⟩
  rw [← hus2] at k6 k7
  have e64 : ((64 : Nat) : Int) = 64 := rfl
  rw [e64] at k7
  obtain ⟨fr, hfr⟩ : ∃ fr : Int, fr = 64 - (us : Int) := ⟨_, rfl⟩
  rw [← hfr] at k6 k7
  obtain ⟨ll, hll⟩ : ∃ ll, ll = List.length s.l := ⟨_, rfl⟩
  rw [← hll] at k3 k4
  obtain ⟨lq, hlq⟩ : ∃ lq, lq = s.L.length := ⟨_, rfl⟩
  rw [← hlq] at k5 HC
  obtain ⟨nx, hnx⟩ : ∃ nx, nx = s.nx := ⟨_, rfl⟩
  rw [← hnx] at k8 HC
  have m1 : ((n5 : Int) != (n5 : Int)) = false := by simp
  have m2 : ((ll : Int) != (ll : Int)) = false := by simp
  have m3 : ((lq : Int) != (lq : Int)) = false := by simp
  have m4 : (fr != fr) = false := by simp
  have m5 : (nx != nx) = false := by simp
  have HCw : Hid (∀ U, Below w.heap.size w U → (U.cell? ⟨H.sb, 0, none⟩ = some (.pointer (some ⟨H.A.g, 0, none⟩)) ∧ U.cell? ⟨H.sb, 1, none⟩ = some (.pointer (some ⟨H.qg, 0, none⟩)) ∧ U.cell? ⟨H.sb, 2, none⟩ = some (.pointer (some ⟨H.z.s, 0, none⟩)) ∧ U.cell? ⟨H.rb, 0, none⟩ = some (.pointer (some ⟨H.r, 0, none⟩)) ∧ U.cell? ⟨H.rb, 1, none⟩ = some (.pointer (some ⟨H.q, 0, none⟩)) ∧ U.cell? ⟨H.rb, 2, none⟩ = some (.pointer (some ⟨H.v, 0, none⟩)) ∧ U.cell? ⟨H.q, 2, none⟩ = some (.slice pa lq cap) ∧ U.cell? ⟨H.v, 3, none⟩ = some (.int .i64 nx)) ∧ Below w.heap.size w U) := fun U hU => ⟨⟨(HC.out U hU).1.c0, (HC.out U hU).1.c1, (HC.out U hU).1.c2, (HC.out U hU).2.1.c0, (HC.out U hU).2.1.c1, (HC.out U hU).2.1.c2, (HC.out U hU).2.2⟩, hU⟩
  obtain ⟨⟨y0, y1, y2, y3, y4, y5, y6, y7⟩, _⟩ := HCw.out w (Below.refl _ _)
  clear h hst hrs hr ht hq hz hvl hus hn5 hVV hus2 hfr hll hlq hnx hrm hidsok hv hvw e64
  go_enter Tryz.func15, Tryz.ntmps15
  go_upto_region 2 with (first
    | (go_at_call 54; refine (k1.out w (Below.refl _ _)).mono ?_; rintro e w1 ⟨a5, c5, rfl, hO5, hb1⟩; have HO5 := hid hO5; have HB1 := hid hb1; clear hO5 hb1 y0 y1 y2 y3 y4 y5 y6 y7))
  simp only [List.append]
  go_region_held3 (fun U => (U.cell? ⟨H.sb, 0, none⟩ = some (.pointer (some ⟨H.A.g, 0, none⟩)) ∧ U.cell? ⟨H.sb, 1, none⟩ = some (.pointer (some ⟨H.qg, 0, none⟩)) ∧ U.cell? ⟨H.sb, 2, none⟩ = some (.pointer (some ⟨H.z.s, 0, none⟩)) ∧ U.cell? ⟨H.rb, 0, none⟩ = some (.pointer (some ⟨H.r, 0, none⟩)) ∧ U.cell? ⟨H.rb, 1, none⟩ = some (.pointer (some ⟨H.q, 0, none⟩)) ∧ U.cell? ⟨H.rb, 2, none⟩ = some (.pointer (some ⟨H.v, 0, none⟩)) ∧ U.cell? ⟨H.q, 2, none⟩ = some (.slice pa lq cap) ∧ U.cell? ⟨H.v, 3, none⟩ = some (.int .i64 nx)) ∧ Below w.heap.size w U) (first | exact HCw.out _ HB8.out | exact HCw.out _ HB7.out | exact HCw.out _ HB6.out | exact HCw.out _ HB5.out | exact HCw.out _ HB4.out | exact HCw.out _ HB3.out | exact HCw.out _ HB2.out | exact HCw.out _ (below_call HB1.out (Below.refl _ _).drew) | exact HCw.out _ HB1.out) (first
    | (go_at_call 59; refine (k8.out _ HB7.out).mono ?_; rintro e v8 ⟨rfl, hw9⟩; have HB8 : Hid (Below w.heap.size w v8) := (by unfold Hid; rw [hw9]; exact HB7.out); have HB18 : Hid (Below w1.heap.size w1 v8) := (by unfold Hid; rw [hw9]; exact HB17.out); clear hw9)
    | (go_at_call 58; refine (k7.out _ HB6.out).mono ?_; rintro e v7 ⟨rfl, hw9⟩; have HB7 : Hid (Below w.heap.size w v7) := (by unfold Hid; rw [hw9]; exact HB6.out); have HB17 : Hid (Below w1.heap.size w1 v7) := (by unfold Hid; rw [hw9]; exact HB16.out); clear hw9)
    | (go_at_call 57; refine (k6.out _ HB5.out).mono ?_; rintro e v6 ⟨rfl, hb6⟩; have HB6 := hid (below_call HB5.out hb6); have HB16 := hid (below_call HB15.out hb6); clear hb6)
    | (go_at_call 27; refine (k5.out _ HB4.out).mono ?_; rintro e v5 ⟨rfl, hb5⟩; have HB5 := hid (below_call HB4.out hb5); have HB15 := hid (below_call HB14.out hb5); clear hb5)
    | (go_at_call 56; refine (k4.out _ HB3.out).mono ?_; rintro e v4 ⟨rfl, hw9⟩; have HB4 : Hid (Below w.heap.size w v4) := (by unfold Hid; rw [hw9]; exact HB3.out); have HB14 : Hid (Below w1.heap.size w1 v4) := (by unfold Hid; rw [hw9]; exact HB13.out); clear hw9)
    | (go_at_call 55; refine (k3.out _ HB2.out).mono ?_; rintro e v3 ⟨rfl, hw9⟩; have HB3 : Hid (Below w.heap.size w v3) := (by unfold Hid; rw [hw9]; exact HB2.out); have HB13 : Hid (Below w1.heap.size w1 v3) := (by unfold Hid; rw [hw9]; exact HB12.out); clear hw9)
    | (go_at_call 9; refine (k2.out _ (below_call HB1.out (Below.refl _ _).drew)).mono ?_; rintro e v2 ⟨a2, c2, rfl, hb2⟩; have HB2 := hid (below_call (below_call HB1.out (Below.refl _ _).drew) hb2); have HB12 := hid (below_call (Below.refl w1.heap.size w1).drew hb2); clear hb2))
  go_upto_region 5 with fail
  go_loopw [6] (ToldI w w1) (fun t _ => 10 - (intOf t).toNat)
  case atStart => exact ⟨0, by omega, rfl, HB8.out, HB18.out⟩
  case round =>
    obtain ⟨i, hi, rfl, hB, hB1⟩ := hrel
    have HB := hid hB
    have HB19 := hid hB1
    clear hB1
    by_cases hi9 : i = 10
    · subst hi9
      have hd : decide (((10 : Nat) : Int) ≤ 9) = false := by decide
      clear hB hi
      go_wp2
      go_ret
      exact ⟨rfl, HB.out⟩
    · have hd : decide ((i : Int) ≤ 9) = true := decide_eq_true (by omega)
      have hi10 : i < 10 := by omega
      have HI := hid hi10
      clear hB hi hi9
      go_upto_if 95 with fail
      go_cut [7] (fun s7 W => ∃ x : Int, s7 = .int .i64 x ∧ Hid (S.i64ok x) ∧ wr = W)
      case first =>
        by_cases hin : i < n5
        · have hd1 : decide ((i : Int) < (n5 : Int)) = true := decide_eq_true (by omega)
          have hlen : i < VV.length := by rw [← HN5.out]; exact hin
          obtain ⟨b, off, rfl, hrow⟩ := (HO5.out.read.later HB19.out).plain (by omega)
          have hget := hrow i _ (ints_get (List.map Prod.fst VV) i (by rw [List.length_map]; exact hlen))
          obtain ⟨x, hx⟩ : ∃ x, x = (List.map Prod.fst VV)[i]'(by rw [List.length_map]; exact hlen) := ⟨_, rfl⟩
          rw [← hx] at hget
          have HX : Hid (S.i64ok x) := by
            unfold Hid
            rw [hx, List.getElem_map]
            exact HIds.out _ (List.getElem_mem hlen)
          have hin2 : (i : Int) < (n5 : Int) := by omega
          clear hin hlen hrow hx
          go_wp2
          go_meet
          exact ⟨x, rfl, HX, rfl⟩
        · have hd1 : decide ((i : Int) < (n5 : Int)) = false := decide_eq_false (by omega)
          have hd2 : decide (i < n5) = false := decide_eq_false hin
          have hd3 : ¬ (i : Int) < (n5 : Int) := by omega
          go_wp2
          go_meet
          exact ⟨(i : Int), rfl, hid (by unfold S.i64ok; have := HI.out; omega), rfl⟩
      case rest =>
      obtain ⟨x, rfl, HX, rfl⟩ := hcut
      obtain ⟨⟨y0, y1, y2, y3, y4, y5, y6, y7⟩, _⟩ := HCw.out wr HB.out
      obtain ⟨sz, okb, hsz⟩ := k9s.out x
      have j9 := hid (k9.out wr HB.out x)
      rw [hsz] at j9
      have j10 := hid (fun (U : World) (hU : Below w.heap.size w U) => k10.out U hU x HX.out)
      rw [hsz] at j10
      have j11 := hid (fun (U : World) (hU : Below w.heap.size w U) => k11.out U hU x (sz : Int))
      have j12 := hid (fun (U : World) (hU : Below w.heap.size w U) => k12.out U hU x (sz : Int) HX.out)
      have j13 := hid (fun (U : World) (hU : Below w.heap.size w U) => k13.out U hU x HX.out)
      have j14 := hid (fun (U : World) (hU : Below w.heap.size w U) => k14.out U hU x)
      have j15 := hid (fun (U : World) (hU : Below w.heap.size w U) => k15.out U hU x)
      have j16 := hid (fun (U : World) (hU : Below w.heap.size w U) => k16.out U hU x)
      have hsm := hid (hsmall.out x (sz : Int))
      have hlo := hlenO.out x
      obtain ⟨D, hD⟩ : ∃ D, D = S.rvL VV x 0 (sz : Int) := ⟨_, rfl⟩
      rw [← hD] at j11 j12 hsm
      obtain ⟨E, hE⟩ : ∃ E, E = S.rvE VV x 0 (sz : Int) := ⟨_, rfl⟩
      rw [← hE] at j11 j12
      obtain ⟨dn, hdn⟩ : ∃ dn, dn = D.length := ⟨_, rfl⟩
      rw [← hdn] at j11 j12
      obtain ⟨O, hO⟩ : ∃ O, O = ofL H.mo s.X s.l x := ⟨_, rfl⟩
      rw [← hO] at j15 j16 hlo
      obtain ⟨cn, hcn⟩ : ∃ cn, cn = List.count x s.L := ⟨_, rfl⟩
      rw [← hcn] at j13 j14
      obtain ⟨BB, hBB⟩ : ∃ BB, BB = S.strB D := ⟨_, rfl⟩
      have HBB := hid hBB
      have q1 : (okb != okb) = false := by cases okb <;> rfl
      have q2 : ((sz : Int) != (sz : Int)) = false := by simp
      have q3 : (BB.toList == BB.toList) = true := by simp
      have q4 : ((cn : Int) != (cn : Int)) = false := by simp
      clear hsz hD hE hdn hO hcn hBB
      go_upto_region 11 with (first
        | (go_at_call 60; refine j9.out.mono ?_; rintro e w9 ⟨rfl, hw9⟩; obtain rfl := hw9.symm; clear hw9))
      go_upto_region 12 with (first
        | (go_at_call 18; refine (j10.out wr HB.out).mono ?_; rintro e x1 ⟨rfl, hb1⟩; have HX1 := hid (below_call HB.out hb1); have HX11 := hid (below_call HB19.out hb1); clear hb1; obtain ⟨⟨y0, y1, y2, y3, y4, y5, y6, y7⟩, _⟩ := HCw.out x1 HX1.out))
      go_upto_region 13 with (first
        | (go_at_call 61; refine (j11.out x1 HX1.out).mono ?_; rintro e x2 ⟨ba, bc, rfl, hO2, hb2⟩; have HX2 := hid (below_call HX1.out hb2); have HX12 := hid (below_call HX11.out hb2); have HR2 := hid hO2.read; clear hb2 hO2; obtain ⟨⟨y0, y1, y2, y3, y4, y5, y6, y7⟩, _⟩ := HCw.out x2 HX2.out))
      go_upto_region 14 with (first
        | (go_at_call 62; refine (j12.out x2 HX2.out).mono ?_; rintro e x3 ⟨da, dc, rfl, hO3, hb3⟩; have HX3 := hid (below_call HX2.out hb3); have HX13 := hid (below_call HX12.out hb3); have HR3 := hid (HR2.out.later hb3); have HR4 := hid hO3.read; clear hb3 hO3))
      have HCx : Hid (∀ U, Below x3.heap.size x3 U → (U.cell? ⟨H.sb, 0, none⟩ = some (.pointer (some ⟨H.A.g, 0, none⟩)) ∧ U.cell? ⟨H.sb, 1, none⟩ = some (.pointer (some ⟨H.qg, 0, none⟩)) ∧ U.cell? ⟨H.rb, 0, none⟩ = some (.pointer (some ⟨H.r, 0, none⟩)) ∧ U.cell? ⟨H.rb, 1, none⟩ = some (.pointer (some ⟨H.q, 0, none⟩)) ∧ (convert 87 9 (.slice ba dn bc)).run Tryz.prog U = .ok (.string BB) U ∧ (convert 87 9 (.slice da dn dc)).run Tryz.prog U = .ok (.string BB) U)) := fun U hU => by
        obtain ⟨⟨y0, y1, y2, y3, y4, y5, y6, y7⟩, _⟩ := HCw.out U (below_call HX3.out hU)
        rw [HBB.out]
        exact ⟨y0, y1, y3, y4, (HR3.out.later hU).conv hsm.out, (HR4.out.later hU).conv hsm.out⟩
      clear y0 y1 y2 y3 y4 y5 y6 y7
      go_region_held3 (fun U => (U.cell? ⟨H.sb, 0, none⟩ = some (.pointer (some ⟨H.A.g, 0, none⟩)) ∧ U.cell? ⟨H.sb, 1, none⟩ = some (.pointer (some ⟨H.qg, 0, none⟩)) ∧ U.cell? ⟨H.rb, 0, none⟩ = some (.pointer (some ⟨H.r, 0, none⟩)) ∧ U.cell? ⟨H.rb, 1, none⟩ = some (.pointer (some ⟨H.q, 0, none⟩)) ∧ (convert 87 9 (.slice ba dn bc)).run Tryz.prog U = .ok (.string BB) U ∧ (convert 87 9 (.slice da dn dc)).run Tryz.prog U = .ok (.string BB) U)) (first | exact HCx.out _ HY5.out | exact HCx.out _ HY4.out | exact HCx.out _ HY3.out | exact HCx.out _ HY2.out | exact HCx.out _ HY1.out | exact HCx.out _ (Below.refl _ _).drew | exact HCx.out _ (Below.refl _ _)) (first
        | (go_at_call 14; refine (sameT_any _ _ (HT1.out.rt rfl) (HT2.out.rt rfl) (by omega) (by omega)).mono ?_; rintro e z5 ⟨rfl, q5, hw5⟩; have HY5 : Hid (Below x3.heap.size x3 z5) := (by unfold Hid; rw [hw5]; exact below_drewN HY4.out q5); rw [show decide (O = O) = true by simp]; clear hw5)
        | (go_at_call 20; refine (j16.out _ (below_call HX3.out HY3.out)).mono ?_; rintro e z4 ⟨a4, c4, rfl, hO4, hb4⟩; have HY4 := hid (below_call HY3.out hb4); have HT2 := hid hO4; have HT1 := hid (HT0.out.later hb4); clear hO4 hb4)
        | (go_at_call 11; refine (j15.out _ (below_call HX3.out HY2.out)).mono ?_; rintro e z3 ⟨a3, c3, rfl, hO3, hb3⟩; have HY3 := hid (below_call HY2.out hb3); have HT0 := hid hO3; clear hO3 hb3)
        | (go_at_call 21; refine (j14.out _ (below_call HX3.out HY1.out)).mono ?_; rintro e z2 ⟨rfl, hw9⟩; have HY2 : Hid (Below x3.heap.size x3 z2) := (by unfold Hid; rw [hw9]; exact HY1.out); clear hw9)
        | (go_at_call 19; refine (j13.out _ (below_call HX3.out (Below.refl _ _).drew)).mono ?_; rintro e z1 ⟨rfl, hw9⟩; have HY1 : Hid (Below x3.heap.size x3 z1) := (by unfold Hid; rw [hw9]; exact (Below.refl _ _).drew); clear hw9))
      go_wp2
      refine ⟨⟨i + 1, HI.out, rfl, below_call HX3.out HY5.out, below_call HX13.out HY5.out⟩, ?_⟩
      have := HI.out
      simp [intOf]; omega
end Go.Proofs.YtnjadfgfpebkdaaGreat.D
