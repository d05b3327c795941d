import Derived.Test.YtgdhdfmgfncdkaaVE
namespace Go.Proofs.Ytgdhdfmgfncdkaa
open Go.RowKit Go.Shelf H
set_option linter.unusedVariables false

/-! ### under -/
def UnderRel (w : World) (l : Fo) (i top : Int) (t v : Value) (w' : World) : Prop :=
  ∃ (x : Int) (k : Nat), t = .int .i64 x ∧ v = .int .i64 (k : Int) ∧ x ∈ nums l ∧ k + (U l x).length = (U l i).length ∧ Hid (top ∈ U l i ↔ top ∈ U l x) ∧ Below w.heap.size w w'
set_option maxRecDepth 100000 in
set_option maxHeartbeats 2000000 in
theorem under_any {w : World} {A : Ad} {kn mo : Nat} {T : List (Cp × Int)} {X : List Tk} {l : Fo} (h : Cm w A kn mo T X l) (i top : Int) (hi : i ∈ nums l) (hmo : mo ≤ 256) :
    Calls Try.prog 10 #[.pointer (some ⟨A.g, 0, none⟩), .int .i64 i, .int .i64 top] w fun e w' => e = .returned (.bool (decide (top ∈ U l i))) ∧ Below w.heap.size w w' := by
  have HH := hid h
  have hok := hid h.kin.ok
  have hul := U_len hok.out i
  obtain ⟨d, hd⟩ : ∃ d, d = decide (top ∈ U l i) := ⟨_, rfl⟩
  rw [← hd]
  have HD := hid hd
  clear h hd
  go_enter Try.func10, Try.ntmps10
  go_upto_region 2 with fail
  go_loopw [1, 7] (UnderRel w l i top) (fun _ k _ => 300 - (intOf k).toNat)
  case atStart => exact ⟨i, 0, rfl, rfl, hi, by omega, Iff.rfl, Below.refl _ _⟩
  case round =>
    obtain ⟨x, k, rfl, rfl, hx, hk, hiff, hB⟩ := hrel
    obtain ⟨p, hp⟩ := mem_nums.1 hx
    have hue := U_eq hok.out hp
    have hkl : k < 300 := by rw [hue, List.length_cons] at hk; omega
    by_cases hxt : x = top
    · have hb : (x == top) = true := by simp [hxt]
      have HB := hid hB
      have HT : Hid (d = true) := by unfold Hid; rw [HD.out]; exact decide_eq_true (hiff.out.2 (by rw [hue, hxt]; simp))
      clear hB hue hiff
      go_wp2
      go_ret
      exact ⟨ret_bool HT.out.symm, HB.out⟩
    · have hb : (x == top) = false := by simp [hxt]
      have hat := hid (at_in (HH.out.later hB) x p hp)
      obtain ⟨⟨ox, hx_, lx⟩, rx0, hxx⟩ : ∃ c r, tk X x = (c, r) := ⟨_, _, rfl⟩
      obtain ⟨rx, hrx⟩ : ∃ r, r = rg X x := ⟨_, rfl⟩
      rw [hxx, ← hrx] at hat
      have HB := hid hB
      by_cases hp1 : p = -1
      · subst hp1
        have HT : Hid (d = false) := by
          unfold Hid; rw [HD.out]
          refine decide_eq_false (fun hm => ?_)
          have := hiff.out.1 hm
          rw [hue, U_out (fun hn => by have := nums_nn hok.out hn; omega)] at this
          simp at this
          exact hxt this.symm
        clear hB hue hiff hxx hrx
        go_upto_region 7 with (first | (go_at_call 9; refine hat.out.mono ?_; rintro e w2 ⟨rfl, hb2⟩; have HB2 := hid (below_call HB.out hb2); clear hb2))
        obtain ⟨w3, hw3⟩ : ∃ w3, w3 = w2.alloc (Obj.cells #[.int .i64 ox, .int .u64 (hx_ : Int), .int .u64 (lx : Int), .int .i64 rx, .int .i64 (-1)] 35) := ⟨_, rfl⟩
        have HB3 : Hid (Below w.heap.size w w3) := below_call HB2.out (by rw [hw3]; exact below1 _ _)
        have t4 : w3.cell? ⟨w2.heap.size, 4, none⟩ = some (.int .i64 (-1)) := by rw [hw3]; simp [go_sem]
        rw [← hw3]
        clear hw3
        go_wp2
        go_ret
        exact ⟨ret_bool HT.out.symm, HB3.out⟩
      · have hpn : p ∈ nums l := (hok.out.up hp).resolve_left hp1
        have hp0 := nums_nn hok.out hpn
        have HK : Hid (k + 1 + (U l p).length = (U l i).length) := by unfold Hid; rw [← hk, hue, List.length_cons]; omega
        have HI : Hid (top ∈ U l i ↔ top ∈ U l p) := by
          unfold Hid
          rw [hiff.out, hue, List.mem_cons]
          exact ⟨fun h => h.resolve_left (fun e => hxt e.symm), .inr⟩
        have hlz : ¬ p < 0 := by omega
        have HPN := hid hpn
        clear hB hue hiff hxx hrx hp hpn
        go_upto_region 7 with (first | (go_at_call 9; refine hat.out.mono ?_; rintro e w2 ⟨rfl, hb2⟩; have HB2 := hid (below_call HB.out hb2); clear hb2))
        obtain ⟨w3, hw3⟩ : ∃ w3, w3 = w2.alloc (Obj.cells #[.int .i64 ox, .int .u64 (hx_ : Int), .int .u64 (lx : Int), .int .i64 rx, .int .i64 p] 35) := ⟨_, rfl⟩
        have HB3 : Hid (Below w.heap.size w w3) := below_call HB2.out (by rw [hw3]; exact below1 _ _)
        have t4 : w3.cell? ⟨w2.heap.size, 4, none⟩ = some (.int .i64 p) := by rw [hw3]; simp [go_sem]
        rw [← hw3]
        clear hw3
        go_wp2
        refine ⟨⟨p, k + 1, rfl, by go_num, HPN.out, HK.out, HI.out, HB3.out⟩, by simp [intOf]; omega⟩

/-! ### told -/
/-- What Of tells of an object that is there. -/
structure Told (X : List Tk) (l : Fo) (o : Int) (O : List Tok) (Gs : List Int) : Prop where
  len : O.length = Gs.length
  pos : 0 < Gs.length
  inn : Gs.length = inN X l o
  at_ : ∀ (j : Nat) (x : Int), Gs[j]? = some x → x ∈ nums l ∧ ob X x = o ∧ ∃ q : Int, O[j]? = some ((tk X x).1, rg X x, q) ∧ ((j = 0 ∧ q = -1 ∧ par l x = -1) ∨ (0 < j ∧ ∃ p : Nat, p < j ∧ q = (p : Int) ∧ Gs[p]? = some (par l x)))
  nd : Gs.Nodup
theorem Inv.told {m : Nat} {X : List Tk} {l : Fo} (h : Inv m X l) {n : Int} (hn : n ∈ nums l) : ∃ Gs, Told X l (ob X n) (ofL m X l (ob X n)) Gs := by
  obtain ⟨r, hr, ho, hG⟩ := h.toRoot n hn
  refine ⟨G true l r, ?_⟩
  have e : ofL m X l (ob X n) = (ofF X l m (G true l r)).2 := by unfold ofL; rw [← ho, rootOf_some h hr]
  have hsp := (ofF_spec (X := X) h.ok hr (G true l r).length (Nat.le_refl _)).2
  rw [List.take_length] at hsp
  refine ⟨by rw [e, ofF_len2], List.length_pos_of_mem hG, ?_, fun j x hx => ?_, G_nodup h.ok true r⟩
  · refine same_len (G_nodup h.ok true r) (List.Nodup.sublist List.filter_sublist h.ok.nodup) (fun x => ?_)
    rw [h.mem_root hr, List.mem_filter, decide_eq_true_eq, ho]
  · have hm := (h.mem_root hr).1 (List.mem_of_getElem? hx)
    obtain ⟨q, h1, h2⟩ := hsp j x (List.getElem?_eq_some_iff.1 hx).1 hx
    exact ⟨hm.1, by rw [hm.2, ho], q, by rw [e]; exact h1, h2⟩
def TolRel (w : World) (n : Nat) (t : Value) (w' : World) : Prop := ∃ i : Nat, i ≤ n ∧ t = .int .i64 (i : Int) ∧ Below w.heap.size w w'
def InnRel (w : World) (n : Nat) (t : Value) (w' : World) : Prop := ∃ i : Nat, i ≤ n ∧ t = .int .i64 (i : Int) ∧ Below w.heap.size w w'
set_option maxRecDepth 100000 in
set_option maxHeartbeats 4000000 in
theorem told_any {w0 : World} {A : Ad} {kn mo : Nat} {X : List Tk} {l : Fo} (h : Cat w0 A kn mo X l) (o : Int) {Gs : List Int} (hT : Told X l o (ofL mo X l o) Gs) :
    Calls Try.prog 12 #[.pointer (some ⟨A.g, 0, none⟩), .int .i64 o] w0 fun e w' => e = .returned (.bool true) ∧ Below w0.heap.size w0 w' := by
  have HH := hid h
  have HT := hid hT
  have hmo := h.cm.small
  have hGl : Gs.length ≤ mo := by
    rw [hT.inn]
    have := List.length_filter_le (fun n => decide (ob X n = o)) (nums l)
    rw [nums_len] at this
    exact Nat.le_trans this h.inv.ok.len
  have hpos := hT.pos
  have hof := hid (cof_any h o)
  rw [HT.out.len] at hof
  generalize hOe : ofL mo X l o = O at *
  have hin := hid (fun W (hW : Below w0.heap.size w0 W) => cin_any (h.cm.later hW) o)
  rw [← HT.out.inn] at hin
  clear hT h hOe
  go_enter Try.func12, Try.ntmps12
  go_upto_region 2 with (first | (go_at_call 15; refine hof.out.mono ?_; rintro e w ⟨a, c, rfl, hO, hb1⟩; have HO := hid hO; have HB1 := hid hb1; clear hO hb1))
  have hrt := HO.out.rt HT.out.len
  obtain ⟨b1, o1, rfl, hc1⟩ := hrt.at_ (by omega)
  have hcl := hid hc1
  clear hc1 hrt
  have hz1 : ¬ ((Gs.length : Int) = 0) := by omega
  have hz2 : ((Gs.length : Int) == 0) = false := beq_eq_false_iff_ne.2 hz1
  go_upto_region 5 with (first | (go_at_call 25; refine (hin.out _ HB1.out).mono ?_; rintro e w2 ⟨rfl, hb2⟩; have HB2 := hid hb2; clear hb2))
  go_loopw [6] (TolRel w Gs.length) (fun t _ => Gs.length - (intOf t).toNat)
  case atStart => exact ⟨0, Nat.zero_le _, rfl, HB2.out⟩
  case round =>
    obtain ⟨i, hi, rfl, hB⟩ := hrel
    by_cases hlt : i < Gs.length
    · obtain ⟨x, hx⟩ : ∃ x, Gs[i]? = some x := ⟨_, List.getElem?_eq_getElem hlt⟩
      obtain ⟨hxl', hox, q, hO', hqq⟩ := HT.out.at_ i x hx
      have hxi := hid hx
      have hxl := hid hxl'
      have hOx := hid hO'
      clear hx hO'
      obtain ⟨p, hp⟩ := mem_nums.1 hxl.out
      have hpar := par_eq HH.out.inv.ok hp
      have HLW : Hid (∀ W, Below w.heap.size w W → Below w.heap.size w W) := fun W h => h
      have hCW := hid (fun W (hW : Below w.heap.size w W) => HH.out.later (below_call HB1.out hW))
      have hwide := HH.out.inv.wide x hxl.out
      have hfi := cfind_any (hCW.out _ hB) (tk X x).1 hwide
      rw [findN_in HH.out.inv hxl.out, hasC_iff.2 ⟨x, hxl.out, rfl⟩] at hfi
      have hat := fun W (hW : Below w.heap.size w W) => at_in (hCW.out W hW).cm x p hp
      have hone : Hid (∀ y ∈ nums l, (tk X y).1 = (tk X x).1 → y = x) := fun y hy e => HH.out.inv.one y hy x hxl.out e
      obtain ⟨⟨ox, hx_, lx⟩, rx0, hxx⟩ : ∃ c r, tk X x = (c, r) := ⟨_, _, rfl⟩
      obtain ⟨rx, hrx⟩ : ∃ r, r = rg X x := ⟨_, rfl⟩
      obtain rfl : ox = o := by have := hox; unfold ob at this; rw [hxx] at this; exact this
      have hOx2 := hOx.out
      rw [hxx, ← hrx] at hOx2
      rw [hxx] at hfi hone
      simp only [hxx, ← hrx] at hat
      have hOi := hid hOx2
      have hFI := hid hfi
      have hAT := hid hat
      obtain ⟨g0, g1, g2, g3, g4⟩ := (hcl.out i _ hOi.out).later hB
      simp only at g0 g1 g2 g3 g4
      have HB := hid hB
      clear hB hfi hat hOx hOx2 hox hwide hxx hrx hp
      go_upto_region 8 with (first | (go_at_call 11; refine hFI.out.mono ?_; rintro e w3 ⟨rfl, hb3⟩; have HB3 := hid (below_call HB.out hb3); clear hb3))
      go_upto_region 9 with (first | (go_at_call 9; refine (hAT.out _ HB3.out).mono ?_; rintro e w4 ⟨rfl, hb4⟩; have HB4 := hid (below_call HB3.out hb4); clear hb4))
      obtain ⟨w5, hw5⟩ : ∃ w5, w5 = w4.alloc (Obj.cells #[.int .i64 ox, .int .u64 (hx_ : Int), .int .u64 (lx : Int), .int .i64 rx, .int .i64 p] 35) := ⟨_, rfl⟩
      have HB5 : Hid (Below w.heap.size w w5) := below_call HB4.out (by rw [hw5]; exact below1 _ _)
      have t3 : w5.cell? ⟨w4.heap.size, 3, none⟩ = some (.int .i64 rx) := by rw [hw5]; simp [go_sem]
      have t4 : w5.cell? ⟨w4.heap.size, 4, none⟩ = some (.int .i64 p) := by rw [hw5]; simp [go_sem]
      rw [← hw5]
      clear hw5 g0 g1 g2 g3 g4
      obtain ⟨g0, g1, g2, g3, g4⟩ := (hcl.out i _ hOi.out).later HB5.out
      simp only at g0 g1 g2 g3 g4
      rcases hqq with ⟨rfl, rfl, hpx⟩ | ⟨hi0, pj, hpj, rfl, hpg⟩
      · obtain rfl : p = -1 := by rw [← hpar, hpx]
        clear hpar hpx
        simp only [Nat.zero_mul, Nat.add_zero] at g0 g1 g2 g3 g4
        go_quiet (fail)
        go_upto_region 16 with fail
        go_loopw [13] (fun t W => t = .int .i64 0 ∧ Below w.heap.size w W) (fun _ _ => 0)
        case atStart => exact ⟨rfl, below_drewN HB5.out _⟩
        case round =>
          obtain ⟨rfl, hB6⟩ := hrel
          have HB6 := hid hB6
          clear hB6
          go_wp2
          exact ⟨⟨1, by omega, by go_num, HB6.out⟩, by simp [intOf]; omega⟩
      · have hpn : par l x ∈ nums l := (HT.out.at_ pj _ hpg).1
        rw [hpar] at hpg hpn
        have hp0 := nums_nn HH.out.inv.ok hpn
        have hb1 : ((i : Int) == 0) = false := beq_eq_false_iff_ne.2 (by omega)
        have hb2 : (p == (-1 : Int)) = false := beq_eq_false_iff_ne.2 (by omega)
        have hb3 : ((pj : Int) == (-1 : Int)) = false := beq_eq_false_iff_ne.2 (by omega)
        have hb4 : ¬ ((i : Int) ≤ (pj : Int)) := by omega
        obtain ⟨hpl, hpo, qp, hOp', _⟩ := HT.out.at_ pj p hpg
        obtain ⟨pp, hpp⟩ := mem_nums.1 hpn
        have hat2 := fun W (hW : Below w.heap.size w W) => at_in (hCW.out W hW).cm p pp hpp
        obtain ⟨⟨op, hp_, lp⟩, rp0, hxp⟩ : ∃ c r, tk X p = (c, r) := ⟨_, _, rfl⟩
        obtain ⟨rp, hrp⟩ : ∃ r, r = rg X p := ⟨_, rfl⟩
        rw [hxp, ← hrp] at hOp'
        simp only [hxp, ← hrp] at hat2
        have hOp := hid hOp'
        have hAT2 := hid hat2
        have hi1 : (0 : Int) < (i : Int) := by omega
        have hpj2 : pj < Gs.length := by omega
        clear hpar hpg hpn hpl hpo hOp' hpp hat2 hxp hrp
        go_quiet (fail)
        generalize hwq : w5.drewN nq = w6
        have HB6 : Hid (Below w.heap.size w w6) := by unfold Hid; rw [← hwq]; exact below_drewN HB5.out _
        have v4 : w6.cell? ⟨w4.heap.size, 4, none⟩ = some (.int .i64 p) := by rw [← hwq]; exact t4
        clear hwq t3 t4 g0 g1 g2 g3 g4
        go_upto_region 13 with (first | (go_at_call 9; refine (hAT2.out _ HB6.out).mono ?_; rintro e w7 ⟨rfl, hb7⟩; have HB7 := hid (below_call HB6.out hb7); clear hb7))
        obtain ⟨w8, hw8⟩ : ∃ w8, w8 = w7.alloc (Obj.cells #[.int .i64 op, .int .u64 (hp_ : Int), .int .u64 (lp : Int), .int .i64 rp, .int .i64 pp] 35) := ⟨_, rfl⟩
        have HB8 : Hid (Below w.heap.size w w8) := below_call HB7.out (by rw [hw8]; exact below1 _ _)
        have s0 : w8.cell? ⟨w7.heap.size, 0, none⟩ = some (.int .i64 op) := by rw [hw8]; simp [go_sem]
        have s1 : w8.cell? ⟨w7.heap.size, 1, none⟩ = some (.int .u64 (hp_ : Int)) := by rw [hw8]; simp [go_sem]
        have s2 : w8.cell? ⟨w7.heap.size, 2, none⟩ = some (.int .u64 (lp : Int)) := by rw [hw8]; simp [go_sem]
        rw [← hw8]
        clear hw8
        obtain ⟨f0, f1, f2, f3, f4⟩ := (hcl.out pj _ hOp.out).later HB8.out
        obtain ⟨g0, g1, g2, g3, g4⟩ := (hcl.out i _ hOi.out).later HB8.out
        simp only at f0 f1 f2 f3 f4 g0 g1 g2 g3 g4
        have hq1 : cEq op (hp_ : Int) (lp : Int) op (hp_ : Int) (lp : Int) = true := by simp [cEq]
        have heq := fun W => neqC op (hp_ : Int) (lp : Int) op (hp_ : Int) (lp : Int) W
        simp only [hq1] at heq
        have hnl : ¬ ((pj : Int) < 0) := by omega
        go_quiet (fail)
        generalize hwq : w8.drewN nq = w9
        have HB9 : Hid (Below w.heap.size w w9) := by unfold Hid; rw [← hwq]; exact below_drewN HB8.out _
        clear hwq f0 f1 f2 f3 f4 g0 g1 g2 g3 g4 s0 s1 s2 heq hq1
        go_upto_region 16 with fail
        go_loopw [13] (InnRel w i) (fun t _ => i - (intOf t).toNat)
        case atStart => exact ⟨0, Nat.zero_le _, rfl, HB9.out⟩
        case round =>
          obtain ⟨k, hk, rfl, hBk⟩ := hrel
          by_cases hki : k < i
          · obtain ⟨y, hy⟩ : ∃ y, Gs[k]? = some y := ⟨_, List.getElem?_eq_getElem (by omega)⟩
            obtain ⟨hyl, _, qy, hOy, _⟩ := HT.out.at_ k y hy
            have hne : (tk X y).1 ≠ (ox, hx_, lx) := fun e => by
              have e2 := hone.out y hyl e
              rw [e2] at hy
              have := nd_idx HT.out.nd hy hxi.out
              omega
            obtain ⟨⟨oy, hy_, ly⟩, ry0, hxy⟩ : ∃ c r, tk X y = (c, r) := ⟨_, _, rfl⟩
            obtain ⟨ry, hry⟩ : ∃ r, r = rg X y := ⟨_, rfl⟩
            rw [hxy, ← hry] at hOy
            rw [hxy] at hne
            obtain ⟨c0, c1, c2, c3, c4⟩ := (hcl.out k _ hOy).later hBk
            obtain ⟨d0, d1, d2, d3, d4⟩ := (hcl.out i _ hOi.out).later hBk
            simp only at c0 c1 c2 c3 c4 d0 d1 d2 d3 d4
            have hq1 : cEq oy (hy_ : Int) (ly : Int) ox (hx_ : Int) (lx : Int) = false := decide_eq_false fun hq => hne (Prod.ext hq.1 (Prod.ext (Int.ofNat.inj hq.2.1) (Int.ofNat.inj hq.2.2)))
            have heq := fun W => eqlC oy (hy_ : Int) (ly : Int) ox (hx_ : Int) (lx : Int) W
            simp only [hq1] at heq
            have HBk := hid hBk
            clear hBk hne hq1 hyl hy hOy hxy hry
            go_upto_region 18 with fail
            go_quiet (fail)
            go_wp2
            exact ⟨⟨k + 1, by omega, by go_num, below_drewN HBk.out _⟩, by simp [intOf]; omega⟩
          · obtain rfl : k = i := by omega
            have HBk := hid hBk
            clear hBk
            go_wp2
            exact ⟨⟨k + 1, by omega, by go_num, HBk.out⟩, by simp [intOf]; omega⟩
    · obtain rfl : i = Gs.length := by omega
      have HBe := hid (below_call HB1.out hB)
      clear hB
      go_wp2
      go_ret
      exact ⟨rfl, HBe.out⟩
end Go.Proofs.Ytgdhdfmgfncdkaa
