import Derived.Test.YtfeilkhlapnpoaaS2
import Derived.Deep.LoopGhost
import Derived.Deep.CutRange
import Derived.Deep.DeepCutAuto
namespace Go.Proofs.Ytfeilkhlapnpoaa
open Go.RowKit Go.Maps
set_option linter.unusedVariables false

/-- Behind a call of the script: what it answered, what is counted. -/
def CutA (W : World) (g b : Nat) (e a : Int) (L : List Int) (s : Value) (w' : World) : Prop :=
  ∃ E L', s = .int .i64 E ∧ Qu w' g b e a L' ∧ But (fun k => k = b) W w' ∧ (E = 0 ∨ L' = L)
def SumRel (w : World) (g b n : Nat) (e a : Int) (t : Value) (w' : World) : Prop :=
  ∃ i : Nat, ∃ L, i ≤ n ∧ t = .int .i64 (i : Int) ∧ Qu w' g b e a L ∧ Below w.heap.size w w'
/-- What is counted are numbers of 64 bits. -/
theorem Qu.wf {w : World} {g b : Nat} {e a : Int} {L : List Int} (h : Qu w g b e a L) {x : Int} (hx : x ∈ L) : (Lit.int .i64 x).wf = true := by
  obtain ⟨D, hown, hcn⟩ := h.mp
  obtain ⟨es, rfl, hko⟩ := hown.keysOf
  have h1 := hcn.has x
  rw [decide_eq_true hx, has_eq, List.any_eq_true] at h1
  obtain ⟨y, hy, hk⟩ := h1
  obtain ⟨v, hv⟩ := hko y hy
  obtain ⟨z, _, hz, hw⟩ := Maps.keyOf_int_inv Try.underlying3 hv
  have := WideAt.sameKey_eq hk
  rw [hz] at this
  cases this
  exact hw
def TotRel (W : World) (L : List Int) (t k : Value) (w' : World) : Prop :=
  ∃ i : Nat, i ≤ (ob L).length ∧ t = .int .i64 (csum L ((ob L).take i) : Int) ∧ k = .int .i64 (i : Int) ∧ ∃ m, w' = W.drewN m
def BackRel (w : World) (base g b : Nat) (e a : Int) (L : List Int) (pp : Option Addr) (lc : Nat) (t : Value) (w' : World) : Prop :=
  ∃ k : Nat, ∃ M, k ≤ (ob L).length ∧ t = .int .i64 (k : Int) ∧ Qu w' g b e a M ∧ Back L M k ∧ Own w' base 3 pp (ob L).length lc (ints (ob L)) ∧ Below w.heap.size w w'
set_option maxRecDepth 100000 in
set_option maxHeartbeats 4000000 in
theorem sums_law (e0 a0 : Int) (s : Option Addr) (n cap : Nat) (f : Nat → Sp) (w : World) (hS : Ss w s n f) (hn : n ≤ 9223372036854775807) :
    Calls Try.prog 3 #[.int .i64 e0, .int .i64 a0, .slice s n cap] w fun r w' => r = .returned (.bool true) ∧ Below w.heap.size w w' := by
  have HS := hid hS
  clear hS
  obtain ⟨p, hp, hp1⟩ := low8 e0
  obtain ⟨q, hq, hq1⟩ := low8 a0
  have hok : Hid (okB (1 + (p : Int)) (1 + (q : Int))) := by unfold Hid okB; omega
  go_enter Try.func3, Try.ntmps3
  go_upto_region 3 with (first | (go_at_call 6; refine (head_any w).mono ?_; rintro e w1 ⟨rfl, hb1⟩; have HB1 := hid hb1; clear hb1))
  go_upto_region 7 with (first | (go_at_call 7; refine (new_ok (1 + (p : Int)) (1 + (q : Int)) w1 hok.out).mono ?_; rintro e w2 ⟨g, b, rfl, hq2, hg2, hbb, hbl2⟩; have HQ2 := hid hq2; have HB2 := hid (below_call HB1.out hbl2); have hb0 : Hid (w.heap.size ≤ b) := (Nat.le_trans HB1.out.size hbb); clear hq2 hbl2 hg2 hbb))
  go_loopw [9] (SumRel w g b n (1 + (p : Int)) (1 + (q : Int))) (fun t _ => n - (intOf t).toNat)
  case atStart => exact ⟨0, [], Nat.zero_le _, rfl, HQ2.out, HB2.out⟩
  case round =>
    clear HQ2 HB2 HB1
    obtain ⟨i, L, hi, rfl, hQ, hB⟩ := hrel
    by_cases hlt : i < n
    · obtain ⟨sb, so, rfl, hc⟩ := (HS.out.later hB).at_ (by omega)
      have hok := HS.out.ok i hlt
      obtain ⟨s0, s1, s2, s3⟩ := hc i hlt
      clear hc
      generalize hfi : f i = s at *
      clear hfi
      obtain ⟨kd, wh, x, sn⟩ := s
      simp only at s0 s1 s2 s3 hok
      obtain ⟨w1, hw1⟩ : ∃ w1, w1 = wr.alloc (Obj.cells #[.int .i64 kd, .int .i64 wh, .int .i64 x, .int .i64 sn] 29) := ⟨_, rfl⟩
      have hB1 : Below wr.heap.size wr w1 := by rw [hw1]; exact below1 _ _
      obtain ⟨t0, t1, t2, t3⟩ : Sb w1 wr.heap.size 0 ⟨kd, wh, x, sn⟩ := by rw [hw1]; exact Sb.new wr ⟨kd, wh, x, sn⟩
      simp only [Nat.zero_add] at t0 t1 t2 t3
      have HQ := hid (hQ.later hB1)
      have HB := hid (below_call hB hB1)
      have hbo : Hid (wr.heap.size ≠ b) := by have := hQ.blt; unfold Hid; omega
      have hsz := hQ.sz
      obtain ⟨z1, z2, z3, z4, z5, z6⟩ := hsz
      have z7 := z6 x
      have hoth := hid z6
      clear hQ hB hB1 z6
      go_upto_region 10 with fail
      rw [← hw1]
      clear hw1 s0 s1 s2 s3
      have hof := hid (of_any HQ.out x hok)
      have hal := hid (all_any HQ.out)
      obtain ⟨c, hcc⟩ : ∃ c : Int, c = (L.count x : Int) := ⟨_, rfl⟩
      obtain ⟨l, hll⟩ : ∃ l : Int, l = (L.length : Int) := ⟨_, rfl⟩
      rw [← hcc] at hof z7
      rw [← hll] at hal z5
      have hc0 : 0 ≤ c := by omega
      have hl0 : 0 ≤ l := by omega
      have HCC := hid hcc
      have HLL := hid hll
      clear hcc hll
      go_upto_region 11 with (first
        | (go_at_call 8; refine hof.out.mono ?_; rintro e w9 ⟨rfl, hw9⟩; obtain rfl := hw9.symm; clear hw9)
        | (go_at_call 9; refine hal.out.mono ?_; rintro e w2 ⟨rfl, hb2⟩; have HB2 := hid hb2; clear hb2))
      have HQ2 := hid (HQ.out.later HB2.out)
      have HBw := hid (below_call HB.out HB2.out)
      have m0 := cell_later HB2.out t0
      have m2 := cell_later HB2.out t2
      have m3 := cell_later HB2.out t3
      clear hof hal HB2 HB HQ t0 t1 t2 t3
      go_upto_if 55 with fail
      go_cut [8] (CutA w2 g b (1 + (p : Int)) (1 + (q : Int)) L)
      case first =>
        by_cases hk : kd = 1
        · as_aux_lemma =>
            subst hk
            have hsu := hid (sub_any HQ2.out x sn hok)
            by_cases hg : sn < 0 ∨ c < sn
            · have hR : subO L x sn = 20 ∧ subS L x sn = L := by unfold subO subS; rw [← HCC.out, if_pos hg, if_pos hg]; exact ⟨rfl, rfl⟩
              rw [hR.1, hR.2] at hsu
              clear hR
              go_upto_region 13 with (first | (go_at_call 10; refine hsu.out.mono ?_; rintro e w3 ⟨rfl, hq3, hb3⟩; have HQ3 := hid hq3; have HB3 := hid hb3; clear hq3 hb3))
              have d3 := cell_but HB3.out m3 hbo.out
              clear m0 m2 m3 hsu
              by_cases hs0 : sn < 0
              · have hd1 : decide (sn ≥ 0) = false := decide_eq_false (by omega)
                clear hg
                go_quiet (fail)
                go_wp2
                go_meet
                exact ⟨20, L, rfl, HQ3.out.later (below_drewN (Below.refl _ _) _), HB3.out.call (below_drewN (Below.refl _ _) _), .inr rfl⟩
              · have hd1 : (0 : Int) ≤ sn := by omega
                have hd2 : decide (sn ≤ c) = false := decide_eq_false (by omega)
                clear hg
                go_quiet (fail)
                go_wp2
                go_meet
                exact ⟨20, L, rfl, HQ3.out.later (below_drewN (Below.refl _ _) _), HB3.out.call (below_drewN (Below.refl _ _) _), .inr rfl⟩
            · have hR : subO L x sn = 0 ∧ subS L x sn = subL x sn.toNat L := by unfold subO subS; rw [← HCC.out, if_neg hg, if_neg hg]; exact ⟨rfl, rfl⟩
              rw [hR.1, hR.2] at hsu
              clear hR
              have h0 : (0 : Int) ≤ sn := by omega
              have h1 : sn ≤ c := by omega
              clear hg
              have hcx : Hid (((subL x sn.toNat L).count x : Int) = c - sn) := by unfold Hid; rw [subL_count, HCC.out]; have := HCC.out; omega
              have hlx : Hid (((subL x sn.toNat L).length : Int) = l - sn) := by unfold Hid; have := subL_len x sn.toNat L (by have := HCC.out; omega); have := HLL.out; omega
              have hsl : sn ≤ l := by have := List.count_le_length (a := x) (l := L); have := HCC.out; have := HLL.out; omega
              go_upto_region 13 with (first | (go_at_call 10; refine hsu.out.mono ?_; rintro e w3 ⟨rfl, hq3, hb3⟩; have HQ3 := hid hq3; have HB3 := hid hb3; clear hq3 hb3))
              have hof3 := hid (fun (U : World) (hU : Below w3.heap.size w3 U) => of_any (HQ3.out.later hU) x hok)
              have hal3 := hid (fun (U : World) (hU : Below w3.heap.size w3 U) => all_any (HQ3.out.later hU))
              rw [hcx.out] at hof3
              rw [hlx.out] at hal3
              have hw0 : wrap64 (c - sn) = c - sn := by unfold wrap64; omega
              have hw9 : wrap64 (l - sn) = l - sn := by unfold wrap64; omega
              obtain ⟨c', hc'⟩ : ∃ c', c - sn = c' := ⟨_, rfl⟩
              obtain ⟨l', hl'⟩ : ∃ l', l - sn = l' := ⟨_, rfl⟩
              have hw1 : IntKind.i64.wrap (c - sn) = c' := by rw [← hc', IntKind.wrap_i64]; omega
              have hw2 : IntKind.i64.wrap (l - sn) = l' := by rw [← hl', IntKind.wrap_i64]; omega
              rw [hc'] at hof3
              rw [hl'] at hal3
              clear hc' hl' hw0 hw9
              have hC : Hid (∀ U : World, Below w3.heap.size w3 U → (U.cell? ⟨wr.heap.size, 2, none⟩ = some (.int .i64 x) ∧ U.cell? ⟨wr.heap.size, 3, none⟩ = some (.int .i64 sn)) ∧ Below w3.heap.size w3 U) := fun U hU => ⟨⟨cell_later hU (cell_but HB3.out m2 hbo.out), cell_later hU (cell_but HB3.out m3 hbo.out)⟩, hU⟩
              clear m0 m2 m3 hsu hcx hlx
              go_region_held3 (fun U => (U.cell? ⟨wr.heap.size, 2, none⟩ = some (.int .i64 x) ∧ U.cell? ⟨wr.heap.size, 3, none⟩ = some (.int .i64 sn)) ∧ Below w3.heap.size w3 U) (first | exact hC.out _ HB5.out | exact hC.out _ HB4.out | exact hC.out _ (Below.refl _ _).drew) (first
                | (go_at_call 8; refine (hof3.out _ (Below.refl _ _).drew).mono ?_; rintro e w4 ⟨rfl, hw4⟩; have HB4 : Hid (Below w3.heap.size w3 w4) := (by unfold Hid; rw [hw4]; exact (Below.refl _ _).drew); clear hw4)
                | (go_at_call 9; refine (hal3.out _ HB4.out).mono ?_; rintro e w5 ⟨rfl, hb5⟩; have HB5 := hid (below_call HB4.out hb5); clear hb5))
              go_wp2
              go_meet
              exact ⟨0, _, rfl, HQ3.out.later HB5.out, HB3.out.call HB5.out, .inl rfl⟩
        · as_aux_lemma =>
            have hd0 : (kd == 1) = false := by simp [hk]
            have hsu := hid (add_any HQ2.out x hok)
            by_cases h1 : (1 + (p : Int)) ≤ c
            · have hR : may (1 + (p : Int)) (1 + (q : Int)) L x = 9 := by unfold may; rw [if_pos (by rw [← HCC.out]; exact h1)]
              have hR2 : addL (1 + (p : Int)) (1 + (q : Int)) L x = L := by unfold addL; rw [hR]; rfl
              rw [hR, hR2] at hsu
              clear hR hR2
              have hd1 : decide (c < 1 + (p : Int)) = false := decide_eq_false (by omega)
              go_wp2_with (first | (go_at_call 11; refine hsu.out.mono ?_; rintro e w3 ⟨rfl, hq3, hb3⟩; have HQ3 := hid hq3; have HB3 := hid hb3; clear hq3 hb3))
              go_meet
              exact ⟨9, L, rfl, HQ3.out, HB3.out, .inr rfl⟩
            · have hd1 : decide (c < 1 + (p : Int)) = true := decide_eq_true (by omega)
              have hd1' : c < 1 + (p : Int) := by omega
              by_cases h2 : (1 + (q : Int)) ≤ l
              · have hR : may (1 + (p : Int)) (1 + (q : Int)) L x = 10 := by unfold may; rw [if_neg (by rw [← HCC.out]; exact h1), if_pos (by rw [← HLL.out]; exact h2)]
                have hR2 : addL (1 + (p : Int)) (1 + (q : Int)) L x = L := by unfold addL; rw [hR]; rfl
                rw [hR, hR2] at hsu
                clear hR hR2 h1
                have hd2 : decide (l < 1 + (q : Int)) = false := decide_eq_false (by omega)
                go_wp2_with (first | (go_at_call 11; refine hsu.out.mono ?_; rintro e w3 ⟨rfl, hq3, hb3⟩; have HQ3 := hid hq3; have HB3 := hid hb3; clear hq3 hb3))
                go_meet
                exact ⟨10, L, rfl, HQ3.out, HB3.out, .inr rfl⟩
              · have hR : may (1 + (p : Int)) (1 + (q : Int)) L x = 0 := by unfold may; rw [if_neg (by rw [← HCC.out]; exact h1), if_neg (by rw [← HLL.out]; exact h2)]
                have hR2 : addL (1 + (p : Int)) (1 + (q : Int)) L x = L ++ [x] := by unfold addL; rw [if_pos hR]
                rw [hR, hR2] at hsu
                clear hR hR2 h1
                have hd2 : decide (l < 1 + (q : Int)) = true := decide_eq_true (by omega)
                have hd2' : l < 1 + (q : Int) := by omega
                have hcx : Hid (((L ++ [x]).count x : Int) = c + 1) := by unfold Hid; rw [HCC.out]; simp
                have hlx : Hid (((L ++ [x]).length : Int) = l + 1) := by unfold Hid; rw [HLL.out]; simp
                clear h2
                go_upto_region 16 with (first | (go_at_call 11; refine hsu.out.mono ?_; rintro e w3 ⟨rfl, hq3, hb3⟩; have HQ3 := hid hq3; have HB3 := hid hb3; clear hq3 hb3))
                have hof3 := hid (of_any HQ3.out x hok)
                have hal3 := hid (all_any HQ3.out)
                rw [hcx.out] at hof3
                rw [hlx.out] at hal3
                have d2 := cell_but HB3.out m2 hbo.out
                clear m0 m2 m3 hsu hcx hlx
                go_wp2_with (first
                  | (go_at_call 8; refine hof3.out.mono ?_; rintro e w9 ⟨rfl, hw9⟩; obtain rfl := hw9.symm; clear hw9)
                  | (go_at_call 9; refine hal3.out.mono ?_; rintro e w5 ⟨rfl, hb5⟩; have HB5 := hid hb5; clear hb5))
                go_meet
                exact ⟨0, _, rfl, HQ3.out.later HB5.out, HB3.out.call HB5.out, .inl rfl⟩
      case rest => as_aux_lemma =>
          clear m0 m3 HQ2
          obtain ⟨E, L', rfl, hq3, hb3, hE⟩ := hcut
          have HQ3 := hid hq3
          have HB3 := hid hb3
          have HE := hid hE
          have d2 := cell_but hb3 m2 hbo.out
          have HBc := hid (But.below HBw.out hb3 (fun k hk => by have := hb0.out; omega))
          clear hq3 hb3 hE m2
          go_upto_region 18 with fail
          go_cut [152] (fun s w' => s = .bool false ∧ Below wc.heap.size wc w')
          case first =>
            by_cases hE0 : E = 0
            · as_aux_lemma =>
                subst hE0
                go_wp2
                go_meet
                exact ⟨rfl, Below.refl _ _⟩
            · as_aux_lemma =>
                have hL : L' = L := by rcases HE.out with h | h; exact absurd h hE0; exact h
                subst hL
                have hd : (E != 0) = true := by simp [hE0]
                have hof3 := hid (of_any HQ3.out x hok)
                have hal3 := hid (all_any HQ3.out)
                rw [← HCC.out] at hof3
                rw [← HLL.out] at hal3
                go_wp2_with (first
                  | (go_at_call 8; refine hof3.out.mono ?_; rintro e w9 ⟨rfl, hw9⟩; obtain rfl := hw9.symm; clear hw9)
                  | (go_at_call 9; refine hal3.out.mono ?_; rintro e w5 ⟨rfl, hb5⟩; have HB5 := hid hb5; clear hb5))
                go_meet
                exact ⟨rfl, HB5.out⟩
          case rest => as_aux_lemma =>
              obtain ⟨rfl, hb6⟩ := hcut
              have HQ6 := hid (HQ3.out.later hb6)
              have HB6 := hid (below_call HBc.out hb6)
              clear hb6 HQ3 HB3 HE HBc HBw d2 HCC HLL hoth z7 z5 hc0 hl0
              have hll := HQ6.out.sz.len
              have hobj := hid (objects_any HQ6.out)
              go_upto_region 23 with (first | (go_at_call 12; refine hobj.out.mono ?_; rintro e w7 ⟨pp, lc, rfl, ho7, hb7⟩; have HO7 := hid ho7; have HB7 := hid hb7; clear ho7 hb7))
              have HQ7 := hid (HQ6.out.later HB7.out)
              have HBk := hid (below_call HB6.out HB7.out)
              clear hobj HQ6 HB6 HB7
              have hol : Hid ((ob L').length ≤ L'.length) := ob_len L'
              go_loopw [14, 15] (TotRel w7 L') (fun _ t _ => (ob L').length - (intOf t).toNat)
              case atStart => exact ⟨0, Nat.zero_le _, rfl, rfl, 0, rfl⟩
              case round =>
                obtain ⟨k, hk, rfl, rfl, m, rfl⟩ := hrel
                have hcs := csum_take_le L' k
                by_cases hkl : k < (ob L').length
                · have hd : decide ((k : Int) < ((ob L').length : Int)) = true := decide_eq_true (by omega)
                  obtain ⟨lb, lo, rfl, h1⟩ := HO7.out.read.plain (by omega)
                  have y1 := h1 k _ (ints_get _ k hkl)
                  obtain ⟨y, hy⟩ : ∃ y, y = (ob L')[k] := ⟨_, rfl⟩
                  rw [← hy] at y1
                  have hym : y ∈ L' := by rw [hy]; exact (ob_mem L' _).1 (List.getElem_mem hkl)
                  have hof := hid (of_any (HQ7.out.later (below_drewN (Below.refl _ _) m)) y (HQ7.out.wf hym))
                  have hcn := List.count_pos_iff.2 hym
                  have hcm := HQ7.out.sz.cnt y
                  have HCT : Hid (csum L' ((ob L').take (k + 1)) = csum L' ((ob L').take k) + L'.count y) := by unfold Hid; rw [hy]; exact csum_take L' hkl
                  have hcs1 := csum_take_le L' (k + 1)
                  rw [HCT.out] at hcs1
                  obtain ⟨cn, hcn'⟩ : ∃ cn : Nat, cn = L'.count y := ⟨_, rfl⟩
                  rw [← hcn'] at hof hcn hcm hcs1 HCT
                  obtain ⟨ct, hct⟩ : ∃ ct : Nat, ct = csum L' ((ob L').take k) := ⟨_, rfl⟩
                  rw [← hct] at hcs hcs1 HCT
                  rw [← hct]
                  have hz1 : decide ((cn : Int) < 1) = false := decide_eq_false (by omega)
                  have hz2 : decide ((cn : Int) > 1 + (p : Int)) = false := decide_eq_false (by omega)
                  have hol2 := hol.out
                  have hw1 : wrap64 ((ct : Int) + (cn : Int)) = (ct : Int) + (cn : Int) := by unfold wrap64; omega
                  have HRL : Hid (∀ m' U, U = w7.drewN m' → TotRel w7 L' (.int .i64 ((ct : Int) + (cn : Int))) (.int .i64 ((k : Int) + 1)) U) := fun m' U hU => ⟨k + 1, by omega, by rw [HCT.out]; rfl, rfl, m', hU⟩
                  clear hcn' hct HCT hym
                  by_cases hk0 : k = 0
                  · as_aux_lemma =>
                      have hz4 : decide ((k : Int) > 0) = false := decide_eq_false (by omega)
                      have hz5 : decide (0 < k) = false := decide_eq_false (by omega)
                      clear h1 hy hk0
                      go_upto_region 26 with (first | (go_at_call 8; refine hof.out.mono ?_; rintro e w9 ⟨rfl, hw9⟩; obtain rfl := hw9.symm; clear hw9))
                      go_quiet (fail)
                      go_wp2
                      refine ⟨?_, by simp [intOf]; omega⟩
                      rw [hw1]
                      exact HRL.out _ _ rfl
                  · as_aux_lemma =>
                      obtain ⟨j, rfl⟩ : ∃ j, k = j + 1 := ⟨k - 1, by omega⟩
                      have HRL2 : Hid (∀ m' U, U = w7.drewN m' → TotRel w7 L' (.int .i64 ((ct : Int) + (cn : Int))) (.int .i64 ((j : Int) + 1 + 1)) U) := HRL
                      have y2 := h1 j _ (ints_get _ j (by omega))
                      have hlt2 := ob_next L' hkl
                      rw [← hy] at hlt2
                      obtain ⟨y', hy'⟩ : ∃ y', y' = (ob L')[j] := ⟨_, rfl⟩
                      rw [← hy'] at y2 hlt2
                      have hz3 : decide (y ≤ y') = false := decide_eq_false (by omega)
                      clear h1 hy hy' HRL hk0
                      go_upto_region 26 with (first | (go_at_call 8; refine hof.out.mono ?_; rintro e w9 ⟨rfl, hw9⟩; obtain rfl := hw9.symm; clear hw9))
                      go_quiet (fail)
                      go_wp2
                      refine ⟨?_, by simp [intOf]; omega⟩
                      rw [hw1]
                      exact HRL2.out _ _ rfl
                · as_aux_lemma =>
                    obtain rfl : k = (ob L').length := by omega
                    have hd : decide (((ob L').length : Int) < ((ob L').length : Int)) = false := by simp
                    have hal := hid (all_any (HQ7.out.later (below_drewN (Below.refl _ _) m)))
                    have hsum : csum L' ((ob L').take (ob L').length) = L'.length := by rw [List.take_length]; exact ob_sum L'
                    rw [hsum]
                    have hz2 : decide ((L'.length : Int) > 1 + (q : Int)) = false := decide_eq_false (by omega)
                    have HQ8 := hid (HQ7.out.later (below_drewN (Below.refl _ _) m))
                    have HB8 := hid (below_drewN HBk.out m)
                    clear hcs hsum
                    go_wp2_with (first | (go_at_call 9; refine hal.out.mono ?_; rintro e w8 ⟨rfl, hb8⟩; have HB9 := hid hb8; clear hb8))
                    go_roundw
                    case rel => exact ⟨i + 1, L', by omega, by go_num, HQ8.out.later HB9.out, below_call HB8.out HB9.out⟩
                    case measure => simp [intOf]; omega
    · as_aux_lemma =>
        obtain rfl : i = n := by omega
        have HQe := hid hQ
        have HBe := hid hB
        have hbw : Hid (b < wr.heap.size) := hQ.blt
        clear hQ hB
        have hobj := hid (objects_any HQe.out)
        go_upto_region 33 with (first | (go_at_call 12; refine hobj.out.mono ?_; rintro e w3 ⟨pp, lc, rfl, ho3, hb3⟩; have HO3 := hid ho3; have HB3 := hid hb3; clear ho3 hb3))
        have HQ3 := hid (HQe.out.later HB3.out)
        have HBk := hid (below_call HBe.out HB3.out)
        have hol : Hid ((ob L).length ≤ 256) := by have h1 := ob_len L; have h2 := HQe.out.sz.len; have h3 := HQe.out.sz.a2; unfold Hid; omega
        have HWF : Hid (∀ y, y ∈ L → (Lit.int .i64 y).wf = true) := fun y hy => HQe.out.wf hy
        clear hobj HQe HBe HB3
        go_loopw [18] (BackRel w wr.heap.size g b (1 + (p : Int)) (1 + (q : Int)) L pp lc) (fun t _ => (ob L).length - (intOf t).toNat)
        case atStart => exact ⟨0, L, Nat.zero_le _, rfl, HQ3.out, Back.start L, HO3.out, HBk.out⟩
        case round =>
          clear HQ3 HO3 HBk
          obtain ⟨k, M, hk, rfl, hQ, hBa, hO, hB⟩ := hrel
          have hol2 := hol.out
          by_cases hkl : k < (ob L).length
          · have hd : decide ((k : Int) < ((ob L).length : Int)) = true := decide_eq_true (by omega)
            obtain ⟨lb, lo, rfl, h1⟩ := hO.read.plain (by omega)
            have y1 := h1 k _ (ints_get _ k hkl)
            have HBA := hid (hBa.step hkl)
            have hym := (ob_mem L _).1 (List.getElem_mem hkl)
            obtain ⟨y, hy⟩ : ∃ y, y = (ob L)[k] := ⟨_, rfl⟩
            rw [← hy] at y1 HBA hym
            have hwf : (Lit.int .i64 y).wf = true := HWF.out y hym
            obtain ⟨W, hW⟩ : ∃ W, W = wr := ⟨_, rfl⟩
            have hof := hid (fun (U : World) (hU : Below wr.heap.size wr U) => of_any (hQ.later hU) y hwf)
            have hsu := hid (fun (U : World) (hU : Below wr.heap.size wr U) => sub_any (hQ.later hU) y (M.count y : Int) hwf)
            rw [sub_ok] at hsu
            have hC : Hid (∀ U : World, But (fun j => j = b) wr U → (U.cell? ⟨lb, lo + k, none⟩ = some (.int .i64 y)) ∧ But (fun j => j = b) wr U) := fun U hU => ⟨cell_but hU y1 (fun e => by have h2 := hO.blk lb ⟨_, rfl, rfl⟩; have h3 := hbw.out; simp only at e; omega), hU⟩
            have HOL := hid hO
            have HBL := hid hB
            clear hW W h1 hy hym hQ hBa hO hB y1
            obtain ⟨cn, hcn⟩ : ∃ cn : Int, cn = (M.count y : Int) := ⟨_, rfl⟩
            rw [← hcn] at hof hsu HBA
            clear hcn
            go_upto_region 35 with fail
            go_region_held3 (fun U => (U.cell? ⟨lb, lo + k, none⟩ = some (.int .i64 y)) ∧ But (fun j => j = b) wr U) (first | exact hC.out _ HB5.out | exact hC.out _ (But.of HB4.out) | exact hC.out _ (But.of (Below.refl _ _).drew)) (first
              | (go_at_call 8; refine (hof.out _ (Below.refl _ _).drew).mono ?_; rintro e w4 ⟨rfl, hw4⟩; have HB4 : Hid (Below wr.heap.size wr w4) := (by unfold Hid; rw [hw4]; exact (Below.refl _ _).drew); clear hw4)
              | (go_at_call 10; refine (hsu.out _ HB4.out).mono ?_; rintro e w5 ⟨rfl, hq5, hb5⟩; have HQ5 := hid hq5; have HB5 := hid ((But.of HB4.out).trans hb5); clear hq5 hb5))
            go_wp2
            refine ⟨⟨k + 1, _, by omega, by go_num, HQ5.out, HBA.out, HOL.out.but HB5.out (fun j hj e => by have h2 := HOL.out.blk j hj; have h3 := hbw.out; omega), But.below HBL.out HB5.out (fun j hj => by have := hb0.out; omega)⟩, by simp [intOf]; omega⟩
          · obtain rfl : k = (ob L).length := by omega
            have hM := hBa.done
            subst hM
            have hal := hid (all_any hQ)
            have hobj := hid (fun (U : World) (hU : Below wr.heap.size wr U) => objects_any (hQ.later hU))
            rw [ob_nil] at hobj
            have HBL := hid hB
            clear hQ hBa hO hB
            go_wp2_with (first
              | (go_at_call 9; refine hal.out.mono ?_; rintro e w4 ⟨rfl, hb4⟩; have HB4 := hid hb4; clear hb4)
              | (go_at_call 12; refine (hobj.out _ HB4.out).mono ?_; rintro e w5 ⟨p5, c5, rfl, ho5, hb5⟩; have HB5 := hid (below_call HB4.out hb5); clear ho5 hb5))
            go_ret
            exact ⟨by first | rfl | simp, below_call HBL.out HB5.out⟩
end Go.Proofs.Ytfeilkhlapnpoaa
