import Derived.Test.YtfeilkhlapnpoaaLV
import Derived.Deep.LoopGhost
import Derived.Deep.CutRange
import Derived.Deep.DeepCutAuto
namespace Go.Proofs.Ytfeilkhlapnpoaa
open Go.RowKit Go.Maps
set_option linter.unusedVariables false

set_option maxRecDepth 100000 in
set_option maxHeartbeats 4000000 in
theorem sums_law (e0 a0 : Int) (s : Option Addr) (n cap : Nat) (f : Nat → Sp) (w : World) (hS : Ss w s n f) (hn : n ≤ 9223372036854775807) :
    Calls Try.prog 3 #[.int .i64 e0, .int .i64 a0, .slice s n cap] w fun r w' => r = .returned (.bool true) ∧ Below w.heap.size w w' := by
  have HS := hid hS
  clear hS
  obtain ⟨p, hp, hp1⟩ := low8 e0
  obtain ⟨q, hq, hq1⟩ := low8 a0
  have hok : Hid (okB (1 + (p : Int)) (1 + (q : Int))) := by unfold Hid okB; omega
  go_enter Try.func3, Try.ntmps3
  go_upto_region 3 with (first | (go_at_call 6; refine (head_any w).mono ?_; rintro e w1 ⟨rfl, hb1⟩; have HB1 := hid hb1; clear hb1))
  go_upto_region 7 with (first | (go_at_call 7; refine (new_ok (1 + (p : Int)) (1 + (q : Int)) w1 hok.out).mono ?_; rintro e w2 ⟨g, b, rfl, hq2, hg2, hbb, hbl2⟩; have HQ2 := hid hq2; have HB2 := hid (below_call HB1.out hbl2); have hb0 : Hid (w.heap.size ≤ b) := (Nat.le_trans HB1.out.size hbb); clear hq2 hbl2 hg2 hbb))
  go_loopw [9] (SumRel w g b n (1 + (p : Int)) (1 + (q : Int))) (fun t _ => n - (intOf t).toNat)
  case atStart => exact ⟨0, [], Nat.zero_le _, rfl, HQ2.out, HB2.out⟩
  case round =>
    clear HQ2 HB2 HB1
    obtain ⟨i, L, hi, rfl, hQ, hB⟩ := hrel
    by_cases hlt : i < n
    · obtain ⟨sb, so, rfl, hc⟩ := (HS.out.later hB).at_ (by omega)
      have hok := HS.out.ok i hlt
      obtain ⟨s0, s1, s2, s3⟩ := hc i hlt
      clear hc
      generalize hfi : f i = s at *
      clear hfi
      obtain ⟨kd, wh, x, sn⟩ := s
      simp only at s0 s1 s2 s3 hok
      obtain ⟨w1, hw1⟩ : ∃ w1, w1 = wr.alloc (Obj.cells #[.int .i64 kd, .int .i64 wh, .int .i64 x, .int .i64 sn] 29) := ⟨_, rfl⟩
      have hB1 : Below wr.heap.size wr w1 := by rw [hw1]; exact below1 _ _
      obtain ⟨t0, t1, t2, t3⟩ : Sb w1 wr.heap.size 0 ⟨kd, wh, x, sn⟩ := by rw [hw1]; exact Sb.new wr ⟨kd, wh, x, sn⟩
      simp only [Nat.zero_add] at t0 t1 t2 t3
      have HQ := hid (hQ.later hB1)
      have HB := hid (below_call hB hB1)
      have hbo : Hid (wr.heap.size ≠ b) := by have := hQ.blt; unfold Hid; omega
      have hsz := hQ.sz
      obtain ⟨z1, z2, z3, z4, z5, z6⟩ := hsz
      have z7 := z6 x
      have hoth := hid z6
      clear hQ hB hB1 z6
      go_upto_region 10 with fail
      rw [← hw1]
      clear hw1 s0 s1 s2 s3
      have hof := hid (of_any HQ.out x hok)
      have hal := hid (all_any HQ.out)
      obtain ⟨c, hcc⟩ : ∃ c : Int, c = (L.count x : Int) := ⟨_, rfl⟩
      obtain ⟨l, hll⟩ : ∃ l : Int, l = (L.length : Int) := ⟨_, rfl⟩
      rw [← hcc] at hof z7
      rw [← hll] at hal z5
      have hc0 : 0 ≤ c := by omega
      have hl0 : 0 ≤ l := by omega
      have HCC := hid hcc
      have HLL := hid hll
      clear hcc hll
      go_upto_region 11 with (first
        | (go_at_call 8; refine hof.out.mono ?_; rintro e w9 ⟨rfl, hw9⟩; obtain rfl := hw9.symm; clear hw9)
        | (go_at_call 9; refine hal.out.mono ?_; rintro e w2 ⟨rfl, hb2⟩; have HB2 := hid hb2; clear hb2))
      have HQ2 := hid (HQ.out.later HB2.out)
      have HBw := hid (below_call HB.out HB2.out)
      have m0 := cell_later HB2.out t0
      have m2 := cell_later HB2.out t2
      have m3 := cell_later HB2.out t3
      clear hof hal HB2 HB HQ t0 t1 t2 t3
      go_upto_if 55 with fail
      refine wp_mono (sm_if e0 a0 p q hp hp1 hq hq1 g b wr.heap.size L kd x sn c l w2 hok hbo.out HQ2.out HCC.out HLL.out m2 m3 ?_) then_false
      intro E L' wc hcut
      intro v6 v55 v56 v57 v58 v59 v60 v61 v62 v63 v64 v65 v66 v67 v68 v69 v70 v71 v72 v73 v74 v75 v76 v77 v78 v79 v80 v81 v82 v83 v84 v85 v86 v87 v88 v89 v90 v91 v92 v93 v94 v95 v96 v97 v98 v99 v100 v101 v102 v103 v104 v105 v106 v107 v108 v109 v110 v111 v112 v113 v114 v115 v116 v117 v118 v119 v120 v121 v122 v123 v124 v125 v126 v127 v128 v129 v130 v131 v132 v133 v134 v135 v136
      clear m0 m3 HQ2
      obtain ⟨hq3, hb3, hE⟩ := hcut
      have HQ3 := hid hq3
      have HB3 := hid hb3
      have HE := hid hE
      have d2 := cell_but hb3 m2 hbo.out
      have HBc := hid (But.below HBw.out hb3 (fun k hk => by have := hb0.out; omega))
      clear hq3 hb3 hE m2
      go_upto_region 18 with fail
      go_cut [152] (fun s w' => s = .bool false ∧ Below wc.heap.size wc w')
      case first =>
        by_cases hE0 : E = 0
        · subst hE0
          go_wp2
          go_meet
          exact ⟨rfl, Below.refl _ _⟩
        · have hL : L' = L := by rcases HE.out with h | h; exact absurd h hE0; exact h
          subst hL
          have hd : (E != 0) = true := by simp [hE0]
          have hof3 := hid (of_any HQ3.out x hok)
          have hal3 := hid (all_any HQ3.out)
          rw [← HCC.out] at hof3
          rw [← HLL.out] at hal3
          go_wp2_with (first
            | (go_at_call 8; refine hof3.out.mono ?_; rintro e w9 ⟨rfl, hw9⟩; obtain rfl := hw9.symm; clear hw9)
            | (go_at_call 9; refine hal3.out.mono ?_; rintro e w5 ⟨rfl, hb5⟩; have HB5 := hid hb5; clear hb5))
          go_meet
          exact ⟨rfl, HB5.out⟩
      case rest =>
        obtain ⟨rfl, hb6⟩ := hcut
        have HQ6 := hid (HQ3.out.later hb6)
        have HB6 := hid (below_call HBc.out hb6)
        clear hb6 HQ3 HB3 HE HBc HBw d2 HCC HLL hoth z7 z5 hc0 hl0
        have hll := HQ6.out.sz.len
        have hobj := hid (objects_any HQ6.out)
        go_upto_region 23 with (first | (go_at_call 12; refine hobj.out.mono ?_; rintro e w7 ⟨pp, lc, rfl, ho7, hb7⟩; have HO7 := hid ho7; have HB7 := hid hb7; clear ho7 hb7))
        have HQ7 := hid (HQ6.out.later HB7.out)
        have HBk := hid (below_call HB6.out HB7.out)
        clear hobj HQ6 HB6 HB7
        have hol : Hid ((ob L').length ≤ L'.length) := ob_len L'
        refine wp_mono (sm_in e0 (1 + (q : Int)) p hp hp1 g b L' pp lc _ w7 HQ7.out HO7.out ?_) inb_false
        rintro _ ⟨m, rfl⟩
        intro v6 v16 v155 v156 v157 v158 v159 v160 v161 v162 v163 v164 v165 v166 v167 v168 v169 v170 v171 v172 v173 v174 v175 v176 v177 v178 v179 v180 v181 v182 v183 v184 v185 v186 v187 v188 v189 v190 v191 v192 v193 v194
        have hal := hid (all_any (HQ7.out.later (below_drewN (Below.refl _ _) m)))
        have hz2 : decide ((L'.length : Int) > 1 + (q : Int)) = false := decide_eq_false (by omega)
        have HQ8 := hid (HQ7.out.later (below_drewN (Below.refl _ _) m))
        have HB8 := hid (below_drewN HBk.out m)
        go_wp2_with (first | (go_at_call 9; refine hal.out.mono ?_; rintro e w8 ⟨rfl, hb8⟩; have HB9 := hid hb8; clear hb8))
        go_roundw
        case rel => exact ⟨i + 1, L', by omega, by go_num, HQ8.out.later HB9.out, below_call HB8.out HB9.out⟩
        case measure => simp [intOf]; omega
    · obtain rfl : i = n := by omega
      have HQe := hid hQ
      have HBe := hid hB
      have hbw : Hid (b < wr.heap.size) := hQ.blt
      clear hQ hB
      have hobj := hid (objects_any HQe.out)
      go_upto_region 33 with (first | (go_at_call 12; refine hobj.out.mono ?_; rintro e w3 ⟨pp, lc, rfl, ho3, hb3⟩; have HO3 := hid ho3; have HB3 := hid hb3; clear ho3 hb3))
      have HQ3 := hid (HQe.out.later HB3.out)
      have HBk := hid (below_call HBe.out HB3.out)
      have hol : Hid ((ob L).length ≤ 256) := by have h1 := ob_len L; have h2 := HQe.out.sz.len; have h3 := HQe.out.sz.a2; unfold Hid; omega
      have HWF : Hid (∀ y, y ∈ L → (Lit.int .i64 y).wf = true) := fun y hy => HQe.out.wf hy
      clear hobj HQe HBe HB3
      refine wp_mono (sm_last (1 + (p : Int)) (1 + (q : Int)) g b L pp lc _ w w3 HQ3.out HO3.out HBk.out hb0.out hbw.out ?_) inb_false
      rintro w5 ⟨hq5, hb5⟩
      intro v6 v208 v209 v210 v211 v212 v213 v214 v215 v216 v217 v218 v219 v220 v221 v222 v223 v224 v225 v226
      have HQE := hid hq5
      have HBL := hid hb5
      clear hq5 hb5 HQ3 HO3 HBk
      have hal := hid (all_any HQE.out)
      have hobj := hid (fun (U : World) (hU : Below w5.heap.size w5 U) => objects_any (HQE.out.later hU))
      rw [ob_nil] at hobj
      go_wp2_with (first
        | (go_at_call 9; refine hal.out.mono ?_; rintro e w4 ⟨rfl, hb4⟩; have HB4 := hid hb4; clear hb4)
        | (go_at_call 12; refine (hobj.out _ HB4.out).mono ?_; rintro e w6 ⟨p5, c5, rfl, ho5, hb5⟩; have HB5 := hid (below_call HB4.out hb5); clear ho5 hb5))
      go_ret
      exact ⟨by first | rfl | simp, below_call HBL.out HB5.out⟩
end Go.Proofs.Ytfeilkhlapnpoaa
