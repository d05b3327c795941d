import Derived.Test.YthfmmfphnimlnaaIH
import Derived.Test.YthfmmfphnimlnaaRA
namespace Go.Proofs.Ythfmmfphnimlnaa
open Go.RowKit
set_option linter.unusedVariables false
set_option linter.unusedSimpArgs false
theorem prS_ge (c : Cf) : ∀ (P : List Pc) (l m : Int), prS c P l = some m → l ≤ m
  | [], l, m, h => by simp [prS] at h; omega
  | p :: P, l, m, h => by
    rw [prS_cons] at h
    by_cases hc : (wi p.n l 65535 && lstB c p.l) = true
    · rw [if_pos hc] at h
      rw [Bool.and_eq_true, wi_iff] at hc
      have := prS_ge c P _ _ h
      omega
    · rw [if_neg hc] at h; cases h
theorem oPx_false {c : Cf} {P : List Pc} {l x : Int} (h : x < l) : oPx (prS c P l) x = false := by
  cases e : prS c P l with
  | none => rfl
  | some m =>
    have := prS_ge c P l m e
    show wi x (max m 1) 65536 = false
    unfold wi
    rw [decide_eq_false (by omega), Bool.false_and]
set_option maxRecDepth 100000 in
set_option maxHeartbeats 8000000 in
theorem rprocesses_any (c : Cf) (s : St) (a b d : Sl) (Q : List (Ob × Sl)) (R : List (Pc × Sl)) (w : World) (h : Sm w s a b d Q R) (hcw : c.w ≤ 9223372036854775807) :
    Calls Try.prog 19 #[c.v, stV a b d s.nx s.px s.ta] w fun e w' => e = .returned (.bool (prcB c s)) ∧ Below w.heap.size w w' := by
  obtain ⟨W, hW⟩ : ∃ W, W = (w.alloc (Obj.cells #[.int .i64 c.w, .int .i64 c.o, .int .i64 c.p, .int .i64 c.e, .int .i64 c.q, .int .i64 c.r, .int .i64 c.l, .int .i64 c.s, .int .i64 c.y, .int .i64 c.k] 23)).alloc (Obj.cells #[.slice a.a a.n a.c, .slice b.a b.n b.c, .slice d.a d.n d.c, .int .i64 s.nx, .int .i64 s.px, .int .i64 s.ta] 28) := ⟨_, rfl⟩
  have hB : Below w.heap.size w W := by rw [hW]; exact below2 _ _ _
  have x0 : W.cell? ⟨w.heap.size, 0, none⟩ = some (.int .i64 c.w) := by rw [hW]; simp [go_sem]
  have x5 : W.cell? ⟨w.heap.size, 5, none⟩ = some (.int .i64 c.r) := by rw [hW]; simp [go_sem]
  have x6 : W.cell? ⟨w.heap.size, 6, none⟩ = some (.int .i64 c.l) := by rw [hW]; simp [go_sem]
  have y2 : W.cell? ⟨w.heap.size + 1, 2, none⟩ = some (.slice d.a d.n d.c) := by rw [hW]; simp [go_sem]
  have y4 : W.cell? ⟨w.heap.size + 1, 4, none⟩ = some (.int .i64 s.px) := by rw [hW]; simp [go_sem]
  have hmd := h.mc
  have HM := hid (h.later hB)
  have HB := hid hB
  have HW := hid hW
  have HWi := hid rwithin_any
  have hlP : s.P.length = d.n := by rw [← h.ep]; have := h.p.len; simpa using this
  have HK : Hid (prcB c s = (decide ((d.n : Int) ≤ c.r) && oPx (prS c s.P 0) s.px)) := by unfold Hid prcB; rw [hlP]
  have HlP := hid hlP
  have HCw := hid hcw
  clear h hB hW hlP hcw
  obtain ⟨da, dn, dc⟩ := d
  simp only at hmd HW HM HK HlP y2 ⊢
  have HX0 := hid x0
  have HX6 := hid x6
  have HY2 := hid y2
  have HY4 := hid y4
  by_cases hno : (dn : Int) ≤ c.r
  · have hd : decide (c.r < (dn : Int)) = false := by simp; omega
    have HK2 : Hid (prcB c s = oPx (prS c s.P 0) s.px) := by unfold Hid; rw [HK.out, decide_eq_true hno, Bool.true_and]
    clear HK
    by_cases hpx : wi s.px 1 65536 = true
    · have HPx := hid (wi_iff.1 hpx)
      go_enter Try.func19, Try.ntmps19
      go_upto_region 1 with fail
      rw [← HW.out]
      go_upto_region 5 with (first | (go_at_call 20; refine (HWi.out _ _ _ _).mono ?_; rintro e w1 ⟨rfl, rfl⟩; rw [hpx]))
      clear hd x0 x5 x6 y2 y4
      go_loopw [5, 6] (fun l i U => ∃ (j : Nat) (lv : Int), i = .int .i64 (j : Int) ∧ l = .int .i64 lv ∧ j ≤ dn ∧ -1 ≤ lv ∧ lv ≤ 65535 ∧ lv < s.px ∧ prS c (s.P.drop j) (lv + 1) = prS c s.P 0 ∧ Below w1.heap.size w1 U) (fun _ i _ => dn - ivN i)
      case atStart => exact ⟨0, -1, rfl, rfl, Nat.zero_le _, by omega, by omega, by have := HPx.out; omega, rfl, Below.refl _ _⟩
      case round =>
        obtain ⟨j, lv, rfl, rfl, hj, hl0, hl1, hl2, hS, hBr⟩ := hrel
        have HS := hid hS
        have HBr := hid hBr
        have y2 := cell_later hBr HY2.out
        clear hS hBr
        by_cases hlt : j < dn
        · have hd : decide ((j : Int) < (dn : Int)) = true := by simp; omega
          obtain ⟨q, hq⟩ : ∃ q, R[j]? = some q := ⟨_, List.getElem?_eq_getElem (by have h1 := HM.out.p.len; simp at h1; omega)⟩
          obtain ⟨g, o, rfl, hrg⟩ := HM.out.p.at_ j (encP q) (by rw [List.getElem?_map, hq]; rfl)
          have HLd := hid (ldP (rangeAt_later HBr.out hrg) rfl)
          have HD := hid (drop_at (L := s.P) (j := j) (x := q.1) (by rw [← HM.out.ep, List.getElem?_map, hq]; rfl))
          rw [HD.out, prS_cons] at HS
          have hqm := List.mem_of_getElem? hq
          have HPl := hid (HM.out.pl q hqm)
          have HPw := hid (HM.out.pw q hqm)
          have hmp := HM.out.mp q hqm
          have hql : q.1.l.length = q.2.n := by have := (HM.out.pl q hqm).len; simpa using this
          obtain ⟨⟨qi, ql⟩, qa, qn, qc⟩ := q
          simp only at HS HPl HPw hmp hql
          have HLd : Hid ((Instr.loadAt 51 (.pointer (some ⟨g, o + j * 2, none⟩))).run Try.prog wr = .ok (.agg #[.int .i64 qi, .slice qa qn qc]) wr) := HLd.out
          obtain ⟨V, hV⟩ : ∃ V, V = wr.alloc (Obj.cells #[.int .i64 qi, .slice qa qn qc] 51) := ⟨_, rfl⟩
          have HBn : Hid (Below w1.heap.size w1 V) := by rw [hV]; exact below_call HBr.out (below1 _ _)
          have z0 : V.cell? ⟨wr.heap.size, 0, none⟩ = some (.int .i64 qi) := by rw [hV]; simp [go_sem]
          have z1 : V.cell? ⟨wr.heap.size, 1, none⟩ = some (.slice qa qn qc) := by rw [hV]; simp [go_sem]
          have HZ1 := hid z1
          have HV := hid hV
          have HQl := hid hql
          clear hrg hq HD hqm hV hql
          go_upto_region 8 with (first | ((with_reducible refine ld_arm HLd.out ?_ ?_); (· rfl)))
          rw [← HV.out]
          obtain ⟨bp, hbp⟩ : ∃ bp, bp = wr.heap.size := ⟨_, rfl⟩
          rw [← hbp] at z0 z1 HZ1 ⊢
          clear HLd y2 hd hbp
          have y4 := cell_later HBn.out HY4.out
          have x6 := cell_later HBn.out HX6.out
          by_cases h1 : qi ≤ lv
          · have hd1 : decide (qi ≤ lv) = true := decide_eq_true h1
            have HF : Hid (prcB c s = false) := by
              unfold Hid
              rw [HK2.out, ← HS.out, show wi qi (lv + 1) 65535 = false by { unfold wi; rw [decide_eq_false (by omega)]; rfl }, Bool.false_and]; rfl
            go_wp2
            go_ret
            exact ⟨ret_bool HF.out.symm, below_call HB.out HBn.out⟩
          · have hd1 : decide (qi ≤ lv) = false := decide_eq_false h1
            by_cases h2 : 65535 < qi
            · have hd2 : decide (65535 < qi) = true := decide_eq_true h2
              have HF : Hid (prcB c s = false) := by
                unfold Hid
                rw [HK2.out, ← HS.out, show wi qi (lv + 1) 65535 = false by { unfold wi; rw [decide_eq_false (p := qi ≤ 65535) (by omega), Bool.and_false] }, Bool.false_and]; rfl
              go_wp2
              go_ret
              exact ⟨ret_bool HF.out.symm, below_call HB.out HBn.out⟩
            · have hd2 : decide (65535 < qi) = false := decide_eq_false h2
              have hw1 : wi qi (lv + 1) 65535 = true := wi_iff.2 (by omega)
              by_cases h3 : s.px ≤ qi
              · have hd3 : decide (s.px ≤ qi) = true := decide_eq_true h3
                have HF : Hid (prcB c s = false) := by
                  unfold Hid
                  rw [HK2.out, ← HS.out]
                  split
                  · exact oPx_false (by omega)
                  · rfl
                go_wp2
                go_ret
                exact ⟨ret_bool HF.out.symm, below_call HB.out HBn.out⟩
              · have hd3 : decide (s.px ≤ qi) = false := decide_eq_false h3
                by_cases h4 : (qn : Int) ≤ c.l
                · have hd4 : decide (c.l < (qn : Int)) = false := by simp; omega
                  have HS2 : Hid ((if ql.all (lsB c) = true then prS c (s.P.drop (j + 1)) (qi + 1) else none) = prS c s.P 0) := by
                    have := HS.out
                    rw [hw1, lstB_eq, HQl.out, decide_eq_true h4, Bool.true_and, Bool.true_and] at this
                    exact this
                  clear HS
                  go_upto_region 12 with fail
                  clear z0 z1 x6 y4
                  go_loopw [8] (fun i U => ∃ (k : Nat), i = .int .i64 (k : Int) ∧ k ≤ qn ∧ (ql.drop k).all (lsB c) = ql.all (lsB c) ∧ Below V.heap.size V U) (fun i _ => qn - ivN i)
                  case atStart => exact ⟨0, rfl, Nat.zero_le _, rfl, Below.refl _ _⟩
                  case round =>
                    obtain ⟨k, rfl, hk, hA, hB2⟩ := hrel
                    have HA := hid hA
                    have HB2 := hid hB2
                    have z1 := cell_later hB2 HZ1.out
                    clear hA hB2
                    by_cases hkn : k < qn
                    · have hd5 : decide ((k : Int) < (qn : Int)) = true := by simp; omega
                      have hkq : (k : Int) < (qn : Int) := by omega
                      obtain ⟨x, hx⟩ : ∃ x, ql[k]? = some x := ⟨_, List.getElem?_eq_getElem (by have := HQl.out; omega)⟩
                      obtain ⟨g2, o2, rfl, hrg⟩ := HPl.out.at_ k (encC x) (by rw [List.getElem?_map, hx]; rfl)
                      have HDx := hid (drop_at hx)
                      rw [HDx.out, List.all_cons] at HA
                      have hxo := HPw.out x (List.mem_of_getElem? hx)
                      have HFt := hid (fun U => _root_.Go.Proofs.Ythfmmfphnimlnaa.W.rFits_any (x.h : Int) (x.l : Int) x.n c.w U (Cp.isV hxo) HCw.out)
                      have HA : Hid ((wi x.o 0 4611686018427387904 && _root_.Go.Proofs.Ythfmmfphnimlnaa.W.fitsB x.n c.w && (ql.drop (k + 1)).all (lsB c)) = ql.all (lsB c)) := HA.out
                      generalize _root_.Go.Proofs.Ythfmmfphnimlnaa.W.fitsB x.n c.w = fb at HFt HA
                      have HBv := hid (below_call HBn.out HB2.out)
                      have u0 := cell_later HBv.out (hrg 0 _ rfl)
                      have u1 := cell_later HBv.out (hrg 1 _ rfl)
                      have u2 := cell_later HBv.out (hrg 2 _ rfl)
                      have x0 := cell_later HBv.out HX0.out
                      simp only [Nat.add_zero] at u0
                      obtain ⟨xo, xh, xl⟩ := x
                      simp only at u0 u1 u2 HFt HA
                      have HCl : Hid (∀ U, Below wr.heap.size wr U → U.cell? ⟨g2, o2 + k * 3, none⟩ = some (.int .i64 xo) ∧ U.cell? ⟨g2, o2 + k * 3 + 1, none⟩ = some (.int .u64 (xh : Int)) ∧ U.cell? ⟨g2, o2 + k * 3 + 1 + 1, none⟩ = some (.int .u64 (xl : Int)) ∧ U.cell? ⟨bp, 1, none⟩ = some (.slice (some ⟨g2, o2, none⟩) qn qc) ∧ U.cell? ⟨w.heap.size, 0, none⟩ = some (.int .i64 c.w)) := fun U hU => ⟨cell_later hU u0, cell_later hU u1, cell_later hU u2, cell_later hU z1, cell_later hU x0⟩
                      clear hrg hx HDx hxo u0 u1 u2 x0
                      go_upto_region 14 with fail
                      clear z1
                      by_cases hw2 : wi xo 0 4611686018427387904 = true
                      · rw [hw2, Bool.true_and] at HA
                        cases fb with
                        | true =>
                          rw [Bool.true_and] at HA
                          go_region_held3 (fun U => U.cell? ⟨g2, o2 + k * 3, none⟩ = some (.int .i64 xo) ∧ U.cell? ⟨g2, o2 + k * 3 + 1, none⟩ = some (.int .u64 (xh : Int)) ∧ U.cell? ⟨g2, o2 + k * 3 + 1 + 1, none⟩ = some (.int .u64 (xl : Int)) ∧ U.cell? ⟨bp, 1, none⟩ = some (.slice (some ⟨g2, o2, none⟩) qn qc) ∧ U.cell? ⟨w.heap.size, 0, none⟩ = some (.int .i64 c.w)) (first | exact HCl.out _ (Below.refl _ _).drew | exact HE1.out) (first
                          | (go_at_call 20; refine (HWi.out _ _ _ _).mono ?_; rintro e w3 ⟨rfl, rfl⟩; rw [hw2])
                          | (go_at_call 35; refine (HFt.out _).mono ?_; rintro e w2 ⟨rfl, hb2⟩; have HB3 := hid (below_call (Below.refl _ _).drew hb2); have HE1 := hid (HCl.out _ HB3.out); clear hb2))
                          go_wp2
                          exact ⟨⟨k + 1, rfl, by omega, HA.out, below_call HB2.out HB3.out⟩, by simp [ivN]; omega⟩
                        | false =>
                          have HF : Hid (prcB c s = false) := by
                            unfold Hid
                            rw [HK2.out, ← HS2.out, if_neg (by rw [← HA.out]; simp)]; rfl
                          go_region_held3 (fun U => U.cell? ⟨g2, o2 + k * 3, none⟩ = some (.int .i64 xo) ∧ U.cell? ⟨g2, o2 + k * 3 + 1, none⟩ = some (.int .u64 (xh : Int)) ∧ U.cell? ⟨g2, o2 + k * 3 + 1 + 1, none⟩ = some (.int .u64 (xl : Int)) ∧ U.cell? ⟨bp, 1, none⟩ = some (.slice (some ⟨g2, o2, none⟩) qn qc) ∧ U.cell? ⟨w.heap.size, 0, none⟩ = some (.int .i64 c.w)) (first | exact HCl.out _ (Below.refl _ _).drew | exact HE1.out) (first
                          | (go_at_call 20; refine (HWi.out _ _ _ _).mono ?_; rintro e w3 ⟨rfl, rfl⟩; rw [hw2])
                          | (go_at_call 35; refine (HFt.out _).mono ?_; rintro e w2 ⟨rfl, hb2⟩; have HB3 := hid (below_call (Below.refl _ _).drew hb2); have HE1 := hid (HCl.out _ HB3.out); clear hb2))
                          go_wp2
                          go_ret
                          exact ⟨ret_bool HF.out.symm, below_call HB.out (below_call HBv.out HB3.out)⟩
                      · have hw2 : wi xo 0 4611686018427387904 = false := by simpa using hw2
                        have HF : Hid (prcB c s = false) := by
                          unfold Hid
                          rw [HK2.out, ← HS2.out, if_neg (by rw [← HA.out, hw2]; simp)]; rfl
                        have HWq := hid (fun U => hw2 ▸ HWi.out xo 0 4611686018427387904 U)
                        obtain ⟨u0, -, -, z1, -⟩ := HCl.out _ (Below.refl _ _)
                        go_quiet (first | (go_at_call 20; refine Calls.quiet_of_same (HWq.out _)))
                        go_wp2
                        go_ret
                        exact ⟨ret_bool HF.out.symm, below_drewN (below_call HB.out HBv.out) _⟩
                    · obtain rfl : k = qn := by omega
                      have h5 : ql.all (lsB c) = true := by rw [← HA.out, List.drop_eq_nil_of_le (by have := HQl.out; omega)]; rfl
                      have HS3 : Hid (prS c (s.P.drop (j + 1)) (qi + 1) = prS c s.P 0) := by have := HS2.out; rw [if_pos h5] at this; exact this
                      clear h5
                      go_wp2
                      exact ⟨⟨j + 1, qi, rfl, rfl, by omega, by omega, by omega, by omega, HS3.out, below_call HBn.out HB2.out⟩, by simp [ivN]; omega⟩
                · have hd4 : decide (c.l < (qn : Int)) = true := by simp; omega
                  have HF : Hid (prcB c s = false) := by
                    unfold Hid
                    rw [HK2.out, ← HS.out, lstB_eq, HQl.out, decide_eq_false h4, Bool.false_and, Bool.and_false]; rfl
                  go_wp2
                  go_ret
                  exact ⟨ret_bool HF.out.symm, below_call HB.out HBn.out⟩
        · obtain rfl : j = dn := by omega
          have HF : Hid (prcB c s = true) := by
            unfold Hid
            rw [HK2.out, ← HS.out, show s.P.drop j = [] from List.drop_eq_nil_of_le (by have := HlP.out; omega)]
            have := HPx.out
            exact wi_iff.2 (by omega)
          go_wp2
          go_ret
          exact ⟨ret_bool HF.out.symm, below_call HB.out HBr.out⟩
    · have hpx : wi s.px 1 65536 = false := by simpa using hpx
      have HF : Hid (prcB c s = false) := by
        unfold Hid
        rw [HK2.out]
        cases e : prS c s.P 0 with
        | none => rfl
        | some m =>
          unfold oPx
          unfold wi at hpx ⊢
          rw [Bool.and_eq_false_iff] at hpx ⊢
          rcases hpx with h1 | h1
          · left
            simp at h1 ⊢
            omega
          · exact .inr h1
      go_enter Try.func19, Try.ntmps19
      go_upto_region 1 with fail
      rw [← HW.out]
      go_wp2_with (first | (go_at_call 20; refine (HWi.out _ _ _ _).mono ?_; rintro e w1 ⟨rfl, rfl⟩; rw [hpx]))
      go_ret
      exact ⟨ret_bool HF.out.symm, HB.out⟩
  · have hd : decide (c.r < (dn : Int)) = true := by simp; omega
    have HF : Hid (prcB c s = false) := by unfold Hid; rw [HK.out, decide_eq_false hno, Bool.false_and]
    go_enter Try.func19, Try.ntmps19
    go_upto_region 1 with fail
    rw [← HW.out]
    go_wp2
    go_ret
    exact ⟨ret_bool HF.out.symm, HB.out⟩
end Go.Proofs.Ythfmmfphnimlnaa
