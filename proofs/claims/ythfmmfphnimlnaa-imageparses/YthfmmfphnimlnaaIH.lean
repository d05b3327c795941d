import Derived.Test.YthfmmfphnimlnaaIC
namespace Go.Proofs.Ythfmmfphnimlnaa
open Go.RowKit
set_option linter.unusedVariables false
set_option linter.unusedSimpArgs false
def lsB (c : Cf) (x : Cp) : Bool := wi x.o 0 MI && W.fitsB x.n c.w
theorem lstB_eq (c : Cf) (l : List Cp) : lstB c l = (decide ((l.length : Int) ≤ c.l) && l.all (lsB c)) := rfl
theorem prS_cons (c : Cf) (p : Pc) (r : List Pc) (l : Int) : prS c (p :: r) l = if wi p.n l 65535 && lstB c p.l then prS c r (p.n + 1) else none := rfl
set_option maxRecDepth 100000 in
set_option maxHeartbeats 4000000 in
theorem listHolds_any (c : Cf) (s : Sl) (l : List Cp) (w : World) (h : Lk w 3 s (l.map encC)) (hw : ∀ x ∈ l, x.ok) (hm : s.n ≤ 140737488355328) :
    Calls Try.prog 79 #[c.v, .slice s.a s.n s.c] w fun e w' => e = .returned (.bool (lstB c l)) ∧ Below w.heap.size w w' := by
  obtain ⟨W, hW⟩ : ∃ W, W = w.alloc (Obj.cells #[.int .i64 c.w, .int .i64 c.o, .int .i64 c.p, .int .i64 c.e, .int .i64 c.q, .int .i64 c.r, .int .i64 c.l, .int .i64 c.s, .int .i64 c.y, .int .i64 c.k] 23) := ⟨_, rfl⟩
  have hB : Below w.heap.size w W := by rw [hW]; exact below1 _ _
  have x6 : W.cell? ⟨w.heap.size, 6, none⟩ = some (.int .i64 c.l) := by rw [hW]; simp [go_sem]
  have x0 : W.cell? ⟨w.heap.size, 0, none⟩ = some (.int .i64 c.w) := by rw [hW]; simp [go_sem]
  have HL := hid (h.later hB)
  have hlen : l.length = s.n := by have := h.len; simpa using this
  have HLen := hid hlen
  have HW := hid hW
  have HB := hid hB
  have HX0 := hid x0
  have HO := hid hw
  have HWi := hid within_any
  have HE : Hid (lstB c l = (decide ((s.n : Int) ≤ c.l) && l.all (lsB c))) := by unfold Hid; rw [lstB_eq, hlen]
  clear h hlen hW hB x0 hw
  obtain ⟨sa, n, sc⟩ := s
  simp only at hm HL HLen HE ⊢
  by_cases hno : (n : Int) ≤ c.l
  · have hd : decide (c.l < (n : Int)) = false := by simp; omega
    have HE2 : Hid (lstB c l = l.all (lsB c)) := by unfold Hid; rw [HE.out, decide_eq_true hno, Bool.true_and]
    clear HE
    go_enter Try.func79, Try.ntmps79
    go_upto_region 1 with fail
    rw [← HW.out]
    go_upto_region 4 with fail
    clear hd x6
    go_loopw [14] (fun i U => ∃ (j : Nat), i = .int .i64 (j : Int) ∧ j ≤ n ∧ (l.drop j).all (lsB c) = l.all (lsB c) ∧ Below W.heap.size W U) (fun i _ => n - ivN i)
    case atStart => exact ⟨0, rfl, Nat.zero_le _, rfl, Below.refl _ _⟩
    case round =>
      obtain ⟨j, rfl, hj, hS, hBr⟩ := hrel
      have HS := hid hS
      have HBr := hid hBr
      clear hS hBr
      by_cases hlt : j < n
      · have hd : decide ((j : Int) < (n : Int)) = true := by simp; omega
        obtain ⟨q, hq⟩ : ∃ q, l[j]? = some q := ⟨_, List.getElem?_eq_getElem (by have := HLen.out; omega)⟩
        obtain ⟨g, o, rfl, hrg⟩ := HL.out.at_ j (encC q) (by rw [List.getElem?_map, hq]; rfl)
        have HD := hid (drop_at hq)
        rw [HD.out, List.all_cons] at HS
        have HLd := hid (ldC (rangeAt_later HBr.out hrg) rfl)
        have HOq := hid (HO.out q (List.mem_of_getElem? hq))
        have HFt := hid (fun U => _root_.Go.Proofs.Ythfmmfphnimlnaa.W.fits_any (q.h : Int) (q.l : Int) q.n c.w U (Cp.isV HOq.out))
        have HS : Hid ((wi q.o 0 4611686018427387904 && _root_.Go.Proofs.Ythfmmfphnimlnaa.W.fitsB q.n c.w && (l.drop (j + 1)).all (lsB c)) = l.all (lsB c)) := HS.out
        generalize _root_.Go.Proofs.Ythfmmfphnimlnaa.W.fitsB q.n c.w = fb at HFt HS
        obtain ⟨qo, qh, ql⟩ := q
        have HLd : Hid ((Instr.loadAt 65 (.pointer (some ⟨g, o + j * 3, none⟩))).run Try.prog wr = .ok (.agg #[.int .i64 qo, .int .u64 (qh : Int), .int .u64 (ql : Int)]) wr) := HLd.out
        simp only at HS HFt
        have HBn : Hid (Below W.heap.size W (wr.alloc (Obj.cells #[.int .i64 qo, .int .u64 (qh : Int), .int .u64 (ql : Int)] 65))) := below_call HBr.out (below1 _ _)
        clear hrg hq HD
        go_upto_region 6 with (first | ((with_reducible refine ld_arm HLd.out ?_ ?_); (· rfl)))
        clear HLd
        have x0 := cell_later HBn.out HX0.out
        by_cases hw1 : wi qo 0 4611686018427387904 = true
        · cases fb with
          | true =>
            have HS2 : Hid ((l.drop (j + 1)).all (lsB c) = l.all (lsB c)) := by have := HS.out; rw [hw1] at this; exact this
            go_wp2_with (first | (go_at_call 53; refine (HWi.out _ _ _ _).mono ?_; rintro e w1 ⟨rfl, rfl⟩; rw [hw1]) | (go_at_call 78; refine (HFt.out _).mono ?_; rintro e w2 ⟨rfl, hb2⟩; have HB2 := hid (below_call HBn.out hb2); clear hb2))
            exact ⟨⟨j + 1, rfl, by omega, HS2.out, HB2.out⟩, by simp [ivN]; omega⟩
          | false =>
            have HF : Hid (lstB c l = false) := by unfold Hid; rw [HE2.out, ← HS.out, hw1]; rfl
            go_wp2_with (first | (go_at_call 53; refine (HWi.out _ _ _ _).mono ?_; rintro e w1 ⟨rfl, rfl⟩; rw [hw1]) | (go_at_call 78; refine (HFt.out _).mono ?_; rintro e w2 ⟨rfl, hb2⟩; have HB2 := hid (below_call HBn.out hb2); clear hb2))
            go_ret
            exact ⟨ret_bool HF.out.symm, below_call HB.out HB2.out⟩
        · have hw1 : wi qo 0 4611686018427387904 = false := by simpa using hw1
          have HF : Hid (lstB c l = false) := by unfold Hid; rw [HE2.out, ← HS.out, hw1]; rfl
          go_wp2_with (first | (go_at_call 53; refine (HWi.out _ _ _ _).mono ?_; rintro e w1 ⟨rfl, rfl⟩; rw [hw1]))
          go_ret
          exact ⟨ret_bool HF.out.symm, below_call HB.out HBn.out⟩
      · obtain rfl : j = n := by omega
        have HF : Hid (lstB c l = true) := by unfold Hid; rw [HE2.out, ← HS.out, List.drop_eq_nil_of_le (by have := HLen.out; omega)]; rfl
        go_wp2
        go_ret
        exact ⟨ret_bool HF.out.symm, below_call HB.out HBr.out⟩
  · have hd : decide (c.l < (n : Int)) = true := by simp; omega
    have HF : Hid (lstB c l = false) := by unfold Hid; rw [HE.out, decide_eq_false hno, Bool.false_and]
    go_enter Try.func79, Try.ntmps79
    go_upto_region 1 with fail
    rw [← HW.out]
    go_wp2
    go_ret
    exact ⟨ret_bool HF.out.symm, HB.out⟩
set_option maxRecDepth 100000 in
set_option maxHeartbeats 4000000 in
theorem processesHold_any (c : Cf) (s : St) (a b d : Sl) (Q : List (Ob × Sl)) (R : List (Pc × Sl)) (w : World) (h : Sm w s a b d Q R) :
    Calls Try.prog 52 #[c.v, stV a b d s.nx s.px s.ta] w fun e w' => e = .returned (.bool (prcB c s)) ∧ Below w.heap.size w w' := by
  obtain ⟨W, hW⟩ : ∃ W, W = (w.alloc (Obj.cells #[.int .i64 c.w, .int .i64 c.o, .int .i64 c.p, .int .i64 c.e, .int .i64 c.q, .int .i64 c.r, .int .i64 c.l, .int .i64 c.s, .int .i64 c.y, .int .i64 c.k] 23)).alloc (Obj.cells #[.slice a.a a.n a.c, .slice b.a b.n b.c, .slice d.a d.n d.c, .int .i64 s.nx, .int .i64 s.px, .int .i64 s.ta] 28) := ⟨_, rfl⟩
  have hB : Below w.heap.size w W := by rw [hW]; exact below2 _ _ _
  have x5 : W.cell? ⟨w.heap.size, 5, none⟩ = some (.int .i64 c.r) := by rw [hW]; simp [go_sem]
  have HXr : Hid (W.rangeAt w.heap.size 0 c.L) := by
    rw [hW]
    exact rangeAt_later (below1 _ _) (rangeAt_new w c.L _)
  have y2 : W.cell? ⟨w.heap.size + 1, 2, none⟩ = some (.slice d.a d.n d.c) := by rw [hW]; simp [go_sem]
  have y4 : W.cell? ⟨w.heap.size + 1, 4, none⟩ = some (.int .i64 s.px) := by rw [hW]; simp [go_sem]
  have hmd := h.mc
  have HM := hid (h.later hB)
  have HB := hid hB
  have HW := hid hW
  have HWi := hid within_any
  have hlP : s.P.length = d.n := by rw [← h.ep]; have := h.p.len; simpa using this
  have HK : Hid (prcB c s = (decide ((d.n : Int) ≤ c.r) && oPx (prS c s.P 0) s.px)) := by unfold Hid prcB; rw [hlP]
  have HlP := hid hlP
  have HY4 := hid y4
  clear h hB hW hlP y4
  obtain ⟨da, dn, dc⟩ := d
  simp only at hmd HW HM HK HlP y2 ⊢
  by_cases hno : (dn : Int) ≤ c.r
  · have hd : decide (c.r < (dn : Int)) = false := by simp; omega
    have HK2 : Hid (prcB c s = oPx (prS c s.P 0) s.px) := by unfold Hid; rw [HK.out, decide_eq_true hno, Bool.true_and]
    clear HK
    go_enter Try.func52, Try.ntmps52
    go_upto_region 1 with fail
    rw [← HW.out]
    go_upto_region 5 with fail
    clear hd x5 y2
    go_loopw [5, 17] (fun l i U => ∃ (j : Nat) (lv : Int), i = .int .i64 (j : Int) ∧ l = .int .i64 lv ∧ j ≤ dn ∧ 0 ≤ lv ∧ lv ≤ 65536 ∧ prS c (s.P.drop j) lv = prS c s.P 0 ∧ Below W.heap.size W U) (fun _ i _ => dn - ivN i)
    case atStart => exact ⟨0, 0, rfl, rfl, Nat.zero_le _, by omega, by omega, rfl, Below.refl _ _⟩
    case round =>
      obtain ⟨j, lv, rfl, rfl, hj, hl0, hl1, hS, hBr⟩ := hrel
      have HS := hid hS
      have HBr := hid hBr
      clear hS hBr
      by_cases hlt : j < dn
      · have hd : decide ((j : Int) < (dn : Int)) = true := by simp; omega
        obtain ⟨q, hq⟩ : ∃ q, R[j]? = some q := ⟨_, List.getElem?_eq_getElem (by have h1 := HM.out.p.len; simp at h1; omega)⟩
        obtain ⟨g, o, rfl, hrg⟩ := HM.out.p.at_ j (encP q) (by rw [List.getElem?_map, hq]; rfl)
        have HLd := hid (ldP (rangeAt_later HBr.out hrg) rfl)
        have HD := hid (drop_at (L := s.P) (j := j) (x := q.1) (by rw [← HM.out.ep, List.getElem?_map, hq]; rfl))
        rw [HD.out, prS_cons] at HS
        have hqm := List.mem_of_getElem? hq
        have HC := hid (fun U (hU : Below W.heap.size W U) => listHolds_any c q.2 q.1.l U ((HM.out.pl q hqm).later hU) (HM.out.pw q hqm) (HM.out.mp q hqm))
        obtain ⟨⟨qi, ql⟩, qa, qn, qc⟩ := q
        simp only at HS HC
        generalize lstB c ql = lb at HS HC
        have HLd : Hid ((Instr.loadAt 51 (.pointer (some ⟨g, o + j * 2, none⟩))).run Try.prog wr = .ok (.agg #[.int .i64 qi, .slice qa qn qc]) wr) := HLd.out
        have HBn : Hid (Below W.heap.size W (wr.alloc (Obj.cells #[.int .i64 qi, .slice qa qn qc] 51))) := below_call HBr.out (below1 _ _)
        have HLf := hid (ldF (rangeAt_later HBn.out HXr.out) rfl)
        have HLf : Hid ((Instr.loadAt 23 (.pointer (some ⟨w.heap.size, 0, none⟩))).run Try.prog (wr.alloc (Obj.cells #[.int .i64 qi, .slice qa qn qc] 51)) = .ok c.v (wr.alloc (Obj.cells #[.int .i64 qi, .slice qa qn qc] 51))) := HLf.out
        clear hrg hq HD hqm
        go_upto_region 7 with (first | ((with_reducible refine ld_arm HLd.out ?_ ?_); (· rfl)))
        clear HLd
        by_cases hw1 : wi qi lv 65535 = true
        · have hqi := wi_iff.1 hw1
          cases lb with
          | true =>
            have HS2 : Hid (prS c (s.P.drop (j + 1)) (qi + 1) = prS c s.P 0) := by have := HS.out; rw [hw1] at this; exact this
            go_wp2_with (first | (go_at_call 53; refine (HWi.out _ _ _ _).mono ?_; rintro e w1 ⟨rfl, rfl⟩; rw [hw1]) | ((with_reducible refine ld_armg HLf.out ?_ ?_ ?_); (· rfl); (· rfl)) | (go_at_call 79; refine (HC.out _ HBn.out).mono ?_; rintro e w2 ⟨rfl, hb2⟩; have HB2 := hid (below_call HBn.out hb2); have v0 := cell_later hb2 (show (wr.alloc (Obj.cells #[.int .i64 qi, .slice qa qn qc] 51)).cell? ⟨wr.heap.size, 0, none⟩ = some (.int .i64 qi) by simp [go_sem]); clear hb2))
            exact ⟨⟨j + 1, qi + 1, rfl, rfl, by omega, by omega, by omega, HS2.out, HB2.out⟩, by simp [ivN]; omega⟩
          | false =>
            have HF : Hid (prcB c s = false) := by unfold Hid; rw [HK2.out, ← HS.out, hw1]; rfl
            go_wp2_with (first | (go_at_call 53; refine (HWi.out _ _ _ _).mono ?_; rintro e w1 ⟨rfl, rfl⟩; rw [hw1]) | ((with_reducible refine ld_armg HLf.out ?_ ?_ ?_); (· rfl); (· rfl)) | (go_at_call 79; refine (HC.out _ HBn.out).mono ?_; rintro e w2 ⟨rfl, hb2⟩; have HB2 := hid (below_call HBn.out hb2); clear hb2))
            go_ret
            exact ⟨ret_bool HF.out.symm, below_call HB.out HB2.out⟩
        · have hw1 : wi qi lv 65535 = false := by simpa using hw1
          have HF : Hid (prcB c s = false) := by unfold Hid; rw [HK2.out, ← HS.out, hw1]; rfl
          go_wp2_with (first | (go_at_call 53; refine (HWi.out _ _ _ _).mono ?_; rintro e w1 ⟨rfl, rfl⟩; rw [hw1]))
          go_ret
          exact ⟨ret_bool HF.out.symm, below_call HB.out HBn.out⟩
      · obtain rfl : j = dn := by omega
        have HF : Hid (prcB c s = wi s.px (max lv 1) 65536) := by
          unfold Hid
          rw [HK2.out, ← HS.out, show s.P.drop j = [] from List.drop_eq_nil_of_le (by have := HlP.out; omega)]
          rfl
        have y4 := cell_later HBr.out HY4.out
        go_wp2_with (first | (go_at_call 53; refine (HWi.out _ _ _ _).mono ?_; rintro e w1 ⟨rfl, rfl⟩))
        all_goals go_ret
        all_goals refine ⟨ret_bool ?_, below_call HB.out HBr.out⟩
        all_goals rw [HF.out]
        all_goals congr 1
        all_goals omega
  · have hd : decide (c.r < (dn : Int)) = true := by simp; omega
    have HF : Hid (prcB c s = false) := by unfold Hid; rw [HK.out, decide_eq_false hno, Bool.false_and]
    go_enter Try.func52, Try.ntmps52
    go_upto_region 1 with fail
    rw [← HW.out]
    go_wp2
    go_ret
    exact ⟨ret_bool HF.out.symm, HB.out⟩
end Go.Proofs.Ythfmmfphnimlnaa
