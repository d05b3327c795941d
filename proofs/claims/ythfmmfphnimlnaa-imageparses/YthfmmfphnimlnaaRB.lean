import Derived.Test.YthfmmfphnimlnaaID
import Derived.Test.YthfmmfphnimlnaaRA
namespace Go.Proofs.Ythfmmfphnimlnaa
open Go.RowKit
set_option linter.unusedVariables false
set_option linter.unusedSimpArgs false
set_option maxRecDepth 100000 in
set_option maxHeartbeats 8000000 in
theorem robjects_any (c : Cf) (s : St) (a b d : Sl) (Q : List (Ob × Sl)) (R : List (Pc × Sl)) (w : World) (h : Sm w s a b d Q R) (hc : cfgB c = true) :
    Calls Try.prog 14 #[c.v, stV a b d s.nx s.px s.ta] w fun e w' => e = .returned (.bool (objB c s.O)) ∧ Below w.heap.size w w' := by
  have hco := (cfg_o hc).1
  obtain ⟨W, hW⟩ : ∃ W, W = (w.alloc (Obj.cells #[.int .i64 c.w, .int .i64 c.o, .int .i64 c.p, .int .i64 c.e, .int .i64 c.q, .int .i64 c.r, .int .i64 c.l, .int .i64 c.s, .int .i64 c.y, .int .i64 c.k] 23)).alloc (Obj.cells #[.slice a.a a.n a.c, .slice b.a b.n b.c, .slice d.a d.n d.c, .int .i64 s.nx, .int .i64 s.px, .int .i64 s.ta] 28) := ⟨_, rfl⟩
  have hB : Below w.heap.size w W := by rw [hW]; exact below2 _ _ _
  have x1 : W.cell? ⟨w.heap.size, 1, none⟩ = some (.int .i64 c.o) := by rw [hW]; simp [go_sem]
  have x2 : W.cell? ⟨w.heap.size, 2, none⟩ = some (.int .i64 c.p) := by rw [hW]; simp [go_sem]
  have y0 : W.cell? ⟨w.heap.size + 1, 0, none⟩ = some (.slice a.a a.n a.c) := by rw [hW]; simp [go_sem]
  have hma := h.ma
  have HM := hid (h.later hB)
  have HB := hid hB
  have HW := hid hW
  have hlO : s.O.length = a.n := by rw [← h.eo]; have := h.o.len; simpa using this
  have HO : Hid (objB c s.O = (decide ((a.n : Int) ≤ c.o) && oLe (obS s.O 1 0) c.p)) := by unfold Hid objB; rw [hlO]
  have HlO := hid hlO
  clear h hB hW hlO hc
  obtain ⟨aa, n, ac⟩ := a
  simp only at hma HW HM HO HlO y0 ⊢
  have HX1 := hid x1
  have HX2 := hid x2
  have HY0 := hid y0
  by_cases hno : (n : Int) ≤ c.o
  · have hd : decide (c.o < (n : Int)) = false := by simp; omega
    have hn64 : n ≤ 64 := by omega
    have HO2 : Hid (objB c s.O = oLe (obS s.O 1 0) c.p) := by unfold Hid; rw [HO.out, decide_eq_true hno, Bool.true_and]
    clear HO
    go_enter Try.func14, Try.ntmps14
    go_upto_region 1 with fail
    rw [← HW.out]
    go_upto_region 6 with fail
    clear hd x1 x2 y0
    go_loopw [5, 6, 7] (fun l p i U => ∃ (j : Nat) (lv pv : Int), i = .int .i64 (j : Int) ∧ l = .int .i64 lv ∧ p = .int .i64 pv ∧ j ≤ n ∧ obS (s.O.drop j) (lv + 1) pv = obS s.O 1 0 ∧ 0 ≤ lv ∧ lv ≤ MI ∧ 0 ≤ pv ∧ pv ≤ 64 * j ∧ Below W.heap.size W U) (fun _ _ i _ => n - ivN i)
    case atStart => exact ⟨0, 0, 0, rfl, rfl, rfl, Nat.zero_le _, rfl, by omega, by decide, by omega, by omega, Below.refl _ _⟩
    case round =>
      obtain ⟨j, lv, pv, rfl, rfl, rfl, hj, hS, hl1, hl2, hp1, hp2, hBr⟩ := hrel
      have hMI : MI = 4611686018427387904 := rfl
      have HS := hid hS
      have HBr := hid hBr
      have y0 := cell_later hBr HY0.out
      clear hS hBr
      by_cases hlt : j < n
      · have hd : decide ((j : Int) < (n : Int)) = true := by simp; omega
        obtain ⟨q, hq⟩ : ∃ q, Q[j]? = some q := ⟨_, List.getElem?_eq_getElem (by have h1 := HM.out.o.len; simp at h1; omega)⟩
        obtain ⟨g, o, rfl, hrg⟩ := HM.out.o.at_ j (encO q) (by rw [List.getElem?_map, hq]; rfl)
        have HLd := hid (ldO (rangeAt_later HBr.out hrg) rfl)
        have hql := (HM.out.ob q (List.mem_of_getElem? hq)).len
        have HD := hid (drop_at (L := s.O) (j := j) (x := q.1) (by rw [← HM.out.eo, List.getElem?_map, hq]; rfl))
        rw [HD.out, obS_cons] at HS
        obtain ⟨⟨qi, qb⟩, qa, qn, qc⟩ := q
        simp only at hql HS
        have HLd : Hid ((Instr.loadAt 60 (.pointer (some ⟨g, o + j * 2, none⟩))).run Try.prog wr = .ok (.agg #[.int .i64 qi, .slice qa qn qc]) wr) := HLd.out
        clear hrg hq HD
        go_upto_region 9 with (first | ((with_reducible refine ld_arm HLd.out ?_ ?_); (· rfl)))
        clear HLd y0 hd
        have HBn : Hid (Below W.heap.size W (wr.alloc (Obj.cells #[.int .i64 qi, .slice qa qn qc] 60))) := below_call HBr.out (below1 _ _)
        by_cases h1 : qi ≤ lv
        · have hd1 : decide (qi ≤ lv) = true := decide_eq_true h1
          have HF : Hid (objB c s.O = false) := by
            unfold Hid
            rw [HO2.out, ← HS.out, show wi qi (lv + 1) MI = false by { unfold wi; rw [decide_eq_false (by omega)]; rfl }, Bool.false_and]; rfl
          go_wp2
          go_ret
          exact ⟨ret_bool HF.out.symm, below_call HB.out HBn.out⟩
        · have hd1 : decide (qi ≤ lv) = false := decide_eq_false h1
          by_cases h2 : 4611686018427387904 < qi
          · have hd2 : decide (4611686018427387904 < qi) = true := decide_eq_true h2
            have HF : Hid (objB c s.O = false) := by
              unfold Hid
              rw [HO2.out, ← HS.out, show wi qi (lv + 1) MI = false by { unfold wi; rw [decide_eq_false (p := qi ≤ MI) (by omega), Bool.and_false] }, Bool.false_and]; rfl
            go_wp2
            go_ret
            exact ⟨ret_bool HF.out.symm, below_call HB.out HBn.out⟩
          · have hd2 : decide (4611686018427387904 < qi) = false := decide_eq_false h2
            have hw1 : wi qi (lv + 1) MI = true := wi_iff.2 (by omega)
            by_cases hw2 : qn ≤ 4096
            · have hd3 : decide ((4096 : Int) < (qn : Int)) = false := by simp; omega
              have HS2 : Hid (obS (s.O.drop (j + 1)) (qi + 1) (pv + ((qn + 63) / 64 : Nat)) = obS s.O 1 0) := by
                have := HS.out
                rw [if_pos (by rw [hw1, hql, decide_eq_true hw2]; rfl), hql] at this
                exact this
              go_wp2
              have e2 : ((qn : Int) + 63) / 64 = ((qn + 63) / 64 : Nat) := by omega
              exact ⟨⟨j + 1, qi, pv + ((qn + 63) / 64 : Nat), rfl, rfl, by rw [e2], by omega, HS2.out, by omega, by omega, by omega, by omega, HBn.out⟩, by simp [ivN]; omega⟩
            · have hd3 : decide ((4096 : Int) < (qn : Int)) = true := by simp; omega
              have HF : Hid (objB c s.O = false) := by
                unfold Hid
                rw [HO2.out, ← HS.out, hql, decide_eq_false (by simpa using hw2), Bool.and_false]; rfl
              go_wp2
              go_ret
              exact ⟨ret_bool HF.out.symm, below_call HB.out HBn.out⟩
      · obtain rfl : j = n := by omega
        have HF : Hid (objB c s.O = decide (pv ≤ c.p)) := by
          unfold Hid
          rw [HO2.out, ← HS.out, show s.O.drop j = [] from List.drop_eq_nil_of_le (by have := HlO.out; omega)]; rfl
        have x2 := cell_later HBr.out HX2.out
        go_wp2
        go_ret
        exact ⟨ret_bool HF.out.symm, below_call HB.out HBr.out⟩
  · have hd : decide (c.o < (n : Int)) = true := by simp; omega
    have HF : Hid (objB c s.O = false) := by unfold Hid; rw [HO.out, decide_eq_false hno, Bool.false_and]
    go_enter Try.func14, Try.ntmps14
    go_upto_region 1 with fail
    rw [← HW.out]
    go_wp2
    go_ret
    exact ⟨ret_bool HF.out.symm, HB.out⟩
set_option maxRecDepth 100000 in
set_option maxHeartbeats 8000000 in
theorem rnext_any (s : St) (a b d : Sl) (Q : List (Ob × Sl)) (R : List (Pc × Sl)) (w : World) (h : Sm w s a b d Q R) :
    Calls Try.prog 15 #[stV a b d s.nx s.px s.ta] w fun e w' => e = .returned (.bool (nxtB s)) ∧ Below w.heap.size w w' := by
  obtain ⟨W, hW⟩ : ∃ W, W = w.alloc (Obj.cells #[.slice a.a a.n a.c, .slice b.a b.n b.c, .slice d.a d.n d.c, .int .i64 s.nx, .int .i64 s.px, .int .i64 s.ta] 28) := ⟨_, rfl⟩
  have hB : Below w.heap.size w W := by rw [hW]; exact below1 _ _
  have y0 : W.cell? ⟨w.heap.size, 0, none⟩ = some (.slice a.a a.n a.c) := by rw [hW]; simp [go_sem]
  have y3 : W.cell? ⟨w.heap.size, 3, none⟩ = some (.int .i64 s.nx) := by rw [hW]; simp [go_sem]
  have hma := h.ma
  have HM := hid (h.later hB)
  have HB := hid hB
  have HW := hid hW
  have hlO : s.O.length = a.n := by rw [← h.eo]; have := h.o.len; simpa using this
  have HlO := hid hlO
  have HWi := hid rwithin_any
  clear h hB hW hlO
  obtain ⟨aa, n, ac⟩ := a
  simp only at hma HW HM HlO y0 ⊢
  have HY0 := hid y0
  have HY3 := hid y3
  by_cases hw1 : wi s.nx 1 4611686018427387905 = true
  · have HE : Hid (nxtB s = s.O.all (fun o => decide (o.id < s.nx))) := by unfold Hid nxtB; rw [show MI + 1 = 4611686018427387905 from rfl, hw1, Bool.true_and]
    go_enter Try.func15, Try.ntmps15
    go_upto_region 1 with fail
    rw [← HW.out]
    go_upto_region 4 with (first | (go_at_call 20; refine (HWi.out _ _ _ _).mono ?_; rintro e w1 ⟨rfl, rfl⟩; rw [hw1]))
    clear y0 y3
    go_loopw [3] (fun i U => ∃ (j : Nat), i = .int .i64 (j : Int) ∧ j ≤ n ∧ (s.O.drop j).all (fun o => decide (o.id < s.nx)) = s.O.all (fun o => decide (o.id < s.nx)) ∧ Below w1.heap.size w1 U) (fun i _ => n - ivN i)
    case atStart => exact ⟨0, rfl, Nat.zero_le _, rfl, Below.refl _ _⟩
    case round =>
      obtain ⟨j, rfl, hj, hS, hBr⟩ := hrel
      have HS := hid hS
      have HBr := hid hBr
      have y0 := cell_later hBr HY0.out
      have y3 := cell_later hBr HY3.out
      clear hS hBr
      by_cases hlt : j < n
      · have hd : decide ((j : Int) < (n : Int)) = true := by simp; omega
        have hjn : (j : Int) < (n : Int) := by omega
        obtain ⟨q, hq⟩ : ∃ q, Q[j]? = some q := ⟨_, List.getElem?_eq_getElem (by have h1 := HM.out.o.len; simp at h1; omega)⟩
        obtain ⟨g, o, rfl, hrg⟩ := HM.out.o.at_ j (encO q) (by rw [List.getElem?_map, hq]; rfl)
        have z0 := cell_later HBr.out (hrg 0 _ rfl)
        simp only [Nat.add_zero] at z0
        have HD := hid (drop_at (L := s.O) (j := j) (x := q.1) (by rw [← HM.out.eo, List.getElem?_map, hq]; rfl))
        rw [HD.out, List.all_cons] at HS
        obtain ⟨⟨qi, qb⟩, qs⟩ := q
        simp only at HS z0
        clear hrg hq HD
        go_upto_region 6 with fail
        by_cases h1 : qi < s.nx
        · have hd1 : decide (s.nx ≤ qi) = false := decide_eq_false (by omega)
          rw [decide_eq_true h1, Bool.true_and] at HS
          go_quiet (fail)
          go_wp2
          exact ⟨⟨j + 1, rfl, by omega, HS.out, below_drewN HBr.out _⟩, by simp [ivN]; omega⟩
        · have hd1 : decide (s.nx ≤ qi) = true := decide_eq_true (by omega)
          have HF : Hid (nxtB s = false) := by unfold Hid; rw [HE.out, ← HS.out, decide_eq_false h1]; rfl
          go_quiet (fail)
          go_wp2
          go_ret
          exact ⟨ret_bool HF.out.symm, below_drewN (below_call HB.out HBr.out) _⟩
      · obtain rfl : j = n := by omega
        have HF : Hid (nxtB s = true) := by
          unfold Hid
          rw [HE.out, ← HS.out, show s.O.drop j = [] from List.drop_eq_nil_of_le (by have := HlO.out; omega)]; rfl
        go_wp2
        go_ret
        exact ⟨ret_bool HF.out.symm, below_call HB.out HBr.out⟩
  · have hw1 : wi s.nx 1 4611686018427387905 = false := by simpa using hw1
    have HF : Hid (nxtB s = false) := by unfold Hid nxtB; rw [show MI + 1 = 4611686018427387905 from rfl, hw1, Bool.false_and]
    go_enter Try.func15, Try.ntmps15
    go_upto_region 1 with fail
    rw [← HW.out]
    go_wp2_with (first | (go_at_call 20; refine (HWi.out _ _ _ _).mono ?_; rintro e w1 ⟨rfl, rfl⟩; rw [hw1]))
    go_ret
    exact ⟨ret_bool HF.out.symm, HB.out⟩
end Go.Proofs.Ythfmmfphnimlnaa
