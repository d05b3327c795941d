import Derived.Test.YthfmmfphnimlnaaIE
import Derived.Test.YthfmmfphnimlnaaRA
namespace Go.Proofs.Ythfmmfphnimlnaa
open Go.RowKit
set_option linter.unusedVariables false
set_option linter.unusedSimpArgs false
set_option maxRecDepth 100000 in
set_option maxHeartbeats 8000000 in
theorem rtokens_any (c : Cf) (s : St) (a b d : Sl) (Q : List (Ob × Sl)) (R : List (Pc × Sl)) (w : World) (h : Sm w s a b d Q R) :
    Calls Try.prog 16 #[c.v, stV a b d s.nx s.px s.ta] w fun e w' => e = .returned (.bool (tokB c s)) ∧ Below w.heap.size w w' := by
  obtain ⟨W, hW⟩ : ∃ W, W = (w.alloc (Obj.cells #[.int .i64 c.w, .int .i64 c.o, .int .i64 c.p, .int .i64 c.e, .int .i64 c.q, .int .i64 c.r, .int .i64 c.l, .int .i64 c.s, .int .i64 c.y, .int .i64 c.k] 23)).alloc (Obj.cells #[.slice a.a a.n a.c, .slice b.a b.n b.c, .slice d.a d.n d.c, .int .i64 s.nx, .int .i64 s.px, .int .i64 s.ta] 28) := ⟨_, rfl⟩
  have hB : Below w.heap.size w W := by rw [hW]; exact below2 _ _ _
  have x3 : W.cell? ⟨w.heap.size, 3, none⟩ = some (.int .i64 c.e) := by rw [hW]; simp [go_sem]
  have x4 : W.cell? ⟨w.heap.size, 4, none⟩ = some (.int .i64 c.q) := by rw [hW]; simp [go_sem]
  have y0 : W.cell? ⟨w.heap.size + 1, 0, none⟩ = some (.slice a.a a.n a.c) := by rw [hW]; simp [go_sem]
  have y1 : W.cell? ⟨w.heap.size + 1, 1, none⟩ = some (.slice b.a b.n b.c) := by rw [hW]; simp [go_sem]
  have hma := h.ma
  have hmb := h.mb
  have HM := hid (h.later hB)
  have HB := hid hB
  have HW := hid hW
  have hlT : s.T.length = b.n := by have := h.t.len; simpa using this
  have hlO : s.O.length = a.n := by rw [← h.eo]; have := h.o.len; simpa using this
  have HK : Hid (tokB c s = (decide ((b.n : Int) ≤ c.e) && tkS c.q s.O s.T)) := by unfold Hid tokB; rw [hlT]
  have HlT := hid hlT
  have HlO := hid hlO
  clear h hB hW hlT hlO
  obtain ⟨aa, an, ac⟩ := a
  obtain ⟨ba, bn, bc⟩ := b
  simp only at hma hmb HW HM HK HlT HlO y0 y1 ⊢
  have HX4 := hid x4
  have HY0 := hid y0
  have HY1 := hid y1
  by_cases hno : (bn : Int) ≤ c.e
  · have hd : decide (c.e < (bn : Int)) = false := by simp; omega
    have HK2 : Hid (tokB c s = tkS c.q s.O s.T) := by unfold Hid; rw [HK.out, decide_eq_true hno, Bool.true_and]
    clear HK
    go_enter Try.func16, Try.ntmps16
    go_upto_region 1 with fail
    rw [← HW.out]
    go_upto_region 5 with fail
    clear hd x3 x4 y0 y1
    go_loopw [5, 6] (fun t i U => ∃ (j m : Nat), i = .int .i64 (j : Int) ∧ t = .int .i64 (m : Int) ∧ j ≤ an ∧ m ≤ bn ∧ tkS c.q (s.O.drop j) (s.T.drop m) = tkS c.q s.O s.T ∧ Below W.heap.size W U) (fun _ i _ => an - ivN i)
    case atStart => exact ⟨0, 0, rfl, rfl, Nat.zero_le _, Nat.zero_le _, rfl, Below.refl _ _⟩
    case round =>
      obtain ⟨j, m, rfl, rfl, hj, hm, hS, hBr⟩ := hrel
      have HS := hid hS
      have HBr := hid hBr
      have y0 := cell_later hBr HY0.out
      clear hS hBr
      by_cases hlt : j < an
      · have hd : decide ((j : Int) < (an : Int)) = true := by simp; omega
        have hjn : (j : Int) < (an : Int) := by omega
        obtain ⟨q, hq⟩ : ∃ q, Q[j]? = some q := ⟨_, List.getElem?_eq_getElem (by have h1 := HM.out.o.len; simp at h1; omega)⟩
        obtain ⟨g, o, rfl, hrg⟩ := HM.out.o.at_ j (encO q) (by rw [List.getElem?_map, hq]; rfl)
        have z0 := hrg 0 _ rfl
        simp only [Nat.add_zero] at z0
        have HZ0 := hid z0
        have HD := hid (drop_at (L := s.O) (j := j) (x := q.1) (by rw [← HM.out.eo, List.getElem?_map, hq]; rfl))
        obtain ⟨⟨qi, qb⟩, qs⟩ := q
        have HS2 : Hid ((wi (ldn (s.T.drop m) qi) 1 c.q && tkS c.q (s.O.drop (j + 1)) ((s.T.drop m).drop (ldn (s.T.drop m) qi))) = tkS c.q s.O s.T) := by have := HS.out; rw [HD.out] at this; exact this
        simp only at HZ0
        clear hrg hq HD HS z0
        go_upto_region 8 with fail
        clear hd y0
        go_loopw [5, 7] (fun t i U => ∃ (k : Nat), i = .int .i64 (k : Int) ∧ t = .int .i64 ((m + k : Nat) : Int) ∧ m + k ≤ bn ∧ ldn (s.T.drop m) qi = k + ldn (s.T.drop (m + k)) qi ∧ Below W.heap.size W U) (fun _ i _ => bn - ivN i)
        case atStart => exact ⟨0, rfl, rfl, by omega, by simp, HBr.out⟩
        case round =>
          obtain ⟨k, rfl, rfl, hk, hE, hB2⟩ := hrel
          have HE := hid hE
          have HB2 := hid hB2
          have y0 := cell_later hB2 HY0.out
          have y1 := cell_later hB2 HY1.out
          have z0 := cell_later hB2 HZ0.out
          have x4 := cell_later hB2 HX4.out
          clear hE hB2
          by_cases hkl : m + k < bn
          · have hd2 : decide (((m + k : Nat) : Int) < (bn : Int)) = true := by simp; omega
            have hd2' : decide ((m : Int) + (k : Int) < (bn : Int)) = true := by simp; omega
            obtain ⟨r, hr⟩ : ∃ r, s.T[m + k]? = some r := ⟨_, List.getElem?_eq_getElem (by have := HlT.out; omega)⟩
            obtain ⟨g2, o2, rfl, hrg⟩ := HM.out.t.at_ (m + k) (encT r) (by rw [List.getElem?_map, hr]; rfl)
            have u0 := cell_later HB2.out (hrg 0 _ rfl)
            simp only [Nat.add_zero] at u0
            have HDr := hid (drop_at hr)
            rw [HDr.out, ldn_cons] at HE
            obtain ⟨⟨ro, rh, rl⟩, rr, rp⟩ := r
            simp only at u0 HE
            clear hrg hr HDr
            generalize hmk : m + k = mk at *
            by_cases he : ro = qi
            · have he2 : (ro == qi) = true := by simpa using he
              have HE2 : Hid (ldn (s.T.drop m) qi = k + 1 + ldn (s.T.drop (mk + 1)) qi) := by have := HE.out; rw [if_pos he] at this; unfold Hid; omega
              clear HE
              go_upto_region 8 with fail
              go_quiet (fail)
              go_wp2
              refine ⟨⟨k + 1, rfl, by rw [← hmk]; rfl, by omega, ?_, below_drewN HB2.out _⟩, by simp [ivN]; omega⟩
              rw [show m + (k + 1) = mk + 1 by omega]
              exact HE2.out
            · have he2 : (ro == qi) = false := by simpa using he
              have hn : ldn (s.T.drop m) qi = k := by have := HE.out; rw [if_neg he] at this; omega
              rw [hn, List.drop_drop, hmk] at HS2
              clear HE
              go_upto_region 8 with fail
              go_quiet (fail)
              by_cases h1 : 1 ≤ k
              · have hd3 : decide ((k : Int) < 1) = false := by simp; omega
                by_cases h2 : (k : Int) ≤ c.q
                · have hd4 : decide (c.q < (k : Int)) = false := by simp; omega
                  have HS3 : Hid (tkS c.q (s.O.drop (j + 1)) (s.T.drop mk) = tkS c.q s.O s.T) := by have := HS2.out; rw [wi_iff.2 (by omega), Bool.true_and] at this; exact this
                  go_wp2
                  exact ⟨⟨j + 1, mk, rfl, rfl, by omega, by omega, HS3.out, below_drewN HB2.out _⟩, by simp [ivN]; omega⟩
                · have hd4 : decide (c.q < (k : Int)) = true := by simp; omega
                  have HF : Hid (tokB c s = false) := by unfold Hid; rw [HK2.out, ← HS2.out, show wi (k : Int) 1 c.q = false by { unfold wi; rw [decide_eq_false h2, Bool.and_false] }, Bool.false_and]
                  go_wp2
                  go_ret
                  exact ⟨ret_bool HF.out.symm, below_drewN (below_call HB.out HB2.out) _⟩
              · have hd3 : decide ((k : Int) < 1) = true := by simp; omega
                have HF : Hid (tokB c s = false) := by unfold Hid; rw [HK2.out, ← HS2.out, show wi (k : Int) 1 c.q = false by { unfold wi; rw [decide_eq_false (by omega), Bool.false_and] }, Bool.false_and]
                go_wp2
                go_ret
                exact ⟨ret_bool HF.out.symm, below_drewN (below_call HB.out HB2.out) _⟩
          · have hd2 : decide (((m + k : Nat) : Int) < (bn : Int)) = false := by simp; omega
            have hd2' : decide ((m : Int) + (k : Int) < (bn : Int)) = false := by simp; omega
            have hn : ldn (s.T.drop m) qi = k := by have := HE.out; rw [show s.T.drop (m + k) = [] from List.drop_eq_nil_of_le (by have := HlT.out; omega)] at this; simpa [ldn] using this
            rw [hn, List.drop_drop] at HS2
            clear HE
            generalize hmk : m + k = mk at *
            go_upto_region 8 with fail
            go_quiet (fail)
            by_cases h1 : 1 ≤ k
            · have hd3 : decide ((k : Int) < 1) = false := by simp; omega
              by_cases h2 : (k : Int) ≤ c.q
              · have hd4 : decide (c.q < (k : Int)) = false := by simp; omega
                have HS3 : Hid (tkS c.q (s.O.drop (j + 1)) (s.T.drop mk) = tkS c.q s.O s.T) := by have := HS2.out; rw [wi_iff.2 (by omega), Bool.true_and] at this; exact this
                go_wp2
                exact ⟨⟨j + 1, mk, rfl, rfl, by omega, by omega, HS3.out, below_drewN HB2.out _⟩, by simp [ivN]; omega⟩
              · have hd4 : decide (c.q < (k : Int)) = true := by simp; omega
                have HF : Hid (tokB c s = false) := by unfold Hid; rw [HK2.out, ← HS2.out, show wi (k : Int) 1 c.q = false by { unfold wi; rw [decide_eq_false h2, Bool.and_false] }, Bool.false_and]
                go_wp2
                go_ret
                exact ⟨ret_bool HF.out.symm, below_drewN (below_call HB.out HB2.out) _⟩
            · have hd3 : decide ((k : Int) < 1) = true := by simp; omega
              have HF : Hid (tokB c s = false) := by unfold Hid; rw [HK2.out, ← HS2.out, show wi (k : Int) 1 c.q = false by { unfold wi; rw [decide_eq_false (by omega), Bool.false_and] }, Bool.false_and]
              go_wp2
              go_ret
              exact ⟨ret_bool HF.out.symm, below_drewN (below_call HB.out HB2.out) _⟩
      · obtain rfl : j = an := by omega
        have HF : Hid (tokB c s = ((m : Int) == (bn : Int))) := by
          unfold Hid
          rw [HK2.out, ← HS.out, show s.O.drop j = [] from List.drop_eq_nil_of_le (by have := HlO.out; omega)]
          simp only [tkS, List.length_drop, HlT.out]
          rw [Bool.eq_iff_iff]; simp; omega
        have y1 := cell_later HBr.out HY1.out
        go_wp2
        go_ret
        exact ⟨ret_bool HF.out.symm, below_call HB.out HBr.out⟩
  · have hd : decide (c.e < (bn : Int)) = true := by simp; omega
    have HF : Hid (tokB c s = false) := by unfold Hid; rw [HK.out, decide_eq_false hno, Bool.false_and]
    go_enter Try.func16, Try.ntmps16
    go_upto_region 1 with fail
    rw [← HW.out]
    go_wp2
    go_ret
    exact ⟨ret_bool HF.out.symm, HB.out⟩
end Go.Proofs.Ythfmmfphnimlnaa
