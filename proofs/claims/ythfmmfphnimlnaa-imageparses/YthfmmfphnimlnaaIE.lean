import Derived.Test.YthfmmfphnimlnaaIC
namespace Go.Proofs.Ythfmmfphnimlnaa
open Go.RowKit
set_option linter.unusedVariables false
set_option linter.unusedSimpArgs false
theorem ldn_cons (t : Tk) (r : List Tk) (id : Int) : ldn (t :: r) id = if t.c.o = id then ldn r id + 1 else 0 := by
  unfold ldn
  by_cases h : t.c.o = id
  · simp [List.takeWhile_cons, h]
  · simp [List.takeWhile_cons, h]
theorem ldn_le (T : List Tk) (id : Int) : ldn T id ≤ T.length := by
  induction T with
  | nil => simp [ldn]
  | cons t r ih => rw [ldn_cons]; split <;> simp; omega
set_option maxRecDepth 100000 in
set_option maxHeartbeats 4000000 in
theorem leading_any (s : Sl) (T : List Tk) (id : Int) (w : World) (h : Lk w 5 s (T.map encT)) (hm : s.n ≤ 140737488355328) :
    Calls Try.prog 74 #[.slice s.a s.n s.c, .int .i64 id] w fun e w' => e = .returned (.int .i64 (ldn T id : Int)) ∧ Below w.heap.size w w' := by
  have HL := hid h
  have hlen : T.length = s.n := by have := h.len; simpa using this
  have HLen := hid hlen
  clear h hlen
  obtain ⟨sa, n, sc⟩ := s
  simp only at hm HL HLen ⊢
  go_enter Try.func74, Try.ntmps74
  go_upto_region 2 with fail
  go_loopw [9] (fun i U => ∃ (j : Nat), i = .int .i64 (j : Int) ∧ j ≤ n ∧ ldn T id = j + ldn (T.drop j) id ∧ Below w.heap.size w U) (fun i _ => n - ivN i)
  case atStart => exact ⟨0, rfl, Nat.zero_le _, by simp, Below.refl _ _⟩
  case round =>
    obtain ⟨j, rfl, hj, hS, hBr⟩ := hrel
    have HS := hid hS
    have HBr := hid hBr
    clear hS hBr
    by_cases hlt : j < n
    · have hd : decide ((j : Int) < (n : Int)) = true := by simp; omega
      obtain ⟨q, hq⟩ : ∃ q, T[j]? = some q := ⟨_, List.getElem?_eq_getElem (by have := HLen.out; omega)⟩
      obtain ⟨g, o, rfl, hrg⟩ := HL.out.at_ j (encT q) (by rw [List.getElem?_map, hq]; rfl)
      have HD := hid (drop_at hq)
      rw [HD.out, ldn_cons] at HS
      have HLd := hid (ldT (rangeAt_later HBr.out hrg) rfl)
      obtain ⟨⟨qo, qh, ql⟩, qr, qp⟩ := q
      have HLd : Hid ((Instr.loadAt 67 (.pointer (some ⟨g, o + j * 5, none⟩))).run Try.prog wr = .ok (.agg #[.int .i64 qo, .int .u64 (qh : Int), .int .u64 (ql : Int), .int .i64 qr, .int .i64 qp]) wr) := HLd.out
      have HBn : Hid (Below w.heap.size w (wr.alloc (Obj.cells #[.int .i64 qo, .int .u64 (qh : Int), .int .u64 (ql : Int), .int .i64 qr, .int .i64 qp] 67))) := below_call HBr.out (below1 _ _)
      simp only at HS
      clear hrg hq HD
      go_upto_region 4 with (first | ((with_reducible refine ld_arm HLd.out ?_ ?_); (· rfl)))
      clear HLd
      by_cases he : qo = id
      · subst he
        have HS2 : Hid (ldn T qo = j + 1 + ldn (T.drop (j + 1)) qo) := by have := HS.out; rw [if_pos rfl] at this; unfold Hid; omega
        go_wp2
        exact ⟨⟨j + 1, rfl, by omega, HS2.out, HBn.out⟩, by simp [ivN]; omega⟩
      · have hb : (qo != id) = true := by simpa using he
        have HS2 : Hid (ldn T id = j) := by have := HS.out; rw [if_neg he] at this; unfold Hid; omega
        go_wp2
        go_ret
        exact ⟨by rw [HS2.out]; rfl, HBn.out⟩
    · obtain rfl : j = n := by omega
      have HS2 : Hid (ldn T id = j) := by have := HS.out; rw [List.drop_eq_nil_of_le (by have := HLen.out; omega)] at this; unfold Hid; simpa [ldn] using this
      go_wp2
      go_ret
      exact ⟨by rw [HS2.out]; rfl, HBr.out⟩
theorem Lk.drop {w : World} {k : Nat} {g o n c : Nat} {X : List (List Value)} (h : Lk w k ⟨some ⟨g, o, none⟩, n, c⟩ X) {m : Nat} (hm : m ≤ n) : Lk w k ⟨if c = m then some ⟨g, o, none⟩ else some ⟨g, o + m * k, none⟩, n - m, c - m⟩ (X.drop m) := by
  refine ⟨by have := h.len; simp at this ⊢; omega, by have := h.cap; simp at this ⊢; omega, (fun e => by split at e <;> cases e), fun i x hx => ?_⟩
  rw [List.getElem?_drop] at hx
  obtain ⟨g', o', e, hr⟩ := h.at_ _ _ hx
  simp only [Option.some.injEq, Addr.mk.injEq] at e
  obtain ⟨rfl, rfl, _⟩ := e
  have hl : i + m < n := by have h1 := (List.getElem?_eq_some_iff.1 hx).1; have h2 := h.len; simp only at h2; omega
  have hcm := h.cap
  simp only at hcm
  refine ⟨g, o + m * k, by simp only; rw [if_neg (by omega)], ?_⟩
  rw [Nat.add_mul] at hr
  rw [Nat.add_assoc]
  exact hr
set_option maxRecDepth 100000 in
set_option maxHeartbeats 4000000 in
theorem tokensHold_any (c : Cf) (s : St) (a b d : Sl) (Q : List (Ob × Sl)) (R : List (Pc × Sl)) (w : World) (h : Sm w s a b d Q R) :
    Calls Try.prog 49 #[c.v, stV a b d s.nx s.px s.ta] w fun e w' => e = .returned (.bool (tokB c s)) ∧ Below w.heap.size w w' := by
  obtain ⟨W, hW⟩ : ∃ W, W = (w.alloc (Obj.cells #[.int .i64 c.w, .int .i64 c.o, .int .i64 c.p, .int .i64 c.e, .int .i64 c.q, .int .i64 c.r, .int .i64 c.l, .int .i64 c.s, .int .i64 c.y, .int .i64 c.k] 23)).alloc (Obj.cells #[.slice a.a a.n a.c, .slice b.a b.n b.c, .slice d.a d.n d.c, .int .i64 s.nx, .int .i64 s.px, .int .i64 s.ta] 28) := ⟨_, rfl⟩
  have hB : Below w.heap.size w W := by rw [hW]; exact below2 _ _ _
  have x3 : W.cell? ⟨w.heap.size, 3, none⟩ = some (.int .i64 c.e) := by rw [hW]; simp [go_sem]
  have x4 : W.cell? ⟨w.heap.size, 4, none⟩ = some (.int .i64 c.q) := by rw [hW]; simp [go_sem]
  have y0 : W.cell? ⟨w.heap.size + 1, 0, none⟩ = some (.slice a.a a.n a.c) := by rw [hW]; simp [go_sem]
  have y1 : W.cell? ⟨w.heap.size + 1, 1, none⟩ = some (.slice b.a b.n b.c) := by rw [hW]; simp [go_sem]
  have hma := h.ma
  have hmb := h.mb
  have HM := hid (h.later hB)
  have HB := hid hB
  have HW := hid hW
  have HWi := hid within_any
  have HLd0 := hid leading_any
  have hlT : s.T.length = b.n := by have := h.t.len; simpa using this
  have hlO : s.O.length = a.n := by rw [← h.eo]; have := h.o.len; simpa using this
  have HK : Hid (tokB c s = (decide ((b.n : Int) ≤ c.e) && tkS c.q s.O s.T)) := by unfold Hid tokB; rw [hlT]
  have HlT := hid hlT
  have HlO := hid hlO
  have HX4 := hid x4
  clear h hB hW hlT hlO x4
  obtain ⟨aa, an, ac⟩ := a
  obtain ⟨ba, bn, bc⟩ := b
  simp only at hma hmb HW HM HK HlT HlO y0 y1 ⊢
  by_cases hno : (bn : Int) ≤ c.e
  · have hd : decide (c.e < (bn : Int)) = false := by simp; omega
    have HK2 : Hid (tokB c s = tkS c.q s.O s.T) := by unfold Hid; rw [HK.out, decide_eq_true hno, Bool.true_and]
    clear HK
    go_enter Try.func49, Try.ntmps49
    go_upto_region 1 with fail
    rw [← HW.out]
    go_upto_region 5 with fail
    clear hd x3 y0 y1
    go_loopw [5, 20] (fun t i U => ∃ (j m : Nat) (ra : Option Addr) (rn rc : Nat), i = .int .i64 (j : Int) ∧ t = .slice ra rn rc ∧ j ≤ an ∧ rn ≤ bn ∧ tkS c.q (s.O.drop j) (s.T.drop m) = tkS c.q s.O s.T ∧ Lk W 5 ⟨ra, rn, rc⟩ ((s.T.drop m).map encT) ∧ Below W.heap.size W U) (fun _ i _ => an - ivN i)
    case atStart => exact ⟨0, 0, ba, bn, bc, rfl, rfl, Nat.zero_le _, Nat.le_refl _, by simp, by simpa using HM.out.t, Below.refl _ _⟩
    case round =>
      obtain ⟨j, m, ra, rn, rc, rfl, rfl, hj, hrn, hS, hLr, hBr⟩ := hrel
      have HS := hid hS
      have HLr := hid hLr
      have HBr := hid hBr
      clear hS hBr hLr
      by_cases hlt : j < an
      · have hd : decide ((j : Int) < (an : Int)) = true := by simp; omega
        obtain ⟨q, hq⟩ : ∃ q, Q[j]? = some q := ⟨_, List.getElem?_eq_getElem (by have h1 := HM.out.o.len; simp at h1; omega)⟩
        obtain ⟨g, o, rfl, hrg⟩ := HM.out.o.at_ j (encO q) (by rw [List.getElem?_map, hq]; rfl)
        have HLd := hid (ldO (rangeAt_later HBr.out hrg) rfl)
        have HD := hid (drop_at (L := s.O) (j := j) (x := q.1) (by rw [← HM.out.eo, List.getElem?_map, hq]; rfl))
        obtain ⟨⟨qi, qb⟩, qa, qn, qc⟩ := q
        have HS2 : Hid ((wi (ldn (s.T.drop m) qi) 1 c.q && tkS c.q (s.O.drop (j + 1)) ((s.T.drop m).drop (ldn (s.T.drop m) qi))) = tkS c.q s.O s.T) := by have := HS.out; rw [HD.out] at this; exact this
        have HLd : Hid ((Instr.loadAt 60 (.pointer (some ⟨g, o + j * 2, none⟩))).run Try.prog wr = .ok (.agg #[.int .i64 qi, .slice qa qn qc]) wr) := HLd.out
        have HBn : Hid (Below W.heap.size W (wr.alloc (Obj.cells #[.int .i64 qi, .slice qa qn qc] 60))) := below_call HBr.out (below1 _ _)
        clear hrg hq HD HS
        go_upto_region 7 with (first | ((with_reducible refine ld_arm HLd.out ?_ ?_); (· rfl)))
        clear HLd
        have HC := hid (leading_any ⟨ra, rn, rc⟩ (s.T.drop m) qi _ (HLr.out.later HBn.out) (by simp only; omega))
        have hkl : ldn (s.T.drop m) qi ≤ rn := by have h1 := HLr.out.len; have h2 := ldn_le (s.T.drop m) qi; simp at h1 h2; omega
        simp only at HC
        generalize ldn (s.T.drop m) qi = k at *
        go_upto_region 8 with (first | (go_at_call 74; refine HC.out.mono ?_; rintro e w2 ⟨rfl, hb2⟩; have HB2 := hid (below_call HBn.out hb2); clear hb2))
        clear HC
        have x4 := cell_later HB2.out HX4.out
        by_cases hw1 : wi (k : Int) 1 c.q = true
        · have hk1 : 1 ≤ k := by have := (wi_iff.1 hw1).1; omega
          have HS3 : Hid (tkS c.q (s.O.drop (j + 1)) ((s.T.drop m).drop k) = tkS c.q s.O s.T) := by have := HS2.out; rw [hw1, Bool.true_and] at this; exact this
          have hcap := HLr.out.cap
          simp only at hcap
          obtain ⟨g2, o2, rfl⟩ : ∃ g2 o2, ra = some ⟨g2, o2, none⟩ := by
            have h1 := HLr.out.len
            simp only [List.length_map] at h1
            obtain ⟨y, hy⟩ : ∃ y, ((s.T.drop m).map encT)[0]? = some y := ⟨_, List.getElem?_eq_getElem (by simp only [List.length_map]; omega)⟩
            obtain ⟨g2, o2, e, _⟩ := HLr.out.at_ 0 y hy
            exact ⟨g2, o2, e⟩
          have HL2 := hid (HLr.out.drop hkl)
          clear HS2
          go_wp2_with (first | (go_at_call 53; refine (HWi.out _ _ _ _).mono ?_; rintro e w1 ⟨rfl, rfl⟩; rw [hw1]))
          refine ⟨⟨j + 1, m + k, _, _, _, rfl, rfl, by omega, by omega, ?_, ?_, HB2.out⟩, by simp [ivN]; omega⟩
          · have := HS3.out
            rwa [List.drop_drop] at this
          · have := HL2.out
            rwa [← List.map_drop, List.drop_drop] at this
        · have hw1 : wi (k : Int) 1 c.q = false := by simpa using hw1
          have HF : Hid (tokB c s = false) := by unfold Hid; rw [HK2.out, ← HS2.out, hw1, Bool.false_and]
          go_wp2_with (first | (go_at_call 53; refine (HWi.out _ _ _ _).mono ?_; rintro e w1 ⟨rfl, rfl⟩; rw [hw1]))
          go_ret
          exact ⟨ret_bool HF.out.symm, below_call HB.out HB2.out⟩
      · obtain rfl : j = an := by omega
        have HF : Hid (tokB c s = ((rn : Int) == 0)) := by
          unfold Hid
          rw [HK2.out, ← HS.out, show s.O.drop j = [] from List.drop_eq_nil_of_le (by have := HlO.out; omega)]
          have h1 := HLr.out.len
          simp only [List.length_map] at h1
          simp only [tkS, h1]
          rw [Bool.eq_iff_iff]; simp
        go_wp2
        go_ret
        exact ⟨ret_bool HF.out.symm, below_call HB.out HBr.out⟩
  · have hd : decide (c.e < (bn : Int)) = true := by simp; omega
    have HF : Hid (tokB c s = false) := by unfold Hid; rw [HK.out, decide_eq_false hno, Bool.false_and]
    go_enter Try.func49, Try.ntmps49
    go_upto_region 1 with fail
    rw [← HW.out]
    go_wp2
    go_ret
    exact ⟨ret_bool HF.out.symm, HB.out⟩
end Go.Proofs.Ythfmmfphnimlnaa
