import Derived.Test.YthfmmfphnimlnaaIB
namespace Go.Proofs.Ythfmmfphnimlnaa
open Go.RowKit
set_option linter.unusedVariables false
theorem drop_at {α : Type} {L : List α} {j : Nat} {x : α} (h : L[j]? = some x) : L.drop j = x :: L.drop (j + 1) := by
  obtain ⟨hj, rfl⟩ := List.getElem?_eq_some_iff.1 h
  exact List.drop_eq_getElem_cons hj
theorem obS_cons (o : Ob) (r : List Ob) (l p : Int) : obS (o :: r) l p = if wi o.id l MI && decide (o.b.length ≤ 4096) then obS r (o.id + 1) (p + ((o.b.length + 63) / 64 : Nat)) else none := rfl
theorem wi_iff {n a b : Int} : wi n a b = true ↔ a ≤ n ∧ n ≤ b := by unfold wi; simp
theorem cfg_o {c : Cf} (h : cfgB c = true) : c.o ≤ 64 ∧ c.e ≤ 256 ∧ c.q ≤ 256 ∧ c.r ≤ 32 ∧ c.l ≤ 32 ∧ 1 ≤ c.w ∧ c.w ≤ 128 := by
  unfold cfgB at h
  simp only [Bool.and_eq_true, wi_iff] at h
  omega
set_option maxRecDepth 100000 in
set_option maxHeartbeats 4000000 in
theorem objectsHold_any (c : Cf) (s : Sl) (Q : List (Ob × Sl)) (w : World) (hL : Lk w 2 s (Q.map encO)) (hR : ∀ q ∈ Q, Row w q.2.a q.2.n q.2.c q.1.b) (hm : s.n ≤ 140737488355328) (hc : cfgB c = true) :
    Calls Try.prog 47 #[c.v, .slice s.a s.n s.c] w fun e w' => e = .returned (.bool (objB c (Q.map Prod.fst))) ∧ Below w.heap.size w w' := by
  have hco := (cfg_o hc).1
  obtain ⟨W, hW⟩ : ∃ W, W = w.alloc (Obj.cells #[.int .i64 c.w, .int .i64 c.o, .int .i64 c.p, .int .i64 c.e, .int .i64 c.q, .int .i64 c.r, .int .i64 c.l, .int .i64 c.s, .int .i64 c.y, .int .i64 c.k] 23) := ⟨_, rfl⟩
  have hB : Below w.heap.size w W := by rw [hW]; exact below1 _ _
  have x1 : W.cell? ⟨w.heap.size, 1, none⟩ = some (.int .i64 c.o) := by rw [hW]; simp [go_sem]
  have x2 : W.cell? ⟨w.heap.size, 2, none⟩ = some (.int .i64 c.p) := by rw [hW]; simp [go_sem]
  have HL := hid (hL.later hB)
  have HR : Hid (∀ q ∈ Q, Row W q.2.a q.2.n q.2.c q.1.b) := fun q hq => (hR q hq).later hB
  have hlen : (Q.map Prod.fst).length = s.n := by have := hL.len; simpa using this
  have HW := hid hW
  have HB := hid hB
  have HWi := hid within_any
  have HO : Hid (objB c (Q.map Prod.fst) = (decide ((s.n : Int) ≤ c.o) && oLe (obS (Q.map Prod.fst) 1 0) c.p)) := by unfold Hid objB; rw [hlen]
  have HLen := hid hlen
  clear hL hR hW hB hlen hc
  obtain ⟨sa, n, sc⟩ := s
  simp only at hm HL HLen HO
  by_cases hno : (n : Int) ≤ c.o
  · have hd : decide (c.o < (n : Int)) = false := by simp; omega
    have hn64 : n ≤ 64 := by omega
    have HO2 : Hid (objB c (Q.map Prod.fst) = oLe (obS (Q.map Prod.fst) 1 0) c.p) := by unfold Hid; rw [HO.out, decide_eq_true hno, Bool.true_and]
    have HX1 := hid x1
    have HX2 := hid x2
    clear HO x2
    go_enter Try.func47, Try.ntmps47
    go_upto_region 1 with fail
    rw [← HW.out]
    go_upto_region 5 with fail
    clear hd x1
    go_loopw [5, 6, 16] (fun l p i U => ∃ (j : Nat) (lv pv : Int), i = .int .i64 (j : Int) ∧ l = .int .i64 lv ∧ p = .int .i64 pv ∧ j ≤ n ∧ obS ((Q.map Prod.fst).drop j) lv pv = obS (Q.map Prod.fst) 1 0 ∧ 1 ≤ lv ∧ lv ≤ MI + 1 ∧ 0 ≤ pv ∧ pv ≤ 64 * j ∧ Below W.heap.size W U) (fun _ _ i _ => n - ivN i)
    case atStart => exact ⟨0, 1, 0, rfl, rfl, rfl, Nat.zero_le _, rfl, by omega, by decide, by omega, by omega, Below.refl _ _⟩
    case round =>
      obtain ⟨j, lv, pv, rfl, rfl, rfl, hj, hS, hl1, hl2, hp1, hp2, hBr⟩ := hrel
      have hMI : MI = 4611686018427387904 := rfl
      have HS := hid hS
      have HBr := hid hBr
      clear hS hBr
      by_cases hlt : j < n
      · have hd : decide ((j : Int) < (n : Int)) = true := by simp; omega
        obtain ⟨q, hq⟩ : ∃ q, Q[j]? = some q := ⟨_, List.getElem?_eq_getElem (by have := HLen.out; simp at this; omega)⟩
        obtain ⟨g, o, rfl, hrg⟩ := HL.out.at_ j (encO q) (by rw [List.getElem?_map, hq]; rfl)
        have HLd := hid (ldO (rangeAt_later HBr.out hrg) rfl)
        have hql := (HR.out q (List.mem_of_getElem? hq)).len
        have HD := hid (drop_at (L := Q.map Prod.fst) (x := q.1) (by rw [List.getElem?_map, hq]; rfl))
        rw [HD.out, obS_cons] at HS
        obtain ⟨⟨qi, qb⟩, qa, qn, qc⟩ := q
        simp only at hql HS
        have HLd : Hid ((Instr.loadAt 60 (.pointer (some ⟨g, o + j * 2, none⟩))).run Try.prog wr = .ok (.agg #[.int .i64 qi, .slice qa qn qc]) wr) := HLd.out
        clear hrg hq HD
        go_upto_region 7 with (first | ((with_reducible refine ld_arm HLd.out ?_ ?_); (· rfl)))
        clear HLd
        have HBn : Hid (Below W.heap.size W (wr.alloc (Obj.cells #[.int .i64 qi, .slice qa qn qc] 60))) := below_call HBr.out (below1 _ _)
        by_cases hw1 : wi qi lv 4611686018427387904 = true
        · have HI := hid (wi_iff.1 hw1)
          by_cases hw2 : qn ≤ 4096
          · have hd2 : decide ((4096 : Int) < (qn : Int)) = false := by simp; omega
            have HS2 : Hid (obS ((Q.map Prod.fst).drop (j + 1)) (qi + 1) (pv + ((qn + 63) / 64 : Nat)) = obS (Q.map Prod.fst) 1 0) := by
              have := HS.out
              rw [if_pos (by rw [hMI, hw1, hql, decide_eq_true hw2]; rfl), hql] at this
              exact this
            go_wp2_with (first | (go_at_call 53; refine (HWi.out _ _ _ _).mono ?_; rintro e w1 ⟨rfl, rfl⟩; rw [hw1]))
            have hi := HI.out
            have e1 : wrap64 (qi + 1) = qi + 1 := by unfold wrap64; omega
            have e2 : ((qn : Int) + 64 - 1) / 64 = ((qn + 63) / 64 : Nat) := by omega
            exact ⟨⟨j + 1, qi + 1, pv + ((qn + 63) / 64 : Nat), rfl, by rw [e1], by rw [e2], by omega, HS2.out, by omega, by omega, by omega, by omega, HBn.out⟩, by simp [ivN]; omega⟩
          · have hd2 : decide ((4096 : Int) < (qn : Int)) = true := by simp; omega
            have HF : Hid (objB c (Q.map Prod.fst) = false) := by
              unfold Hid
              rw [HO2.out, ← HS.out, hql, decide_eq_false (by simpa using hw2), Bool.and_false]; rfl
            go_wp2_with (first | (go_at_call 53; refine (HWi.out _ _ _ _).mono ?_; rintro e w1 ⟨rfl, rfl⟩; rw [hw1]))
            go_ret
            exact ⟨ret_bool HF.out.symm, below_call HB.out HBn.out⟩
        · have hw1 : wi qi lv 4611686018427387904 = false := by simpa using hw1
          have HF : Hid (objB c (Q.map Prod.fst) = false) := by
            unfold Hid
            rw [HO2.out, ← HS.out, hMI, hw1, Bool.false_and]; rfl
          go_wp2_with (first | (go_at_call 53; refine (HWi.out _ _ _ _).mono ?_; rintro e w1 ⟨rfl, rfl⟩; rw [hw1]))
          go_ret
          exact ⟨ret_bool HF.out.symm, below_call HB.out HBn.out⟩
      · obtain rfl : j = n := by omega
        have HF : Hid (objB c (Q.map Prod.fst) = decide (pv ≤ c.p)) := by
          unfold Hid
          rw [HO2.out, ← HS.out, List.drop_eq_nil_of_le (by have := HLen.out; omega)]; rfl
        have x2 := cell_later HBr.out HX2.out
        go_wp2
        go_ret
        exact ⟨ret_bool HF.out.symm, below_call HB.out HBr.out⟩
  · have hd : decide (c.o < (n : Int)) = true := by simp; omega
    have HF : Hid (objB c (Q.map Prod.fst) = false) := by unfold Hid; rw [HO.out, decide_eq_false hno, Bool.false_and]
    go_enter Try.func47, Try.ntmps47
    go_upto_region 1 with fail
    rw [← HW.out]
    go_wp2
    go_ret
    exact ⟨ret_bool HF.out.symm, HB.out⟩
end Go.Proofs.Ythfmmfphnimlnaa
