import Derived.Test.YthfmmfphnimlnaaIG
import Derived.Test.YthfmmfphnimlnaaRA
namespace Go.Proofs.Ythfmmfphnimlnaa
open Go.RowKit
set_option linter.unusedVariables false
set_option linter.unusedSimpArgs false
set_option maxRecDepth 100000 in
set_option maxHeartbeats 8000000 in
theorem rkin_any (s : St) (a b d : Sl) (Q : List (Ob × Sl)) (R : List (Pc × Sl)) (w : World) (h : Sm w s a b d Q R) :
    Calls Try.prog 17 #[stV a b d s.nx s.px s.ta] w fun e w' => e = .returned (.bool (kinB s.T)) ∧ Below w.heap.size w w' := by
  obtain ⟨W, hW⟩ : ∃ W, W = w.alloc (Obj.cells #[.slice a.a a.n a.c, .slice b.a b.n b.c, .slice d.a d.n d.c, .int .i64 s.nx, .int .i64 s.px, .int .i64 s.ta] 28) := ⟨_, rfl⟩
  have hB : Below w.heap.size w W := by rw [hW]; exact below1 _ _
  have y1 : W.cell? ⟨w.heap.size, 1, none⟩ = some (.slice b.a b.n b.c) := by rw [hW]; simp [go_sem]
  have hmb := h.mb
  have HL := hid (h.t.later hB)
  have HB := hid hB
  have HW := hid hW
  have hlT : s.T.length = b.n := by have := h.t.len; simpa using this
  have HLen := hid hlT
  clear h hB hW hlT
  obtain ⟨ba, n, bc⟩ := b
  simp only at hmb HW HL HLen y1 ⊢
  have HY1 := hid y1
  go_enter Try.func17, Try.ntmps17
  go_upto_region 1 with fail
  rw [← HW.out]
  go_upto_region 2 with fail
  clear y1
  go_loopw [3] (fun i U => ∃ (j : Nat), i = .int .i64 (j : Int) ∧ j ≤ n ∧ (∀ k, k < j → kAt s.T k = true) ∧ Below W.heap.size W U) (fun i _ => n - ivN i)
  case atStart => exact ⟨0, rfl, Nat.zero_le _, fun k hk => by omega, Below.refl _ _⟩
  case round =>
    obtain ⟨j, rfl, hj, hS, hBr⟩ := hrel
    have HS := hid hS
    have HBr := hid hBr
    have y1 := cell_later hBr HY1.out
    clear hS hBr
    by_cases hlt : j < n
    · have hd : decide ((j : Int) < (n : Int)) = true := by simp; omega
      obtain ⟨q, hq⟩ : ∃ q, s.T[j]? = some q := ⟨_, List.getElem?_eq_getElem (by have := HLen.out; omega)⟩
      obtain ⟨g, o, rfl, hrg⟩ := HL.out.at_ j (encT q) (by rw [List.getElem?_map, hq]; rfl)
      have HLd := hid (ldT (rangeAt_later HBr.out hrg) rfl)
      have HQ := hid (tkA_of hq)
      obtain ⟨⟨qo, qh, ql⟩, qr, qp⟩ := q
      have HLd : Hid ((Instr.loadAt 67 (.pointer (some ⟨g, o + j * 5, none⟩))).run Try.prog wr = .ok (.agg #[.int .i64 qo, .int .u64 (qh : Int), .int .u64 (ql : Int), .int .i64 qr, .int .i64 qp]) wr) := HLd.out
      obtain ⟨V, hV⟩ : ∃ V, V = wr.alloc (Obj.cells #[.int .i64 qo, .int .u64 (qh : Int), .int .u64 (ql : Int), .int .i64 qr, .int .i64 qp] 67) := ⟨_, rfl⟩
      have HBn : Hid (Below W.heap.size W V) := by rw [hV]; exact below_call HBr.out (below1 _ _)
      have z0 : V.cell? ⟨wr.heap.size, 0, none⟩ = some (.int .i64 qo) := by rw [hV]; simp [go_sem]
      have z3 : V.cell? ⟨wr.heap.size, 3, none⟩ = some (.int .i64 qr) := by rw [hV]; simp [go_sem]
      have z4 : V.cell? ⟨wr.heap.size, 4, none⟩ = some (.int .i64 qp) := by rw [hV]; simp [go_sem]
      have HZ3 := hid z3
      have HZ4 := hid z4
      have HV := hid hV
      have HYV := hid (cell_later HBn.out HY1.out)
      clear hrg hq hV
      cases j with
      | zero =>
        have HK : Hid (kAt s.T 0 = (decide (qp = -1) && decide (qr = 31))) := by unfold Hid kAt; rw [if_pos (by simp [fstB]), HQ.out]
        go_upto_region 5 with (first | ((with_reducible refine ld_arm HLd.out ?_ ?_); (· rfl)))
        rw [← HV.out]
        clear HLd
        have y1 := HYV.out
        go_quiet (fail)
        by_cases h1 : qp = -1
        · by_cases h2 : qr = 31
          · have HK2 : Hid (kAt s.T 0 = true) := by unfold Hid; rw [HK.out, decide_eq_true h1, decide_eq_true h2]; rfl
            subst h1 h2
            go_wp2
            refine ⟨⟨0 + 1, rfl, by omega, fun k hk => ?_, below_drewN HBn.out _⟩, by simp [ivN]; omega⟩
            by_cases e : k = 0
            · rw [e]; exact HK2.out
            · exact HS.out k (by omega)
          · have h2' : (qr != 31) = true := by simpa using h2
            have HF : Hid (kinB s.T = false) := by
              unfold Hid kinB
              rw [List.all_eq_false]
              exact ⟨0, List.mem_range.2 (by have := HLen.out; omega), by rw [HK.out, decide_eq_false h2]; simp⟩
            subst h1
            go_wp2
            go_ret
            exact ⟨ret_bool HF.out.symm, below_drewN (below_call HB.out HBn.out) _⟩
        · have h1' : (qp != -1) = true := by simpa using h1
          have HF : Hid (kinB s.T = false) := by
            unfold Hid kinB
            rw [List.all_eq_false]
            exact ⟨0, List.mem_range.2 (by have := HLen.out; omega), by rw [HK.out, decide_eq_false h1]; simp⟩
          go_wp2
          go_ret
          exact ⟨ret_bool HF.out.symm, below_drewN (below_call HB.out HBn.out) _⟩
      | succ m =>
        obtain ⟨r, hr⟩ : ∃ r, s.T[m]? = some r := ⟨_, List.getElem?_eq_getElem (by have := HLen.out; omega)⟩
        obtain ⟨g', o', hsa, hrg⟩ := HL.out.at_ m (encT r) (by rw [List.getElem?_map, hr]; rfl)
        simp only [Option.some.injEq, Addr.mk.injEq] at hsa
        obtain ⟨rfl, rfl, _⟩ := hsa
        have x0 := cell_later HBn.out (hrg 0 _ rfl)
        simp only [Nat.add_zero] at x0
        have HFs : Hid (fstB s.T (m + 1) = (r.c.o != qo)) := by
          unfold Hid fstB
          rw [show m + 1 - 1 = m by omega, tkA_of hr, HQ.out, bne_dec]; simp
        have hmn2 : (m : Int) < (n : Int) := by omega
        have e0 : ((m : Int) + 1 == 0) = false := by simp; omega
        have e1 : IntKind.i64.wrap (m : Int) = (m : Int) := by rw [IntKind.wrap_i64]; omega
        obtain ⟨⟨ro, rh, rl⟩, rr, rp⟩ := r
        simp only at x0 HFs
        clear hrg hr
        cases hf : (ro != qo) with
        | true =>
          rw [hf] at HFs
          have HK : Hid (kAt s.T (m + 1) = (decide (qp = -1) && decide (qr = 31))) := by unfold Hid kAt; rw [if_pos HFs.out, HQ.out]
          go_upto_region 5 with (first | ((with_reducible refine ld_arm HLd.out ?_ ?_); (· rfl)))
          rw [← HV.out]
          clear HLd
          have y1 := HYV.out
          go_quiet (fail)
          by_cases h1 : qp = -1
          · by_cases h2 : qr = 31
            · have HK2 : Hid (kAt s.T (m + 1) = true) := by unfold Hid; rw [HK.out, decide_eq_true h1, decide_eq_true h2]; rfl
              subst h1 h2
              go_wp2
              refine ⟨⟨(m + 1) + 1, rfl, by omega, fun k hk => ?_, below_drewN HBn.out _⟩, by simp [ivN]; omega⟩
              by_cases e : k = (m + 1)
              · rw [e]; exact HK2.out
              · exact HS.out k (by omega)
            · have h2' : (qr != 31) = true := by simpa using h2
              have HF : Hid (kinB s.T = false) := by
                unfold Hid kinB
                rw [List.all_eq_false]
                exact ⟨(m + 1), List.mem_range.2 (by have := HLen.out; omega), by rw [HK.out, decide_eq_false h2]; simp⟩
              subst h1
              go_wp2
              go_ret
              exact ⟨ret_bool HF.out.symm, below_drewN (below_call HB.out HBn.out) _⟩
          · have h1' : (qp != -1) = true := by simpa using h1
            have HF : Hid (kinB s.T = false) := by
              unfold Hid kinB
              rw [List.all_eq_false]
              exact ⟨(m + 1), List.mem_range.2 (by have := HLen.out; omega), by rw [HK.out, decide_eq_false h1]; simp⟩
            go_wp2
            go_ret
            exact ⟨ret_bool HF.out.symm, below_drewN (below_call HB.out HBn.out) _⟩
        | false =>
          rw [hf] at HFs
          have HK : Hid (kAt s.T (m + 1) = (abv s.T qp (m + 1) m && partB qr (tkA s.T qp).r)) := by unfold Hid kAt; rw [HFs.out, HQ.out]; rfl
          have HPar := hid (kAt_par (m + 1) (fun k hk => HS.out k hk))
          go_upto_region 5 with (first | ((with_reducible refine ld_arm HLd.out ?_ ?_); (· rfl)))
          rw [← HV.out]
          clear HLd
          have y1 := HYV.out
          go_quiet (fail)
          clear y1 z0 z3 z4 x0
          go_upto_region 10 with fail
          go_loopw [6] (fun t U => ∃ (k : Int), t = .int .i64 k ∧ -1 ≤ k ∧ k ≤ m ∧ abv s.T qp (m + 1) m = abv s.T qp (k + 1).toNat k ∧ Below V.heap.size V U) (fun t _ => match t with | .int _ q => (q + 1).toNat | _ => 0)
          case atStart => exact ⟨m, rfl, by omega, by omega, by rw [show ((m : Int) + 1).toNat = m + 1 by omega], below_drewN (Below.refl _ _) _⟩
          case round =>
            obtain ⟨k, rfl, hk0, hk1, hA, hB2⟩ := hrel
            have HA := hid hA
            have HB2 := hid hB2
            have z3 := cell_later hB2 HZ3.out
            have z4 := cell_later hB2 HZ4.out
            have y1 := cell_later hB2 HYV.out
            clear hA hB2
            by_cases hk : k = -1
            · subst hk
              have HF : Hid (kinB s.T = false) := by
                unfold Hid kinB
                rw [List.all_eq_false]
                exact ⟨m + 1, List.mem_range.2 (by have := HLen.out; omega), by rw [HK.out, HA.out]; simp [abv]⟩
              go_upto_region 12 with fail
              go_quiet (fail)
              go_wp2
              go_ret
              exact ⟨ret_bool HF.out.symm, below_drewN (below_call HB.out (below_call HBn.out HB2.out)) _⟩
            · obtain ⟨x, rfl⟩ : ∃ x : Nat, k = x := ⟨k.toNat, by omega⟩
              have hxn : (x : Int) < (n : Int) := by omega
              have hx0 : decide (0 ≤ (x : Int)) = true := by simp
              obtain ⟨t, ht⟩ : ∃ t, s.T[x]? = some t := ⟨_, List.getElem?_eq_getElem (by have := HLen.out; omega)⟩
              obtain ⟨g', o', hsa, hrg⟩ := HL.out.at_ x (encT t) (by rw [List.getElem?_map, ht]; rfl)
              simp only [Option.some.injEq, Addr.mk.injEq] at hsa
              obtain ⟨rfl, rfl, _⟩ := hsa
              have v3 := cell_later (below_call HBn.out HB2.out) (hrg 3 _ rfl)
              have v4 := cell_later (below_call HBn.out HB2.out) (hrg 4 _ rfl)
              have hpx := HPar.out x (by omega)
              have hvx := kAt_rights (HS.out x (by omega))
              rw [tkA_of ht] at hpx hvx
              by_cases he : (x : Int) = qp
              · subst he
                have HK2 : Hid (kAt s.T (m + 1) = partB qr t.r) := by
                  unfold Hid
                  rw [HK.out, HA.out, tkA_of ht, show ((x : Int) + 1).toNat = x + 1 by omega]
                  unfold abv
                  rw [if_neg hk, if_pos rfl, Bool.true_and]
                have HPt := hid (fun U => rpart_any qr t.r hvx U)
                obtain ⟨tc, tr, tp⟩ := t
                simp only at v3 HK2 HPt
                have hlt0 : decide ((x : Int) < 0) = false := by simp
                clear hrg ht HA v4 hpx hvx
                cases hp : partB qr tr with
                | true =>
                  rw [hp] at HPt HK2
                  go_upto_region 12 with fail
                  go_quiet (first | (go_at_call 34; refine Calls.quiet_of_same (HPt.out _)))
                  go_wp2
                  refine ⟨⟨m + 1 + 1, rfl, by omega, fun i hi => ?_, below_drewN (below_call HBn.out HB2.out) _⟩, by simp [ivN]; omega⟩
                  by_cases e : i = m + 1
                  · rw [e]; exact HK2.out
                  · exact HS.out i (by omega)
                | false =>
                  rw [hp] at HPt HK2
                  have HF : Hid (kinB s.T = false) := by
                    unfold Hid kinB
                    rw [List.all_eq_false]
                    exact ⟨m + 1, List.mem_range.2 (by have := HLen.out; omega), by rw [HK2.out]; simp⟩
                  go_upto_region 12 with fail
                  go_quiet (first | (go_at_call 34; refine Calls.quiet_of_same (HPt.out _)))
                  go_wp2
                  go_ret
                  exact ⟨ret_bool HF.out.symm, below_drewN (below_call HB.out (below_call HBn.out HB2.out)) _⟩
              · have he2 : ((x : Int) != qp) = true := by simpa using he
                have HF : Hid (abv s.T qp (m + 1) m = abv s.T qp (t.p + 1).toNat t.p) := by
                  unfold Hid
                  rw [HA.out, show ((x : Int) + 1).toNat = x + 1 by omega]
                  conv => lhs; unfold abv
                  rw [if_neg hk, if_neg he, tkA_of ht]
                  exact abv_fuel (fun j hj => HPar.out j hj) _ _ _ hpx.1 (by omega) (by omega) (by omega)
                have HQ2 := hid hpx
                obtain ⟨tc, tr, tp⟩ := t
                simp only at v4 HF HQ2
                clear hrg ht HA v3 hpx hvx
                go_wp2
                have hpq := HQ2.out
                exact ⟨⟨tp, rfl, by omega, by omega, HF.out, HB2.out⟩, by simp only; omega⟩
    · obtain rfl : j = n := by omega
      have HF : Hid (kinB s.T = true) := by
        unfold Hid kinB
        rw [List.all_eq_true]
        exact fun k hk => HS.out k (by have := List.mem_range.1 hk; have := HLen.out; omega)
      go_wp2
      go_ret
      exact ⟨ret_bool HF.out.symm, below_call HB.out HBr.out⟩
end Go.Proofs.Ythfmmfphnimlnaa
