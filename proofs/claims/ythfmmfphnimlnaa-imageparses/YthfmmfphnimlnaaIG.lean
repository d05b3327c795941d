import Derived.Test.YthfmmfphnimlnaaIF
namespace Go.Proofs.Ythfmmfphnimlnaa
open Go.RowKit
set_option linter.unusedVariables false
set_option linter.unusedSimpArgs false
theorem bne_dec (a b : Int) : (a != b) = !decide (a = b) := by rw [Bool.eq_iff_iff]; simp
set_option maxRecDepth 100000 in
set_option maxHeartbeats 4000000 in
theorem isFirst_any (s : Sl) (T : List Tk) (i : Nat) (w : World) (h : Lk w 5 s (T.map encT)) (hm : s.n ≤ 140737488355328) (hi : i < s.n) :
    Calls Try.prog 75 #[.slice s.a s.n s.c, .int .i64 (i : Int)] w fun e w' => e = .returned (.bool (fstB T i)) ∧ Below w.heap.size w w' := by
  have hlen : T.length = s.n := by have := h.len; simpa using this
  obtain ⟨q, hq⟩ : ∃ q, T[i]? = some q := ⟨_, List.getElem?_eq_getElem (by omega)⟩
  obtain ⟨g, o, hsa, hrg⟩ := h.at_ i (encT q) (by rw [List.getElem?_map, hq]; rfl)
  have y0 := hrg 0 _ rfl
  have hqa := tkA_of hq
  obtain ⟨sa, n, sc⟩ := s
  simp only at hm hlen hi hsa ⊢
  subst hsa
  cases i with
  | zero =>
    have HF : Hid (fstB T 0 = true) := by simp [Hid, fstB]
    clear h hlen hqa hrg y0
    go_enter Try.func75, Try.ntmps75
    go_upto_region 1 with fail
    go_quiet (fail)
    go_wp2
    go_ret
    exact ⟨ret_bool HF.out.symm, below_drewN (Below.refl _ _) _⟩
  | succ m =>
    obtain ⟨r, hr⟩ : ∃ r, T[m]? = some r := ⟨_, List.getElem?_eq_getElem (by omega)⟩
    obtain ⟨g', o', hsa, hrg'⟩ := h.at_ m (encT r) (by rw [List.getElem?_map, hr]; rfl)
    simp only [Option.some.injEq, Addr.mk.injEq] at hsa
    obtain ⟨rfl, rfl, _⟩ := hsa
    have x0 := hrg' 0 _ rfl
    have hra := tkA_of hr
    have HF : Hid (fstB T (m + 1) = (r.c.o != q.c.o)) := by
      unfold Hid fstB
      rw [show m + 1 - 1 = m by omega, hra, hqa, bne_dec]; simp
    have hmn : (m : Int) + 1 < (n : Int) := by omega
    have hmn2 : (m : Int) < (n : Int) := by omega
    simp only [Nat.add_zero] at x0 y0
    obtain ⟨⟨qo, qh, ql⟩, qr, qp⟩ := q
    obtain ⟨⟨ro, rh, rl⟩, rr, rp⟩ := r
    simp only at x0 y0 HF
    have e0 : ((m : Int) + 1 == 0) = false := by simp; omega
    have e1 : IntKind.i64.wrap (m : Int) = (m : Int) := by rw [IntKind.wrap_i64]; omega
    clear h hlen hqa hrg hrg' hra hq hr
    go_enter Try.func75, Try.ntmps75
    go_upto_region 1 with fail
    go_quiet (fail)
    go_wp2
    go_ret
    exact ⟨ret_bool HF.out.symm, below_drewN (Below.refl _ _) _⟩
set_option maxRecDepth 100000 in
set_option maxHeartbeats 8000000 in
theorem kinHolds_any (s : Sl) (T : List Tk) (w : World) (h : Lk w 5 s (T.map encT)) (hm : s.n ≤ 140737488355328) :
    Calls Try.prog 50 #[.slice s.a s.n s.c] w fun e w' => e = .returned (.bool (kinB T)) ∧ Below w.heap.size w w' := by
  have HL := hid h
  have hlen : T.length = s.n := by have := h.len; simpa using this
  have HLen := hid hlen
  clear h hlen
  obtain ⟨sa, n, sc⟩ := s
  simp only at hm HL HLen ⊢
  go_enter Try.func50, Try.ntmps50
  go_upto_region 2 with fail
  go_loopw [7] (fun i U => ∃ (j : Nat), i = .int .i64 (j : Int) ∧ j ≤ n ∧ (∀ k, k < j → kAt T k = true) ∧ Below w.heap.size w U) (fun i _ => n - ivN i)
  case atStart => exact ⟨0, rfl, Nat.zero_le _, fun k hk => by omega, Below.refl _ _⟩
  case round =>
    obtain ⟨j, rfl, hj, hS, hBr⟩ := hrel
    have HS := hid hS
    have HBr := hid hBr
    clear hS hBr
    by_cases hlt : j < n
    · have hd : decide ((j : Int) < (n : Int)) = true := by simp; omega
      obtain ⟨q, hq⟩ : ∃ q, T[j]? = some q := ⟨_, List.getElem?_eq_getElem (by have := HLen.out; omega)⟩
      obtain ⟨g, o, rfl, hrg⟩ := HL.out.at_ j (encT q) (by rw [List.getElem?_map, hq]; rfl)
      have HLd := hid (ldT (rangeAt_later HBr.out hrg) rfl)
      have HQ := hid (tkA_of hq)
      obtain ⟨⟨qo, qh, ql⟩, qr, qp⟩ := q
      have HLd : Hid ((Instr.loadAt 67 (.pointer (some ⟨g, o + j * 5, none⟩))).run Try.prog wr = .ok (.agg #[.int .i64 qo, .int .u64 (qh : Int), .int .u64 (ql : Int), .int .i64 qr, .int .i64 qp]) wr) := HLd.out
      obtain ⟨V, hV⟩ : ∃ V, V = wr.alloc (Obj.cells #[.int .i64 qo, .int .u64 (qh : Int), .int .u64 (ql : Int), .int .i64 qr, .int .i64 qp] 67) := ⟨_, rfl⟩
      have HBn : Hid (Below w.heap.size w V) := by rw [hV]; exact below_call HBr.out (below1 _ _)
      have z3 : V.cell? ⟨wr.heap.size, 3, none⟩ = some (.int .i64 qr) := by rw [hV]; simp [go_sem]
      have z4 : V.cell? ⟨wr.heap.size, 4, none⟩ = some (.int .i64 qp) := by rw [hV]; simp [go_sem]
      have HZ3 := hid z3
      have HZ4 := hid z4
      have HV := hid hV
      have HFi := hid (isFirst_any ⟨some ⟨g, o, none⟩, n, sc⟩ T j V (HL.out.later HBn.out) hm hlt)
      simp only at HFi
      clear hrg hq hV z3 z4
      go_upto_region 4 with (first | ((with_reducible refine ld_arm HLd.out ?_ ?_); (· rfl)))
      rw [← HV.out]
      clear HLd
      by_cases hf : fstB T j = true
      · have HK : Hid (kAt T j = (decide (qp = -1) && decide (qr = 31))) := by unfold Hid kAt; rw [if_pos hf, HQ.out]
        rw [hf] at HFi
        go_upto_region 5 with (first | (go_at_call 75; refine HFi.out.mono ?_; rintro e w2 ⟨rfl, hb2⟩; have HB2 := hid hb2; clear hb2))
        clear HFi
        have z3 := cell_later HB2.out HZ3.out
        have z4 := cell_later HB2.out HZ4.out
        by_cases h1 : qp = -1
        · by_cases h2 : qr = 31
          · have HK2 : Hid (kAt T j = true) := by unfold Hid; rw [HK.out, decide_eq_true h1, decide_eq_true h2]; rfl
            subst h1 h2
            go_wp2
            refine ⟨⟨j + 1, rfl, by omega, fun k hk => ?_, below_call HBn.out HB2.out⟩, by simp [ivN]; omega⟩
            by_cases e : k = j
            · rw [e]; exact HK2.out
            · exact HS.out k (by omega)
          · have h2' : (qr != 31) = true := by simpa using h2
            have HF : Hid (kinB T = false) := by
              unfold Hid kinB
              rw [List.all_eq_false]
              exact ⟨j, List.mem_range.2 (by have := HLen.out; omega), by rw [HK.out, decide_eq_false h2]; simp⟩
            subst h1
            go_wp2
            go_ret
            exact ⟨ret_bool HF.out.symm, below_call HBn.out HB2.out⟩
        · have h1' : (qp != -1) = true := by simpa using h1
          have HF : Hid (kinB T = false) := by
            unfold Hid kinB
            rw [List.all_eq_false]
            exact ⟨j, List.mem_range.2 (by have := HLen.out; omega), by rw [HK.out, decide_eq_false h1]; simp⟩
          go_wp2
          go_ret
          exact ⟨ret_bool HF.out.symm, below_call HBn.out HB2.out⟩
      · have hf : fstB T j = false := by simpa using hf
        have HK : Hid (kAt T j = (abv T qp j (j - 1 : Nat) && partB qr (tkA T qp).r)) := by unfold Hid kAt; rw [hf, HQ.out]; rfl
        rw [hf] at HFi
        go_upto_region 7 with (first | (go_at_call 75; refine HFi.out.mono ?_; rintro e w2 ⟨rfl, hb2⟩; have HB2 := hid hb2; clear hb2))
        clear HFi
        obtain ⟨m, rfl⟩ : ∃ m, j = m + 1 := ⟨j - 1, by have : j ≠ 0 := by { intro e; subst e; simp [fstB] at hf }; omega⟩
        have hpar := kAt_par (m + 1) (fun k hk => HS.out k hk)
        have HAb := hid (fun x => isAbove_any ⟨some ⟨g, o, none⟩, n, sc⟩ T qp m (w2.drewN x) ((HL.out.later HBn.out).later (below_drewN HB2.out x)) hm (by simp only; omega) (fun k hk => hpar k (by omega)))
        simp only at HAb
        rw [show m + 1 - 1 = m by omega] at HK
        have z3 := cell_later HB2.out HZ3.out
        have z4 := cell_later HB2.out HZ4.out
        have e1 : ((m + 1 : Nat) : Int) - 1 = (m : Int) := by omega
        by_cases ha : abv T qp (m + 1) m = true
        · have hlt2 := abv_lt (i := m + 1) (fun k hk => hpar k hk) _ _ (by omega) (by omega) ha
          obtain ⟨pn, rfl⟩ : ∃ pn : Nat, qp = pn := ⟨qp.toNat, by omega⟩
          obtain ⟨r, hr⟩ : ∃ r, T[pn]? = some r := ⟨_, List.getElem?_eq_getElem (by have := HLen.out; omega)⟩
          obtain ⟨g', o', hsa, hrg⟩ := HL.out.at_ pn (encT r) (by rw [List.getElem?_map, hr]; rfl)
          simp only [Option.some.injEq, Addr.mk.injEq] at hsa
          obtain ⟨rfl, rfl, _⟩ := hsa
          have u3 := cell_later (below_call HBn.out HB2.out) (hrg 3 _ rfl)
          rw [ha, tkA_of hr, Bool.true_and] at HK
          obtain ⟨rc, rr, rp⟩ := r
          simp only at u3 HK
          rw [ha] at HAb
          have hpn : (pn : Int) < (n : Int) := by omega
          have HPt := hid (part_any qr rr)
          clear hrg hr hpar
          by_cases hp : partB qr rr = true
          · rw [hp] at HPt
            have HK2 : Hid (kAt T (m + 1) = true) := by unfold Hid; rw [HK.out, hp]
            go_quiet (first | (go_at_call 76; refine Calls.quiet_of_same (HAb.out _)) | (go_at_call 77; refine Calls.quiet_of_same (HPt.out _)))
            go_wp2
            refine ⟨⟨m + 1 + 1, rfl, by omega, fun k hk => ?_, below_drewN (below_call HBn.out HB2.out) _⟩, by simp [ivN]; omega⟩
            by_cases e : k = m + 1
            · rw [e]; exact HK2.out
            · exact HS.out k (by omega)
          · have hp : partB qr rr = false := by simpa using hp
            rw [hp] at HPt
            have HF : Hid (kinB T = false) := by
              unfold Hid kinB
              rw [List.all_eq_false]
              exact ⟨m + 1, List.mem_range.2 (by have := HLen.out; omega), by rw [HK.out, hp]; simp⟩
            go_quiet (first | (go_at_call 76; refine Calls.quiet_of_same (HAb.out _)) | (go_at_call 77; refine Calls.quiet_of_same (HPt.out _)))
            go_wp2
            go_ret
            exact ⟨ret_bool HF.out.symm, below_drewN (below_call HBn.out HB2.out) _⟩
        · have ha : abv T qp (m + 1) m = false := by simpa using ha
          rw [ha] at HAb
          have HF : Hid (kinB T = false) := by
            unfold Hid kinB
            rw [List.all_eq_false]
            exact ⟨m + 1, List.mem_range.2 (by have := HLen.out; omega), by rw [HK.out, ha]; simp⟩
          clear hpar
          go_quiet (first | (go_at_call 76; refine Calls.quiet_of_same (HAb.out _)) | (go_at_call 77; refine Calls.quiet_of_same (part_any _ _ _)))
          go_wp2
          go_ret
          exact ⟨ret_bool HF.out.symm, below_drewN (below_call HBn.out HB2.out) _⟩
    · obtain rfl : j = n := by omega
      have HF : Hid (kinB T = true) := by
        unfold Hid kinB
        rw [List.all_eq_true]
        exact fun k hk => HS.out k (by have := List.mem_range.1 hk; have := HLen.out; omega)
      go_wp2
      go_ret
      exact ⟨ret_bool HF.out.symm, HBr.out⟩
end Go.Proofs.Ythfmmfphnimlnaa
