import Derived.Test.YthfmmfphnimlnaaIO
namespace Go.Proofs.Ythfmmfphnimlnaa
open Go.RowKit
set_option linter.unusedVariables false
set_option linter.unusedSimpArgs false
theorem caps_len : ∀ (M : List Cp), (M.flatMap capL).length = 24 * M.length
  | [] => rfl
  | q :: M => by rw [List.flatMap_cons, List.length_append, List.length_cons, capL_len, caps_len M]; omega
theorem pcsL_len (p : Pc) : (pcsL p).length = 3 + 24 * p.l.length := by simp only [pcsL, List.length_append, leL_length, caps_len]; omega
set_option maxRecDepth 100000 in
set_option maxHeartbeats 8000000 in
theorem layProcesses_any (s : Sl) (R : List (Pc × Sl)) (w : World) (hL : Lk w 2 s (R.map encP)) (hPl : ∀ q ∈ R, Lk w 3 q.2 (q.1.l.map encC)) (hn : s.n ≤ 32) (hq : ∀ q ∈ R, 0 ≤ q.1.n ∧ q.1.n < 65536 ∧ q.1.l.length ≤ 32 ∧ ∀ x ∈ q.1.l, x.ok ∧ 0 ≤ x.o ∧ x.o ≤ MI) :
    Calls Try.prog 45 #[.slice s.a s.n s.c] w fun e w' => ∃ a n c, e = .returned (.slice a n c) ∧ Own w' w.heap.size a n c (psL (R.map Prod.fst)) ∧ Below w.heap.size w w' := by
  have hlen : R.length = s.n := by have := hL.len; simpa using this
  have HL := hid hL
  have HPl := hid hPl
  have HQ := hid hq
  have HLen := hid hlen
  clear hL hPl hq hlen
  obtain ⟨sa, n, sc⟩ := s
  simp only at HL HLen hn ⊢
  have HL2 := hid (layTwo_any n (by omega))
  go_enter Try.func45, Try.ntmps45
  go_upto_region 2 with (first | (go_at_call 42; refine (HL2.out _).mono ?_; rintro e w1 ⟨a1, c1, rfl, h1, hb1⟩))
  have HO1 : Hid (OR w (w1.alloc (Obj.cells #[.slice a1 2 c1] 30)) (some ⟨w1.heap.size, 0, none⟩) 1 1 [(a1, 2, c1, leL n 2)]) := OR.one (.inr h1) hb1
  have HB1 : Hid (Below w.heap.size w (w1.alloc (Obj.cells #[.slice a1 2 c1] 30))) := below_call hb1 (below1 _ _)
  clear h1 hb1 HL2
  go_upto_region 3 with fail
  go_loopw [3, 14] (fun t i U => ∃ (j : Nat) (ra : Option Addr) (rn rc : Nat) (rs : List R4), i = .int .i64 (j : Int) ∧ t = .slice ra rn rc ∧ j ≤ n ∧ 1 ≤ rn ∧ rn ≤ 1 + 34 * j ∧ OR w U ra rn rc rs ∧ cat4 rs = leL n 2 ++ (R.take j).flatMap (fun q => pcsL q.1) ∧ Below w.heap.size w U) (fun _ i _ => n - ivN i)
  case atStart => exact ⟨0, _, _, _, _, rfl, rfl, Nat.zero_le _, Nat.le_refl _, Nat.le_refl _, HO1.out, by simp [cat4_one], HB1.out⟩
  case round =>
    obtain ⟨j, ra, rn, rc, rs, rfl, rfl, hj, hrn0, hrn, hO, hC, hBr⟩ := hrel
    have HO := hid hO
    have HC := hid hC
    have HBr := hid hBr
    have HRn := hid (And.intro hrn0 hrn)
    clear hO hC hBr hrn hrn0
    by_cases hlt : j < n
    · have hd : decide ((j : Int) < (n : Int)) = true := by simp; omega
      obtain ⟨q, hq⟩ : ∃ q, R[j]? = some q := ⟨_, List.getElem?_eq_getElem (by have := HLen.out; omega)⟩
      obtain ⟨g, o, rfl, hrg⟩ := HL.out.at_ j (encP q) (by rw [List.getElem?_map, hq]; rfl)
      have HLd := hid (ldP (rangeAt_later HBr.out hrg) rfl)
      have HRq := hid (HPl.out q (List.mem_of_getElem? hq))
      have hqb := HQ.out q (List.mem_of_getElem? hq)
      have HT := hid (flat_take (fun q : Pc × Sl => pcsL q.1) hq)
      have hql : q.1.l.length = q.2.n := by have := HRq.out.len; simpa using this
      obtain ⟨⟨qi, ql⟩, qa, qn, qc⟩ := q
      simp only at hqb HRq HT hql
      obtain ⟨x, rfl⟩ : ∃ x : Nat, qi = x := ⟨qi.toNat, by omega⟩
      have hxl : x < 65536 := by omega
      have hqn : qn ≤ 32 := by omega
      have e1 : IntKind.u8.wrap (qn : Int) = (qn : Int) := by rw [IntKind.wrap_u8]; omega
      have HP := hid (p8 qn (by omega))
      have HL2 := hid (layTwo_any x hxl)
      have HQc := hid hqb.2.2.2
      have HQl := hid hql
      have HOb : Hid (pcsL ⟨(x : Int), ql⟩ = leL x 2 ++ (leL qn 1 ++ ql.flatMap capL)) := by unfold Hid pcsL; simp only [Int.toNat_natCast, hql]
      have HLd : Hid ((Instr.loadAt 51 (.pointer (some ⟨g, o + j * 2, none⟩))).run Try.prog wr = .ok (.agg #[.int .i64 (x : Int), .slice qa qn qc]) wr) := HLd.out
      obtain ⟨V, hV⟩ : ∃ V, V = wr.alloc (Obj.cells #[.int .i64 (x : Int), .slice qa qn qc] 51) := ⟨_, rfl⟩
      have HBn : Hid (Below wr.heap.size wr V) := by rw [hV]; exact below1 _ _
      have HV := hid hV
      have HCl : Hid (∀ X, But (Blk ra) V X → X.cell? ⟨wr.heap.size, 0, none⟩ = some (.int .i64 (x : Int)) ∧ X.cell? ⟨wr.heap.size, 1, none⟩ = some (.slice qa qn qc)) := fun X hX =>
        ⟨cell_but hX (by rw [hV]; simp [go_sem]) (fun hk => by have := HO.out.lt _ hk; omega), cell_but hX (by rw [hV]; simp [go_sem]) (fun hk => by have := HO.out.lt _ hk; omega)⟩
      have S0 := HCl.out _ (But.of (Below.refl _ _).drew)
      have HBV := hid (below_call HBr.out HBn.out)
      have HOV := hid (HO.out.later HBn.out)
      clear hrg hq hqb hxl hV hql
      go_upto_region 5 with (first | ((with_reducible refine ld_arm HLd.out ?_ ?_); (· rfl)))
      rw [← HV.out]
      obtain ⟨b5, hb5⟩ : ∃ b5, b5 = wr.heap.size := ⟨_, rfl⟩
      rw [← hb5] at HCl S0 ⊢
      clear HLd hb5
      go_region_held3 (fun X => X.cell? ⟨b5, 0, none⟩ = some (.int .i64 (x : Int)) ∧ X.cell? ⟨b5, 1, none⟩ = some (.slice qa qn qc)) (first | exact S4 | exact S3a | exact S3 | exact S2 | exact S0) (first
        | (go_at_call 42; refine (HL2.out _).mono ?_; rintro e w2 ⟨a2, c2, rfl, hown2, hb2⟩; have HB2 := hid (below_call (Below.refl V.heap.size V).drew hb2); have HOw2 := hid (hown2.mono (below_call HBV.out (Below.refl _ _).drew).size); have S2 := HCl.out _ (But.of HB2.out); clear hown2 hb2)
        | (go_at_call 72; refine (HP.out _).mono ?_; rintro e w3 ⟨a3, c3, rfl, hown3, hb3⟩; have HB3 := hid (below_call HB2.out hb3); have HOw3 := hid (hown3.mono (below_call HBV.out HB2.out).size); have S3 := HCl.out _ (But.of HB3.out); have S3a := HCl.out _ (But.of (below_call HB3.out (below1 w3 (Obj.cells #[.slice a2 2 c2, .slice a3 1 c3] 30)))); obtain ⟨a4, c4, w4, hrun4, hor4, hbw4, hbut4, _⟩ := append_rows (M := [(a2, 2, c2, leL x 2), (a3, 1, c3, leL qn 1)]) (HOV.out.later HB3.out) (fun r hr => by
            simp only [List.mem_cons, List.not_mem_nil, or_false] at hr
            rcases hr with rfl | rfl
            · exact .inr (HOw2.out.later hb3)
            · exact .inr HOw3.out) (below_call HBV.out HB3.out) (by simp) (by have := HRn.out; simp; omega); have HRUN : Hid ((Builtin.append_ #[107, 107] 107 #[.slice ra rn rc, .slice (some ⟨w3.heap.size, 0, none⟩) 2 2]).run Try.prog (w3.alloc (Obj.cells #[.slice a2 2 c2, .slice a3 1 c3] 30)) = .ok (.slice a4 (rn + 2) c4) w4) := hrun4; have HOR4 := hid hor4; have HBW4 := hid hbw4; have S4 := HCl.out _ ((But.of HB3.out).trans hbut4); clear hown3 hb3 hrun4 hor4 hbw4 hbut4)
        | (refine wp_append_known (.tmp 18) (.tmp 27) 107 rfl (.slice ra rn rc) (.slice (some ⟨w3.heap.size, 0, none⟩) 2 2) rfl rfl (.slice a4 (rn + 2) c4) w4 HRUN.out ?_))
      have HC4 : Hid (cat4 (rs ++ [(a2, 2, c2, leL x 2), (a3, 1, c3, leL qn 1)]) = leL n 2 ++ (R.take j).flatMap (fun q => pcsL q.1) ++ (leL x 2 ++ leL qn 1)) := by unfold Hid; rw [cat4_append, HC.out]; simp [cat4]
      have y1 := S4.2
      clear S0 S2 S3 S3a S4
      go_upto_region 7 with fail
      clear y1
      go_loopw [3, 32] (fun t i U => ∃ (k : Nat) (ra' : Option Addr) (rn' rc' : Nat) (rs' : List R4), i = .int .i64 (k : Int) ∧ t = .slice ra' rn' rc' ∧ k ≤ qn ∧ rn' = rn + 2 + k ∧ OR w U ra' rn' rc' rs' ∧ cat4 rs' = leL n 2 ++ (R.take j).flatMap (fun q => pcsL q.1) ++ (leL x 2 ++ leL qn 1) ++ (ql.take k).flatMap capL ∧ Below w.heap.size w U) (fun _ i _ => qn - ivN i)
      case atStart => exact ⟨0, _, _, _, _, rfl, rfl, Nat.zero_le _, rfl, HOR4.out, by rw [HC4.out]; simp, HBW4.out⟩
      case round =>
        obtain ⟨k, ra', rn', rc', rs', rfl, rfl, hk, hrn', hO', hC', hBr'⟩ := hrel
        have HO' := hid hO'
        have HC' := hid hC'
        have HBr' := hid hBr'
        have HRn' := hid hrn'
        clear hO' hC' hBr' hrn'
        by_cases hkl : k < qn
        · have hd2 : decide ((k : Int) < (qn : Int)) = true := by simp; omega
          obtain ⟨y, hy⟩ : ∃ y, ql[k]? = some y := ⟨_, List.getElem?_eq_getElem (by have := HQl.out; omega)⟩
          obtain ⟨g2, o2, rfl, hrg⟩ := HRq.out.at_ k (encC y) (by rw [List.getElem?_map, hy]; rfl)
          have HLd := hid (ldC (rangeAt_later HBr'.out hrg) rfl)
          have hyb := HQc.out y (List.mem_of_getElem? hy)
          have HTy := hid (flat_take capL hy)
          have HLC := hid (layCap_any y hyb.1 hyb.2.1 hyb.2.2)
          generalize capL y = cl at HLC HTy
          obtain ⟨yo, yh, yl⟩ := y
          have HLd : Hid ((Instr.loadAt 65 (.pointer (some ⟨g2, o2 + k * 3, none⟩))).run Try.prog wr = .ok (.agg #[.int .i64 yo, .int .u64 (yh : Int), .int .u64 (yl : Int)]) wr) := HLd.out
          have HBc : Hid (Below wr.heap.size wr (wr.alloc (Obj.cells #[.int .i64 yo, .int .u64 (yh : Int), .int .u64 (yl : Int)] 65))) := below1 _ _
          simp only at HLC
          clear hrg hy hyb
          go_upto_region 9 with (first | ((with_reducible refine ld_arm HLd.out ?_ ?_); (· rfl)))
          clear HLd
          go_wp2_with (first
            | (go_at_call 71; refine (HLC.out _).mono ?_; rintro e w6 ⟨a6, c6, rfl, hown6, hb6⟩; obtain ⟨a7, c7, w7, hrun7, hor7, hbw7, _, _⟩ := append_row ((HO'.out.later HBc.out).later hb6) (.inr (hown6.mono (below_call HBr'.out HBc.out).size)) (below_call (below_call HBr'.out HBc.out) hb6) (by have := HRn.out; have := HRn'.out; omega); have HRUN7 := hid hrun7; have HOR7 := hid hor7; have HBW7 := hid hbw7; clear hown6 hb6 hrun7 hor7 hbw7)
            | (at_builtin; refine wpList_append_known rfl _ _ 107 rfl _ _ rfl rfl _ w7 HRUN7.out ?_))
          refine ⟨⟨k + 1, a7, rn' + 1, c7, _, rfl, rfl, by omega, by have := HRn'.out; omega, HOR7.out, ?_, HBW7.out⟩, by simp [ivN]; omega⟩
          rw [cat4_append, HC'.out, HTy.out]
          simp [cat4]
        · obtain rfl : k = qn := by omega
          have HCe : Hid (cat4 rs' = leL n 2 ++ (R.take (j + 1)).flatMap (fun q => pcsL q.1)) := by
            unfold Hid
            rw [HC'.out, HT.out, HOb.out, show ql.take k = ql from List.take_of_length_le (by have := HQl.out; omega)]
            simp
          go_wp2
          exact ⟨⟨j + 1, ra', rn', rc', rs', rfl, rfl, by omega, by have := HRn.out; have := HRn'.out; omega, by have := HRn.out; have := HRn'.out; omega, HO'.out, HCe.out, HBr'.out⟩, by simp [ivN]; omega⟩
    · obtain rfl : j = n := by omega
      have HCt : Hid (cat4 rs = psL (R.map Prod.fst)) := by
        unfold Hid psL
        rw [HC.out, List.take_of_length_le (by have := HLen.out; omega), List.length_map, HLen.out]
        congr 1
        rw [List.flatMap_map]
      have hbd : (cat4 rs).length ≤ 140737488355328 := by
        rw [HC.out, List.length_append, leL_length]
        have : ∀ (M : List (Pc × Sl)), (∀ q ∈ M, q.1.l.length ≤ 32) → (M.flatMap (fun q => pcsL q.1)).length ≤ 1000 * M.length := by
          intro M hM
          induction M with
          | nil => simp
          | cons q M ih =>
            have h1 := ih (fun q hq => hM q (List.mem_cons_of_mem _ hq))
            have h2 := hM q List.mem_cons_self
            rw [List.flatMap_cons, List.length_append, List.length_cons, pcsL_len]
            omega
        have h3 := this (R.take j) (fun q hq => (HQ.out q (List.mem_of_mem_take hq)).2.2.1)
        have h4 : (R.take j).length ≤ 32 := by rw [List.length_take]; omega
        omega
      have HJo := hid (join_or HO.out HBr.out (by have := HRn.out; omega) (by have := HRn.out; omega) hbd)
      clear hbd
      go_wp2_with (first | (go_at_call 38; refine HJo.out.mono ?_; rintro e w5 ⟨a5, n5, c5, rfl, hown5, hb5⟩; have HO5 := hid (hown5.mono HBr.out.size); have HB5 := hid (below_call HBr.out hb5); clear hown5 hb5))
      go_ret
      exact ⟨a5, n5, c5, rfl, by rw [← HCt.out]; exact HO5.out, HB5.out⟩
end Go.Proofs.Ythfmmfphnimlnaa
