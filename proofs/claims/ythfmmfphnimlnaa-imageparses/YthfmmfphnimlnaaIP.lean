import Derived.Test.YthfmmfphnimlnaaIO
namespace Go.Proofs.Ythfmmfphnimlnaa
open Go.RowKit
set_option linter.unusedVariables false
set_option linter.unusedSimpArgs false
set_option maxRecDepth 100000 in
set_option maxHeartbeats 8000000 in
theorem layTokens_any (s : Sl) (T : List Tk) (w : World) (hL : Lk w 5 s (T.map encT)) (hn : s.n ≤ 256) (hq : ∀ t ∈ T, t.c.ok ∧ 0 ≤ t.c.o ∧ t.c.o ≤ MI ∧ 0 ≤ t.r ∧ t.r < 256 ∧ (t.p = -1 ∨ 0 ≤ t.p ∧ t.p < 65535)) :
    Calls Try.prog 44 #[.slice s.a s.n s.c] w fun e w' => ∃ a n c, e = .returned (.slice a n c) ∧ Own w' w.heap.size a n c (tsL T) ∧ Below w.heap.size w w' := by
  have hlen : T.length = s.n := by have := hL.len; simpa using this
  have HL := hid hL
  have HQ := hid hq
  have HLen := hid hlen
  clear hL hq hlen
  obtain ⟨sa, n, sc⟩ := s
  simp only at HL HLen hn ⊢
  have HL2 := hid (layTwo_any n (by omega))
  go_enter Try.func44, Try.ntmps44
  go_upto_region 2 with (first | (go_at_call 42; refine (HL2.out _).mono ?_; rintro e w1 ⟨a1, c1, rfl, h1, hb1⟩))
  have HO1 : Hid (OR w (w1.alloc (Obj.cells #[.slice a1 2 c1] 30)) (some ⟨w1.heap.size, 0, none⟩) 1 1 [(a1, 2, c1, leL n 2)]) := OR.one (.inr h1) hb1
  have HB1 : Hid (Below w.heap.size w (w1.alloc (Obj.cells #[.slice a1 2 c1] 30))) := below_call hb1 (below1 _ _)
  clear h1 hb1 HL2
  go_upto_region 3 with fail
  go_loopw [3, 12] (fun t i U => ∃ (j : Nat) (ra : Option Addr) (rn rc : Nat) (rs : List R4), i = .int .i64 (j : Int) ∧ t = .slice ra rn rc ∧ j ≤ n ∧ rn = 1 + 3 * j ∧ OR w U ra rn rc rs ∧ cat4 rs = leL n 2 ++ (T.take j).flatMap tkL ∧ Below w.heap.size w U) (fun _ i _ => n - ivN i)
  case atStart => exact ⟨0, _, _, _, _, rfl, rfl, Nat.zero_le _, rfl, HO1.out, by simp [cat4_one], HB1.out⟩
  case round =>
    obtain ⟨j, ra, rn, rc, rs, rfl, rfl, hj, hrn, hO, hC, hBr⟩ := hrel
    have HO := hid hO
    have HC := hid hC
    have HBr := hid hBr
    have HRn := hid hrn
    clear hO hC hBr hrn
    by_cases hlt : j < n
    · have hd : decide ((j : Int) < (n : Int)) = true := by simp; omega
      obtain ⟨q, hq⟩ : ∃ q, T[j]? = some q := ⟨_, List.getElem?_eq_getElem (by have := HLen.out; omega)⟩
      obtain ⟨g, o, rfl, hrg⟩ := HL.out.at_ j (encT q) (by rw [List.getElem?_map, hq]; rfl)
      have HLd := hid (ldT (rangeAt_later HBr.out hrg) rfl)
      have hqb := HQ.out q (List.mem_of_getElem? hq)
      have HT := hid (flat_take tkL hq)
      have HLC := hid (layCap_any q.c hqb.1 hqb.2.1 hqb.2.2.1)
      have HLP := hid (layParent_any q.p hqb.2.2.2.2.2)
      obtain ⟨⟨qo, qh, ql⟩, qr, qp⟩ := q
      simp only at hqb HT HLC HLP
      obtain ⟨x, rfl⟩ : ∃ x : Nat, qr = x := ⟨qr.toNat, by omega⟩
      have hxl : x < 256 := by omega
      have e1 : IntKind.u8.wrap (x : Int) = (x : Int) := by rw [IntKind.wrap_u8]; omega
      have HP := hid (p8 x hxl)
      have HOb : Hid (tkL ⟨⟨qo, qh, ql⟩, (x : Int), qp⟩ = capL ⟨qo, qh, ql⟩ ++ (leL x 1 ++ leL (parN qp) 2)) := by unfold Hid tkL; simp only [Int.toNat_natCast]
      generalize capL ⟨qo, qh, ql⟩ = cl at HLC HOb
      generalize leL (parN qp) 2 = pl at HLP HOb
      have HLd : Hid ((Instr.loadAt 67 (.pointer (some ⟨g, o + j * 5, none⟩))).run Try.prog wr = .ok (.agg #[.int .i64 qo, .int .u64 (qh : Int), .int .u64 (ql : Int), .int .i64 (x : Int), .int .i64 qp]) wr) := HLd.out
      obtain ⟨V, hV⟩ : ∃ V, V = wr.alloc (Obj.cells #[.int .i64 qo, .int .u64 (qh : Int), .int .u64 (ql : Int), .int .i64 (x : Int), .int .i64 qp] 67) := ⟨_, rfl⟩
      have HBn : Hid (Below wr.heap.size wr V) := by rw [hV]; exact below1 _ _
      have HV := hid hV
      have HCl : Hid (∀ X, But (Blk ra) V X → X.cell? ⟨wr.heap.size, 0, none⟩ = some (.int .i64 qo) ∧ X.cell? ⟨wr.heap.size, 1, none⟩ = some (.int .u64 (qh : Int)) ∧ X.cell? ⟨wr.heap.size, 2, none⟩ = some (.int .u64 (ql : Int)) ∧ X.cell? ⟨wr.heap.size, 3, none⟩ = some (.int .i64 (x : Int)) ∧ X.cell? ⟨wr.heap.size, 4, none⟩ = some (.int .i64 qp)) := fun X hX => by
        have hnb : ¬ Blk ra wr.heap.size := fun hk => by have := HO.out.lt _ hk; omega
        exact ⟨cell_but hX (by rw [hV]; simp [go_sem]) hnb, cell_but hX (by rw [hV]; simp [go_sem]) hnb, cell_but hX (by rw [hV]; simp [go_sem]) hnb, cell_but hX (by rw [hV]; simp [go_sem]) hnb, cell_but hX (by rw [hV]; simp [go_sem]) hnb⟩
      have S0 := HCl.out _ (But.of (Below.refl _ _).drew)
      have HBV := hid (below_call HBr.out HBn.out)
      have HOV := hid (HO.out.later HBn.out)
      clear hrg hq hqb hxl hV
      go_upto_region 5 with (first | ((with_reducible refine ld_arm HLd.out ?_ ?_); (· rfl)))
      rw [← HV.out]
      obtain ⟨b5, hb5⟩ : ∃ b5, b5 = wr.heap.size := ⟨_, rfl⟩
      rw [← hb5] at HCl S0 ⊢
      clear HLd hb5
      go_region_held3 (fun X => X.cell? ⟨b5, 0, none⟩ = some (.int .i64 qo) ∧ X.cell? ⟨b5, 1, none⟩ = some (.int .u64 (qh : Int)) ∧ X.cell? ⟨b5, 2, none⟩ = some (.int .u64 (ql : Int)) ∧ X.cell? ⟨b5, 3, none⟩ = some (.int .i64 (x : Int)) ∧ X.cell? ⟨b5, 4, none⟩ = some (.int .i64 qp)) (first | exact S5 | exact S4a | exact S4 | exact S3 | exact S2 | exact S0) (first
        | (go_at_call 71; refine (HLC.out _).mono ?_; rintro e w2 ⟨a2, c2, rfl, hown2, hb2⟩; have HB2 := hid (below_call (Below.refl V.heap.size V).drew hb2); have HOw2 := hid (hown2.mono (below_call HBV.out (Below.refl _ _).drew).size); have S2 := HCl.out _ (But.of HB2.out); clear hown2 hb2)
        | (go_at_call 72; refine (HP.out _).mono ?_; rintro e w3 ⟨a3, c3, rfl, hown3, hb3⟩; have HB3 := hid (below_call HB2.out hb3); have HOw3 := hid (And.intro (HOw2.out.later hb3) (hown3.mono (below_call HBV.out HB2.out).size)); have S3 := HCl.out _ (But.of HB3.out); clear hown3 hb3)
        | (go_at_call 73; refine (HLP.out _).mono ?_; rintro e w4 ⟨a4, c4, rfl, hown4, hb4⟩; have HB4 := hid (below_call HB3.out hb4); have HOw4 := hid (hown4.mono (below_call HBV.out HB3.out).size); have S4 := HCl.out _ (But.of HB4.out); have S4a := HCl.out _ (But.of (below_call HB4.out (below1 w4 (Obj.cells #[.slice a2 24 c2, .slice a3 1 c3, .slice a4 2 c4] 30)))); obtain ⟨a5, c5, w5, hrun5, hor5, hbw5, hbut5, _⟩ := append_rows (M := [(a2, 24, c2, cl), (a3, 1, c3, leL x 1), (a4, 2, c4, pl)]) (HOV.out.later HB4.out) (fun r hr => by
            simp only [List.mem_cons, List.not_mem_nil, or_false] at hr
            rcases hr with rfl | rfl | rfl
            · exact .inr (HOw3.out.1.later hb4)
            · exact .inr (HOw3.out.2.later hb4)
            · exact .inr HOw4.out) (below_call HBV.out HB4.out) (by simp) (by have := HRn.out; simp; omega); have HRUN : Hid ((Builtin.append_ #[107, 107] 107 #[.slice ra rn rc, .slice (some ⟨w4.heap.size, 0, none⟩) 3 3]).run Try.prog (w4.alloc (Obj.cells #[.slice a2 24 c2, .slice a3 1 c3, .slice a4 2 c4] 30)) = .ok (.slice a5 (rn + 3) c5) w5) := hrun5; have HOR5 := hid hor5; have HBW5 := hid hbw5; have S5 := HCl.out _ ((But.of HB4.out).trans hbut5); clear hown4 hb4 hrun5 hor5 hbw5 hbut5)
        | (refine wp_append_known (.tmp 16) (.tmp 27) 107 rfl (.slice ra rn rc) (.slice (some ⟨w4.heap.size, 0, none⟩) 3 3) rfl rfl (.slice a5 (rn + 3) c5) w5 HRUN.out ?_))
      go_wp2
      refine ⟨⟨j + 1, a5, rn + 3, c5, _, rfl, rfl, by omega, by have := HRn.out; omega, HOR5.out, ?_, HBW5.out⟩, by simp [ivN]; omega⟩
      rw [cat4_append, HC.out, HT.out, HOb.out]
      simp [cat4]
    · obtain rfl : j = n := by omega
      have HCt : Hid (cat4 rs = tsL T) := by
        unfold Hid tsL
        rw [HC.out, List.take_of_length_le (by have := HLen.out; omega), HLen.out]
      have hbd : (cat4 rs).length ≤ 140737488355328 := by
        rw [HC.out, List.length_append, leL_length]
        have : ∀ (M : List Tk), (M.flatMap tkL).length = 27 * M.length := by
          intro M
          induction M with
          | nil => simp
          | cons q M ih =>
            rw [List.flatMap_cons, List.length_append, List.length_cons, tkL_len, ih]
            omega
        rw [this]
        have h4 : (T.take j).length ≤ 256 := by rw [List.length_take]; omega
        omega
      have HJo := hid (join_or HO.out HBr.out (by have := HRn.out; omega) (by have := HRn.out; omega) hbd)
      clear hbd
      go_wp2_with (first | (go_at_call 38; refine HJo.out.mono ?_; rintro e w5 ⟨a5, n5, c5, rfl, hown5, hb5⟩; have HO5 := hid (hown5.mono HBr.out.size); have HB5 := hid (below_call HBr.out hb5); clear hown5 hb5))
      go_ret
      exact ⟨a5, n5, c5, rfl, by rw [← HCt.out]; exact HO5.out, HB5.out⟩
end Go.Proofs.Ythfmmfphnimlnaa
