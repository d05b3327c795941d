import Derived.Test.YthfmmfphnimlnaaIN
namespace Go.Proofs.Ythfmmfphnimlnaa
open Go.RowKit
set_option linter.unusedVariables false
set_option linter.unusedSimpArgs false
theorem wp_append_known {P : Program} {w : World} {o : Oper} {a : Act} {K : Act → World → Prop} {Q : Exit → Act → World → Prop} (s x : Operand) (t : TypeId)
    (ho : o.op = .call { callee := .builtin .append, args := #[s, x], argTypes := #[t, t] }) (vs vx : Value) (hs : a.eval s = vs) (hx : a.eval x = vx) (v' : Value) (w' : World)
    (hr : (Builtin.append_ #[t, t] o.type #[vs, vx]).run P w = .ok v' w') (h : K (a.put o.dst v') w') : o.wp P a w K Q := by
  unfold Oper.wp execOp
  simp only [ho, resolve, invoke, builtin, Sem.run_bind, Sem.run_pure, Result.andThen_ok, List.map_toArray, List.map_cons, List.map_nil, hs, hx, hr]
  exact h
theorem OR.lt {w w1 : World} {a : Option Addr} {n cap : Nat} {rs : List R4} (h : OR w w1 a n cap rs) : ∀ k, Blk a k → k < w1.heap.size := by
  intro k ⟨x, hx, hk⟩
  rcases h.row.2 with ⟨h1, h2⟩ | ⟨g, cp, cur, hv, hg, hh, r⟩
  · simp only [Value.slice.injEq] at h1
    rw [hx] at h1
    exact absurd h1.1 (by simp)
  · simp only [Value.slice.injEq] at hv
    rw [hx] at hv
    have e := Option.some.inj hv.1
    rw [e] at hk
    simp only at hk
    subst hk
    exact (Array.getElem?_eq_some_iff.1 hh).1
theorem cell_but {S : Nat → Prop} {w w' : World} {b j : Nat} {v : Value} (hb : But S w w') (h : w.cell? ⟨b, j, none⟩ = some v) (hn : ¬ S b) : w'.cell? ⟨b, j, none⟩ = some v := by
  have hl := World.block_lt_of_cell? _ _ h
  unfold World.cell? at h ⊢
  simp only at h ⊢
  rw [hb.block b hl hn]
  exact h
theorem flat_take {α : Type} (f : α → List Nat) {L : List α} {j : Nat} {x : α} (h : L[j]? = some x) : (L.take (j + 1)).flatMap f = (L.take j).flatMap f ++ f x := by
  rw [List.take_add_one, h, List.flatMap_append]; simp
theorem obL_len (o : Ob) : (obL o).length = 10 + o.b.length := by simp only [obL, List.length_append, leL_length]; omega
theorem tkL_len (t : Tk) : (tkL t).length = 27 := by simp only [tkL, List.length_append, leL_length, capL_len]
theorem cat4_one (a : Option Addr) (n c : Nat) (L : List Nat) : cat4 [(a, n, c, L)] = L := by simp [cat4]
set_option maxRecDepth 100000 in
set_option maxHeartbeats 8000000 in
theorem layObjects_any (s : Sl) (Q : List (Ob × Sl)) (w : World) (hL : Lk w 2 s (Q.map encO)) (hR : ∀ q ∈ Q, Row w q.2.a q.2.n q.2.c q.1.b) (hn : s.n ≤ 64) (hq : ∀ q ∈ Q, 0 ≤ q.1.id ∧ q.1.id ≤ MI ∧ q.1.b.length ≤ 4096) :
    Calls Try.prog 43 #[.slice s.a s.n s.c] w fun e w' => ∃ a n c, e = .returned (.slice a n c) ∧ Own w' w.heap.size a n c (osL (Q.map Prod.fst)) ∧ Below w.heap.size w w' := by
  have hlen : Q.length = s.n := by have := hL.len; simpa using this
  have HL := hid hL
  have HR := hid hR
  have HQ := hid hq
  have HLen := hid hlen
  clear hL hR hq hlen
  obtain ⟨sa, n, sc⟩ := s
  simp only at HL HLen hn ⊢
  have HL2 := hid (layTwo_any n (by omega))
  go_enter Try.func43, Try.ntmps43
  go_upto_region 2 with (first | (go_at_call 42; refine (HL2.out _).mono ?_; rintro e w1 ⟨a1, c1, rfl, h1, hb1⟩))
  have HO1 : Hid (OR w (w1.alloc (Obj.cells #[.slice a1 2 c1] 30)) (some ⟨w1.heap.size, 0, none⟩) 1 1 [(a1, 2, c1, leL n 2)]) := OR.one (.inr h1) hb1
  have HB1 : Hid (Below w.heap.size w (w1.alloc (Obj.cells #[.slice a1 2 c1] 30))) := below_call hb1 (below1 _ _)
  clear h1 hb1 HL2
  go_upto_region 3 with fail
  go_loopw [3, 12] (fun t i U => ∃ (j : Nat) (ra : Option Addr) (rn rc : Nat) (rs : List R4), i = .int .i64 (j : Int) ∧ t = .slice ra rn rc ∧ j ≤ n ∧ rn = 1 + 3 * j ∧ OR w U ra rn rc rs ∧ cat4 rs = leL n 2 ++ (Q.take j).flatMap (fun q => obL q.1) ∧ Below w.heap.size w U) (fun _ i _ => n - ivN i)
  case atStart => exact ⟨0, _, _, _, _, rfl, rfl, Nat.zero_le _, rfl, HO1.out, by simp [cat4_one], HB1.out⟩
  case round =>
    obtain ⟨j, ra, rn, rc, rs, rfl, rfl, hj, hrn, hO, hC, hBr⟩ := hrel
    have HO := hid hO
    have HC := hid hC
    have HBr := hid hBr
    have HRn := hid hrn
    clear hO hC hBr hrn
    by_cases hlt : j < n
    · have hd : decide ((j : Int) < (n : Int)) = true := by simp; omega
      obtain ⟨q, hq⟩ : ∃ q, Q[j]? = some q := ⟨_, List.getElem?_eq_getElem (by have := HLen.out; omega)⟩
      obtain ⟨g, o, rfl, hrg⟩ := HL.out.at_ j (encO q) (by rw [List.getElem?_map, hq]; rfl)
      have HLd := hid (ldO (rangeAt_later HBr.out hrg) rfl)
      have HRq := hid (HR.out q (List.mem_of_getElem? hq))
      have hqb := HQ.out q (List.mem_of_getElem? hq)
      have HT := hid (flat_take (fun q : Ob × Sl => obL q.1) hq)
      have hql := HRq.out.len
      obtain ⟨⟨qi, qb⟩, qa, qn, qc⟩ := q
      simp only at hqb HRq HT hql
      obtain ⟨x, rfl⟩ : ∃ x : Nat, qi = x := ⟨qi.toNat, by omega⟩
      have hMI : MI = 4611686018427387904 := rfl
      have hxl : x < 18446744073709551616 := by omega
      have e1 : IntKind.u64.wrap (x : Int) = (x : Int) := by rw [IntKind.wrap_u64]; omega
      have HP := hid (p64 x hxl)
      have HL2 := hid (layTwo_any qn (by omega))
      have HOb : Hid (obL ⟨(x : Int), qb⟩ = leL x 8 ++ (leL qn 2 ++ qb)) := by unfold Hid obL; simp only [Int.toNat_natCast, hql]
      have HLd : Hid ((Instr.loadAt 60 (.pointer (some ⟨g, o + j * 2, none⟩))).run Try.prog wr = .ok (.agg #[.int .i64 (x : Int), .slice qa qn qc]) wr) := HLd.out
      obtain ⟨V, hV⟩ : ∃ V, V = wr.alloc (Obj.cells #[.int .i64 (x : Int), .slice qa qn qc] 60) := ⟨_, rfl⟩
      have HBn : Hid (Below wr.heap.size wr V) := by rw [hV]; exact below1 _ _
      have HV := hid hV
      have HCl : Hid (∀ X, But (Blk ra) V X → X.cell? ⟨wr.heap.size, 0, none⟩ = some (.int .i64 (x : Int)) ∧ X.cell? ⟨wr.heap.size, 1, none⟩ = some (.slice qa qn qc)) := fun X hX =>
        ⟨cell_but hX (by rw [hV]; simp [go_sem]) (fun hk => by have := HO.out.lt _ hk; omega), cell_but hX (by rw [hV]; simp [go_sem]) (fun hk => by have := HO.out.lt _ hk; omega)⟩
      have S0 := HCl.out _ (But.of (Below.refl _ _).drew)
      have HBV := hid (below_call HBr.out HBn.out)
      have HOV := hid (HO.out.later HBn.out)
      clear hrg hq hqb hMI hxl hV hql
      go_upto_region 5 with (first | ((with_reducible refine ld_arm HLd.out ?_ ?_); (· rfl)))
      rw [← HV.out]
      obtain ⟨b5, hb5⟩ : ∃ b5, b5 = wr.heap.size := ⟨_, rfl⟩
      rw [← hb5] at HCl S0 ⊢
      clear HLd hb5
      go_region_held3 (fun X => X.cell? ⟨b5, 0, none⟩ = some (.int .i64 (x : Int)) ∧ X.cell? ⟨b5, 1, none⟩ = some (.slice qa qn qc)) (first | exact S4 | exact S3a | exact S3 | exact S2 | exact S0) (first
        | (go_at_call 40; refine (HP.out _).mono ?_; rintro e w2 ⟨a2, c2, rfl, hown2, hb2⟩; have HB2 := hid (below_call (Below.refl V.heap.size V).drew hb2); have HOw2 := hid (hown2.mono (below_call HBV.out (Below.refl _ _).drew).size); have S2 := HCl.out _ (But.of HB2.out); clear hown2 hb2)
        | (go_at_call 42; refine (HL2.out _).mono ?_; rintro e w3 ⟨a3, c3, rfl, hown3, hb3⟩; have HB3 := hid (below_call HB2.out hb3); have HOw3 := hid (hown3.mono (below_call HBV.out HB2.out).size); have S3 := HCl.out _ (But.of HB3.out); have S3a := HCl.out _ (But.of (below_call HB3.out (below1 w3 (Obj.cells #[.slice a2 8 c2, .slice a3 2 c3, .slice qa qn qc] 30)))); obtain ⟨a4, c4, w4, hrun4, hor4, hbw4, hbut4, _⟩ := append_rows (M := [(a2, 8, c2, leL x 8), (a3, 2, c3, leL qn 2), (qa, qn, qc, qb)]) (HOV.out.later HB3.out) (fun r hr => by
            simp only [List.mem_cons, List.not_mem_nil, or_false] at hr
            rcases hr with rfl | rfl | rfl
            · exact .inr (HOw2.out.later hb3)
            · exact .inr HOw3.out
            · exact .inl HRq.out) (below_call HBV.out HB3.out) (by simp) (by have := HRn.out; simp; omega); have HRUN : Hid ((Builtin.append_ #[107, 107] 107 #[.slice ra rn rc, .slice (some ⟨w3.heap.size, 0, none⟩) 3 3]).run Try.prog (w3.alloc (Obj.cells #[.slice a2 8 c2, .slice a3 2 c3, .slice qa qn qc] 30)) = .ok (.slice a4 (rn + 3) c4) w4) := hrun4; have HOR4 := hid hor4; have HBW4 := hid hbw4; have S4 := HCl.out _ ((But.of HB3.out).trans hbut4); clear hown3 hb3 hrun4 hor4 hbw4 hbut4)
        | (refine wp_append_known (.tmp 16) (.tmp 27) 107 rfl (.slice ra rn rc) (.slice (some ⟨w3.heap.size, 0, none⟩) 3 3) rfl rfl (.slice a4 (rn + 3) c4) w4 HRUN.out ?_))
      go_wp2
      refine ⟨⟨j + 1, a4, rn + 3, c4, _, rfl, rfl, by omega, by have := HRn.out; omega, HOR4.out, ?_, HBW4.out⟩, by simp [ivN]; omega⟩
      rw [cat4_append, HC.out, HT.out, HOb.out]
      simp [cat4]
    · obtain rfl : j = n := by omega
      have HCt : Hid (cat4 rs = osL (Q.map Prod.fst)) := by
        unfold Hid osL
        rw [HC.out, List.take_of_length_le (by have := HLen.out; omega), List.length_map, HLen.out]
        congr 1
        rw [List.flatMap_map]
      have hbd : (cat4 rs).length ≤ 140737488355328 := by
        rw [HC.out, List.length_append, leL_length]
        have : ∀ (M : List (Ob × Sl)), (∀ q ∈ M, q.1.b.length ≤ 4096) → (M.flatMap (fun q => obL q.1)).length ≤ 4200 * M.length := by
          intro M hM
          induction M with
          | nil => simp
          | cons q M ih =>
            have h1 := ih (fun q hq => hM q (List.mem_cons_of_mem _ hq))
            have h2 := hM q List.mem_cons_self
            rw [List.flatMap_cons, List.length_append, List.length_cons, obL_len]
            omega
        have h3 := this (Q.take j) (fun q hq => (HQ.out q (List.mem_of_mem_take hq)).2.2)
        have h4 : (Q.take j).length ≤ 64 := by rw [List.length_take]; omega
        omega
      have HJo := hid (join_or HO.out HBr.out (by have := HRn.out; omega) (by have := HRn.out; omega) hbd)
      clear hbd
      go_wp2_with (first | (go_at_call 38; refine HJo.out.mono ?_; rintro e w5 ⟨a5, n5, c5, rfl, hown5, hb5⟩; have HO5 := hid (hown5.mono HBr.out.size); have HB5 := hid (below_call HBr.out hb5); clear hown5 hb5))
      go_ret
      exact ⟨a5, n5, c5, rfl, by rw [← HCt.out]; exact HO5.out, HB5.out⟩
end Go.Proofs.Ythfmmfphnimlnaa
