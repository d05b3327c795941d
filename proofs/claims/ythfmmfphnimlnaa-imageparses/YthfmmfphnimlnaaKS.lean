import Derived.Test.YthfmmfphnimlnaaRK
import Derived.Test.YthfmmfphnimlnaaIU
import Derived.Test.YthfmmfphnimlnaaRG
import Derived.Test.YthfmmfphnimlnaaIS
import Derived.Test.YthfmmfphnimlnaaJW
namespace Go.Proofs.Ythfmmfphnimlnaa
open Go.RowKit
set_option linter.unusedVariables false
set_option linter.unusedSimpArgs false
/-- What the head's own witness answers. -/
def Kno : Prop := ∀ w : World, Calls Try.prog 8 #[] w fun e w' => e = .returned (.bool true) ∧ Below w.heap.size w w'
set_option maxRecDepth 100000 in
set_option maxHeartbeats 4000000 in
theorem checks_law (hK : Kno) (c : Cf) (s : St) (a b d : Sl) (Q : List (Ob × Sl)) (R : List (Pc × Sl)) (w : World) (h : Sm w s a b d Q R) (dr : Int) :
    Calls Try.prog 3 #[c.v, stV a b d s.nx s.px s.ta, .int .i64 dr] w fun e w' => e = .returned (.bool true) ∧ Below w.heap.size w w' := by
  obtain ⟨W, hW⟩ : ∃ W, W = (w.alloc (Obj.cells #[.int .i64 c.w, .int .i64 c.o, .int .i64 c.p, .int .i64 c.e, .int .i64 c.q, .int .i64 c.r, .int .i64 c.l, .int .i64 c.s, .int .i64 c.y, .int .i64 c.k] 23)).alloc (Obj.cells #[.slice a.a a.n a.c, .slice b.a b.n b.c, .slice d.a d.n d.c, .int .i64 s.nx, .int .i64 s.px, .int .i64 s.ta] 28) := ⟨_, rfl⟩
  have hB : Below w.heap.size w W := by rw [hW]; exact below2 _ _ _
  have HXr : Hid (W.rangeAt w.heap.size 0 c.L) := by rw [hW]; exact rangeAt_later (below1 _ _) (rangeAt_new w c.L _)
  have HYr : Hid (W.rangeAt (w.heap.size + 1) 0 [.slice a.a a.n a.c, .slice b.a b.n b.c, .slice d.a d.n d.c, .int .i64 s.nx, .int .i64 s.px, .int .i64 s.ta]) := by
    rw [hW]
    have := rangeAt_new (w.alloc (Obj.cells #[.int .i64 c.w, .int .i64 c.o, .int .i64 c.p, .int .i64 c.e, .int .i64 c.q, .int .i64 c.r, .int .i64 c.l, .int .i64 c.s, .int .i64 c.y, .int .i64 c.k] 23)) [.slice a.a a.n a.c, .slice b.a b.n b.c, .slice d.a d.n d.c, .int .i64 s.nx, .int .i64 s.px, .int .i64 s.ta] 28
    simp at this
    exact this
  have HLf : Hid (∀ U, Below W.heap.size W U → (Instr.loadAt 23 (.pointer (some ⟨w.heap.size, 0, none⟩))).run Try.prog U = .ok c.v U) := fun U hU => ldF (rangeAt_later hU HXr.out) rfl
  have HLs : Hid (∀ U, Below W.heap.size W U → (Instr.loadAt 28 (.pointer (some ⟨w.heap.size + 1, 0, none⟩))).run Try.prog U = .ok (stV a b d s.nx s.px s.ta) U) := fun U hU => ldS (rangeAt_later hU HYr.out) rfl
  have HSm := hid (h.later hB)
  have HB := hid hB
  have HW := hid hW
  have HK := hid hK
  have HF0 := hid (HLf.out W (Below.refl _ _))
  have HS0 := hid (HLs.out W (Below.refl _ _))
  clear h hB hW hK HXr HYr
  go_enter Try.func3, Try.ntmps3
  go_upto_region 1 with fail
  rw [← HW.out]
  go_upto_region 2 with (first | ((with_reducible refine ld_arm HF0.out ?_ ?_); (· rfl)) | ((with_reducible refine ld_arm HS0.out ?_ ?_); (· rfl)) | (go_at_call 5; refine (rcheck_any c s a b d Q R W HSm.out dr).mono ?_; rintro e w1 ⟨rfl, hb1⟩; have HB1 := hid hb1; have HF1 := hid (HLf.out w1 hb1); have HS1 := hid (HLs.out w1 hb1); clear hb1))
  go_upto_region 3 with (first | ((with_reducible refine ld_arm HF1.out ?_ ?_); (· rfl)) | ((with_reducible refine ld_arm HS1.out ?_ ?_); (· rfl)) | (go_at_call 6; refine (rbytes_any c s a b d Q R w1 (HSm.out.later HB1.out)).mono ?_; rintro e w2 ⟨a2, n2, c2, rfl, ho2, hb2⟩; have HO2 := hid ho2; have HB2 := hid (below_call HB1.out hb2); have HF2 := hid (HLf.out w2 HB2.out); have HS2 := hid (HLs.out w2 HB2.out); clear ho2 hb2))
  go_upto_region 4 with (first | ((with_reducible refine ld_arm HF2.out ?_ ?_); (· rfl)) | ((with_reducible refine ld_arm HS2.out ?_ ?_); (· rfl)) | (go_at_call 7; refine (bytes_any c s a b d Q R w2 (HSm.out.later HB2.out)).mono ?_; rintro e w3 ⟨a3, n3, c3, rfl, ho3, hb3⟩; have HO3 := hid ho3; have HO2b := hid (HO2.out.later hb3); have HB3 := hid (below_call HB2.out hb3); clear ho3 hb3))
  go_wp2_with (first
    | (go_at_call 8; refine (HK.out w3).mono ?_; rintro e w4 ⟨rfl, hb4⟩; have HB4 := hid (below_call HB3.out hb4); have HO3c := hid (HO3.out.later hb4); have HO2c := hid (HO2b.out.later hb4); have HF4 := hid (HLf.out w4 HB4.out); have HS4 := hid (HLs.out w4 HB4.out); clear hb4)
    | ((with_reducible refine ld_armg HF4.out ?_ ?_ ?_); (· rfl); (· rfl)) | ((with_reducible refine ld_armg HS4.out ?_ ?_ ?_); (· rfl); (· rfl))
    | (go_at_call 9; refine (check_any c s a b d Q R w4 (HSm.out.later HB4.out) dr).mono ?_; rintro e w5 ⟨rfl, hb5⟩; have HB5 := hid (below_call HB4.out hb5); have hcv3 := (HO3c.out.later hb5).read.conv; have hcv2 := (HO2c.out.later hb5).read.conv; clear hb5))
  go_ret
  exact ⟨rfl, below_call HB.out HB5.out⟩
end Go.Proofs.Ythfmmfphnimlnaa
namespace Go.Proofs.Ythfmmfphnimlnaa
open Go.RowKit
set_option linter.unusedVariables false
set_option linter.unusedSimpArgs false
theorem neqTs (a b c d e : Int) (w : World) : (binOp .neq 67 (.agg #[.int .i64 a, .int .u64 b, .int .u64 c, .int .i64 d, .int .i64 e]) (.agg #[.int .i64 a, .int .u64 b, .int .u64 c, .int .i64 d, .int .i64 e])).run Try.prog w = .ok (.bool false) w := by simp [go_sem]
theorem neqCs (a b c : Int) (w : World) : (binOp .neq 65 (.agg #[.int .i64 a, .int .u64 b, .int .u64 c]) (.agg #[.int .i64 a, .int .u64 b, .int .u64 c])).run Try.prog w = .ok (.bool false) w := by simp [go_sem]
/-- Two lists of the same rows, as told. -/
theorem twoQ {α : Type} {Q Q' : List (α × Sl)} {O : List α} (h : Q.map Prod.fst = O) (h' : Q'.map Prod.fst = O) {j : Nat} (hj : j < O.length) : ∃ x s s', Q[j]? = some (x, s) ∧ Q'[j]? = some (x, s') := by
  have l1 : Q.length = O.length := by rw [← h]; simp
  have l2 : Q'.length = O.length := by rw [← h']; simp
  have e1 : Q[j]? = some Q[j] := List.getElem?_eq_getElem (by omega)
  have e2 : Q'[j]? = some Q'[j] := List.getElem?_eq_getElem (by omega)
  have e3 : (Q.map Prod.fst)[j]? = (Q'.map Prod.fst)[j]? := by rw [h, h']
  rw [List.getElem?_map, List.getElem?_map, e1, e2] at e3
  simp only [Option.map_some, Option.some.injEq] at e3
  exact ⟨Q[j].1, Q[j].2, Q'[j].2, e1, by rw [e2, e3]⟩
set_option maxRecDepth 100000 in
set_option maxHeartbeats 4000000 in
theorem same_any (s : St) (a b d a' b' d' : Sl) (Q Q' : List (Ob × Sl)) (R R' : List (Pc × Sl)) (w : World) (h : Sm w s a b d Q R) (h' : Sm w s a' b' d' Q' R') :
    Calls Try.prog 12 #[stV a b d s.nx s.px s.ta, stV a' b' d' s.nx s.px s.ta] w fun e w' => e = .returned (.bool true) ∧ Below w.heap.size w w' := by
  have l1 : a.n = s.O.length ∧ a'.n = s.O.length := ⟨by rw [← h.o.len, ← h.eo]; simp, by rw [← h'.o.len, ← h'.eo]; simp⟩
  have l2 : b.n = s.T.length ∧ b'.n = s.T.length := ⟨by rw [← h.t.len]; simp, by rw [← h'.t.len]; simp⟩
  have l3 : d.n = s.P.length ∧ d'.n = s.P.length := ⟨by rw [← h.p.len, ← h.ep]; simp, by rw [← h'.p.len, ← h'.ep]; simp⟩
  obtain ⟨W, hW⟩ : ∃ W, W = (w.alloc (Obj.cells #[.slice a.a a.n a.c, .slice b.a b.n b.c, .slice d.a d.n d.c, .int .i64 s.nx, .int .i64 s.px, .int .i64 s.ta] 28)).alloc (Obj.cells #[.slice a'.a a'.n a'.c, .slice b'.a b'.n b'.c, .slice d'.a d'.n d'.c, .int .i64 s.nx, .int .i64 s.px, .int .i64 s.ta] 28) := ⟨_, rfl⟩
  have hB : Below w.heap.size w W := by rw [hW]; exact below2 _ _ _
  have HXr : Hid (W.rangeAt w.heap.size 0 [.slice a.a a.n a.c, .slice b.a b.n b.c, .slice d.a d.n d.c, .int .i64 s.nx, .int .i64 s.px, .int .i64 s.ta]) := by rw [hW]; exact rangeAt_later (below1 _ _) (rangeAt_new w _ _)
  have HYr : Hid (W.rangeAt (w.heap.size + 1) 0 [.slice a'.a a'.n a'.c, .slice b'.a b'.n b'.c, .slice d'.a d'.n d'.c, .int .i64 s.nx, .int .i64 s.px, .int .i64 s.ta]) := by
    rw [hW]
    have := rangeAt_new (w.alloc (Obj.cells #[.slice a.a a.n a.c, .slice b.a b.n b.c, .slice d.a d.n d.c, .int .i64 s.nx, .int .i64 s.px, .int .i64 s.ta] 28)) [.slice a'.a a'.n a'.c, .slice b'.a b'.n b'.c, .slice d'.a d'.n d'.c, .int .i64 s.nx, .int .i64 s.px, .int .i64 s.ta] 28
    simp at this
    exact this
  have HM := hid (h.later hB)
  have HM' := hid (h'.later hB)
  have hm : a.n ≤ 140737488355328 ∧ b.n ≤ 140737488355328 ∧ d.n ≤ 140737488355328 := ⟨h.ma, h.mb, h.mc⟩
  clear h h'
  obtain ⟨aa, n1, ac⟩ := a
  obtain ⟨ba, n2, bc⟩ := b
  obtain ⟨da, n3, dc⟩ := d
  obtain ⟨aa', m1, ac'⟩ := a'
  obtain ⟨ba', m2, bc'⟩ := b'
  obtain ⟨da', m3, dc'⟩ := d'
  simp only at l1 l2 l3 hm HXr HYr hW ⊢
  obtain rfl : m1 = n1 := by omega
  obtain rfl : m2 = n2 := by omega
  obtain rfl : m3 = n3 := by omega
  have HL1 := hid l1.1
  have HL2 := hid l2.1
  have HL3 := hid l3.1
  have HZ : Hid (∀ U, Below W.heap.size W U → (U.cell? ⟨w.heap.size, 0, none⟩ = some (.slice aa m1 ac) ∧ U.cell? ⟨w.heap.size, 1, none⟩ = some (.slice ba m2 bc) ∧ U.cell? ⟨w.heap.size, 2, none⟩ = some (.slice da m3 dc)) ∧ U.cell? ⟨w.heap.size + 1, 0, none⟩ = some (.slice aa' m1 ac') ∧ U.cell? ⟨w.heap.size + 1, 1, none⟩ = some (.slice ba' m2 bc') ∧ U.cell? ⟨w.heap.size + 1, 2, none⟩ = some (.slice da' m3 dc')) := fun U hU => ⟨⟨cell_later hU (HXr.out 0 _ rfl), cell_later hU (HXr.out 1 _ rfl), cell_later hU (HXr.out 2 _ rfl)⟩, cell_later hU (HYr.out 0 _ rfl), cell_later hU (HYr.out 1 _ rfl), cell_later hU (HYr.out 2 _ rfl)⟩
  obtain ⟨⟨z0, z1, z2⟩, y0, y1, y2⟩ := HZ.out W (Below.refl _ _)
  have z3 := HXr.out 3 _ rfl
  have z4 := HXr.out 4 _ rfl
  have z5 := HXr.out 5 _ rfl
  have y3 := HYr.out 3 _ rfl
  have y4 := HYr.out 4 _ rfl
  have y5 := HYr.out 5 _ rfl
  simp only [Nat.zero_add] at z3 z4 z5 y3 y4 y5
  have HB := hid hB
  have HW := hid hW
  clear hB hW HXr HYr l1 l2 l3
  generalize s.nx = nx at *
  generalize s.px = px at *
  generalize s.ta = ta at *
  go_enter Try.func12, Try.ntmps12
  go_upto_region 1 with fail
  rw [← HW.out]
  go_upto_region 6 with fail
  clear z0 z1 z2 z3 z4 z5 y0 y1 y2 y3 y4 y5
  go_loopw [5] (fun i U => ∃ (j : Nat), i = .int .i64 (j : Int) ∧ j ≤ m1 ∧ Below W.heap.size W U) (fun i _ => m1 - ivN i)
  case atStart => exact ⟨0, rfl, Nat.zero_le _, Below.refl _ _⟩
  case round =>
    obtain ⟨j, rfl, hj, hBr⟩ := hrel
    have HBr := hid hBr
    obtain ⟨⟨z0, -, -⟩, y0, -, -⟩ := HZ.out _ hBr
    clear hBr
    by_cases hlt : j < m1
    · have hd : decide ((j : Int) < (m1 : Int)) = true := by simp; omega
      have hjn : (j : Int) < (m1 : Int) := by omega
      obtain ⟨⟨id, by_⟩, ⟨qa, qn, qc⟩, ⟨qa', qn', qc'⟩, hq, hq'⟩ := twoQ HM.out.eo HM'.out.eo (j := j) (by have := HL1.out; omega)
      obtain ⟨g, o, e1, hrg⟩ := HM.out.o.at_ j _ (by rw [List.getElem?_map, hq]; rfl)
      obtain ⟨g', o', e1', hrg'⟩ := HM'.out.o.at_ j _ (by rw [List.getElem?_map, hq']; rfl)
      simp only at e1 e1'
      subst e1 e1'
      have HR := hid (HM.out.ob _ (List.mem_of_getElem? hq))
      have HR' := hid (HM'.out.ob _ (List.mem_of_getElem? hq'))
      have HSx : Hid (∀ U, Below wr.heap.size wr U → U.cell? ⟨w.heap.size, 0, none⟩ = some (.slice (some ⟨g, o, none⟩) m1 ac) ∧ U.cell? ⟨w.heap.size + 1, 0, none⟩ = some (.slice (some ⟨g', o', none⟩) m1 ac') ∧ U.cell? ⟨g, o + j * 2, none⟩ = some (.int .i64 id) ∧ U.cell? ⟨g, o + j * 2 + 1, none⟩ = some (.slice qa qn qc) ∧ U.cell? ⟨g', o' + j * 2, none⟩ = some (.int .i64 id) ∧ U.cell? ⟨g', o' + j * 2 + 1, none⟩ = some (.slice qa' qn' qc') ∧ (convert 30 9 (.slice qa qn qc)).run Try.prog U = .ok (.string (strB by_)) U ∧ (convert 30 9 (.slice qa' qn' qc')).run Try.prog U = .ok (.string (strB by_)) U) := fun U hU => by
        have hU2 := below_call HBr.out hU
        exact ⟨cell_later hU z0, cell_later hU y0, cell_later hU2 (hrg 0 _ rfl), cell_later hU2 (hrg 1 _ rfl), cell_later hU2 (hrg' 0 _ rfl), cell_later hU2 (hrg' 1 _ rfl), (HR.out.later hU2).conv, (HR'.out.later hU2).conv⟩
      clear hrg hrg' hq hq' HR HR'
      go_upto_region 8 with fail
      clear z0 y0
      go_region_held3 (fun U => U.cell? ⟨w.heap.size, 0, none⟩ = some (.slice (some ⟨g, o, none⟩) m1 ac) ∧ U.cell? ⟨w.heap.size + 1, 0, none⟩ = some (.slice (some ⟨g', o', none⟩) m1 ac') ∧ U.cell? ⟨g, o + j * 2, none⟩ = some (.int .i64 id) ∧ U.cell? ⟨g, o + j * 2 + 1, none⟩ = some (.slice qa qn qc) ∧ U.cell? ⟨g', o' + j * 2, none⟩ = some (.int .i64 id) ∧ U.cell? ⟨g', o' + j * 2 + 1, none⟩ = some (.slice qa' qn' qc') ∧ (convert 30 9 (.slice qa qn qc)).run Try.prog U = .ok (.string (strB by_)) U ∧ (convert 30 9 (.slice qa' qn' qc')).run Try.prog U = .ok (.string (strB by_)) U) (first | exact HSx.out _ (Below.refl _ _).drew) (fail)
      go_wp2
      exact ⟨⟨j + 1, rfl, by omega, below_call HBr.out (Below.refl _ _).drew⟩, by simp [ivN]; omega⟩
    · obtain rfl : j = m1 := by omega
      clear z0 y0
      obtain ⟨⟨z0, z1, z2⟩, y0, y1, y2⟩ := HZ.out _ HBr.out
      have HBo := HBr
      go_upto_region 11 with fail
      clear z0 z1 z2 y0 y1 y2 HBr
      go_loopw [6] (fun i U => ∃ (j : Nat), i = .int .i64 (j : Int) ∧ j ≤ m2 ∧ Below W.heap.size W U) (fun i _ => m2 - ivN i)
      case atStart => exact ⟨0, rfl, Nat.zero_le _, HBo.out⟩
      case round =>
        obtain ⟨k, rfl, hk, hBr⟩ := hrel
        have HBr := hid hBr
        obtain ⟨⟨-, z1, -⟩, -, y1, -⟩ := HZ.out _ hBr
        clear hBr
        by_cases hlt2 : k < m2
        · have hd2 : decide ((k : Int) < (m2 : Int)) = true := by simp; omega
          have hkn : (k : Int) < (m2 : Int) := by omega
          obtain ⟨q, hq⟩ : ∃ q, s.T[k]? = some q := ⟨_, List.getElem?_eq_getElem (by have := HL2.out; omega)⟩
          obtain ⟨g, o, e1, hrg⟩ := HM.out.t.at_ k (encT q) (by rw [List.getElem?_map, hq]; rfl)
          obtain ⟨g', o', e1', hrg'⟩ := HM'.out.t.at_ k (encT q) (by rw [List.getElem?_map, hq]; rfl)
          simp only at e1 e1'
          subst e1 e1'
          obtain ⟨⟨qo, qh, ql⟩, qr, qp⟩ := q
          have HSx : Hid (∀ U, Below wr.heap.size wr U → U.cell? ⟨w.heap.size, 1, none⟩ = some (.slice (some ⟨g, o, none⟩) m2 bc) ∧ U.cell? ⟨w.heap.size + 1, 1, none⟩ = some (.slice (some ⟨g', o', none⟩) m2 bc') ∧ U.cell? ⟨g, o + k * 5, none⟩ = some (.int .i64 qo) ∧ U.cell? ⟨g, o + k * 5 + 1, none⟩ = some (.int .u64 (qh : Int)) ∧ U.cell? ⟨g, o + k * 5 + 2, none⟩ = some (.int .u64 (ql : Int)) ∧ U.cell? ⟨g, o + k * 5 + 3, none⟩ = some (.int .i64 qr) ∧ U.cell? ⟨g, o + k * 5 + 4, none⟩ = some (.int .i64 qp) ∧ U.cell? ⟨g', o' + k * 5, none⟩ = some (.int .i64 qo) ∧ U.cell? ⟨g', o' + k * 5 + 1, none⟩ = some (.int .u64 (qh : Int)) ∧ U.cell? ⟨g', o' + k * 5 + 2, none⟩ = some (.int .u64 (ql : Int)) ∧ U.cell? ⟨g', o' + k * 5 + 3, none⟩ = some (.int .i64 qr) ∧ U.cell? ⟨g', o' + k * 5 + 4, none⟩ = some (.int .i64 qp)) := fun U hU => by
            have hU2 := below_call HBr.out hU
            exact ⟨cell_later hU z1, cell_later hU y1, cell_later hU2 (hrg 0 _ rfl), cell_later hU2 (hrg 1 _ rfl), cell_later hU2 (hrg 2 _ rfl), cell_later hU2 (hrg 3 _ rfl), cell_later hU2 (hrg 4 _ rfl), cell_later hU2 (hrg' 0 _ rfl), cell_later hU2 (hrg' 1 _ rfl), cell_later hU2 (hrg' 2 _ rfl), cell_later hU2 (hrg' 3 _ rfl), cell_later hU2 (hrg' 4 _ rfl)⟩
          have hne := neqTs qo (qh : Int) (ql : Int) qr qp
          clear hrg hrg' hq
          go_upto_region 13 with fail
          clear z1 y1
          go_region_held3 (fun U => U.cell? ⟨w.heap.size, 1, none⟩ = some (.slice (some ⟨g, o, none⟩) m2 bc) ∧ U.cell? ⟨w.heap.size + 1, 1, none⟩ = some (.slice (some ⟨g', o', none⟩) m2 bc') ∧ U.cell? ⟨g, o + k * 5, none⟩ = some (.int .i64 qo) ∧ U.cell? ⟨g, o + k * 5 + 1, none⟩ = some (.int .u64 (qh : Int)) ∧ U.cell? ⟨g, o + k * 5 + 2, none⟩ = some (.int .u64 (ql : Int)) ∧ U.cell? ⟨g, o + k * 5 + 3, none⟩ = some (.int .i64 qr) ∧ U.cell? ⟨g, o + k * 5 + 4, none⟩ = some (.int .i64 qp) ∧ U.cell? ⟨g', o' + k * 5, none⟩ = some (.int .i64 qo) ∧ U.cell? ⟨g', o' + k * 5 + 1, none⟩ = some (.int .u64 (qh : Int)) ∧ U.cell? ⟨g', o' + k * 5 + 2, none⟩ = some (.int .u64 (ql : Int)) ∧ U.cell? ⟨g', o' + k * 5 + 3, none⟩ = some (.int .i64 qr) ∧ U.cell? ⟨g', o' + k * 5 + 4, none⟩ = some (.int .i64 qp)) (first | exact HSx.out _ (Below.refl _ _).drew) (fail)
          go_wp2
          exact ⟨⟨k + 1, rfl, by omega, below_call HBr.out (Below.refl _ _).drew⟩, by simp [ivN]; omega⟩
        · obtain rfl : k = m2 := by omega
          clear z1 y1
          obtain ⟨⟨z0, z1, z2⟩, y0, y1, y2⟩ := HZ.out _ HBr.out
          have HBo := HBr
          go_upto_region 16 with fail
          clear z0 z1 z2 y0 y1 y2 HBr
          go_loopw [7] (fun i U => ∃ (j : Nat), i = .int .i64 (j : Int) ∧ j ≤ m3 ∧ Below W.heap.size W U) (fun i _ => m3 - ivN i)
          case atStart => exact ⟨0, rfl, Nat.zero_le _, HBo.out⟩
          case round =>
            obtain ⟨i, rfl, hi, hBr⟩ := hrel
            have HBr := hid hBr
            obtain ⟨⟨-, -, z2⟩, -, -, y2⟩ := HZ.out _ hBr
            by_cases hlt3 : i < m3
            · have hd3 : decide ((i : Int) < (m3 : Int)) = true := by simp; omega
              have hin : (i : Int) < (m3 : Int) := by omega
              obtain ⟨⟨pn, pl⟩, ⟨qa, qn, qc⟩, ⟨qa', qn', qc'⟩, hq, hq'⟩ := twoQ HM.out.ep HM'.out.ep (j := i) (by have := HL3.out; omega)
              obtain ⟨g, o, e1, hrg⟩ := HM.out.p.at_ i _ (by rw [List.getElem?_map, hq]; rfl)
              obtain ⟨g', o', e1', hrg'⟩ := HM'.out.p.at_ i _ (by rw [List.getElem?_map, hq']; rfl)
              simp only at e1 e1'
              subst e1 e1'
              have hL := HM.out.pl _ (List.mem_of_getElem? hq)
              have hL' := HM'.out.pl _ (List.mem_of_getElem? hq')
              simp only at hL hL'
              have hln : qn = pl.length ∧ qn' = pl.length := ⟨by have := hL.len; simpa using this.symm, by have := hL'.len; simpa using this.symm⟩
              obtain ⟨rfl, rfl⟩ := hln
              have HLa := hid hL
              have HLb := hid hL'
              have hpm : pl.length ≤ 140737488355328 := HM.out.mp _ (List.mem_of_getElem? hq)
              clear hL hL'
              have x0 := cell_later hBr (hrg 0 _ rfl)
              have x1 := cell_later hBr (hrg 1 _ rfl)
              have x2 := cell_later hBr (hrg' 0 _ rfl)
              have x3 := cell_later hBr (hrg' 1 _ rfl)
              simp only [Nat.add_zero] at x0 x2
              clear hrg hrg' hq hq' hBr
              obtain ⟨V, hV⟩ : ∃ V, V = (wr.alloc (Obj.cells #[.int .i64 pn, .slice qa pl.length qc] 51)).alloc (Obj.cells #[.int .i64 pn, .slice qa' pl.length qc'] 51) := ⟨_, rfl⟩
              have HBV : Hid (Below wr.heap.size wr V) := by rw [hV]; exact below2 _ _ _
              have HBW : Hid (Below W.heap.size W V) := below_call HBr.out HBV.out
              have HV := hid hV
              have hv0 : V.cell? ⟨wr.heap.size, 0, none⟩ = some (.int .i64 pn) := by rw [hV]; exact cell_later (below1 _ _) (by simp [go_sem])
              have hv1 : V.cell? ⟨wr.heap.size, 1, none⟩ = some (.slice qa pl.length qc) := by rw [hV]; exact cell_later (below1 _ _) (by simp [go_sem])
              have hv2 : V.cell? ⟨wr.heap.size + 1, 0, none⟩ = some (.int .i64 pn) := by rw [hV]; simp [go_sem]
              have hv3 : V.cell? ⟨wr.heap.size + 1, 1, none⟩ = some (.slice qa' pl.length qc') := by rw [hV]; simp [go_sem]
              have HV1 := hid hv1
              have HV3 := hid hv3
              have HVv := hid (And.intro hv0 (And.intro hv1 (And.intro hv2 hv3)))
              clear hV hv0 hv1 hv2 hv3
              obtain ⟨V1, hV1⟩ : ∃ V1, V1 = wr.alloc (Obj.cells #[.int .i64 pn, .slice qa pl.length qc] 51) := ⟨_, rfl⟩
              have HB1 : Hid (Below wr.heap.size wr V1) := by rw [hV1]; exact below1 _ _
              have hz1 : V1.heap.size = wr.heap.size + 1 := by rw [hV1]; simp
              rw [← hV1] at HV
              go_upto_region 19 with fail
              rw [← hV1]
              have y2' := cell_later HB1.out y2
              have x2' := cell_later HB1.out x2
              have x3' := cell_later HB1.out x3
              clear hV1 x0 x1 z2 y2 x2 x3
              go_upto_region 20 with fail
              rw [← HV.out]
              try rw [hz1]
              obtain ⟨hv0, hv1, hv2, hv3⟩ := HVv.out
              clear x2' x3' y2' hz1 HB1
              go_upto_region 23 with fail
              clear hv0 hv1 hv2 hv3 HVv
              obtain ⟨b8, hb8⟩ : ∃ b, b = wr.heap.size := ⟨_, rfl⟩
              rw [← hb8] at HV1 HV3 ⊢
              clear hb8
              go_loopw [10] (fun i U => ∃ (j : Nat), i = .int .i64 (j : Int) ∧ j ≤ pl.length ∧ Below V.heap.size V U) (fun i _ => pl.length - ivN i)
              case atStart => exact ⟨0, rfl, Nat.zero_le _, Below.refl _ _⟩
              case round =>
                obtain ⟨l, rfl, hl, hBi⟩ := hrel
                have HBi := hid hBi
                have v1 := cell_later hBi HV1.out
                have v3 := cell_later hBi HV3.out
                clear hBi
                by_cases hlt4 : l < pl.length
                · have hd4 : decide ((l : Int) < (pl.length : Int)) = true := by simp; omega
                  have hln : (l : Int) < (pl.length : Int) := by omega
                  obtain ⟨⟨co, ch, cl⟩, hc⟩ : ∃ q, pl[l]? = some q := ⟨_, List.getElem?_eq_getElem hlt4⟩
                  obtain ⟨g2, o2, e2, hr2⟩ := HLa.out.at_ l (encC ⟨co, ch, cl⟩) (by rw [List.getElem?_map, hc]; rfl)
                  obtain ⟨g3, o3, e3, hr3⟩ := HLb.out.at_ l (encC ⟨co, ch, cl⟩) (by rw [List.getElem?_map, hc]; rfl)
                  simp only at e2 e3
                  subst e2 e3
                  have HSx : Hid (∀ U, Below wr.heap.size wr U → U.cell? ⟨b8, 1, none⟩ = some (.slice (some ⟨g2, o2, none⟩) pl.length qc) ∧ U.cell? ⟨b8 + 1, 1, none⟩ = some (.slice (some ⟨g3, o3, none⟩) pl.length qc') ∧ U.cell? ⟨g2, o2 + l * 3, none⟩ = some (.int .i64 co) ∧ U.cell? ⟨g2, o2 + l * 3 + 1, none⟩ = some (.int .u64 (ch : Int)) ∧ U.cell? ⟨g2, o2 + l * 3 + 2, none⟩ = some (.int .u64 (cl : Int)) ∧ U.cell? ⟨g3, o3 + l * 3, none⟩ = some (.int .i64 co) ∧ U.cell? ⟨g3, o3 + l * 3 + 1, none⟩ = some (.int .u64 (ch : Int)) ∧ U.cell? ⟨g3, o3 + l * 3 + 2, none⟩ = some (.int .u64 (cl : Int))) := fun U hU => by
                    have hU2 := below_call HBW.out (below_call HBi.out hU)
                    exact ⟨cell_later hU v1, cell_later hU v3, cell_later hU2 (hr2 0 _ rfl), cell_later hU2 (hr2 1 _ rfl), cell_later hU2 (hr2 2 _ rfl), cell_later hU2 (hr3 0 _ rfl), cell_later hU2 (hr3 1 _ rfl), cell_later hU2 (hr3 2 _ rfl)⟩
                  have hne := neqCs co (ch : Int) (cl : Int)
                  clear hr2 hr3 hc
                  generalize pl.length = pn2 at *
                  go_upto_region 25 with fail
                  clear v1 v3
                  go_region_held3 (fun U => U.cell? ⟨b8, 1, none⟩ = some (.slice (some ⟨g2, o2, none⟩) pn2 qc) ∧ U.cell? ⟨b8 + 1, 1, none⟩ = some (.slice (some ⟨g3, o3, none⟩) pn2 qc') ∧ U.cell? ⟨g2, o2 + l * 3, none⟩ = some (.int .i64 co) ∧ U.cell? ⟨g2, o2 + l * 3 + 1, none⟩ = some (.int .u64 (ch : Int)) ∧ U.cell? ⟨g2, o2 + l * 3 + 2, none⟩ = some (.int .u64 (cl : Int)) ∧ U.cell? ⟨g3, o3 + l * 3, none⟩ = some (.int .i64 co) ∧ U.cell? ⟨g3, o3 + l * 3 + 1, none⟩ = some (.int .u64 (ch : Int)) ∧ U.cell? ⟨g3, o3 + l * 3 + 2, none⟩ = some (.int .u64 (cl : Int))) (first | exact HSx.out _ (Below.refl _ _).drew) (fail)
                  go_wp2
                  exact ⟨⟨l + 1, rfl, by omega, below_call HBi.out (Below.refl _ _).drew⟩, by simp [ivN]; omega⟩
                · obtain rfl : l = pl.length := by omega
                  go_wp2
                  exact ⟨⟨i + 1, rfl, by omega, below_call HBW.out HBi.out⟩, by simp [ivN]; omega⟩
            · obtain rfl : i = m3 := by omega
              clear hBr
              go_wp2
              go_ret
              exact ⟨rfl, below_call HB.out HBr.out⟩
end Go.Proofs.Ythfmmfphnimlnaa
namespace Go.Proofs.Ythfmmfphnimlnaa
open Go.RowKit
set_option linter.unusedVariables false
set_option linter.unusedSimpArgs false
def cfK : Cf := ⟨128, 2, 4, 8, 4, 2, 4, 0, 1, 64⟩
def stK : St := ⟨[], [], [⟨0, []⟩], 1, 1, 0⟩
def lK : List Nat := layL cfK stK
set_option maxRecDepth 100000 in
theorem k_chk : chk cfK stK 4096 = 0 := by kernel_rfl
set_option maxRecDepth 100000 in
theorem k_chk0 : chk cfK stK 0 = 0 := by kernel_rfl
set_option maxRecDepth 100000 in
theorem k_chk1 : chk cfK stK (-1) = 8 := by kernel_rfl
set_option maxRecDepth 100000 in
theorem k_len : lK.length = 51 := by kernel_rfl
set_option maxRecDepth 100000 in
theorem k_bad : paB (lK ++ [0]) = false := by kernel_rfl
set_option maxRecDepth 100000 in
theorem k_ok : paB lK = true := by kernel_rfl
theorem k_cf : paC lK = cfK := by kernel_rfl
theorem k_st : paS lK = stK := by kernel_rfl
theorem k_bys : bysL cfK stK = lK := by unfold bysL; rw [k_chk]; rfl
theorem k_bye : bysE cfK stK = 0 := by unfold bysE; rw [k_chk]; rfl
set_option maxRecDepth 100000 in
set_option maxHeartbeats 1000000 in
theorem small_any (w : World) : Calls Try.prog 23 #[] w fun e w' => e = .returned cfK.v ∧ Below w.heap.size w w' := by
  go_enter Try.func23, Try.ntmps23
  go_wp2
  exact bodyPost_ret (v := cfK.v) (by simp [results, Try.results23, go_sem, cfK, Cf.v]) rfl ⟨rfl, below1 _ _⟩
end Go.Proofs.Ythfmmfphnimlnaa
