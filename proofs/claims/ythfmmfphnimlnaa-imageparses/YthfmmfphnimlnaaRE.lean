import Derived.Test.YthfmmfphnimlnaaIK
import Derived.Test.YthfmmfphnimlnaaRA
namespace Go.Proofs.Ythfmmfphnimlnaa
open Go.RowKit
set_option linter.unusedVariables false
set_option linter.unusedSimpArgs false
theorem cEq_iff (x y : Cp) : cEq x.o (x.h : Int) (x.l : Int) y.o (y.h : Int) (y.l : Int) = decide (x = y) := by
  unfold cEq
  rw [decide_eq_decide]
  obtain ⟨a, b, c⟩ := x
  obtain ⟨d, e, f⟩ := y
  simp only [Cp.mk.injEq]
  omega
theorem ldW {w : World} {b o : Nat} {L : List Value} (h : w.rangeAt b o L) (hl : L.length = 2) : (Instr.loadAt 63 (.pointer (some ⟨b, o, none⟩))).run Try.prog w = .ok (.agg L.toArray) w :=
  run_loadAt_mid w b o 63 L _ h Try.underlying63 rfl (by rw [show (Try.prog.info? 63).map (·.size) = some 2 by kernel_rfl, hl])
def dupB (T : List Tk) (j : Nat) : Bool := (List.range j).any fun k => decide ((tkA T (k : Int)).c = (tkA T (j : Int)).c)
set_option maxRecDepth 100000 in
set_option maxHeartbeats 8000000 in
theorem rwords_any (c : Cf) (s : St) (a b d : Sl) (Q : List (Ob × Sl)) (R : List (Pc × Sl)) (w : World) (h : Sm w s a b d Q R) (hcw : c.w ≤ 9223372036854775807) :
    Calls Try.prog 18 #[c.v, stV a b d s.nx s.px s.ta] w fun e w' => e = .returned (.bool (wrdB c.w s.T)) ∧ Below w.heap.size w w' := by
  obtain ⟨W, hW⟩ : ∃ W, W = (w.alloc (Obj.cells #[.int .i64 c.w, .int .i64 c.o, .int .i64 c.p, .int .i64 c.e, .int .i64 c.q, .int .i64 c.r, .int .i64 c.l, .int .i64 c.s, .int .i64 c.y, .int .i64 c.k] 23)).alloc (Obj.cells #[.slice a.a a.n a.c, .slice b.a b.n b.c, .slice d.a d.n d.c, .int .i64 s.nx, .int .i64 s.px, .int .i64 s.ta] 28) := ⟨_, rfl⟩
  have hB : Below w.heap.size w W := by rw [hW]; exact below2 _ _ _
  have x0 : W.cell? ⟨w.heap.size, 0, none⟩ = some (.int .i64 c.w) := by rw [hW]; simp [go_sem]
  have y1 : W.cell? ⟨w.heap.size + 1, 1, none⟩ = some (.slice b.a b.n b.c) := by rw [hW]; simp [go_sem]
  have hmb := h.mb
  have HL := hid (h.t.later hB)
  have HTw := hid h.tw
  have HB := hid hB
  have HW := hid hW
  have hlT : s.T.length = b.n := by have := h.t.len; simpa using this
  have HLen := hid hlT
  clear h hB hW hlT
  obtain ⟨ba, n, bc⟩ := b
  simp only at hmb HW HL HLen y1 ⊢
  have HY1 := hid y1
  have HX0 := hid x0
  have HCw := hid hcw
  clear hcw
  go_enter Try.func18, Try.ntmps18
  go_upto_region 1 with fail
  rw [← HW.out]
  go_upto_region 2 with fail
  clear y1 x0
  go_loopw [5] (fun i U => ∃ (j : Nat), i = .int .i64 (j : Int) ∧ j ≤ n ∧ (s.T.drop j).all (fun t => _root_.Go.Proofs.Ythfmmfphnimlnaa.W.fitsB t.c.n c.w) = s.T.all (fun t => _root_.Go.Proofs.Ythfmmfphnimlnaa.W.fitsB t.c.n c.w) ∧ ((s.T.take j).map Tk.c).Nodup ∧ Below W.heap.size W U) (fun i _ => n - ivN i)
  case atStart => exact ⟨0, rfl, Nat.zero_le _, rfl, by simp, Below.refl _ _⟩
  case round =>
    obtain ⟨j, rfl, hj, hS, hN, hBr⟩ := hrel
    have HS := hid hS
    have HN := hid hN
    have HBr := hid hBr
    have y1 := cell_later hBr HY1.out
    have x0 := cell_later hBr HX0.out
    clear hS hBr hN
    by_cases hlt : j < n
    · have hd : decide ((j : Int) < (n : Int)) = true := by simp; omega
      have hjn : (j : Int) < (n : Int) := by omega
      obtain ⟨q, hq⟩ : ∃ q, s.T[j]? = some q := ⟨_, List.getElem?_eq_getElem (by have := HLen.out; omega)⟩
      obtain ⟨g, o, rfl, hrg⟩ := HL.out.at_ j (encT q) (by rw [List.getElem?_map, hq]; rfl)
      have HD := hid (drop_at hq)
      have HTk : Hid ((s.T.take (j + 1)).map Tk.c = (s.T.take j).map Tk.c ++ [q.c]) := by unfold Hid; rw [List.take_add_one, hq, List.map_append]; rfl
      rw [HD.out, List.all_cons] at HS
      have hqw := HTw.out q (List.mem_of_getElem? hq)
      have HFt := hid (fun U => _root_.Go.Proofs.Ythfmmfphnimlnaa.W.rFits_any (q.c.h : Int) (q.c.l : Int) q.c.n c.w U (Cp.isV hqw) HCw.out)
      generalize _root_.Go.Proofs.Ythfmmfphnimlnaa.W.fitsB q.c.n c.w = fb at HFt HS
      have HRg := hid hrg
      have HDn : Hid (∀ k (t : Tk), s.T[k]? = some t → k < j → t.c = q.c → ¬ (s.T.map Tk.c).Nodup) := by
        intro k t ht hkj e hnd
        have h1 : (s.T.map Tk.c)[k]? = some q.c := by rw [List.getElem?_map, ht, Option.map_some, e]
        have h2 : (s.T.map Tk.c)[j]? = some q.c := by rw [List.getElem?_map, hq]; rfl
        have h3 := (List.getElem?_inj (l := s.T.map Tk.c) (i := k) (j := j) (by rw [List.length_map]; exact (List.getElem?_eq_some_iff.1 ht).1) hnd).1 (by rw [h1, h2])
        omega
      obtain ⟨⟨qo, qh, ql⟩, qr, qp⟩ := q
      have HLw : Hid (∀ U, Below wr.heap.size wr U → U.cell? ⟨g, o + j * 5 + 1, none⟩ = some (.int .u64 (qh : Int)) ∧ U.cell? ⟨g, o + j * 5 + 1 + 1, none⟩ = some (.int .u64 (ql : Int)) ∧ U.cell? ⟨w.heap.size + 1, 1, none⟩ = some (.slice (some ⟨g, o, none⟩) n bc) ∧ U.cell? ⟨w.heap.size, 0, none⟩ = some (.int .i64 c.w)) := fun U hU => ⟨cell_later hU (cell_later HBr.out (HRg.out 1 _ rfl)), cell_later hU (cell_later HBr.out (HRg.out 2 _ rfl)), cell_later hU y1, cell_later hU x0⟩
      simp only at HFt HS HTk HDn
      clear hrg hq HD hqw y1 x0
      have y1 := cell_later HBr.out HY1.out
      go_upto_region 4 with fail
      clear y1
      cases fb with
      | true =>
        rw [Bool.true_and] at HS
        go_region_held3 (fun U => U.cell? ⟨g, o + j * 5 + 1, none⟩ = some (.int .u64 (qh : Int)) ∧ U.cell? ⟨g, o + j * 5 + 1 + 1, none⟩ = some (.int .u64 (ql : Int)) ∧ U.cell? ⟨w.heap.size + 1, 1, none⟩ = some (.slice (some ⟨g, o, none⟩) n bc) ∧ U.cell? ⟨w.heap.size, 0, none⟩ = some (.int .i64 c.w)) (first | exact HLw.out _ (Below.refl _ _).drew | exact HE1.out) (first
          | (go_at_call 35; refine (HFt.out _).mono ?_; rintro e w2 ⟨rfl, hb2⟩; have HB2 := hid (below_call (Below.refl _ _).drew hb2); have HE1 := hid (HLw.out _ HB2.out); clear hb2))
        have HBw := hid (below_call HBr.out HB2.out)
        go_upto_region 7 with fail
        clear HE1 HFt
        go_loopw [6] (fun i U => ∃ (k : Nat), i = .int .i64 (k : Int) ∧ k ≤ j ∧ (⟨qo, qh, ql⟩ : Cp) ∉ (s.T.take k).map Tk.c ∧ Below W.heap.size W U) (fun i _ => j - ivN i)
        case atStart => exact ⟨0, rfl, Nat.zero_le _, by simp, HBw.out⟩
        case round =>
          obtain ⟨k, rfl, hk, hM, hB3⟩ := hrel
          have HMm := hid hM
          have HB3 := hid hB3
          have y1 := cell_later hB3 HY1.out
          clear hM hB3
          by_cases hkj : k < j
          · have hd2 : decide ((k : Int) < (j : Int)) = true := by simp; omega
            have hkn : (k : Int) < (n : Int) := by omega
            obtain ⟨t, ht⟩ : ∃ t, s.T[k]? = some t := ⟨_, List.getElem?_eq_getElem (by have := HLen.out; omega)⟩
            obtain ⟨g', o', hsa, hrg⟩ := HL.out.at_ k (encT t) (by rw [List.getElem?_map, ht]; rfl)
            simp only [Option.some.injEq, Addr.mk.injEq] at hsa
            obtain ⟨rfl, rfl, _⟩ := hsa
            have u0 := cell_later HB3.out (hrg 0 _ rfl)
            have u1 := cell_later HB3.out (hrg 1 _ rfl)
            have u2 := cell_later HB3.out (hrg 2 _ rfl)
            have v0 := cell_later HB3.out (HRg.out 0 _ rfl)
            have v1 := cell_later HB3.out (HRg.out 1 _ rfl)
            have v2 := cell_later HB3.out (HRg.out 2 _ rfl)
            simp only [Nat.add_zero] at u0 v0
            have HDk := hid (HDn.out k t ht hkj)
            have HTk2 : Hid ((s.T.take (k + 1)).map Tk.c = (s.T.take k).map Tk.c ++ [t.c]) := by unfold Hid; rw [List.take_add_one, ht, List.map_append]; rfl
            have HCe := hid (cEq_iff t.c ⟨qo, qh, ql⟩)
            obtain ⟨⟨co, ch, cl⟩, tr, tp⟩ := t
            simp only at u0 u1 u2 v0 v1 v2 HDk HTk2 HCe
            clear hrg ht
            have heq := eqlC
            go_upto_region 9 with fail
            by_cases he : (⟨co, ch, cl⟩ : Cp) = ⟨qo, qh, ql⟩
            · have hce : cEq co (ch : Int) (cl : Int) qo (qh : Int) (ql : Int) = true := by rw [HCe.out]; exact decide_eq_true he
              have HF : Hid (wrdB c.w s.T = false) := by unfold Hid wrdB; rw [decide_eq_false (HDk.out he), Bool.and_false]
              clear he
              go_quiet (fail)
              go_wp2
              go_ret
              exact ⟨ret_bool HF.out.symm, below_drewN (below_call HB.out HB3.out) _⟩
            · have hce : cEq co (ch : Int) (cl : Int) qo (qh : Int) (ql : Int) = false := by rw [HCe.out]; exact decide_eq_false he
              have HN2 : Hid ((⟨qo, qh, ql⟩ : Cp) ∉ (s.T.take (k + 1)).map Tk.c) := by
                unfold Hid
                rw [HTk2.out, List.mem_append, List.mem_singleton]
                rintro (h1 | h1)
                · exact HMm.out h1
                · exact he h1.symm
              clear he
              go_quiet (fail)
              go_wp2
              exact ⟨⟨k + 1, rfl, by omega, HN2.out, below_drewN HB3.out _⟩, by simp [ivN]; omega⟩
          · obtain rfl : k = j := by omega
            have HN2 : Hid (((s.T.take (k + 1)).map Tk.c).Nodup) := by
              unfold Hid
              rw [HTk.out, List.nodup_append]
              refine ⟨HN.out, by simp, fun x hx y hy => ?_⟩
              rw [List.mem_singleton.1 hy]
              exact fun e => HMm.out (e ▸ hx)
            go_wp2
            exact ⟨⟨k + 1, rfl, by omega, HS.out, HN2.out, HB3.out⟩, by simp [ivN]; omega⟩
      | false =>
        have HF : Hid (wrdB c.w s.T = false) := by unfold Hid wrdB; rw [← HS.out]; rfl
        go_region_held3 (fun U => U.cell? ⟨g, o + j * 5 + 1, none⟩ = some (.int .u64 (qh : Int)) ∧ U.cell? ⟨g, o + j * 5 + 1 + 1, none⟩ = some (.int .u64 (ql : Int)) ∧ U.cell? ⟨w.heap.size + 1, 1, none⟩ = some (.slice (some ⟨g, o, none⟩) n bc) ∧ U.cell? ⟨w.heap.size, 0, none⟩ = some (.int .i64 c.w)) (first | exact HLw.out _ (Below.refl _ _).drew | exact HE1.out) (first
          | (go_at_call 35; refine (HFt.out _).mono ?_; rintro e w2 ⟨rfl, hb2⟩; have HB2 := hid (below_call (Below.refl _ _).drew hb2); have HE1 := hid (HLw.out _ HB2.out); clear hb2))
        go_wp2
        go_ret
        exact ⟨ret_bool HF.out.symm, below_call HB.out (below_call HBr.out HB2.out)⟩
    · obtain rfl : j = n := by omega
      have HF : Hid (wrdB c.w s.T = true) := by
        unfold Hid wrdB
        rw [← HS.out, show s.T.drop j = [] from List.drop_eq_nil_of_le (by have := HLen.out; omega)]
        have h1 := HN.out
        rw [List.take_of_length_le (by have := HLen.out; omega)] at h1
        rw [decide_eq_true h1]; rfl
      go_wp2
      go_ret
      exact ⟨ret_bool HF.out.symm, below_call HB.out HBr.out⟩
end Go.Proofs.Ythfmmfphnimlnaa
