import Derived.Test.YticgammbjcdobaaRK
namespace Go.Proofs.Yticgammbjcdobaa
open Go.RowKit
set_option linter.unusedVariables false
set_option linter.unusedSimpArgs false
/-- The object forgotten, if nothing is live. -/
abbrev frg (o : Int) (B : Bv) : Bv := { B with live := fun q j => if q = o then none else B.live q j, laid := fun q j => if q = o then none else B.laid q j }
def RvRel (V : World) (m : Bm) (B : Bv) (o : Int) (mb : Option Nat) (a : Option Addr) (ts : List Tn) (L : List Value) (p : Nat) (v : Value) (U : World) : Prop :=
  ∃ (k : Nat) (m' : Bm), v = .int .i64 (k : Int) ∧ k ≤ ts.length ∧ Bk U m' (rvB o B (ts.take k)) ∧ Tr V U m m' ∧ inV m'.L o mb ∧ Tko U m' a ts ∧ Bx U p L ∧ ¬ Owb m' p ∧ p < U.heap.size
set_option maxRecDepth 100000 in
set_option maxHeartbeats 8000000 in
theorem revoked_bk : Rvk := by
  intro m B c w h hc hct
  obtain ⟨o, ch, cl⟩ := c
  obtain ⟨W, hW⟩ : ∃ W, W = w.alloc (Obj.cells #[.int .i64 o, .int .u64 (ch : Int), .int .u64 (cl : Int)] 31) := ⟨_, rfl⟩
  have hB : Below w.heap.size w W := by rw [hW]; exact below1 _ _
  have HX0 : Hid (Bx W w.heap.size [.int .i64 o, .int .u64 (ch : Int), .int .u64 (cl : Int)]) := by rw [hW]; exact Bx.new w [.int .i64 o, .int .u64 (ch : Int), .int .u64 (cl : Int)] _
  obtain ⟨mb, hin⟩ := inV.some_of m.L o
  have HLk : Hid (∀ U, Below w.heap.size w U → (Instr.lookup 60 (.map (some m.bl)) (.int .i64 o) false).run Try.prog U = .ok (.map mb) U) := fun U hU => live_out m B o mb U (h.later hU) hin hc.1
  have HLt := hid h.bw.own_lt
  have HH := hid h
  have HB := hid hB
  have HW := hid hW
  have HC := hid hc
  have HI := hid hin
  have HCt := hid hct
  have HS : Hid (∀ U, Below W.heap.size W U → (U.rangeAt m.g 0 m.cells ∧ U.rangeAt w.heap.size 0 [.int .i64 o, .int .u64 (ch : Int), .int .u64 (cl : Int)] ∧ (Instr.lookup 60 (.map (some m.bl)) (.int .i64 o) false).run Try.prog U = .ok (.map mb) U)) := fun U hU => ⟨((HH.out.later HB.out).bw.bx.later hU).range, (HX0.out.later hU).range, HLk.out _ (below_call HB.out hU)⟩
  clear h hB hW hin hc hct
  go_enter Try.func21, Try.ntmps21
  go_upto_region 1 with fail
  rw [← HW.out]
  refine wp_region_held_drew (S := (fun U : World => U.rangeAt m.g 0 m.cells ∧ U.rangeAt w.heap.size 0 [.int .i64 o, .int .u64 (ch : Int), .int .u64 (cl : Int)] ∧ (Instr.lookup 60 (.map (some m.bl)) (.int .i64 o) false).run Try.prog U = .ok (.map mb) U)) (by kernel_rfl) (HS.out _ (Below.refl _ _).drew) (fun hHeld => ?_)
  refine wpAnyH_norm (l2 := #[false, false, false, false, false, false, false, false]) (f2 := 8) (by kernel_rfl) (by kernel_rfl) ?_
  refine wpAnyH_take (i := 0) (oi := _) (v := ?_) rfl (by kernel_rfl) (by kernel_rfl) (by kernel_rfl) (fun _ _ _ h => h) (Or.inl ⟨by rfl, ?_⟩) (by assumption) ?_
  rotate_left
  · (intro w hSw; (try dsimp only at hSw); go_simp; try with_reducible rfl)
  simp only [List.getElem_toArray, List.getElem_cons_succ, List.getElem_cons_zero, Act.put, List.setIfInBounds_toArray, List.set_cons_zero, List.set_cons_succ]
  refine wpAnyH_norm (l2 := #[true, false, false, false, false, false, false, false]) (f2 := 7) (by kernel_rfl) (by kernel_rfl) ?_
  refine wpAnyH_take (i := 1) (oi := _) (v := ?_) rfl (by kernel_rfl) (by kernel_rfl) (by kernel_rfl) (fun _ _ _ h => h) (Or.inl ⟨by rfl, ?_⟩) (by assumption) ?_
  rotate_left
  · (intro w hSw; (try dsimp only at hSw); go_simp; try with_reducible rfl)
  simp only [List.getElem_toArray, List.getElem_cons_succ, List.getElem_cons_zero, Act.put, List.setIfInBounds_toArray, List.set_cons_zero, List.set_cons_succ]
  refine wpAnyH_norm (l2 := #[true, true, false, false, false, false, false, false]) (f2 := 6) (by kernel_rfl) (by kernel_rfl) ?_
  refine wpAnyH_take (i := 2) (oi := _) (v := ?_) rfl (by kernel_rfl) (by kernel_rfl) (by kernel_rfl) (fun _ _ _ h => h) (Or.inl ⟨by rfl, ?_⟩) (by assumption) ?_
  rotate_left
  · (intro w hSw; (try dsimp only at hSw); go_simp; try with_reducible rfl)
  simp only [List.getElem_toArray, List.getElem_cons_succ, List.getElem_cons_zero, Act.put, List.setIfInBounds_toArray, List.set_cons_zero, List.set_cons_succ]
  refine wpAnyH_norm (l2 := #[true, true, true, false, false, false, false, false]) (f2 := 5) (by kernel_rfl) (by kernel_rfl) ?_
  refine wpAnyH_take (i := 3) (oi := _) (v := ?_) rfl (by kernel_rfl) (by kernel_rfl) (by kernel_rfl) (fun _ _ _ h => h) (Or.inl ⟨by rfl, ?_⟩) (by assumption) ?_
  rotate_left
  · (intro w hSw; have z2 := rg_at (j := 1) hSw.1 rfl; go_simp; try with_reducible rfl)
  simp only [List.getElem_toArray, List.getElem_cons_succ, List.getElem_cons_zero, Act.put, List.setIfInBounds_toArray, List.set_cons_zero, List.set_cons_succ]
  refine wpAnyH_norm (l2 := #[true, true, true, true, false, false, false, false]) (f2 := 4) (by kernel_rfl) (by kernel_rfl) ?_
  refine wpAnyH_take (i := 4) (oi := _) (v := ?_) rfl (by kernel_rfl) (by kernel_rfl) (by kernel_rfl) (fun _ _ _ h => h) (Or.inl ⟨by rfl, ?_⟩) (by assumption) ?_
  rotate_left
  · (intro w hSw; (try dsimp only at hSw); go_simp; try with_reducible rfl)
  simp only [List.getElem_toArray, List.getElem_cons_succ, List.getElem_cons_zero, Act.put, List.setIfInBounds_toArray, List.set_cons_zero, List.set_cons_succ]
  refine wpAnyH_norm (l2 := #[true, true, true, true, true, false, false, false]) (f2 := 3) (by kernel_rfl) (by kernel_rfl) ?_
  refine wpAnyH_take (i := 5) (oi := _) (v := ?_) rfl (by kernel_rfl) (by kernel_rfl) (by kernel_rfl) (fun _ _ _ h => h) (Or.inl ⟨by rfl, ?_⟩) (by assumption) ?_
  rotate_left
  · (intro w hSw; have z1 := rg_at (j := 0) hSw.2.1 rfl; go_simp; try with_reducible rfl)
  simp only [List.getElem_toArray, List.getElem_cons_succ, List.getElem_cons_zero, Act.put, List.setIfInBounds_toArray, List.set_cons_zero, List.set_cons_succ]
  refine wpAnyH_norm (l2 := #[true, true, true, true, true, true, false, false]) (f2 := 2) (by kernel_rfl) (by kernel_rfl) ?_
  refine wpAnyH_take (i := 6) (oi := _) (v := .map mb) rfl (by kernel_rfl) (by kernel_rfl) (by kernel_rfl) (fun _ _ _ h => h) (Or.inl ⟨by rfl, ?_⟩) (by assumption) ?_
  · (intro w hSw; (try dsimp only at hSw); exact ex_lk rfl rfl rfl hSw.2.2)
  simp only [List.getElem_toArray, List.getElem_cons_succ, List.getElem_cons_zero, Act.put, List.setIfInBounds_toArray, List.set_cons_zero, List.set_cons_succ]
  refine wpAnyH_norm (l2 := #[true, true, true, true, true, true, true, false]) (f2 := 1) (by kernel_rfl) (by kernel_rfl) ?_
  refine wpAnyH_take (i := 7) (oi := _) (v := ?_) rfl (by kernel_rfl) (by kernel_rfl) (by kernel_rfl) (fun _ _ _ h => h) (Or.inl ⟨by rfl, ?_⟩) (by assumption) ?_
  rotate_left
  · (intro w hSw; (try dsimp only at hSw); go_simp; try with_reducible rfl)
  simp only [List.getElem_toArray, List.getElem_cons_succ, List.getElem_cons_zero, Act.put, List.setIfInBounds_toArray, List.set_cons_zero, List.set_cons_succ]
  refine wpAnyH_norm (l2 := #[true, true, true, true, true, true, true, true]) (f2 := 0) (by kernel_rfl) (by kernel_rfl) ?_
  refine wpAnyH_done (by kernel_rfl) ?_ _
  obtain ⟨V, hV⟩ : ∃ V, V = W.drew := ⟨_, rfl⟩
  have HBV : Hid (Below w.heap.size w V) := by rw [hV]; exact HB.out.drew
  have HXa : Hid (Bx V w.heap.size [.int .i64 o, .int .u64 (ch : Int), .int .u64 (cl : Int)]) := by rw [hV]; exact HX0.out.later (Below.refl _ _).drew
  have HXl : Hid (w.heap.size < V.heap.size) := HXa.out.lt (by simp)
  rw [← hV]
  have HHv := hid (HH.out.later HBV.out)
  clear hV HX0 HS HLk HB HW
  have x1 := HXa.out.cell 1 rfl
  have x2 := HXa.out.cell 2 rfl
  obtain ⟨w2, m2, r2, b2, t2, c2, i2⟩ := live_del m B o (ch, cl) mb V HHv.out HI.out ⟨HC.out.2.1, HC.out.2.2⟩
  have HR2 := hid r2
  have HB2 := hid b2
  have HT2 := hid t2
  have HI2 := hid i2
  have HP2 : Hid (¬ Owb m2 w.heap.size) := fun hj => (t2.gr _ hj).elim (fun h1 => by have := HLt.out _ h1; omega) (fun h1 => by have := HXl.out; omega)
  have HXb := hid (HXa.out.but t2.bt (fun hj => by have := HLt.out _ hj; omega))
  clear r2 b2 t2 c2 i2
  go_upto_region 3 with (first | ((with_reducible refine del_arm HR2.out ?_ ?_ ?_); (· rfl); (· rfl)))
  clear x1 x2 HR2
  obtain ⟨es, hsrc, hfnd, hsz⟩ := live_src m2 _ o mb w2 HB2.out HI2.out
  have HVa := hid ((callsIn_wide (n := 3)).1 (values_in mb 3 w2))
  have HB3 := below1 w2 (Obj.cells #[.map mb] 82)
  have HSo := hid (sorted_any (w := w2.alloc (Obj.cells #[.map mb] 82)) (B0 := w2.heap.size) (hsrc.later HB3) (fun e he => by obtain ⟨k, t, _, _, _, hr⟩ := hfnd.val e he; exact ⟨t, hr⟩) (by simp [go_sem]) (Nat.le_trans hsz HCt.out))
  have HFn := hid hfnd
  have HSz := hid (Nat.le_trans hsz HCt.out)
  clear hsrc hfnd hsz HB3
  go_upto_region 4 with (first | (go_at_call 36; refine HVa.out.mono ?_; rintro e w3 ⟨rfl, rfl⟩) | (go_at_call 35; refine HSo.out.mono ?_; rintro e w4 ⟨a, sc, ts, rfl, hS, hT, hB4⟩; have HAl := hid hS; have HTk := hid hT; have HB4 := hid hB4; clear hS hT hB4))
  have hb4 : Below w2.heap.size w2 w4 := below_call (below1 w2 _) HB4.out
  have HT5 := hid (HT2.out.later hb4)
  have HBL : Hid (Less (dlv o (ch, cl) B) B) := less_dlv _ _ _
  have HTo : Hid (Tko w4 m2 a ts) := fun i t hi => by
    obtain ⟨g, ha, hg, hr⟩ := HTk.out i t hi
    exact ⟨g, ha, fun hj => by have h1 := HB2.out.bw.own_lt g hj; simp at hg; omega, World.block_lt_of_cell? _ _ (hr 0 _ rfl), hr⟩
  have HFd := hid (HAl.out.found HFn.out)
  have HTl : Hid (ts.length ≤ 100000000) := by
    obtain ⟨ts0, h0, hp⟩ := HAl.out.all
    have h1 := hp.length_eq
    have h2 := h0.len
    have h3 := HSz.out
    unfold Hid
    omega
  have HB5 := hid (HB2.out.later hb4)
  have HX5 := hid (HXb.out.later hb4)
  have HX5l : Hid (w.heap.size < w4.heap.size) := HX5.out.lt (by simp)
  clear hb4 HTk HAl HFn HSz HVa HSo HB2 HXb HB4 hHeld HT2
  generalize dlv o (ch, cl) B = B1 at *
  go_loopw [23] (RvRel w4 m2 B1 o mb a ts [.int .i64 o, .int .u64 (ch : Int), .int .u64 (cl : Int)] w.heap.size) (fun v _ => ts.length - ivN v)
  case atStart => exact ⟨0, m2, rfl, Nat.zero_le _, HB5.out, Tr.refl _ _, HI2.out, HTo.out, HX5.out, HP2.out, HX5l.out⟩
  case round =>
    obtain ⟨k, m', rfl, hk, hb, ht, hi, hto, hx, hnp, hpl⟩ := hrel
    have HBr := hid hb
    have HTr := hid ht
    have HIr := hid hi
    have HTor := hid hto
    have HXr := hid hx
    have HNp := hid hnp
    have HPl := hid hpl
    clear hb ht hi hto hx hnp hpl
    by_cases hkN : k < ts.length
    · have hlt : decide ((k : Int) < (ts.length : Int)) = true := by simp; omega
      have hkx : (k : Int) < (ts.length : Int) := by omega
      have HWr : Hid (wrap64 ((k : Int) + 1) = (k : Int) + 1) := by
        have := HTl.out
        unfold Hid
        unfold wrap64
        omega
      obtain ⟨t, htk⟩ : ∃ t, ts[k]? = some t := ⟨_, List.getElem?_eq_getElem hkN⟩
      obtain ⟨g, ha, hg1, hg2, hg3⟩ := HTor.out k t htk
      have HSt := hid (rvB_take (o := o) (B := B1) htk)
      have hrl := (HFd.out t (List.mem_of_getElem? htk)).1
      have z0 : wr.cell? ⟨g, k * 6, none⟩ = some (.int .u64 (t.h : Int)) := hg3 0 _ rfl
      have z1 : wr.cell? ⟨g, k * 6 + 1, none⟩ = some (.int .u64 (t.l : Int)) := hg3 1 _ rfl
      have z2 : wr.cell? ⟨g, k * 6 + 2, none⟩ = some (.int .u64 (t.ph : Int)) := hg3 2 _ rfl
      have z3 : wr.cell? ⟨g, k * 6 + 3, none⟩ = some (.int .u64 (t.pl : Int)) := hg3 3 _ rfl
      have z4 : wr.cell? ⟨g, k * 6 + 4, none⟩ = some (.int .i64 t.r) := hg3 4 _ rfl
      have z5 : wr.cell? ⟨g, k * 6 + 5, none⟩ = some (.int .i64 t.s) := hg3 5 _ rfl
      subst ha
      have hb1 := below1 wr (Obj.cells t.L.toArray 77)
      obtain ⟨t', hlk⟩ := live_look m' _ o (t.ph, t.pl) mb (wr.alloc (Obj.cells t.L.toArray 77)) (HBr.out.later hb1) HIr.out ⟨hrl.2.2.2.1, hrl.2.2.2.2.1⟩
      have hb2 : Below wr.heap.size wr ((wr.alloc (Obj.cells t.L.toArray 77)).alloc (Obj.cells t'.L.toArray 77)) := below2 _ _ _
      have HB6 := hid (HBr.out.later hb2)
      have HBw := hid hb2
      obtain ⟨w7, m7, r7, b7, t7, c7, i7⟩ := live_del m' _ o (t.h, t.l) mb _ HB6.out HIr.out ⟨hrl.2.1, hrl.2.2.1⟩
      have HR7 := hid r7
      have HB7 := hid b7
      have HT7 := hid t7
      have HI7 := hid i7
      have HLK := hid hlk
      clear hb1 hb2 hg1 hg2 hg3 htk hrl r7 b7 t7 c7 i7 hlk
      cases hlv : ((rvB o B1 (ts.take k)).live o (t.ph, t.pl)).isSome with
      | true =>
        rw [hlv] at HLK
        have HNx : Hid (rvB o B1 (ts.take (k + 1)) = rvB o B1 (ts.take k)) := by
          unfold Hid
          rw [HSt.out]
          unfold rvS
          rw [if_pos hlv]
        clear hlv HR7
        go_wp2_with (first | ((with_reducible refine look_arm HLK.out ?_ ?_ ?_); (· rfl); (· rfl)))
        go_roundw
        case rel => exact ⟨k + 1, m', by rw [HWr.out]; simp, by omega, by rw [HNx.out]; exact HB6.out, HTr.out.later HBw.out, HIr.out, HTor.out.later HBw.out, HXr.out.later HBw.out, HNp.out, Nat.lt_of_lt_of_le HPl.out HBw.out.size⟩
        case measure => simp [ivN, HWr.out]; omega
      | false =>
        rw [hlv] at HLK
        have HNx : Hid (rvB o B1 (ts.take (k + 1)) = dlv o (t.h, t.l) (rvB o B1 (ts.take k))) := by
          unfold Hid
          rw [HSt.out]
          unfold rvS
          rw [if_neg (by rw [hlv]; simp)]
        clear hlv
        go_wp2_with (first | ((with_reducible refine look_arm HLK.out ?_ ?_ ?_); (· rfl); (· rfl)) | ((with_reducible refine del_arm HR7.out ?_ ?_ ?_); (· rfl); (· rfl)))
        have HTx := hid (Tr.fore HBw.out HT7.out)
        go_roundw
        case rel => exact ⟨k + 1, m7, by rw [HWr.out]; simp, by omega, by rw [HNx.out]; exact HB7.out, HTr.out.trans HTx.out, HI7.out, HTor.out.step HTx.out, HXr.out.but HTx.out.bt HNp.out, fun hj => (HTx.out.gr _ hj).elim HNp.out (fun h1 => by have := HPl.out; omega), Nat.lt_of_lt_of_le HPl.out HTx.out.bt.size⟩
        case measure => simp [ivN, HWr.out]; omega
    · have hlt : decide ((k : Int) < (ts.length : Int)) = false := by simp; omega
      have hkx : ¬ (k : Int) < (ts.length : Int) := by omega
      obtain rfl : k = ts.length := by omega
      rw [List.take_length] at HBr
      obtain ⟨n, hlen, h0, hn⟩ := live_len m' _ o mb wr HBr.out HIr.out
      have HLs := hid ((less_rvB o ts B1).trans HBL.out)
      have x0 := HXr.out.cell 0 rfl
      have HG : Hid (m'.g = m.g) := HTr.out.g.trans HT5.out.g
      have HLen := hid hlen
      have HTz := hid (Tr.fore HBV.out (HT5.out.trans HTr.out))
      have hf := forget_bk m' _ o wr HBr.out HC.out.1
      rw [HG.out] at hf
      have HF := hid hf
      clear hlen h0 hn hf
      generalize rvB o B1 ts = Bz at *
      cases n with
      | zero =>
        rw [show ((0 : Nat) : Int) = 0 from rfl] at HLen
        go_wp2_with (first | ((with_reducible refine len_arm HLen.out ?_ ?_); (· rfl)) | (go_at_call 19; refine HF.out.mono ?_; rintro e w8 ⟨rfl, m8, hb8, ht8⟩; have HB8 := hid hb8; have HT8 := hid ht8; clear hb8 ht8))
        exact bodyPost_end (v := .tuple #[]) (by simp [results, Try.results21, go_sem]) rfl ⟨rfl, m8, _, HB8.out, HTz.out.trans HT8.out, ⟨HLs.out.n, HLs.out.told, HLs.out.lists, HLs.out.known, fun q i ls hq => by
          simp only at hq
          split at hq
          · cases hq
          · exact HLs.out.laid q i ls hq, HLs.out.ct⟩⟩
      | succ n =>
        have hne : (((n + 1 : Nat) : Int) == 0) = false := by simp; omega
        go_wp2_with (first | ((with_reducible refine len_arm HLen.out ?_ ?_); (· rfl)))
        exact bodyPost_end (v := .tuple #[]) (by simp [results, Try.results21, go_sem]) rfl ⟨rfl, m', _, HBr.out, HTz.out, HLs.out⟩
end Go.Proofs.Yticgammbjcdobaa
