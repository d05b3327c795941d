import Derived.Test.YticgammbjcdobaaNX
namespace Go.Proofs.Yticgammbjcdobaa
open Go.RowKit
set_option linter.unusedVariables false
set_option linter.unusedSimpArgs false
set_option maxRecDepth 100000 in
set_option maxHeartbeats 4000000 in
theorem note_spawn (m : Bm) (C : List Value) (nu : Int) (c : Cp) (d : Sl) (w : World) (h : Bw w m) (hC : C.length = 13) (h0 : C[0]? = some (.int .i64 9)) (hnn : 0 ≤ m.n ∧ m.n < 4611686018427387904) (Q : World → Prop)
    (ht : ∀ (U : World), w.heap.size ≤ U.heap.size → But (· = m.g) w U → Bw U { m with n := m.n + 1 } → Calls Try.prog 25 #[.pointer (some ⟨m.g, 0, none⟩), .agg C.toArray, rpV 0 c d nu] U fun e w' => e = .returned (.tuple #[]) ∧ Q w') :
    Calls Try.prog 7 #[.pointer (some ⟨m.g, 0, none⟩), .agg C.toArray, rpV 0 c d nu] w fun e w' => e = .returned (.tuple #[]) ∧ Q w' := by
  obtain ⟨o, ch, cl⟩ := c
  obtain ⟨W, hW⟩ : ∃ W, W = (w.alloc (Obj.cells C.toArray 36)).alloc (Obj.cells #[.int .i64 0, .int .i64 o, .int .u64 (ch : Int), .int .u64 (cl : Int), .slice d.a d.n d.c, .int .i64 nu] 39) := ⟨_, rfl⟩
  have hB : Below w.heap.size w W := by rw [hW]; exact below2 _ _ _
  have HX0 : Hid (Bx W w.heap.size C) := by rw [hW]; exact (Bx.new w C _).later (below1 _ _)
  have HX1 : Hid (Bx W (w.heap.size + 1) (rpL 0 ⟨o, ch, cl⟩ d nu)) := by rw [hW]; have := Bx.new (w.alloc (Obj.cells C.toArray 36)) (rpL 0 ⟨o, ch, cl⟩ d nu) 39; simp at this; exact this
  have hBW := h.later hB
  have q0 := hBW.bx.cell 0 rfl
  have q0f : W.frozen? ⟨m.g, 0, none⟩ = false := by have := (hBW.bx.there 0 (by simp)).2; rwa [Nat.zero_add] at this
  have ew : IntKind.i64.wrap (m.n + 1) = m.n + 1 := by rw [IntKind.wrap_i64]; omega
  have hgl := h.lo m.g (by simp [Bm.blks])
  have HBW := hid hBW
  have HB := hid hB
  have HW := hid hW
  have HT := hid ht
  have H0 := hid h0
  have HCn := hid hC
  clear hBW h hB hW ht h0 hC
  go_enter Try.func7, Try.ntmps7
  go_upto_region 1 with fail
  rw [← HW.out]
  go_upto_region 2 with fail
  obtain ⟨U, hU⟩ : ∃ U, U = W.setCell ⟨m.g, 0, none⟩ (.int .i64 (m.n + 1)) := ⟨_, rfl⟩
  rw [← hU]
  have HBu : Hid (But (· = m.g) W U) := by rw [hU]; exact (But.refl (· = m.g) W).setCell (p := ⟨m.g, 0, none⟩) rfl _
  have HBm : Hid (Bw U { m with n := m.n + 1 }) := by rw [hU]; exact HBW.out.step _
  have HY := hid (HX1.out.but HBu.out (by omega))
  have HX := hid (HX0.out.but HBu.out (by omega))
  clear q0 q0f hU
  have y0 := HY.out.cell 0 rfl
  have x0 := HX.out.cell 0 H0.out
  have HLC : Hid ((Instr.loadAt 36 (.pointer (some ⟨w.heap.size, 0, none⟩))).run Try.prog U = .ok (.agg C.toArray) U) := run_loadAt_mid U w.heap.size 0 36 C _ HX.out.range Try.underlying36 rfl (by rw [HCn.out]; kernel_rfl)
  have HLR : Hid ((Instr.loadAt 39 (.pointer (some ⟨w.heap.size + 1, 0, none⟩))).run Try.prog U = .ok (rpV 0 ⟨o, ch, cl⟩ d nu) U) := run_loadAt_mid U (w.heap.size + 1) 0 39 (rpL 0 ⟨o, ch, cl⟩ d nu) _ HY.out.range Try.underlying39 rfl (by kernel_rfl)
  have HCr := hid (HT.out U (Nat.le_trans HB.out.size HBu.out.size) ((But.of HB.out).trans HBu.out) HBm.out)
  go_wp2_with (first | ((with_reducible refine ld_arm HLC.out ?_ ?_); (· rfl)) | ((with_reducible refine ld_arm HLR.out ?_ ?_); (· rfl)) | (go_at_call 25; refine HCr.out.mono ?_; rintro x w2 ⟨rfl, hq⟩; have HQ := hid hq; clear hq))
  exact bodyPost_end (v := .tuple #[]) (by simp [results, Try.results7, go_sem]) rfl ⟨rfl, HQ.out⟩
set_option maxRecDepth 100000 in
set_option maxHeartbeats 2000000 in
theorem honest_no (m : Bm) (C : List Value) (op : Int) (gv : Bool) (w : World) (hC : C.length = 13) (h0 : C[0]? = some (.int .i64 op)) (h6 : C[6]? = some (.bool gv)) (hb : brB op gv = false) :
    Calls Try.prog 14 #[.pointer (some ⟨m.g, 0, none⟩), .agg C.toArray] w fun e w' => e = .returned (.bool true) ∧ Below w.heap.size w w' := by
  obtain ⟨W, hW⟩ : ∃ W, W = w.alloc (Obj.cells C.toArray 36) := ⟨_, rfl⟩
  have hB : Below w.heap.size w W := by rw [hW]; exact below1 _ _
  have hX : Bx W w.heap.size C := by rw [hW]; exact Bx.new w C _
  have HLC : Hid ((Instr.loadAt 36 (.pointer (some ⟨w.heap.size, 0, none⟩))).run Try.prog W = .ok (.agg C.toArray) W) := run_loadAt_mid W w.heap.size 0 36 C _ hX.range Try.underlying36 rfl (by rw [hC]; kernel_rfl)
  have HBr := hid (brings_any C op gv W h0 h6)
  rw [hb] at HBr
  have HB := hid hB
  have HW := hid hW
  clear hB hW hX h0 h6 hC hb
  go_enter Try.func14, Try.ntmps14
  go_upto_region 1 with fail
  rw [← HW.out]
  go_wp2_with (first | ((with_reducible refine ld_arm HLC.out ?_ ?_); (· rfl)) | (go_at_call 31; refine HBr.out.mono ?_; rintro x w2 ⟨rfl, hb2⟩; have HB2 := hid hb2; clear hb2))
  go_ret
  exact ⟨rfl, below_call HB.out HB2.out⟩
set_option maxRecDepth 100000 in
set_option maxHeartbeats 2000000 in
theorem honest_yes (m : Bm) (C : List Value) (op by_ : Int) (gv r : Bool) (c : Cp) (w : World) (hC : C.length = 13) (h0 : C[0]? = some (.int .i64 op)) (h1 : C[1]? = some (.int .i64 by_)) (h3 : C[3]? = some (.int .i64 c.o)) (h4 : C[4]? = some (.int .u64 (c.h : Int))) (h5 : C[5]? = some (.int .u64 (c.l : Int))) (h6 : C[6]? = some (.bool gv)) (hb : brB op gv = true)
    (ht : ∀ U, Below w.heap.size w U → Calls Try.prog 16 #[.pointer (some ⟨m.g, 0, none⟩), .int .i64 by_, capV c] U fun e w' => e = .returned (.bool r) ∧ Below U.heap.size U w') :
    Calls Try.prog 14 #[.pointer (some ⟨m.g, 0, none⟩), .agg C.toArray] w fun e w' => e = .returned (.bool r) ∧ Below w.heap.size w w' := by
  obtain ⟨W, hW⟩ : ∃ W, W = w.alloc (Obj.cells C.toArray 36) := ⟨_, rfl⟩
  have hB : Below w.heap.size w W := by rw [hW]; exact below1 _ _
  have hX : Bx W w.heap.size C := by rw [hW]; exact Bx.new w C _
  have HLC : Hid ((Instr.loadAt 36 (.pointer (some ⟨w.heap.size, 0, none⟩))).run Try.prog W = .ok (.agg C.toArray) W) := run_loadAt_mid W w.heap.size 0 36 C _ hX.range Try.underlying36 rfl (by rw [hC]; kernel_rfl)
  have HBr := hid (brings_any C op gv W h0 h6)
  rw [hb] at HBr
  have HX := hid hX
  have HB := hid hB
  have HW := hid hW
  have H1 := hid h1
  have H3 := hid h3
  have H4 := hid h4
  have H5 := hid h5
  have HT := hid ht
  clear hB hW hX h0 h6 hC hb h1 h3 h4 h5 ht
  go_enter Try.func14, Try.ntmps14
  go_upto_region 1 with fail
  rw [← HW.out]
  go_wp2_with (first | ((with_reducible refine ld_arm HLC.out ?_ ?_); (· rfl)) | (go_at_call 31; refine HBr.out.mono ?_; rintro x w2 ⟨rfl, hb2⟩; have HB2 := hid (below_call HB.out hb2); (have x1 := (HX.out.later hb2).cell 1 H1.out); (have x3 := (HX.out.later hb2).cell 3 H3.out); (have x4 := (HX.out.later hb2).cell 4 H4.out); (have x5 := (HX.out.later hb2).cell 5 H5.out); clear hb2) | (go_at_call 16; refine (HT.out _ HB2.out).mono ?_; rintro x w3 ⟨rfl, hb3⟩; have HB3 := hid (below_call HB2.out hb3); clear hb3))
  go_ret
  exact ⟨rfl, HB3.out⟩
end Go.Proofs.Yticgammbjcdobaa
