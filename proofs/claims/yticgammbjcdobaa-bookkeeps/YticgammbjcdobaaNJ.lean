import Derived.Test.YticgammbjcdobaaNI
namespace Go.Proofs.Yticgammbjcdobaa
open Go.RowKit
set_option linter.unusedVariables false
set_option linter.unusedSimpArgs false
theorem g_ne {m : Bm} (hd : m.blks.Nodup) : (∀ i ∈ m.bl :: m.L.map Im.b, i ≠ m.g) ∧ (∀ i ∈ m.bt :: m.T.map Im.b, i ≠ m.g) ∧ m.bi ≠ m.g ∧ m.bk ≠ m.g ∧ ∀ i ∈ m.ba :: m.A.map Im.b, i ≠ m.g := by
  have h1 := List.nodup_append.1 hd
  have h2 := List.nodup_append.1 h1.2.1
  have h3 := List.nodup_cons.1 h2.2.1
  refine ⟨fun i hi e => h1.2.2 i hi m.g (by simp) e, fun i hi e => h2.2.2 i hi m.g (by simp) e, fun e => h3.1 (by rw [← e]; simp), fun e => h3.1 (by rw [← e]; simp), fun i hi e => h3.1 (by rw [← e]; exact List.mem_cons_of_mem _ (List.mem_cons_of_mem _ hi))⟩
theorem Bw.step {w : World} {m : Bm} (h : Bw w m) (n : Int) : Bw (w.setCell ⟨m.g, 0, none⟩ (.int .i64 n)) { m with n := n } := by
  have hb : But (· = m.g) w (w.setCell ⟨m.g, 0, none⟩ (.int .i64 n)) := (But.refl (· = m.g) w).setCell (p := ⟨m.g, 0, none⟩) rfl _
  obtain ⟨n1, n2, n3, n4, n5⟩ := g_ne h.dis
  exact ⟨h.bx.set1 0 _ (by simp), h.live.but hb n1, h.laid.but hb n5, h.told.but hb n2, h.lists.but hb n3 (fun j hj e => by omega), h.known.but hb n4 (fun j hj e => by omega), h.dis, fun j hj => Nat.lt_of_lt_of_le (h.lo j hj) hb.size, h.ap⟩
set_option maxRecDepth 100000 in
set_option maxHeartbeats 4000000 in
theorem note_create (m : Bm) (C : List Value) (by_ nu : Int) (c : Cp) (d : Sl) (w : World) (h : Bw w m) (hc : c.far) (hC : C.length = 13) (h0 : C[0]? = some (.int .i64 1)) (h1 : C[1]? = some (.int .i64 by_)) (hn : ∀ g ∈ m.L, g.p ≠ c.o) (hnn : 0 ≤ m.n ∧ m.n < 1000000) (Q : World → Prop)
    (ht : ∀ (V U : World) (k : Nat), w.heap.size ≤ k → But (· = m.g) w V → But (· = m.bl) V U → Bw U (Bm.iss { m with n := m.n + 1 } k c c.h c.l 31) → Calls Try.prog 34 #[.pointer (some ⟨m.g, 0, none⟩), lkV 0 1 by_ by_ c, .pointer none] U fun e w' => e = .returned (.tuple #[]) ∧ Q w') :
    Calls Try.prog 7 #[.pointer (some ⟨m.g, 0, none⟩), .agg C.toArray, rpV 0 c d nu] w fun e w' => e = .returned (.tuple #[]) ∧ Q w' := by
  obtain ⟨o, ch, cl⟩ := c
  obtain ⟨W, hW⟩ : ∃ W, W = (w.alloc (Obj.cells C.toArray 36)).alloc (Obj.cells #[.int .i64 0, .int .i64 o, .int .u64 (ch : Int), .int .u64 (cl : Int), .slice d.a d.n d.c, .int .i64 nu] 39) := ⟨_, rfl⟩
  have hB : Below w.heap.size w W := by rw [hW]; exact below2 _ _ _
  have HX0 : Hid (Bx W w.heap.size C) := by rw [hW]; exact (Bx.new w C _).later (below1 _ _)
  have HX1 : Hid (Bx W (w.heap.size + 1) (rpL 0 ⟨o, ch, cl⟩ d nu)) := by rw [hW]; have := Bx.new (w.alloc (Obj.cells C.toArray 36)) (rpL 0 ⟨o, ch, cl⟩ d nu) 39; simp at this; exact this
  have hBW := h.later hB
  have q0 := hBW.bx.cell 0 rfl
  have q0f : W.frozen? ⟨m.g, 0, none⟩ = false := by have := (hBW.bx.there 0 (by simp)).2; rwa [Nat.zero_add] at this
  have ew : IntKind.i64.wrap (m.n + 1) = m.n + 1 := by rw [IntKind.wrap_i64]; omega
  have hgl := h.lo m.g (by simp [Bm.blks])
  have HBW := hid hBW
  have HB := hid hB
  have HW := hid hW
  have HT := hid ht
  have H0 := hid h0
  have H1 := hid h1
  have HCn := hid hC
  have HN := hid hn
  have HC := hid hc
  clear hBW h hB hW ht hn hc h0 h1 hC
  go_enter Try.func7, Try.ntmps7
  go_upto_region 1 with fail
  rw [← HW.out]
  go_upto_region 2 with fail
  obtain ⟨U, hU⟩ : ∃ U, U = W.setCell ⟨m.g, 0, none⟩ (.int .i64 (m.n + 1)) := ⟨_, rfl⟩
  rw [← hU]
  have HBu : Hid (But (· = m.g) W U) := by rw [hU]; exact (But.refl (· = m.g) W).setCell (p := ⟨m.g, 0, none⟩) rfl _
  have HBm : Hid (Bw U { m with n := m.n + 1 }) := by rw [hU]; exact HBW.out.step _
  have HY := hid (HX1.out.but HBu.out (by omega))
  have HX := hid (HX0.out.but HBu.out (by omega))
  clear q0 q0f hU
  have y0 := HY.out.cell 0 rfl
  have x0 := HX.out.cell 0 H0.out
  have HLC : Hid ((Instr.loadAt 36 (.pointer (some ⟨w.heap.size, 0, none⟩))).run Try.prog U = .ok (.agg C.toArray) U) := run_loadAt_mid U w.heap.size 0 36 C _ HX.out.range Try.underlying36 rfl (by rw [HCn.out]; kernel_rfl)
  have HLR : Hid ((Instr.loadAt 39 (.pointer (some ⟨w.heap.size + 1, 0, none⟩))).run Try.prog U = .ok (rpV 0 ⟨o, ch, cl⟩ d nu) U) := run_loadAt_mid U (w.heap.size + 1) 0 39 (rpL 0 ⟨o, ch, cl⟩ d nu) _ HY.out.range Try.underlying39 rfl (by kernel_rfl)
  have HCr := hid (created_gen { m with n := m.n + 1 } C by_ 0 nu ⟨o, ch, cl⟩ d U HBm.out HC.out HCn.out H1.out HN.out Q (fun U' k hk hb hbw => HT.out U U' k (Nat.le_trans (Nat.le_trans HB.out.size HBu.out.size) hk) ((But.of HB.out).trans HBu.out) hb hbw))
  go_wp2_with (first | ((with_reducible refine ld_arm HLC.out ?_ ?_); (· rfl)) | ((with_reducible refine ld_arm HLR.out ?_ ?_); (· rfl)) | (go_at_call 18; refine HCr.out.mono ?_; rintro x w2 ⟨rfl, hq⟩; have HQ := hid hq; clear hq))
  exact bodyPost_end (v := .tuple #[]) (by simp [results, Try.results7, go_sem]) rfl ⟨rfl, HQ.out⟩
end Go.Proofs.Yticgammbjcdobaa
