import Derived.Test.YticgammbjcdobaaNH
namespace Go.Proofs.Yticgammbjcdobaa
open Go.RowKit
set_option linter.unusedVariables false
set_option linter.unusedSimpArgs false
abbrev rpL (cd : Int) (c : Cp) (d : Sl) (nu : Int) : List Value := [.int .i64 cd, .int .i64 c.o, .int .u64 (c.h : Int), .int .u64 (c.l : Int), .slice d.a d.n d.c, .int .i64 nu]
abbrev rpV (cd : Int) (c : Cp) (d : Sl) (nu : Int) : Value := .agg #[.int .i64 cd, .int .i64 c.o, .int .u64 (c.h : Int), .int .u64 (c.l : Int), .slice d.a d.n d.c, .int .i64 nu]
/-- The book behind a token's issue. -/
abbrev Bm.iss (m : Bm) (k : Nat) (c : Cp) (ph pl : Nat) (r : Int) : Bm := { m with L := m.L ++ [⟨c.o, k, [(wdV c.h c.l, Tn.v ⟨c.h, c.l, ph, pl, r, m.n⟩)]⟩] }
set_option maxRecDepth 100000 in
set_option maxHeartbeats 4000000 in
theorem created_gen (m : Bm) (C : List Value) (by_ cd nu : Int) (c : Cp) (d : Sl) (w : World) (h : Bw w m) (hc : c.far) (hC : C.length = 13) (h1 : C[1]? = some (.int .i64 by_)) (hn : ∀ g ∈ m.L, g.p ≠ c.o) (Q : World → Prop)
    (ht : ∀ (U : World) (k : Nat), w.heap.size ≤ k → But (· = m.bl) w U → Bw U (m.iss k c c.h c.l 31) → Calls Try.prog 34 #[.pointer (some ⟨m.g, 0, none⟩), lkV 0 1 by_ by_ c, .pointer none] U fun e w' => e = .returned (.tuple #[]) ∧ Q w') :
    Calls Try.prog 18 #[.pointer (some ⟨m.g, 0, none⟩), .agg C.toArray, rpV cd c d nu] w fun e w' => e = .returned (.tuple #[]) ∧ Q w' := by
  obtain ⟨o, ch, cl⟩ := c
  obtain ⟨W, hW⟩ : ∃ W, W = (w.alloc (Obj.cells C.toArray 36)).alloc (Obj.cells #[.int .i64 cd, .int .i64 o, .int .u64 (ch : Int), .int .u64 (cl : Int), .slice d.a d.n d.c, .int .i64 nu] 39) := ⟨_, rfl⟩
  have hB : Below w.heap.size w W := by rw [hW]; exact below2 _ _ _
  have HX0 : Hid (Bx W w.heap.size C) := by rw [hW]; exact (Bx.new w C _).later (below1 _ _)
  have HX1 : Hid (Bx W (w.heap.size + 1) (rpL cd ⟨o, ch, cl⟩ d nu)) := by rw [hW]; have := Bx.new (w.alloc (Obj.cells C.toArray 36)) (rpL cd ⟨o, ch, cl⟩ d nu) 39; simp at this; exact this
  have y1 := HX1.out.cell 1 rfl
  have y2 := HX1.out.cell 2 rfl
  have y3 := HX1.out.cell 3 rfl
  have HI := hid (issue_new m ⟨o, ch, cl⟩ hc ch cl 31 W (h.later hB) hn)
  have hbl := h.lo m.bl (by simp [Bm.blks])
  have HH := hid h
  have HB := hid hB
  have HW := hid hW
  have HT := hid ht
  have H1 := hid h1
  clear h hB hW ht hn hc h1
  go_enter Try.func18, Try.ntmps18
  go_upto_region 1 with fail
  rw [← HW.out]
  go_upto_region 2 with (first | (go_at_call 33; refine HI.out.mono ?_; rintro x w1 ⟨rfl, k, hk, hw1, hb1⟩; have HK1 := hid hk; have HW1 := hid hw1; have HB1 := hid hb1; clear hk hw1 hb1))
  have HY := hid (HX1.out.but HB1.out (by omega))
  have HX := hid (HX0.out.but HB1.out (by omega))
  clear y1 y2 y3
  have y1 := HY.out.cell 1 rfl
  have y2 := HY.out.cell 2 rfl
  have y3 := HY.out.cell 3 rfl
  have x1 := HX.out.cell 1 H1.out
  have HTe := hid (HT.out w1 k (Nat.le_trans HB.out.size HK1.out) ((But.of HB.out).trans HB1.out) HW1.out)
  go_wp2_with (first | (go_at_call 34; refine HTe.out.mono ?_; rintro x w2 ⟨rfl, hq⟩; have HQ := hid hq; clear hq))
  exact bodyPost_end (v := .tuple #[]) (by simp [results, Try.results18, go_sem]) rfl ⟨rfl, HQ.out⟩
end Go.Proofs.Yticgammbjcdobaa
