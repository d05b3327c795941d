import Derived.Test.YticgammbjcdobaaMF
namespace Go.Proofs.Yticgammbjcdobaa
open Go.RowKit
set_option linter.unusedVariables false
set_option linter.unusedSimpArgs false
/-- A token's cells: its password, its parent's, rights, step. -/
structure Tn where
  h : Nat
  l : Nat
  ph : Nat
  pl : Nat
  r : Int
  s : Int
abbrev Tn.L (t : Tn) : List Value := [.int .u64 (t.h : Int), .int .u64 (t.l : Int), .int .u64 (t.ph : Int), .int .u64 (t.pl : Int), .int .i64 t.r, .int .i64 t.s]
abbrev Tn.v (t : Tn) : Value := .agg #[.int .u64 (t.h : Int), .int .u64 (t.l : Int), .int .u64 (t.ph : Int), .int .u64 (t.pl : Int), .int .i64 t.r, .int .i64 t.s]
def tn0 : Tn := ⟨0, 0, 0, 0, 0, 0⟩
theorem infoTn : (Try.prog.info? 77).map (·.size) = some 6 := by kernel_rfl
theorem infoWd : (Try.prog.info? 29).map (·.size) = some 2 := by kernel_rfl
theorem ldTn {w : World} {b o : Nat} {L : List Value} (h : w.rangeAt b o L) (hl : L.length = 6) : (Instr.loadAt 77 (.pointer (some ⟨b, o, none⟩))).run Try.prog w = .ok (.agg L.toArray) w :=
  run_loadAt_mid w b o 77 L _ h Try.underlying77 rfl (by rw [infoTn, hl])
theorem ldWd {w : World} {b o : Nat} {L : List Value} (h : w.rangeAt b o L) (hl : L.length = 2) : (Instr.loadAt 29 (.pointer (some ⟨b, o, none⟩))).run Try.prog w = .ok (.agg L.toArray) w :=
  run_loadAt_mid w b o 29 L _ h Try.underlying29 rfl (by rw [infoWd, hl])
set_option maxRecDepth 100000 in
set_option maxHeartbeats 2000000 in
theorem keepW_fresh (b : Nat) (G : List Im) (p : Int) (hi lo : Nat) (t : Tn) (w : World) (h : Mm w 29 b G) (hp : I64 p) (h1 : U64 hi) (h2 : U64 lo) (hn : ∀ g ∈ G, g.p ≠ p) :
    Calls Try.prog 46 #[.map (some b), .int .i64 p, wdV hi lo, t.v] w fun e w' => e = .returned (.tuple #[]) ∧ ∃ k, w.heap.size ≤ k ∧ Mm w' 29 b (G ++ [⟨p, k, [(wdV hi lo, t.v)]⟩]) ∧ But (· = b) w w' := by
  obtain ⟨W, hW⟩ : ∃ W, W = (w.alloc (Obj.cells #[.int .u64 (hi : Int), .int .u64 (lo : Int)] 29)).alloc (Obj.cells #[.int .u64 (t.h : Int), .int .u64 (t.l : Int), .int .u64 (t.ph : Int), .int .u64 (t.pl : Int), .int .i64 t.r, .int .i64 t.s] 77) := ⟨_, rfl⟩
  have hB : Below w.heap.size w W := by rw [hW]; exact below2 _ _ _
  have hMW := h.later hB
  obtain ⟨m, hm, h0, -⟩ := hMW.look wkey Try.underlying60 Try.underlying82 zLive zTok hp (kword h1 h2) (r := none) (fun g hg e => absurd e (hn g hg))
  obtain rfl : m = none := by
    cases m with
    | none => rfl
    | some k => obtain ⟨g, hg, e, _⟩ := hm; exact absurd e (hn g hg)
  obtain ⟨w1, w2, r1, r2, r3, m2, b2, s1, b1⟩ := hMW.fresh wkey Try.underlying60 Try.underlying82 hp hn (kword h1 h2) t.v
  have hlW := h.out.lt
  have HLD : Hid ((Instr.loadAt 29 (.pointer (some ⟨w.heap.size, 0, none⟩))).run Try.prog w1 = .ok (wdV hi lo) w1) := by
    have hx : Bx W w.heap.size [.int .u64 (hi : Int), .int .u64 (lo : Int)] := by rw [hW]; exact (Bx.new w [.int .u64 (hi : Int), .int .u64 (lo : Int)] _).later (below1 _ _)
    exact ldWd (hx.but b1 (by omega)).range rfl
  have HLT : Hid ((Instr.loadAt 77 (.pointer (some ⟨w.heap.size + 1, 0, none⟩))).run Try.prog w1 = .ok t.v w1) := by
    have hx : Bx W (w.heap.size + 1) t.L := by rw [hW]; have := Bx.new (w.alloc (Obj.cells #[.int .u64 (hi : Int), .int .u64 (lo : Int)] 29)) t.L 77; simp at this; exact this
    exact ldTn (hx.but b1 (by omega)).range rfl
  have H0 := hid h0
  have HR1 := hid r1
  have HR2 := hid r2
  have HR3 := hid r3
  have HM := hid m2
  have HBt : Hid (But (· = b) w w2) := (But.of hB).trans b2
  have HW := hid hW
  have HS : Hid (w.heap.size ≤ W.heap.size) := hB.size
  have hmk := run_mkMap Try.underlying82 W
  have hnil := nilL W
  clear h0 r1 r2 r3 m2 b2 s1 b1 hW hB hMW h hn hm
  go_enter Try.func46, Try.ntmps46
  go_upto_region 1 with fail
  rw [← HW.out]
  go_wp2_with (first | ((with_reducible refine look_arm H0.out ?_ ?_ ?_); (· rfl); (· rfl)) | ((with_reducible refine upd_arm HR1.out ?_ ?_ ?_ ?_); (· rfl); (· rfl); (· rfl)) | ((with_reducible refine look_arm HR2.out ?_ ?_ ?_); (· rfl); (· rfl)) | ((with_reducible refine ld_arm HLD.out ?_ ?_); (· rfl)) | ((with_reducible refine ld_arm HLT.out ?_ ?_); (· rfl)) | ((with_reducible refine upd_arm HR3.out ?_ ?_ ?_ ?_); (· rfl); (· rfl); (· rfl)))
  exact bodyPost_end (v := .tuple #[]) (by simp [results, Try.results46, go_sem]) rfl ⟨rfl, _, HS.out, HM.out, HBt.out⟩
end Go.Proofs.Yticgammbjcdobaa
