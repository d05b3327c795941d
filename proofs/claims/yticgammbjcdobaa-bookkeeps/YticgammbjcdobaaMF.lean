import Derived.Test.YticgammbjcdobaaME
namespace Go.Proofs.Yticgammbjcdobaa
open Go.RowKit
set_option linter.unusedVariables false
set_option linter.unusedSimpArgs false
theorem zTold (w : World) : (zeroValue 109).run Try.prog w = .ok (.map none) w := by kernel_rfl
theorem zPtr (w : World) : (zeroValue 70).run Try.prog w = .ok (.pointer none) w := by kernel_rfl
theorem nilT (w : World) : (binOp .eql 109 (.map none) (.map none)).run Try.prog w = .ok (.bool true) w := by kernel_rfl
theorem nilT' (b : Nat) (w : World) : (binOp .eql 109 (.map (some b)) (.map none)).run Try.prog w = .ok (.bool false) w := by kernel_rfl
theorem nilL (w : World) : (binOp .eql 82 (.map none) (.map none)).run Try.prog w = .ok (.bool true) w := by kernel_rfl
theorem nilL' (b : Nat) (w : World) : (binOp .eql 82 (.map (some b)) (.map none)).run Try.prog w = .ok (.bool false) w := by kernel_rfl
theorem zLive (w : World) : (zeroValue 82).run Try.prog w = .ok (.map none) w := by kernel_rfl
abbrev tk0 : Value := .agg #[.int .u64 0, .int .u64 0, .int .u64 0, .int .u64 0, .int .i64 0, .int .i64 0]
theorem zTok (w : World) : (zeroValue 77).run Try.prog w = .ok tk0 w := by kernel_rfl
set_option maxRecDepth 100000 in
set_option maxHeartbeats 2000000 in
theorem lookF_any (b : Nat) (G : List Im) (p : Int) (F : List Nat) (r : Option Value) (w : World) (h : Mm w 95 b G) (hp : I64 p) (hl : F.length = 24) (hs : ∀ x ∈ F, x < 256) (hr : Gt G p (fmV F) r) :
    Calls Try.prog 40 #[.map (some b), .int .i64 p, fmV F] w fun e w' => e = .returned (.tuple #[r.getD (.pointer none), .bool r.isSome]) ∧ Below w.heap.size w w' := by
  obtain ⟨W, hW⟩ : ∃ W, W = w.alloc (Obj.cells (u8s F).toArray 95) := ⟨_, rfl⟩
  have hB : Below w.heap.size w W := by rw [hW]; exact below1 _ _
  have HLD : Hid ((Instr.loadAt 95 (.pointer (some ⟨w.heap.size, 0, none⟩))).run Try.prog W = .ok (fmV F) W) := by rw [hW]; exact ldFm (rangeAt_new w (u8s F) _) (by rw [u8s_length]; exact hl)
  obtain ⟨m, -, h1, h2⟩ := (h.later hB).look fkey Try.underlying63 Try.underlying109 zTold zPtr hp (kform hl hs) hr
  have H1 := hid h1
  have H2 := hid h2
  have HW := hid hW
  have HB := hid hB
  clear h1 h2 hW hB h hr
  go_enter Try.func40, Try.ntmps40
  go_upto_region 1 with fail
  rw [← HW.out]
  go_wp2_with (first | ((with_reducible refine look_arm H1.out ?_ ?_ ?_); (· rfl); (· rfl)) | ((with_reducible refine look_arm H2.out ?_ ?_ ?_); (· rfl); (· rfl)) | ((with_reducible refine ld_arm HLD.out ?_ ?_); (· rfl)))
  exact bodyPost_ret (v := .tuple #[r.getD (.pointer none), .bool r.isSome]) (by simp [results, Try.results40, go_sem]) rfl ⟨rfl, HB.out⟩
set_option maxRecDepth 100000 in
set_option maxHeartbeats 2000000 in
theorem keepF_fresh (b : Nat) (G : List Im) (p : Int) (F : List Nat) (v : Option Addr) (w : World) (h : Mm w 95 b G) (hp : I64 p) (hl : F.length = 24) (hs : ∀ x ∈ F, x < 256) (hn : ∀ g ∈ G, g.p ≠ p) :
    Calls Try.prog 47 #[.map (some b), .int .i64 p, fmV F, .pointer v] w fun e w' => e = .returned (.tuple #[]) ∧ ∃ k, w.heap.size ≤ k ∧ Mm w' 95 b (G ++ [⟨p, k, [(fmV F, .pointer v)]⟩]) ∧ But (· = b) w w' := by
  obtain ⟨W, hW⟩ : ∃ W, W = w.alloc (Obj.cells (u8s F).toArray 95) := ⟨_, rfl⟩
  have hB : Below w.heap.size w W := by rw [hW]; exact below1 _ _
  have hMW := h.later hB
  obtain ⟨m, hm, h0, -⟩ := hMW.look fkey Try.underlying63 Try.underlying109 zTold zPtr hp (kform hl hs) (r := none) (fun g hg e => absurd e (hn g hg))
  obtain rfl : m = none := by
    cases m with
    | none => rfl
    | some k => obtain ⟨g, hg, e, _⟩ := hm; exact absurd e (hn g hg)
  obtain ⟨w1, w2, r1, r2, r3, m2, b2, s1, b1⟩ := hMW.fresh fkey Try.underlying63 Try.underlying109 hp hn (kform hl hs) (.pointer v)
  have hlW := h.out.lt
  have HLD : Hid ((Instr.loadAt 95 (.pointer (some ⟨w.heap.size, 0, none⟩))).run Try.prog w1 = .ok (fmV F) w1) := by
    have hx : Bx W w.heap.size (u8s F) := by rw [hW]; exact Bx.new w (u8s F) _
    exact ldFm (hx.but b1 (by omega)).range (by rw [u8s_length]; exact hl)
  have H0 := hid h0
  have HR1 := hid r1
  have HR2 := hid r2
  have HR3 := hid r3
  have HM := hid m2
  have HBt : Hid (But (· = b) w w2) := (But.of hB).trans b2
  have HW := hid hW
  have HS : Hid (w.heap.size ≤ W.heap.size) := hB.size
  have hmk := run_mkMap Try.underlying109 W
  have hnil := nilT W
  clear h0 r1 r2 r3 m2 b2 s1 b1 hW hB hMW h hn hm
  go_enter Try.func47, Try.ntmps47
  go_upto_region 1 with fail
  rw [← HW.out]
  go_wp2_with (first | ((with_reducible refine look_arm H0.out ?_ ?_ ?_); (· rfl); (· rfl)) | ((with_reducible refine upd_arm HR1.out ?_ ?_ ?_ ?_); (· rfl); (· rfl); (· rfl)) | ((with_reducible refine look_arm HR2.out ?_ ?_ ?_); (· rfl); (· rfl)) | ((with_reducible refine ld_arm HLD.out ?_ ?_); (· rfl)) | ((with_reducible refine upd_arm HR3.out ?_ ?_ ?_ ?_); (· rfl); (· rfl); (· rfl)))
  exact bodyPost_end (v := .tuple #[]) (by simp [results, Try.results47, go_sem]) rfl ⟨rfl, _, HS.out, HM.out, HBt.out⟩
set_option maxRecDepth 100000 in
set_option maxHeartbeats 2000000 in
theorem keepF_more (b : Nat) (G G1 G2 : List Im) (g : Im) (F : List Nat) (v : Option Addr) (w : World) (h : Mm w 95 b G) (hG : G = G1 ++ g :: G2) (hl : F.length = 24) (hs : ∀ x ∈ F, x < 256) (hn : ∀ x ∈ g.E, x.1 ≠ fmV F) :
    Calls Try.prog 47 #[.map (some b), .int .i64 g.p, fmV F, .pointer v] w fun e w' => e = .returned (.tuple #[]) ∧ Mm w' 95 b (G1 ++ ⟨g.p, g.b, g.E ++ [(fmV F, .pointer v)]⟩ :: G2) ∧ But (· = g.b) w w' := by
  obtain ⟨W, hW⟩ : ∃ W, W = w.alloc (Obj.cells (u8s F).toArray 95) := ⟨_, rfl⟩
  have hB : Below w.heap.size w W := by rw [hW]; exact below1 _ _
  obtain ⟨w2, r1, r2, m2, b2⟩ := (h.later hB).more fkey Try.underlying63 Try.underlying109 hG (kform hl hs) hn (.pointer v)
  have HLD : Hid ((Instr.loadAt 95 (.pointer (some ⟨w.heap.size, 0, none⟩))).run Try.prog W = .ok (fmV F) W) := by rw [hW]; exact ldFm (rangeAt_new w (u8s F) _) (by rw [u8s_length]; exact hl)
  have HR1 := hid r1
  have HR2 := hid r2
  have HM := hid m2
  have HBt : Hid (But (· = g.b) w w2) := (But.of hB).trans b2
  have HW := hid hW
  obtain ⟨gp, gb, gE⟩ := g
  simp only at HR1 HR2 HM HBt ⊢
  have hnil := nilT' gb W
  clear r1 r2 m2 b2 hW hB h hn hG
  go_enter Try.func47, Try.ntmps47
  go_upto_region 1 with fail
  rw [← HW.out]
  go_wp2_with (first | ((with_reducible refine look_arm HR1.out ?_ ?_ ?_); (· rfl); (· rfl)) | ((with_reducible refine ld_arm HLD.out ?_ ?_); (· rfl)) | ((with_reducible refine upd_arm HR2.out ?_ ?_ ?_ ?_); (· rfl); (· rfl); (· rfl)))
  exact bodyPost_end (v := .tuple #[]) (by simp [results, Try.results47, go_sem]) rfl ⟨rfl, HM.out, HBt.out⟩
end Go.Proofs.Yticgammbjcdobaa
