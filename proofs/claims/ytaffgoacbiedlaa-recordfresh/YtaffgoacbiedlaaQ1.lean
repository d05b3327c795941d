import Derived.Test.YtaffgoacbiedlaaK4
import Derived.Test.YtaffgoacbiedlaaS2
import Derived.Test.YtaffgoacbiedlaaS4
import Derived.Test.YtaffgoacbiedlaaT1
namespace Go.Proofs.Ytaffgoacbiedlaa
open Go.RowKit
set_option linter.unusedVariables false
set_option linter.unusedSimpArgs false

abbrev lit41 : Array Value := #[.int .i64 0, .int .i64 0, .int .i64 0, .int .i64 0, .int .u64 0, .int .u64 0, .bool false, .int .i64 0, .int .i64 0, .int .i64 0, .slice none 0 0, .int .i64 0, .slice none 0 0]
abbrev lit30 : Array Value := #[.int .i64 0, .int .i64 0, .int .u64 0, .int .u64 0, .slice none 0 0, .int .i64 0]
/-- A call that came back is laid into a box of its own. -/
theorem lay41 (w : World) {L : List Value} (hl : L.length = 13) (h1 : ∀ v ∈ L, v.oneCell' = true) : ∃ w4, (storeCells ⟨w.heap.size, 0, none⟩ L).run Try.prog (w.alloc (Obj.cells #[.int .i64 0, .int .i64 0, .int .i64 0, .int .i64 0, .int .u64 0, .int .u64 0, .bool false, .int .i64 0, .int .i64 0, .int .i64 0, .slice none 0 0, .int .i64 0, .slice none 0 0] 41)) = .ok () w4 ∧ Bx w4 w.heap.size L ∧ Below w.heap.size w w4 := store_new w (Z := z41) (hl.trans rfl) h1
theorem lay30 (w : World) {L : List Value} (hl : L.length = 6) (h1 : ∀ v ∈ L, v.oneCell' = true) : ∃ w4, (storeCells ⟨w.heap.size, 0, none⟩ L).run Try.prog (w.alloc (Obj.cells #[.int .i64 0, .int .i64 0, .int .u64 0, .int .u64 0, .slice none 0 0, .int .i64 0] 30)) = .ok () w4 ∧ Bx w4 w.heap.size L ∧ Below w.heap.size w w4 := store_new w (Z := z30) (hl.trans rfl) h1
theorem row_lit (w : World) (l : List Nat) (hs : ∀ x ∈ l, x < 256) : Row (w.alloc (Obj.cells (u8s l).toArray 5)) (some ⟨w.heap.size, 0, none⟩) l.length l.length l :=
  Row.at rfl (Nat.le_refl _) hs (fun i hi => by simp [go_sem, u8s, hi])
def ex1 : Cl := ⟨1, 3, -1, 0, 0, 0, false, 0, 0, 0, [], 0, []⟩
theorem ex1_fm : fm ex1 = true := by kernel_rfl
theorem ex1_ly : ly ex1 = [1, 3, 0, 255, 255, 255, 255] := by kernel_rfl
theorem ex2_ps : psC [10, 0, 0] = some (clz 10 0) := by kernel_rfl
theorem ex3_fm : rfm 0 (rpz 1) = true := by kernel_rfl
theorem ex3_ly : rly 0 (rpz 1) = [1, 0] := by kernel_rfl
theorem ex4_ps : psR 9 [0, 0, 5, 0] = some ⟨0, 0, 0, 0, [], 5⟩ := by kernel_rfl
theorem str1 : strB [1, 3, 0, 255, 255, 255, 255] = { data := #[1, 3, 0, 255, 255, 255, 255] } := by kernel_rfl
theorem str3 : strB [1, 0] = { data := #[1, 0] } := by kernel_rfl
set_option maxRecDepth 100000 in
set_option maxHeartbeats 4000000 in
theorem known_any (w : World) : Calls Try.prog 12 #[] w fun e w' => e = .returned (.bool true) ∧ Below w.heap.size w w' := by
  have C1 : Hid (Cc w (cC ex1 Sl.nil Sl.nil) ex1) := ⟨Sl.nil, Sl.nil, rfl, row_nil _, RI.nil _, by simp [ex1], by simp [ex1]⟩
  go_enter Try.func12, Try.ntmps12
  go_upto_region 2 with (first | (go_at_call 15; refine (bytes_ok (cC ex1 Sl.nil Sl.nil) ex1 _ C1.out ex1_fm).mono ?_; rintro e w1 ⟨a1, n1, c1, rfl, hown1, hb1⟩))
  rw [ex1_ly] at hown1
  have HO1 := hid hown1
  have HB1 := hid hb1
  have r2 : Row (w1.alloc (Obj.cells #[Value.int .u8 10, Value.int .u8 0, Value.int .u8 0] 5)) (some ⟨w1.heap.size, 0, none⟩) 3 3 [10, 0, 0] := row_lit w1 [10, 0, 0] (by decide)
  have H2 := hid (parse_some _ _ _ [10, 0, 0] _ r2 (by omega) ex2_ps)
  clear r2
  clear hown1 hb1
  go_upto_region 3 with (first | (go_at_call 16; refine H2.out.mono ?_; rintro e w2 ⟨L2, rfl, hco2, hb2⟩; have hl2 := hco2.len; obtain ⟨w3, hst, hx3, hb3⟩ := lay41 w2 hl2 hco2.one; have HX3 := hid hx3; have HB3 := hid (below_call (below_call (below_call HB1.out (below1 _ _)) hb2) hb3); have HO3 := hid (((HO1.out.alloc _).later hb2).later hb3); have hc3 := hx3.cell 0 hco2.cc.op; clear hco2 hx3 hb2 hb3))
  have C3 : Hid (Rr w3 (rC (rpz 1) Sl.nil) (rpz 1)) := ⟨Sl.nil, rfl, row_nil _, by simp [rpz], by simp [rpz]⟩
  go_upto_region 4 with (first | (go_at_call 10; refine (answer_ok 0 (rC (rpz 1) Sl.nil) (rpz 1) _ C3.out ex3_fm).mono ?_; rintro e w4 ⟨a4, n4, c4, rfl, hown4, hb4⟩))
  rw [ex3_ly] at hown4
  have HO4 := hid (And.intro hown4 (HO3.out.later hb4))
  have HX4 := hid (HX3.out.later hb4)
  have HB4 := hid (below_call HB3.out hb4)
  have HC4 := hid (cell_later hb4 hc3)
  have r4 : Row (w4.alloc (Obj.cells #[Value.int .u8 0, Value.int .u8 0, Value.int .u8 5, Value.int .u8 0] 5)) (some ⟨w4.heap.size, 0, none⟩) 4 4 [0, 0, 5, 0] := row_lit w4 [0, 0, 5, 0] (by decide)
  have H5 := hid (panswer_some 9 _ _ _ [0, 0, 5, 0] _ r4 (by omega) ex4_ps)
  clear r4
  clear hown4 hb4 hst hc3
  go_upto_region 5 with (first | (go_at_call 11; refine H5.out.mono ?_; rintro e w5 ⟨L5, rfl, hro5, hb5⟩; have hl5 := hro5.len; obtain ⟨w6, hst6, hx6, hb6⟩ := lay30 w5 hl5 hro5.one; have HB6 := hid (below_call (below_call (below_call HB4.out (below1 _ _)) hb5) hb6); have HO6 := hid (And.intro (((HO4.out.1.alloc _).later hb5).later hb6) (((HO4.out.2.alloc _).later hb5).later hb6)); have hc6 := cell_later hb6 (cell_later hb5 (cell_later (below1 _ (Obj.cells #[Value.int .u8 0, Value.int .u8 0, Value.int .u8 5, Value.int .u8 0] 5)) HC4.out)); have h5 : L5[5]? = some (.int .i64 5) := (by obtain ⟨d, rfl, _⟩ := hro5.ex; rfl); have hc5 := hx6.cell 5 h5; clear hro5 hx6 hb5 hb6 h5))
  have cv1 := HO6.out.2.read.conv
  have cv2 := HO6.out.1.read.conv
  rw [str1] at cv1
  rw [str3] at cv2
  simp only [clz] at hc6
  go_wp2
  go_ret
  exact ⟨rfl, HB6.out⟩
end Go.Proofs.Ytaffgoacbiedlaa
