import Derived.Test.YtaffgoacbiedlaaTG
import Derived.Test.YtaffgoacbiedlaaQ1
namespace Go.Proofs.Ytaffgoacbiedlaa
open Go.RowKit
set_option linter.unusedVariables false
set_option linter.unusedSimpArgs false

set_option maxRecDepth 100000 in
set_option maxHeartbeats 4000000 in
theorem calls_law (L : List Value) (c : Cl) (w : World) (h : Cc w L c) (hgn : c.gifts.length ≤ 17592186044416) :
    Calls Try.prog 6 #[.agg L.toArray] w fun e w' => e = .returned (.bool true) ∧ Below w.heap.size w w' := by
  have X1 : Hid (Bx (w.alloc (Obj.cells L.toArray 41)) w.heap.size L) := Bx.new w L 41
  have HL := hid h.len
  have HLD1 := hid (ld41 X1.out.range h.len)
  have HC : Hid (Cc (w.alloc (Obj.cells L.toArray 41)) L c) := h.later (below1 _ _)
  have HB : Hid (Below w.heap.size w (w.alloc (Obj.cells L.toArray 41))) := below1 _ _
  have HG := hid hgn
  clear h hgn
  cases hf : fm c with
  | true =>
    go_enter Try.func6, Try.ntmps6
    go_upto_region 3 with (first | ((with_reducible refine ld_arm HLD2.out ?_ ?_); (· rfl)) | ((with_reducible refine ld_arm HLD1.out ?_ ?_); (· rfl)) | (go_at_call 15; refine (bytes_ok L c _ HC.out hf).mono ?_; rintro e w2 ⟨a2, n2, c2, rfl, hown2, hb2⟩; have HLD2 := hid (ld41 (X1.out.later hb2).range HL.out); have HC2 := hid (HC.out.later hb2); have HB2 := hid (below_call HB.out hb2); have HO2 := hid hown2; clear hown2 hb2) | (go_at_call 20; refine (rbytes_ok L c _ HC2.out hf).mono ?_; rintro e w3 ⟨a3, n3, c3, rfl, hown3, hb3⟩; have HB3 := hid (below_call HB2.out hb3); have HO3 := hid (And.intro (HO2.out.later hb3) hown3); clear hown3 hb3))
    go_wp2_with (first | (go_at_call 12; refine (known_any _).mono ?_; rintro e w4 ⟨rfl, hb4⟩; have cv1 := (HO3.out.1.later hb4).read.conv; have cv2 := (HO3.out.2.later hb4).read.conv; have HB4 := hid (below_call HB3.out hb4); clear hb4))
    go_ret
    exact ⟨rfl, HB4.out⟩
  | false =>
    go_enter Try.func6, Try.ntmps6
    go_upto_region 3 with (first | ((with_reducible refine ld_arm HLD2.out ?_ ?_); (· rfl)) | ((with_reducible refine ld_arm HLD1.out ?_ ?_); (· rfl)) | (go_at_call 15; refine (bytes_bad L c _ HC.out hf).mono ?_; rintro e w2 ⟨rfl, hb2⟩; have HLD2 := hid (ld41 (X1.out.later hb2).range HL.out); have HC2 := hid (HC.out.later hb2); have HB2 := hid (below_call HB.out hb2); clear hb2) | (go_at_call 20; refine (rbytes_bad L c _ HC2.out HG.out hf).mono ?_; rintro e w3 ⟨rfl, hb3⟩; have HB3 := hid (below_call HB2.out hb3); clear hb3))
    go_wp2_with (first | (go_at_call 12; refine (known_any _).mono ?_; rintro e w4 ⟨rfl, hb4⟩; have cv1 := conv_none w4; have HB4 := hid (below_call HB3.out hb4); clear hb4))
    go_ret
    exact ⟨rfl, HB4.out⟩
end Go.Proofs.Ytaffgoacbiedlaa
