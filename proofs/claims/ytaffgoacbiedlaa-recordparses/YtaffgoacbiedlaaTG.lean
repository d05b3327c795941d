import Derived.Test.YtaffgoacbiedlaaTA
import Derived.Test.YtaffgoacbiedlaaTB
import Derived.Test.YtaffgoacbiedlaaTC
import Derived.Test.YtaffgoacbiedlaaTD
import Derived.Test.YtaffgoacbiedlaaTE
import Derived.Test.YtaffgoacbiedlaaTF
namespace Go.Proofs.Ytaffgoacbiedlaa
open Go.RowKit

theorem rbytes_ok (L : List Value) (c : Cl) (w : World) (h : Cc w L c) (hf : fm c = true) :
    Calls Try.prog 20 #[.agg L.toArray] w fun e w' => ∃ a n' c', e = .returned (.tuple #[.slice a n' c', .int .i64 0]) ∧ Own w' w.heap.size a n' c' (ly c) ∧ Below w.heap.size w w' := by
  have h0 := hf
  simp only [fm, Bool.and_eq_true] at h0
  have hop := wi_iff.1 h0.1.1.1
  have hin := h0.1.1.2
  simp only [inB, Bool.and_eq_true] at hin
  have hby := wi_iff.1 hin.1.1.1.1.1.1.1.1
  have hob := wi_iff.1 hin.1.1.1.1.2
  have hri := wi_iff.1 hin.1.1.1.2
  have hix := wi_iff.1 hin.1.1.2
  clear h0 hin
  obtain ⟨op, by_, size, obj, hi, lo, given, rights, off, n, data, index, gifts⟩ := c
  simp only at hop hby hob hri hix
  obtain ⟨b, rfl⟩ : ∃ b : Nat, by_ = (b : Int) := ⟨by_.toNat, by omega⟩
  obtain ⟨o, rfl⟩ : ∃ o : Nat, obj = (o : Int) := ⟨obj.toNat, by omega⟩
  obtain ⟨r, rfl⟩ : ∃ r : Nat, rights = (r : Int) := ⟨rights.toNat, by omega⟩
  obtain ⟨x, rfl⟩ : ∃ x : Nat, index = (x : Int) := ⟨index.toNat, by omega⟩
  rcases (by omega : op = 1 ∨ op = 2 ∨ op = 3 ∨ op = 4 ∨ op = 5 ∨ op = 6 ∨ op = 7 ∨ op = 8 ∨ op = 9 ∨ op = 10) with rfl | rfl | rfl | rfl | rfl | rfl | rfl | rfl | rfl | rfl
  · exact rbytes1 b size o hi lo given r off n data x gifts L w h hf
  · exact rbytes2 b size o hi lo given r off n data x gifts L w h hf
  · exact rbytes3 b size o hi lo given r off n data x gifts L w h hf
  · exact rbytes4 b size o hi lo given r off n data x gifts L w h hf
  · cases given with
    | true => exact rbytes5t b size o hi lo true r off n data x gifts L w h hf
    | false => exact rbytes5f b size o hi lo false r off n data x gifts L w h hf
  · cases given with
    | true => exact rbytes6t b size o hi lo true r off n data x gifts L w h hf
    | false => exact rbytes6f b size o hi lo false r off n data x gifts L w h hf
  · exact rbytes7 b size o hi lo given r off n data x gifts L w h hf
  · exact rbytes8 b size o hi lo given r off n data x gifts L w h hf
  · exact rbytes9 b size o hi lo given r off n data x gifts L w h hf
  · exact rbytes10 b size o hi lo given r off n data x gifts L w h hf
end Go.Proofs.Ytaffgoacbiedlaa
