import Derived.Test.YtaffgoacbiedlaaY2
import Derived.Test.YtaffgoacbiedlaaX3
namespace Go.Proofs.Ytaffgoacbiedlaa
open Go.RowKit
set_option linter.unusedVariables false
set_option linter.unusedSimpArgs false

/-- Where a list of bytes goes on behind i of them. -/
def cutY (a : Option Addr) (c i : Nat) : Option Addr := if c = i then a else a.map (·.add i)
theorem slice_lY (w : World) (a : Option Addr) (n c i : Nat) (h : i ≤ n) (hn : n ≤ c) : (Instr.sliceAt 28 (.slice a n c) (some (.int .i64 (i : Int))) none none).run Try.prog w = .ok (.slice (cutY a c i) (n - i) (c - i)) w := by
  rw [run_sliceAt_slice _ _ _ _ _ _ und28q, run_slice_l _ _ _ _ _ und28q _ _ (by omega) (by omega), el28q, sz5q]
  simp [sliced, cutY]
theorem Row.dropY {w : World} {a : Option Addr} {n cap : Nat} {L : List Nat} (h : Row w a n cap L) (i : Nat) (hi : i ≤ n) : Row w (cutY a cap i) (n - i) (cap - i) (L.drop i) := by
  have hl := h.len
  have hc := h.cap_
  refine ⟨by rw [List.length_drop, hl], by omega, fun e => ?_, fun x hx j u hu => ?_, fun x hx => h.small x (List.mem_of_mem_drop hx)⟩
  · unfold cutY at e
    split at e
    · omega
    · cases a with
      | none => have := h.none_ rfl; omega
      | some y => cases e
  · have hj : j < n - i := by
      have := (List.getElem?_eq_some_iff.1 hu).1
      simp [u8s, hl] at this
      omega
    unfold cutY at hx
    rw [if_neg (by omega)] at hx
    cases a with
    | none => cases hx
    | some y =>
      cases hx
      have := h.cells y rfl (i + j) u (by simpa [u8s, List.map_drop] using hu)
      rw [← this]
      by_cases h1 : i = 0 <;> by_cases h2 : j = 0 <;> simp [Addr.add, h1, h2, Nat.add_assoc]
theorem spoil_index {o : Cl} (h : fm o = true) (h8 : o.op ≠ 8) : fm { o with index := 1 } = false := by
  have h1 := fm_op h
  obtain ⟨op, by_, size, obj, hi, lo, given, rights, off, n, data, index, gifts⟩ := o
  simp only at h1 h8
  rcases (by omega : op = 1 ∨ op = 2 ∨ op = 3 ∨ op = 4 ∨ op = 5 ∨ op = 6 ∨ op = 7 ∨ op = 9 ∨ op = 10) with e | e | e | e | e | e | e | e | e <;> subst e <;> simp [fm, unu, partsL, wo, mv, clz, blB]
theorem spoil_rights {o : Cl} (h8 : o.op = 8) : fm { o with rights := 1 } = false := by
  obtain ⟨op, by_, size, obj, hi, lo, given, rights, off, n, data, index, gifts⟩ := o
  simp only at h8
  subst h8
  simp [fm, unu, partsL, wo, mv, clz, blB]
theorem Cc.index {w : World} {M : List Value} {o : Cl} (h : Cc w M o) (v : Int) : Cc w (M.set 11 (.int .i64 v)) { o with index := v } := by
  obtain ⟨d, g, rfl, hi⟩ := h.ex
  exact ⟨d, g, rfl, hi.data, hi.gifts, hi.hi, hi.lo⟩
theorem Cc.rights {w : World} {M : List Value} {o : Cl} (h : Cc w M o) (v : Int) : Cc w (M.set 7 (.int .i64 v)) { o with rights := v } := by
  obtain ⟨d, g, rfl, hi⟩ := h.ex
  exact ⟨d, g, rfl, hi.data, hi.gifts, hi.hi, hi.lo⟩
theorem Own.one1 (w : World) (b : Nat) (hb : b < 256) : Own (w.alloc (Obj.cells #[.int .u8 (b : Int)] 5)) w.heap.size (some ⟨w.heap.size, 0, none⟩) 1 1 [b] :=
  ⟨⟨rfl, .inr ⟨_, _, _, rfl, Nat.le_refl _, heap_alloc_new w _, Nat.le_refl _, by unfold maxLen; omega, rfl, rfl⟩⟩, fun _ h => by cases h with | head => exact hb | tail _ h => cases h⟩
theorem ly_parts {o : Cl} (h : fm o = true) : ∃ b0 b1 b2 T, ly o = b0 :: b1 :: b2 :: T ∧ (b0 : Int) = o.op ∧ (b1 : Int) + 256 * (b2 : Int) = o.by_ ∧ b0 < 256 ∧ b1 < 256 ∧ b2 < 256 := by
  have h1 := fm_op h
  have h2 := fm_inB h
  simp only [inB, Bool.and_eq_true] at h2
  have h3 := wi_iff.1 h2.1.1.1.1.1.1.1.1
  refine ⟨o.op.toNat % 256, o.by_.toNat % 256, o.by_.toNat / 256 % 256, layA o (partsL o.op), ?_, ?_, ?_, ?_, ?_, ?_⟩
  · unfold ly
    simp [leL, List.range_succ]
  all_goals omega
theorem lenC_le {o : Cl} (h : fm o = true) : lenC o ≤ 100000 := by
  have := fm_data h
  have := fm_gifts h
  unfold lenC
  repeat' split
  all_goals omega
theorem take6 {o : Cl} (h6 : o.op = 6) (h : fm o = true) (h1 : o.hi < 18446744073709551616) (h2 : o.lo < 18446744073709551616) (k : Nat) (hk : 32 ≤ k) : psC ((ly o).take k) = some { o with data := o.data.take (k - 32) } := by
  obtain ⟨P, hP, hD⟩ := ly6 h6
  have e1 : ly o = P ++ o.data := hD o.data
  have hd := fm_data h
  have e2 : (ly o).take k = ly { o with data := o.data.take (k - 32) } := by
    rw [e1, hD (o.data.take (k - 32)), List.take_append, List.take_of_length_le (by omega), hP]
  rw [e2]
  exact ps_lay (fm6 h6 h (by rw [List.length_take]; omega)) h1 h2
theorem more6 {o : Cl} (h6 : o.op = 6) (h : fm o = true) (h1 : o.hi < 18446744073709551616) (h2 : o.lo < 18446744073709551616) (m : Nat) (hd : o.data.length ≤ 1024) : psC (ly o ++ [m]) = some { o with data := o.data ++ [m] } := by
  obtain ⟨P, hP, hD⟩ := ly6 h6
  have e1 : ly o = P ++ o.data := hD o.data
  have e2 : ly o ++ [m] = ly { o with data := o.data ++ [m] } := by
    rw [e1, hD (o.data ++ [m]), List.append_assoc]
  rw [e2]
  exact ps_lay (fm6 h6 h (by simp; omega)) h1 h2
end Go.Proofs.Ytaffgoacbiedlaa
