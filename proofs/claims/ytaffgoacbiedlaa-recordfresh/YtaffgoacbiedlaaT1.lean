import Derived.Test.YtaffgoacbiedlaaB6
import Derived.Test.YtaffgoacbiedlaaS1
namespace Go.Proofs.Ytaffgoacbiedlaa
open Go.RowKit
set_option linter.unusedVariables false
set_option linter.unusedSimpArgs false

theorem neqB (a b : Bool) (w : World) : (binOp .neq 4 (.bool a) (.bool b)).run Try.prog w = .ok (.bool (a != b)) w := by
  cases a <;> cases b <;> simp [go_sem]
theorem str_beq {L M : List Nat} (hL : ∀ x ∈ L, x < 256) (hM : ∀ x ∈ M, x < 256) : ((strB L).toList == (strB M).toList) = decide (L = M) := by
  rw [Bool.eq_iff_iff, ByteArray.toList_eq, ByteArray.toList_eq]
  simp only [beq_iff_eq, decide_eq_true_eq]
  exact ⟨fun e => strB_inj hL hM (by apply ByteArray.ext; exact Array.toList_inj.1 e), fun e => by rw [e]⟩
theorem eqS {L M : List Nat} (hL : ∀ x ∈ L, x < 256) (hM : ∀ x ∈ M, x < 256) (w : World) : (binOp .eql 9 (.string (strB L)) (.string (strB M))).run Try.prog w = .ok (.bool (decide (L = M))) w := by
  rw [← str_beq hL hM]
  simp [go_sem]
theorem neqS {L M : List Nat} (hL : ∀ x ∈ L, x < 256) (hM : ∀ x ∈ M, x < 256) (w : World) : (binOp .neq 9 (.string (strB L)) (.string (strB M))).run Try.prog w = .ok (.bool (!decide (L = M))) w := by
  rw [← str_beq hL hM]
  simp [go_sem]
/-- Are two calls alike? -/
def smB (a b : Cl) : Bool := !(a.op != b.op) && !(a.by_ != b.by_) && !(a.size != b.size) && cEq a.obj a.hi a.lo b.obj b.hi b.lo && !(a.given != b.given) && !(a.rights != b.rights) && !(a.off != b.off) && !(a.n != b.n) && !(a.index != b.index) && decide (a.data = b.data) && decide (a.gifts = b.gifts)
theorem smB_iff (a b : Cl) : smB a b = true ↔ a = b := by
  obtain ⟨op, by_, size, obj, hi, lo, given, rights, off, n, data, index, gifts⟩ := a
  obtain ⟨op', by_', size', obj', hi', lo', given', rights', off', n', data', index', gifts'⟩ := b
  simp only [smB, cEq, Bool.and_eq_true, Bool.not_eq_true', bne_eq_false_iff_eq, decide_eq_true_eq, Cl.mk.injEq]
  constructor
  · rintro ⟨⟨⟨⟨⟨⟨⟨⟨⟨⟨a, b⟩, c⟩, d1, d2, d3⟩, e⟩, f⟩, g⟩, h⟩, i⟩, j⟩, k⟩
    exact ⟨a, b, c, d1, by omega, by omega, e, f, g, h, j, i, k⟩
  · rintro ⟨a, b, c, d1, d2, d3, e, f, g, h, j, i, k⟩
    exact ⟨⟨⟨⟨⟨⟨⟨⟨⟨⟨a, b⟩, c⟩, d1, by omega, by omega⟩, e⟩, f⟩, g⟩, h⟩, i⟩, j⟩, k⟩
theorem smB_self (a : Cl) : smB a a = true := (smB_iff a a).2 rfl
set_option maxRecDepth 100000 in
set_option maxHeartbeats 8000000 in
theorem same_any (L M : List Value) (c c2 : Cl) (w : World) (h : Cc w L c) (h2 : Cc w M c2) (hgn : c.gifts.length ≤ 17592186044416) : Calls Try.prog 17 #[.agg L.toArray, .agg M.toArray] w fun e w' => e = .returned (.bool (smB c c2)) ∧ Below w.heap.size w w' := by
  obtain ⟨⟨da, dn, dc⟩, ⟨ga, gn, gc⟩, rfl, hi1⟩ := h.ex
  obtain ⟨⟨da2, dn2, dc2⟩, ⟨ga2, gn2, gc2⟩, rfl, hi2⟩ := h2.ex
  obtain ⟨op, by_, size, obj, hi, lo, given, rights, off, n, data, index, gifts⟩ := c
  obtain ⟨op2, by2, size2, obj2, hi2', lo2, given2, rights2, off2, n2, data2, index2, gifts2⟩ := c2
  have hgl := hi1.gifts.len
  have hgl2 := hi2.gifts.len
  simp only at hgl hgl2
  have hcap := neqC obj hi lo obj2 hi2' lo2
  have hneB := neqB given given2
  have hneS := neqS hi1.data.small hi2.data.small
  simp only at hneS
  have HBQ := hid (str_beq hi1.data.small hi2.data.small)
  simp only at HBQ
  have hnot : ∀ (x : Bool) (w : World), (Op.unary .not (.bool x)).run Try.prog w = .ok (.bool (!x)) w := fun _ _ => rfl
  unfold cC
  obtain ⟨W, hW⟩ : ∃ W, W = (w.alloc (Obj.cells #[.int .i64 op, .int .i64 by_, .int .i64 size, .int .i64 obj, .int .u64 (hi : Int), .int .u64 (lo : Int), .bool given, .int .i64 rights, .int .i64 off, .int .i64 n, .slice da dn dc, .int .i64 index, .slice ga gn gc] 41)).alloc (Obj.cells #[.int .i64 op2, .int .i64 by2, .int .i64 size2, .int .i64 obj2, .int .u64 (hi2' : Int), .int .u64 (lo2 : Int), .bool given2, .int .i64 rights2, .int .i64 off2, .int .i64 n2, .slice da2 dn2 dc2, .int .i64 index2, .slice ga2 gn2 gc2] 41) := ⟨_, rfl⟩
  have HBW : Hid (Below w.heap.size w W) := by rw [hW]; exact below2 _ _ _
  have HG1 : Hid (RI W ga gn gc gifts) := hi1.gifts.later HBW.out
  have HG2 : Hid (RI W ga2 gn2 gc2 gifts2) := hi2.gifts.later HBW.out
  have hcv1 := (hi1.data.later HBW.out).conv
  have hcv2 := (hi2.data.later HBW.out).conv
  simp only [hW] at hcv1 hcv2
  have HL := hid (And.intro hgl hgl2)
  have hgn2 : gn ≤ 17592186044416 := by simp only at hgn; omega
  clear hgn
  clear h h2 hi1 hi2 hgl hgl2
  cases F1 : (op != op2) with
  | true =>
    have E : Hid (smB ⟨op, by_, size, obj, hi, lo, given, rights, off, n, data, index, gifts⟩ ⟨op2, by2, size2, obj2, hi2', lo2, given2, rights2, off2, n2, data2, index2, gifts2⟩ = false) := by unfold Hid smB; simp only [F1, Bool.not_true, Bool.and_false, Bool.false_and]
    clear HG1 HG2 hW HL HBQ
    go_enter Try.func17, Try.ntmps17
    go_wp2
    go_ret
    exact ⟨ret_bool E.out.symm, below2 _ _ _⟩
  | false =>
  cases F2 : (by_ != by2) with
  | true =>
    have E : Hid (smB ⟨op, by_, size, obj, hi, lo, given, rights, off, n, data, index, gifts⟩ ⟨op2, by2, size2, obj2, hi2', lo2, given2, rights2, off2, n2, data2, index2, gifts2⟩ = false) := by unfold Hid smB; simp only [F2, Bool.not_true, Bool.and_false, Bool.false_and]
    clear HG1 HG2 hW HL HBQ
    go_enter Try.func17, Try.ntmps17
    go_wp2
    go_ret
    exact ⟨ret_bool E.out.symm, below2 _ _ _⟩
  | false =>
  cases F3 : (size != size2) with
  | true =>
    have E : Hid (smB ⟨op, by_, size, obj, hi, lo, given, rights, off, n, data, index, gifts⟩ ⟨op2, by2, size2, obj2, hi2', lo2, given2, rights2, off2, n2, data2, index2, gifts2⟩ = false) := by unfold Hid smB; simp only [F3, Bool.not_true, Bool.and_false, Bool.false_and]
    clear HG1 HG2 hW HL HBQ
    go_enter Try.func17, Try.ntmps17
    go_wp2
    go_ret
    exact ⟨ret_bool E.out.symm, below2 _ _ _⟩
  | false =>
  cases F4 : (cEq obj hi lo obj2 hi2' lo2) with
  | false =>
    have E : Hid (smB ⟨op, by_, size, obj, hi, lo, given, rights, off, n, data, index, gifts⟩ ⟨op2, by2, size2, obj2, hi2', lo2, given2, rights2, off2, n2, data2, index2, gifts2⟩ = false) := by unfold Hid smB; simp only [F4, Bool.not_true, Bool.and_false, Bool.false_and]
    clear HG1 HG2 hW HL HBQ
    go_enter Try.func17, Try.ntmps17
    go_wp2
    go_ret
    exact ⟨ret_bool E.out.symm, below2 _ _ _⟩
  | true =>
  cases F5 : (given != given2) with
  | true =>
    have E : Hid (smB ⟨op, by_, size, obj, hi, lo, given, rights, off, n, data, index, gifts⟩ ⟨op2, by2, size2, obj2, hi2', lo2, given2, rights2, off2, n2, data2, index2, gifts2⟩ = false) := by unfold Hid smB; simp only [F5, Bool.not_true, Bool.and_false, Bool.false_and]
    clear HG1 HG2 hW HL HBQ
    go_enter Try.func17, Try.ntmps17
    go_wp2
    go_ret
    exact ⟨ret_bool E.out.symm, below2 _ _ _⟩
  | false =>
  cases F6 : (rights != rights2) with
  | true =>
    have E : Hid (smB ⟨op, by_, size, obj, hi, lo, given, rights, off, n, data, index, gifts⟩ ⟨op2, by2, size2, obj2, hi2', lo2, given2, rights2, off2, n2, data2, index2, gifts2⟩ = false) := by unfold Hid smB; simp only [F6, Bool.not_true, Bool.and_false, Bool.false_and]
    clear HG1 HG2 hW HL HBQ
    go_enter Try.func17, Try.ntmps17
    go_wp2
    go_ret
    exact ⟨ret_bool E.out.symm, below2 _ _ _⟩
  | false =>
  cases F7 : (off != off2) with
  | true =>
    have E : Hid (smB ⟨op, by_, size, obj, hi, lo, given, rights, off, n, data, index, gifts⟩ ⟨op2, by2, size2, obj2, hi2', lo2, given2, rights2, off2, n2, data2, index2, gifts2⟩ = false) := by unfold Hid smB; simp only [F7, Bool.not_true, Bool.and_false, Bool.false_and]
    clear HG1 HG2 hW HL HBQ
    go_enter Try.func17, Try.ntmps17
    go_wp2
    go_ret
    exact ⟨ret_bool E.out.symm, below2 _ _ _⟩
  | false =>
  cases F8 : (n != n2) with
  | true =>
    have E : Hid (smB ⟨op, by_, size, obj, hi, lo, given, rights, off, n, data, index, gifts⟩ ⟨op2, by2, size2, obj2, hi2', lo2, given2, rights2, off2, n2, data2, index2, gifts2⟩ = false) := by unfold Hid smB; simp only [F8, Bool.not_true, Bool.and_false, Bool.false_and]
    clear HG1 HG2 hW HL HBQ
    go_enter Try.func17, Try.ntmps17
    go_wp2
    go_ret
    exact ⟨ret_bool E.out.symm, below2 _ _ _⟩
  | false =>
  cases F9 : (index != index2) with
  | true =>
    have E : Hid (smB ⟨op, by_, size, obj, hi, lo, given, rights, off, n, data, index, gifts⟩ ⟨op2, by2, size2, obj2, hi2', lo2, given2, rights2, off2, n2, data2, index2, gifts2⟩ = false) := by unfold Hid smB; simp only [F9, Bool.not_true, Bool.and_false, Bool.false_and]
    clear HG1 HG2 hW HL HBQ
    go_enter Try.func17, Try.ntmps17
    go_wp2
    go_ret
    exact ⟨ret_bool E.out.symm, below2 _ _ _⟩
  | false =>
  cases F10 : (decide (data = data2)) with
  | false =>
    have E : Hid (smB ⟨op, by_, size, obj, hi, lo, given, rights, off, n, data, index, gifts⟩ ⟨op2, by2, size2, obj2, hi2', lo2, given2, rights2, off2, n2, data2, index2, gifts2⟩ = false) := by unfold Hid smB; simp only [F10, Bool.not_true, Bool.and_false, Bool.false_and]
    have hS : ¬ (strB data).toList = (strB data2).toList := fun e => by have := HBQ.out; rw [F10] at this; simp [e] at this
    clear HG1 HG2 hW HL HBQ
    go_enter Try.func17, Try.ntmps17
    go_wp2
    go_ret
    exact ⟨ret_bool E.out.symm, below2 _ _ _⟩
  | true =>
  obtain rfl : data = data2 := by simpa using F10
  cases F11 : ((gn : Int) != (gn2 : Int)) with
  | true =>
    have E : Hid (smB ⟨op, by_, size, obj, hi, lo, given, rights, off, n, data, index, gifts⟩ ⟨op2, by2, size2, obj2, hi2', lo2, given2, rights2, off2, n2, data, index2, gifts2⟩ = false) := by
      have h1 : gifts ≠ gifts2 := fun e => by have := HL.out; rw [e] at this; have : (gn : Int) ≠ (gn2 : Int) := (by simpa using F11); omega
      unfold Hid smB; simp only [decide_eq_false h1, Bool.and_false]
    clear HG1 HG2 hW HL HBQ
    go_enter Try.func17, Try.ntmps17
    go_wp2
    go_ret
    exact ⟨ret_bool E.out.symm, below2 _ _ _⟩
  | false =>
  have HE : Hid (smB ⟨op, by_, size, obj, hi, lo, given, rights, off, n, data, index, gifts⟩ ⟨op2, by2, size2, obj2, hi2', lo2, given2, rights2, off2, n2, data, index2, gifts2⟩ = decide (gifts = gifts2)) := by unfold Hid smB; simp only [F1, F2, F3, F4, F5, F6, F7, F8, F9, decide_true, Bool.not_false, Bool.true_and]
  obtain rfl : gn = gn2 := by have : (gn : Int) = (gn2 : Int) := (by simpa using F11); omega
  go_enter Try.func17, Try.ntmps17
  go_upto_region 6 with fail
  rw [← hW]
  clear hcv1 hcv2
  have hc1 : W.cell? ⟨w.heap.size, 12, none⟩ = some (.slice ga gn gc) := by rw [hW]; simp [go_sem]
  have hc2 : W.cell? ⟨w.heap.size + 1, 12, none⟩ = some (.slice ga2 gn gc2) := by rw [hW]; simp [go_sem]
  clear hW
  have HC12 := hid (And.intro hc1 hc2)
  clear hc1 hc2
  go_loopw [5] (fun t w' => ∃ i : Nat, i ≤ gn ∧ t = .int .i64 (i : Int) ∧ gifts.take i = gifts2.take i ∧ Below W.heap.size W w') (fun t _ => gn - (intOf t).toNat)
  case atStart => exact ⟨0, by omega, rfl, by simp, Below.refl _ _⟩
  case round =>
    obtain ⟨i, hi, rfl, ht, hbr⟩ := hrel
    have HT := hid ht
    have HBR := hid hbr
    have hc1 := cell_later hbr HC12.out.1
    have hc2 := cell_later hbr HC12.out.2
    clear ht hbr
    have ei : IntKind.i64.wrap ((i : Int) + 1) = (i : Int) + 1 := by rw [IntKind.wrap_i64]; omega
    by_cases hlt : i < gn
    · have hdi : decide ((i : Int) < (gn : Int)) = true := by simp; omega
      have hlt2 : (i : Int) < (gn : Int) := by omega
      have h0i : (0 : Int) ≤ (i : Int) := by omega
      obtain ⟨b1, o1, rfl, hg1⟩ := (HG1.out.later HBR.out).plain (by omega)
      obtain ⟨b2, o2, rfl, hg2⟩ := (HG2.out.later HBR.out).plain (by omega)
      have hi1 : i < gifts.length := by have := HL.out.1; omega
      have hi2 : i < gifts2.length := by have := HL.out.2; omega
      have hx1 := hg1 i hi1
      have hx2 := hg2 i hi2
      have HT1 : Hid _ := List.take_succ_eq_append_getElem hi1
      have HT2 : Hid _ := List.take_succ_eq_append_getElem hi2
      have HQ : Hid (gifts = gifts2 → gifts[i] = gifts2[i]) := fun e => by subst e; rfl
      generalize gifts[i] = x at hx1 HT1 HQ
      generalize gifts2[i] = y at hx2 HT2 HQ
      clear hg1 hg2 hi1 hi2
      cases FX : (x != y) with
      | true =>
        have E : Hid (smB _ _ = false) := HE.out.trans (decide_eq_false (fun e => by have := HQ.out e; simp [this] at FX))
        go_upto_region 8 with fail
        go_region
        go_wp2
        go_ret
        exact ⟨ret_bool E.out.symm, (below_call HBW.out HBR.out).drew⟩
      | false =>
        have HT3 : Hid (gifts.take (i + 1) = gifts2.take (i + 1)) := by
          have : x = y := by simpa using FX
          unfold Hid
          rw [HT1.out, HT2.out, HT.out, this]
        go_upto_region 8 with fail
        go_region
        go_wp2
        go_roundw
        case rel => exact ⟨i + 1, by omega, by go_num, HT3.out, HBR.out.drew⟩
        case measure => simp [intOf]; omega
    · obtain rfl : i = gn := by omega
      have E : Hid (smB _ _ = true) := HE.out.trans (decide_eq_true (by
        have := HT.out
        rwa [List.take_of_length_le (by have := HL.out.1; omega), List.take_of_length_le (by have := HL.out.2; omega)] at this))
      go_wp2
      go_ret
      exact ⟨ret_bool E.out.symm, below_call HBW.out HBR.out⟩
end Go.Proofs.Ytaffgoacbiedlaa
