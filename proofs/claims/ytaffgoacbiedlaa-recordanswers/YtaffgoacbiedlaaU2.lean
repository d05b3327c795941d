import Derived.Test.YtaffgoacbiedlaaU1
import Derived.Test.YtaffgoacbiedlaaBB
namespace Go.Proofs.Ytaffgoacbiedlaa
open Go.RowKit
set_option linter.unusedVariables false
set_option linter.unusedSimpArgs false

theorem lv25 {w : World} {b o : Nat} {L : List Value} (h : w.rangeAt b o L) (hl : L.length = 2) : (loadVar 25 ⟨b, o, none⟩).run Try.prog w = .ok (.agg L.toArray) w :=
  run_loadVar_mid w b o 25 L _ h Try.underlying25 rfl (by rw [hl]; kernel_rfl)
def wdL (c d : Int) : List Value := [.int .u64 c, .int .u64 d]
def RwRel (w : World) (R : List Nat) (p : Nat) (t : Value) (w' : World) : Prop :=
  ∃ (i : Nat) (c d : Int), i ≤ 128 ∧ t = .int .i64 (i : Int) ∧ W.IsV c d (wn R p i) ∧ Bx w' (w.heap.size + 1) (wdL c d) ∧ Below w.heap.size w w' ∧ ∃ x y, Bx w' w.heap.size (wdL x y)

theorem wn_bit (R : List Nat) (p i : Nat) : W.bitN (wn R p i) i = 0 := by
  unfold W.bitN
  rw [Nat.div_eq_of_lt (wn_lt R p i)]
theorem bit_is {q r : Nat} (h : q / 2 ^ r % 2 = 1) : (((q : Int) / 2 ^ r).tmod 2 == 1) = true := by
  have e : ((q : Int) / 2 ^ r).tmod 2 = ((q / 2 ^ r % 2 : Nat) : Int) := by
    rw [Int.tmod_eq_emod_of_nonneg (Int.ediv_nonneg (by omega) (by exact_mod_cast Nat.zero_le _))]
    push_cast
    rfl
  rw [e, h]
  rfl
theorem bit_not {q r : Nat} (h : q / 2 ^ r % 2 = 0) : (((q : Int) / 2 ^ r).tmod 2 == 1) = false := by
  have e : ((q : Int) / 2 ^ r).tmod 2 = ((q / 2 ^ r % 2 : Nat) : Int) := by
    rw [Int.tmod_eq_emod_of_nonneg (Int.ediv_nonneg (by omega) (by exact_mod_cast Nat.zero_le _))]
    push_cast
    rfl
  rw [e, h]
  rfl
set_option maxRecDepth 100000 in
set_option maxHeartbeats 2000000 in
theorem rgw_any (a : Option Addr) (len cap : Nat) (R : List Nat) (p : Nat) (w : World) (h : Row w a len cap R) (hp : p ≤ 1000) (hl : len ≤ 140737488355328) :
    Calls Try.prog 41 #[.slice a len cap, .int .i64 (p : Int)] w fun e w' => e = .returned (.agg #[.int .u64 (hiW R p : Int), .int .u64 (loW R p : Int)]) ∧ Below w.heap.size w w' := by
  have HV : Hid (RwRel w R p (.int .i64 0) ((w.alloc (Obj.cells #[.int .u64 0, .int .u64 0] 25)).alloc (Obj.cells #[.int .u64 0, .int .u64 0] 25))) := by
    have hX := Bx.new (w.alloc (Obj.cells #[.int .u64 0, .int .u64 0] 25)) (wdL 0 0) 25
    rw [show (w.alloc (Obj.cells #[Value.int .u64 0, Value.int .u64 0] 25)).heap.size = w.heap.size + 1 by simp] at hX
    exact ⟨0, 0, 0, by omega, rfl, W.IsV.zero, hX, below2 _ _ _, 0, 0, (Bx.new w (wdL 0 0) 25).later (below1 _ _)⟩
  have HL := hid h.len
  have HR := hid h
  clear h
  go_enter Try.func41, Try.ntmps41
  go_wp2
  go_loopw [6] (RwRel w R p) (fun t _ => 128 - (intOf t).toNat)
  case atStart => exact HV.out
  case round =>
    clear HV
    obtain ⟨i, c, d, hi, rfl, hV, X, hB, x, y, Y⟩ := hrel
    by_cases hlt : i < 128
    · have hdi : decide ((i : Int) < 128) = true := by simp; omega
      have x0 : wr.cell? ⟨w.heap.size + 1, 0, none⟩ = some (.int .u64 c) := X.cell 0 rfl
      have x1 : wr.cell? ⟨w.heap.size + 1, 1, none⟩ = some (.int .u64 d) := X.cell 1 rfl
      have ei : IntKind.i64.wrap ((i : Int) + 1) = (i : Int) + 1 := by rw [IntKind.wrap_i64]; omega
      have HS : Hid (wn R p (i + 1) = wn R p i + bt R (p + i / 8) / 2 ^ (i % 8) % 2 * 2 ^ i) := rfl
      have HX := hid X
      have HY := hid Y
      have HVV := hid hV
      have HBB := hid hB
      have HRW := hid (HR.out.later hB)
      clear X Y hV hB
      by_cases hb : p + i / 8 < len
      · obtain ⟨b, o, rfl, hc⟩ := HRW.out.plain (by omega)
        have hcell := hc (p + i / 8) (by rw [HL.out]; exact hb)
        have hbt : bt R (p + i / 8) = R[p + i / 8]'(by rw [HL.out]; exact hb) := by
          unfold bt
          rw [List.getD_eq_getElem?_getD, List.getElem?_eq_getElem (by rw [HL.out]; exact hb)]
          rfl
        rw [← hbt] at hcell
        have hsm := bt_lt HR.out.small (p + i / 8)
        generalize bt R (p + i / 8) = q at hcell hsm HS
        clear hc hbt
        rcases (by have := Nat.mod_lt (q / 2 ^ (i % 8)) (by decide : 2 > 0); omega : q / 2 ^ (i % 8) % 2 = 1 ∨ q / 2 ^ (i % 8) % 2 = 0) with hq | hq
        · have hq2 := bit_is hq
          rw [hq, Nat.one_mul] at HS
          clear hq
          go_wp2_with (first | (go_at_call 65; refine (W.set_any c d (wn R p i) i _ HVV.out hlt (wn_bit R p i)).mono ?_; rintro e w2 ⟨c2, d2, rfl, hv2, hb2⟩; have B2 := HX.out.later hb2; have z0 : w2.cell? ⟨w.heap.size + 1, 0, none⟩ = some (.int .u64 c) := B2.cell 0 rfl; have z1 : w2.cell? ⟨w.heap.size + 1, 1, none⟩ = some (.int .u64 d) := B2.cell 1 rfl; have f0 : w2.frozen? ⟨w.heap.size + 1, 0, none⟩ = false := (B2.there 0 (Nat.zero_lt_succ _)).2; have f1 : w2.frozen? ⟨w.heap.size + 1, 1, none⟩ = false := (B2.there 1 (Nat.lt_succ_self 1)).2; have HX2 := hid B2; have HY2 := hid (HY.out.later hb2); have HB2 := hid (below_call HBB.out hb2); have HV2 := hid hv2; clear hb2 hv2 B2))
          go_roundw
          case rel => exact ⟨i + 1, c2, d2, by omega, by go_num, by rw [HS.out]; exact HV2.out, HX2.out.set (M := wdL c2 d2) rfl, (HB2.out.setCell (Nat.le_succ _) _).setCell (Nat.le_succ _) _, x, y, HY2.out.but (S := fun k => k = w.heap.size + 1) (setCells_but (S := fun k => k = w.heap.size + 1) (b := w.heap.size + 1) rfl (wdL c2 d2) 0 (But.refl _ w2)) (by omega)⟩
          case measure => simp [intOf]; omega
        · have hq2 := bit_not hq
          rw [hq, Nat.zero_mul, Nat.add_zero] at HS
          clear hq
          go_wp2
          go_roundw
          case rel => exact ⟨i + 1, c, d, by omega, by go_num, by rw [HS.out]; exact HVV.out, HX.out, HBB.out, x, y, HY.out⟩
          case measure => simp [intOf]; omega
      · have hbt : bt R (p + i / 8) = 0 := by
          unfold bt
          rw [List.getD_eq_getElem?_getD, List.getElem?_eq_none (by rw [HL.out]; omega)]
          rfl
        rw [hbt, Nat.zero_div, Nat.zero_mod, Nat.zero_mul, Nat.add_zero] at HS
        go_wp2
        go_roundw
        case rel => exact ⟨i + 1, c, d, by omega, by go_num, by rw [HS.out]; exact HVV.out, HX.out, HBB.out, x, y, HY.out⟩
        case measure => simp [intOf]; omega
    · obtain rfl : i = 128 := by omega
      have x0 : wr.cell? ⟨w.heap.size + 1, 0, none⟩ = some (.int .u64 c) := X.cell 0 rfl
      have x1 : wr.cell? ⟨w.heap.size + 1, 1, none⟩ = some (.int .u64 d) := X.cell 1 rfl
      have y0 : wr.cell? ⟨w.heap.size, 0, none⟩ = some (.int .u64 x) := Y.cell 0 rfl
      have y1 : wr.cell? ⟨w.heap.size, 1, none⟩ = some (.int .u64 y) := Y.cell 1 rfl
      have f0 : wr.frozen? ⟨w.heap.size, 0, none⟩ = false := (Y.there 0 (Nat.zero_lt_succ _)).2
      have f1 : wr.frozen? ⟨w.heap.size, 1, none⟩ = false := (Y.there 1 (Nat.lt_succ_self 1)).2
      have HLV : (loadVar 25 ⟨w.heap.size, 0, none⟩).run Try.prog ((wr.setCell ⟨w.heap.size, 0, none⟩ (.int .u64 c)).setCell ⟨w.heap.size, 1, none⟩ (.int .u64 d)) = .ok (.agg (wdL c d).toArray) ((wr.setCell ⟨w.heap.size, 0, none⟩ (.int .u64 c)).setCell ⟨w.heap.size, 1, none⟩ (.int .u64 d)) := lv25 (Y.set (M := wdL c d) rfl).range rfl
      have HLV := hid HLV
      have HV2 := hid hV
      have HB2 := hid hB
      clear hV hB X Y
      go_wp2
      obtain ⟨c', d', rfl, rfl, h1, h2, h3⟩ := HV2.out
      have e1 : hiW R p = c' := by unfold hiW; rw [h3]; unfold B64 at *; omega
      have e2 : loW R p = d' := by unfold loW; rw [h3]; unfold B64 at *; omega
      rw [e1, e2]
      exact bodyPost_ret (by simp [results, Try.results41, asAddr, HLV.out, wdL]) rfl ⟨rfl, (HB2.out.setCell (Nat.le_refl _) _).setCell (Nat.le_refl _) _⟩
end Go.Proofs.Ytaffgoacbiedlaa
