import Derived.Test.YtaffgoacbiedlaaU0
import Derived.Test.YtaffgoacbiedlaaHC
namespace Go.Proofs.Ytaffgoacbiedlaa
open Go.RowKit
set_option linter.unusedVariables false
set_option linter.unusedSimpArgs false

theorem shl_sv (V : Nat) : IntKind.i64.wrap (sv V * 2 ^ 8) = sv (V * 256) := by
  unfold sv
  simp only [IntKind.wrap_i64]
  omega
theorem or_sv (V b : Nat) (hb : b < 256) : bits .or .i64 (sv (V * 256)) (b : Int) = sv (V * 256 + b) := by
  have h1 : (BitVec.ofInt 64 (sv (V * 256))).toNat = V * 256 % 18446744073709551616 := by
    rw [BitVec.toNat_ofInt]
    unfold sv
    rw [IntKind.wrap_i64]
    omega
  have h2 : (BitVec.ofInt 64 (b : Int)).toNat = b := by
    rw [BitVec.ofInt_natCast, BitVec.toNat_ofNat]; exact Nat.mod_eq_of_lt (by omega)
  show IntKind.i64.wrap ((BitVec.ofInt 64 (sv (V * 256)) ||| BitVec.ofInt 64 (b : Int)).toNat : Int) = _
  have e : V * 256 % 18446744073709551616 ||| b = V * 256 % 18446744073709551616 + b := by
    obtain ⟨m, hm⟩ : ∃ m, V * 256 % 18446744073709551616 = 2 ^ 8 * m := ⟨V * 256 % 18446744073709551616 / 256, by omega⟩
    rw [hm]
    exact (Nat.two_pow_add_eq_or_of_lt (i := 8) hb m).symm
  rw [BitVec.toNat_or, h1, h2, e]
  unfold sv
  simp only [IntKind.wrap_i64]
  omega
theorem shl_sv' (V : Nat) : wrap64 (sv V * 256) = sv (V * 256) := by
  unfold sv wrap64
  simp only [IntKind.wrap_i64]
  omega
def RgRel (w : World) (R : List Nat) (p n : Nat) (v t : Value) (w' : World) : Prop :=
  ∃ s : Nat, s ≤ n ∧ t = .int .i64 ((n : Int) - 1 - s) ∧ v = .int .i64 (sv (hv R p n s)) ∧ w' = w

set_option maxRecDepth 100000 in
set_option maxHeartbeats 2000000 in
theorem get_any (a : Option Addr) (len cap : Nat) (R : List Nat) (p n : Nat) (w : World) (h : Row w a len cap R) (hp : p ≤ 1000) (hn : n ≤ 8) (hl : len ≤ 140737488355328) :
    Calls Try.prog 40 #[.slice a len cap, .int .i64 (p : Int), .int .i64 (n : Int)] w fun e w' => e = .returned (.int .i64 (sv (gt R p n))) ∧ w' = w := by
  have HV : Hid (RgRel w R p n (.int .i64 0) (.int .i64 ((n : Int) - 1)) w) := ⟨0, by omega, by simp, rfl, rfl⟩
  have HR := hid h
  have HL := hid h.len
  have e0 : IntKind.i64.wrap ((n : Int) - 1) = (n : Int) - 1 := by rw [IntKind.wrap_i64]; omega
  clear h
  go_enter Try.func40, Try.ntmps40
  go_wp2
  go_loopw [7, 8] (RgRel w R p n) (fun _ t _ => (intOf t + 1).toNat)
  case atStart => exact HV.out
  case round =>
    clear HV e0
    obtain ⟨s, hs, rfl, rfl, rfl⟩ := hrel
    by_cases hlt : s < n
    · obtain ⟨i, hi⟩ : ∃ i : Nat, (n : Int) - 1 - s = (i : Int) := ⟨n - 1 - s, by omega⟩
      have hi2 : n - 1 - s = i := by omega
      rw [hi]
      have hd0 : decide (0 ≤ (i : Int)) = true := by simp
      have e1 : IntKind.i64.wrap ((i : Int) - 1) = (i : Int) - 1 := by rw [IntKind.wrap_i64]; omega
      have e2 : IntKind.i64.wrap ((p : Int) + (i : Int)) = ((p + i : Nat) : Int) := by rw [IntKind.wrap_i64]; omega
      have e3 := shl_sv (hv R p n s)
      have HS : Hid (hv R p n (s + 1) = hv R p n s * 256 + bt R (p + i)) := by unfold Hid; rw [hv, hi2]
      by_cases hb : p + i < len
      · have hdb : decide (((p + i : Nat) : Int) < (len : Int)) = true := by simp; omega
        obtain ⟨b, o, rfl, hc⟩ := HR.out.plain (by omega)
        have hcell := hc (p + i) (by rw [HL.out]; exact hb)
        have hbt : bt R (p + i) = R[p + i]'(by rw [HL.out]; exact hb) := by
          unfold bt
          rw [List.getD_eq_getElem?_getD, List.getElem?_eq_getElem (by rw [HL.out]; exact hb)]
          rfl
        rw [← hbt] at hcell
        have hsm := bt_lt HR.out.small (p + i)
        have e4 := or_sv (hv R p n s) (bt R (p + i)) hsm
        generalize bt R (p + i) = q at hcell hsm e4 HS
        clear hc hbt
        go_wp2
        go_roundw
        case rel => exact ⟨s + 1, by omega, by go_num, by rw [HS.out, shl_sv', e4], rfl⟩
        case measure => simp [intOf]
      · have hdb : decide (((p + i : Nat) : Int) < (len : Int)) = false := by simp; omega
        have hbt : bt R (p + i) = 0 := by
          unfold bt
          rw [List.getD_eq_getElem?_getD, List.getElem?_eq_none (by rw [HL.out]; omega)]
          rfl
        rw [hbt, Nat.add_zero] at HS
        go_wp2
        go_roundw
        case rel => exact ⟨s + 1, by omega, by go_num, by rw [HS.out, shl_sv', Nat.add_zero], rfl⟩
        case measure => simp [intOf]
    · obtain rfl : s = n := by omega
      have hd0 : decide (0 ≤ (s : Int) - 1 - (s : Int)) = false := by simp; omega
      go_wp2
      go_ret
      exact ⟨rfl, rfl⟩
set_option maxRecDepth 100000 in
theorem minus_any (V : Nat) (w : World) (h : V < 4294967296) : Calls Try.prog 66 #[.int .i64 (V : Int)] w fun e w' => e = .returned (.int .i64 (sI V)) ∧ w' = w := by
  have e1 : IntKind.i64.wrap ((V : Int) - 4294967296) = (V : Int) - 4294967296 := by rw [IntKind.wrap_i64]; omega
  by_cases h2 : 2147483648 ≤ V
  · have hd : decide (2147483648 ≤ (V : Int)) = true := by simp; omega
    go_enter Try.func66, Try.ntmps66
    go_wp2
    go_ret
    exact ⟨by unfold sI; rw [if_pos h2]; rfl, rfl⟩
  · have hd : decide (2147483648 ≤ (V : Int)) = false := by simp; omega
    go_enter Try.func66, Try.ntmps66
    go_wp2
    go_ret
    exact ⟨by unfold sI; rw [if_neg h2]; rfl, rfl⟩
end Go.Proofs.Ytaffgoacbiedlaa
