import Derived.Test.YthfmmfphnimlnaaBB
import Derived.Test.YthfmmfphnimlnaaK1
import Derived.Test.YthfmmfphnimlnaaHC
namespace Go.Proofs.Ythfmmfphnimlnaa
open Go.RowKit
set_option linter.unusedVariables false
set_option linter.unusedSimpArgs false
def beL (v : Int) (k : Nat) : List Nat := (List.range k).map fun i => (v / 256 ^ i % 256).toNat
theorem beL_succ (v : Int) (k : Nat) : beL v (k + 1) = beL v k ++ [(v / 256 ^ k % 256).toNat] := by simp [beL, List.range_succ]
def PutRel (w : World) (a : Option Addr) (base n : Nat) (L : List Nat) (v : Int) (k : Nat) (o t : Value) (w' : World) : Prop :=
  ∃ (i : Nat) (a' : Option Addr) (cap' : Nat), i ≤ k ∧ t = .int .i64 (i : Int) ∧ o = .slice a' (n + i) cap' ∧ Own w' base a' (n + i) cap' (L ++ beL v i) ∧ Gr a a' w w'
theorem shr_of (v : Int) (i : Nat) : IntKind.u8.wrap (v / 2 ^ (8 * i)) = (((v / 256 ^ i % 256).toNat : Nat) : Int) := by
  have e : (2 : Int) ^ (8 * i) = 256 ^ i := by rw [Int.pow_mul]; rfl
  rw [e, IntKind.wrap_u8]
  have := Int.emod_nonneg (v / 256 ^ i) (by omega : (256 : Int) ≠ 0)
  omega
set_option maxRecDepth 100000 in
set_option maxHeartbeats 2000000 in
theorem rput_any (a : Option Addr) (n cap : Nat) (L : List Nat) (v : Int) (k : Nat) (w : World) (base : Nat) (h : Own w base a n cap L) (hb : base ≤ w.heap.size) (hk : k ≤ 8) (hr : n ≤ 10000000) :
    Calls Try.prog 36 #[.slice a n cap, .int .i64 v, .int .i64 (k : Int)] w fun e w' => ∃ a' cap', e = .returned (.slice a' (n + k) cap') ∧ Own w' base a' (n + k) cap' (L ++ beL v k) ∧ Gr a a' w w' := by
  have HV : Hid (PutRel w a base n L v k (.slice a n cap) (.int .i64 0) w) := ⟨0, a, cap, by omega, rfl, rfl, by simpa [beL] using h, Gr.refl _ _⟩
  have HBS := hid hb
  clear h hb
  go_enter Try.func36, Try.ntmps36
  go_wp2
  go_loopw [0, 7] (PutRel w a base n L v k) (fun _ t _ => k - (intOf t).toNat)
  case atStart => exact HV.out
  case round =>
    clear HV
    obtain ⟨i, a', cap', hi, rfl, rfl, hown, hgr⟩ := hrel
    have ei : IntKind.i64.wrap ((i : Int) + 1) = (i : Int) + 1 := by rw [IntKind.wrap_i64]; omega
    by_cases hlt : i < k
    · have hdi : decide ((i : Int) < (k : Int)) = true := by simp; omega
      have e8 : IntKind.i64.wrap (8 * (i : Int)) = 8 * (i : Int) := by rw [IntKind.wrap_i64]; omega
      have e9 : IntKind.u64.wrap (8 * (i : Int)) = 8 * (i : Int) := by rw [IntKind.wrap_u64]; omega
      have hsh := shr_of v i
      have HBE := hid (beL_succ v i)
      have hq8 : (v / 256 ^ i % 256).toNat < 256 := by have := Int.emod_lt_of_pos (v / 256 ^ i) (by omega : (0 : Int) < 256); omega
      generalize (v / 256 ^ i % 256).toNat = q at hsh HBE hq8
      obtain ⟨a2, c2, w2, hrun, hown2, hg2⟩ := append_byte (b := q) hown (Nat.le_trans HBS.out hgr.but.size) (by omega) hq8
      have HRUN := hid hrun
      have HO : Hid (Own w2 base a2 (n + (i + 1)) c2 (L ++ beL v (i + 1))) := by rw [HBE.out, ← List.append_assoc]; exact hown2
      have HG := hid (hgr.trans hg2)
      clear hrun hown hown2 hgr hg2
      go_upto_region 4 with fail
      go_wp2_with (first | (at_builtin; refine wpList_append_known rfl _ _ 30 rfl _ _ rfl rfl _ w2 HRUN.out ?_))
      go_roundw
      case rel => exact ⟨i + 1, a2, c2, by omega, by go_num, rfl, HO.out, HG.out⟩
      case measure => simp [intOf]; omega
    · obtain rfl : i = k := by omega
      go_wp2
      go_ret
      exact ⟨_, _, rfl, hown, hgr⟩
theorem rword_any (hi lo : Nat) (w : World) (h1 : hi < 18446744073709551616) (h2 : lo < 18446744073709551616) :
    Calls Try.prog 65 #[.agg #[.int .u64 (hi : Int), .int .u64 (lo : Int)]] w fun e w' => ∃ a c, e = .returned (.slice a 16 c) ∧ Own w' w.heap.size a 16 c (leL lo 8 ++ leL hi 8) ∧ Below w.heap.size w w' := by
  refine (W.rBytes_any hi lo (hi * B64 + lo) w ⟨hi, lo, rfl, rfl, ⟨h1, h2, rfl⟩⟩).mono ?_
  rintro e w' ⟨g, cap, rfl, hc, hb⟩
  have hs : ∀ x ∈ leL lo 8 ++ leL hi 8, x < 256 := fun x hx => by
    rcases List.mem_append.1 hx with h | h
    · exact leL_small _ _ x h
    · exact leL_small _ _ x h
  rw [bytesOf_leL hi lo h1 h2] at hc
  exact ⟨_, _, rfl, ⟨own_mono hc (by omega), hs⟩, hb⟩
end Go.Proofs.Ythfmmfphnimlnaa
