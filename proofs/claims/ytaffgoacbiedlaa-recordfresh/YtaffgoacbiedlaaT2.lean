import Derived.Test.YtaffgoacbiedlaaK1
import Derived.Test.YtaffgoacbiedlaaHC
namespace Go.Proofs.Ytaffgoacbiedlaa
open Go.RowKit
set_option linter.unusedVariables false
set_option linter.unusedSimpArgs false

/-- The bytes of a number that may be below 0. -/
def beL (v : Int) (k : Nat) : List Nat := (List.range k).map fun i => (v / 256 ^ i % 256).toNat
theorem beL_succ (v : Int) (k : Nat) : beL v (k + 1) = beL v k ++ [(v / 256 ^ k % 256).toNat] := by simp [beL, List.range_succ]
theorem beL_nat (m k : Nat) : beL (m : Int) k = leL m k := by
  unfold beL leL
  apply List.map_congr_left
  intro i _
  have : ((m : Int) / 256 ^ i % 256) = ((m / 256 ^ i % 256 : Nat) : Int) := by simp
  rw [this, Int.toNat_natCast]
theorem beL_four (v : Int) (h : sgB v = true) : beL v 4 = leL (sg v) 4 := by
  have := wi_iff.1 h
  simp only [beL, leL, sg, List.range_succ, List.range_zero, List.map_append, List.map_nil, List.map_cons, List.nil_append, List.cons_append, List.cons.injEq, and_true]
  refine ⟨?_, ?_, ?_, ?_⟩ <;> omega
theorem beL_small (v : Int) (k : Nat) : ∀ x ∈ beL v k, x < 256 := by
  intro x hx
  simp only [beL, List.mem_map] at hx
  obtain ⟨i, _, rfl⟩ := hx
  have := Int.emod_lt_of_pos (v / 256 ^ i) (by omega : (0 : Int) < 256)
  have := Int.emod_nonneg (v / 256 ^ i) (by omega : (256 : Int) ≠ 0)
  omega
theorem beL_length (v : Int) (k : Nat) : (beL v k).length = k := by simp [beL]
def PutRel (w : World) (a : Option Addr) (base n : Nat) (L : List Nat) (v : Int) (k : Nat) (o t : Value) (w' : World) : Prop :=
  ∃ (i : Nat) (a' : Option Addr) (cap' : Nat), i ≤ k ∧ t = .int .i64 (i : Int) ∧ o = .slice a' (n + i) cap' ∧ Own w' base a' (n + i) cap' (L ++ beL v i) ∧ Gr a a' w w'
theorem shr_of (v : Int) (i : Nat) : IntKind.u8.wrap (v / 2 ^ (8 * i)) = (((v / 256 ^ i % 256).toNat : Nat) : Int) := by
  have e : (2 : Int) ^ (8 * i) = 256 ^ i := by rw [Int.pow_mul]; rfl
  rw [e, IntKind.wrap_u8]
  have := Int.emod_nonneg (v / 256 ^ i) (by omega : (256 : Int) ≠ 0)
  omega
set_option maxRecDepth 100000 in
set_option maxHeartbeats 2000000 in
theorem rput_any (a : Option Addr) (n cap : Nat) (L : List Nat) (v : Int) (k : Nat) (w : World) (base : Nat) (h : Own w base a n cap L) (hb : base ≤ w.heap.size) (hk : k ≤ 8) (hr : n ≤ 100000) :
    Calls Try.prog 36 #[.slice a n cap, .int .i64 v, .int .i64 (k : Int)] w fun e w' => ∃ a' cap', e = .returned (.slice a' (n + k) cap') ∧ Own w' base a' (n + k) cap' (L ++ beL v k) ∧ Gr a a' w w' := by
  have HV : Hid (PutRel w a base n L v k (.slice a n cap) (.int .i64 0) w) := ⟨0, a, cap, by omega, rfl, rfl, by simpa [beL] using h, Gr.refl _ _⟩
  have HBS := hid hb
  clear h hb
  go_enter Try.func36, Try.ntmps36
  go_wp2
  go_loopw [0, 7] (PutRel w a base n L v k) (fun _ t _ => k - (intOf t).toNat)
  case atStart => exact HV.out
  case round =>
    clear HV
    obtain ⟨i, a', cap', hi, rfl, rfl, hown, hgr⟩ := hrel
    have ei : IntKind.i64.wrap ((i : Int) + 1) = (i : Int) + 1 := by rw [IntKind.wrap_i64]; omega
    by_cases hlt : i < k
    · have hdi : decide ((i : Int) < (k : Int)) = true := by simp; omega
      have e8 : IntKind.i64.wrap (8 * (i : Int)) = 8 * (i : Int) := by rw [IntKind.wrap_i64]; omega
      have e9 : IntKind.u64.wrap (8 * (i : Int)) = 8 * (i : Int) := by rw [IntKind.wrap_u64]; omega
      have hsh := shr_of v i
      have HBE := hid (beL_succ v i)
      have hq8 : (v / 256 ^ i % 256).toNat < 256 := by have := Int.emod_lt_of_pos (v / 256 ^ i) (by omega : (0 : Int) < 256); omega
      generalize (v / 256 ^ i % 256).toNat = q at hsh HBE hq8
      obtain ⟨a2, c2, w2, hrun, hown2, hg2⟩ := append_byte (b := q) hown (Nat.le_trans HBS.out hgr.but.size) (by omega) hq8
      have HRUN := hid hrun
      have HO : Hid (Own w2 base a2 (n + (i + 1)) c2 (L ++ beL v (i + 1))) := by rw [HBE.out, ← List.append_assoc]; exact hown2
      have HG := hid (hgr.trans hg2)
      clear hrun hown hown2 hgr hg2
      go_upto_region 4 with fail
      go_wp2_with (first | (at_builtin; refine wpList_append_known rfl _ _ 28 rfl _ _ rfl rfl _ w2 HRUN.out ?_))
      go_roundw
      case rel => exact ⟨i + 1, a2, c2, by omega, by go_num, rfl, HO.out, HG.out⟩
      case measure => simp [intOf]; omega
    · obtain rfl : i = k := by omega
      go_wp2
      go_ret
      exact ⟨_, _, rfl, hown, hgr⟩
theorem rword_any (hi lo : Nat) (w : World) (h1 : hi < 18446744073709551616) (h2 : lo < 18446744073709551616) :
    Calls Try.prog 38 #[.agg #[.int .u64 (hi : Int), .int .u64 (lo : Int)]] w fun e w' => ∃ a c, e = .returned (.slice a 16 c) ∧ Own w' w.heap.size a 16 c (leL lo 8 ++ leL hi 8) ∧ Below w.heap.size w w' := by
  refine (W.rBytes_any hi lo (hi * B64 + lo) w ⟨hi, lo, rfl, rfl, ⟨h1, h2, rfl⟩⟩).mono ?_
  rintro e w' ⟨g, cap, rfl, hc, hb⟩
  have hs : ∀ x ∈ leL lo 8 ++ leL hi 8, x < 256 := fun x hx => by
    rcases List.mem_append.1 hx with h | h
    · exact leL_small _ _ x h
    · exact leL_small _ _ x h
  rw [bytesOf_leL hi lo h1 h2] at hc
  exact ⟨_, _, rfl, ⟨own_mono hc (by omega), hs⟩, hb⟩
set_option maxRecDepth 100000 in
set_option maxHeartbeats 2000000 in
theorem capped_any (a : Option Addr) (n cap : Nat) (L : List Nat) (o hi lo : Nat) (w : World) (base : Nat) (h : Own w base a n cap L) (hb : base ≤ w.heap.size) (hr : n ≤ 1000) (h1 : hi < 18446744073709551616) (h2 : lo < 18446744073709551616) :
    Calls Try.prog 37 #[.slice a n cap, .agg #[.int .i64 (o : Int), .int .u64 (hi : Int), .int .u64 (lo : Int)]] w fun e w' => ∃ a' cap', e = .returned (.slice a' (n + 24) cap') ∧ Own w' base a' (n + 24) cap' (L ++ (leL o 8 ++ leL lo 8 ++ leL hi 8)) ∧ Gr a a' w w' := by
  have HR := hid hr
  have HW := hid (And.intro h1 h2)
  have HBS := hid hb
  have H0 : Hid (Own (w.alloc (Obj.cells #[.int .i64 (o : Int), .int .u64 (hi : Int), .int .u64 (lo : Int)] 27)) base a n cap L) := h.alloc _
  have X0 := CBox.new w (o : Int) hi lo
  have HX := hid X0
  have hnb : ¬ Blk a w.heap.size := fun hk => by have := h.lt _ hk; omega
  have HNB := hid hnb
  have hc0 := X0.1
  clear h hb hr h1 h2 X0 hnb
  go_enter Try.func37, Try.ntmps37
  go_upto_region 2 with (first | (go_at_call 36; refine (rput_any a n cap L (o : Int) 8 _ base H0.out (by have := HBS.out; simp; omega) (by omega) (by have := HR.out; omega)).mono ?_; rintro e w2 ⟨a2, c2, rfl, hown2, hgr2⟩))
  have hX2 := HX.out.but hgr2.but HNB.out
  have hc1 := hX2.2.1
  have hc2 := hX2.2.2
  have HO2 := hid hown2
  have HG2 := hid (hgr2.pre (below1 w (Obj.cells #[.int .i64 (o : Int), .int .u64 (hi : Int), .int .u64 (lo : Int)] 27)))
  have HS2 : Hid (base ≤ w2.heap.size) := by unfold Hid; have := HBS.out; have := hgr2.but.size; simp at this; omega
  clear hX2 hown2 hgr2
  go_wp2_with (first | (go_at_call 38; refine (rword_any hi lo _ HW.out.1 HW.out.2).mono ?_; rintro e w3 ⟨a3, c3, rfl, hown3, hb3⟩; obtain ⟨a4, c4, w4, hrun, hown4, hgr4⟩ := append_any (HO2.out.later hb3) hown3.read (Nat.le_trans HS2.out hb3.size) (by have := HR.out; omega); have HRUN := hid hrun; have HO4 := hid hown4; have HG4 := hid (HG2.out.trans (hgr4.pre hb3)); clear hrun hown4 hgr4 hown3 hb3) | (at_builtin; refine wpList_append_known rfl _ _ 28 rfl _ _ rfl rfl _ w4 HRUN.out ?_))
  go_ret
  refine ⟨a4, c4, rfl, ?_, HG4.out⟩
  have := HO4.out
  rw [beL_nat, List.append_assoc] at this
  rw [List.append_assoc (leL o 8)]
  exact this
end Go.Proofs.Ytaffgoacbiedlaa
