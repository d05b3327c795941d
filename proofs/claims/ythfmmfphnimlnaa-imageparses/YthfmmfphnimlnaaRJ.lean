import Derived.Test.YthfmmfphnimlnaaRH
import Derived.Test.YthfmmfphnimlnaaIX
namespace Go.Proofs.Ythfmmfphnimlnaa
open Go.RowKit
set_option linter.unusedVariables false
set_option linter.unusedSimpArgs false
/-- Appending to a list that is full. -/
theorem append_full {w : World} {p : Addr} {n : Nat} {L : List Nat} {x : Addr} {m c : Nat} {M : List Nat} (h : Row w (some p) n n L) (k : Row w (some x) m c M) (hm : 0 < m) (hr : n + m ≤ 140737488355328) :
    ∃ a' cap' w', (Builtin.append_ #[30, 30] 30 #[.slice (some p) n n, .slice (some x) m c]).run Try.prog w = .ok (.slice a' (n + m) cap') w' ∧ Own w' w.heap.size a' (n + m) cap' (L ++ M) ∧ Below w.heap.size w w' := by
  obtain ⟨i, hi, hz0, hz1, hz2⟩ := info_parts info5
  have hl : (u8s L).length = n := by rw [u8s_length, h.len]
  have hlm : (u8s M).length = m := by rw [u8s_length, k.len]
  have hrun := run_append_grow (P := Try.prog) w 30 30 5 i (.int .u8 0) Try.underlying30 hi hz0 p n n (u8s L) (by rw [hz1, Nat.mul_one]; exact hl) (h.cells p rfl) x m c (u8s M) (by rw [hz1, Nat.mul_one]; exact hlm) (k.cells x rfl) (by omega) (by omega) (growslice_fits (by omega) (by rw [hz2]; omega))
  refine ⟨_, _, _, hrun, ⟨⟨by simp [hl, hlm, u8s, h.len, k.len], .inr ⟨w.heap.size, _, _, rfl, Nat.le_refl _, heap_alloc_new w.drew _, grownCap_ge _ _ _ _, grownCap_le_maxLen _ _ _ _ (by unfold maxLen; omega), ?_, ?_⟩⟩, fun u hu => ?_⟩, ((Below.refl _ _).drew).alloc (by simp) _⟩
  · have := grownCap_ge w (n + m) n 5
    simp only [Array.size_append, List.size_toArray, size_zeroCells, hl, hlm, Value.cells]
    simp
    omega
  · rw [Nat.mul_one, Array.toList_append, Array.toList_append, u8s_append]
    exact List.take_left' (by simp [hl, hlm])
  · rcases List.mem_append.1 hu with h1 | h1
    · exact h.small u h1
    · exact k.small u h1
set_option maxRecDepth 100000 in
set_option maxHeartbeats 1000000 in
theorem rput_first (p : Addr) (n : Nat) (L : List Nat) (v : Int) (k : Nat) (w : World) (h : Row w (some p) n n L) (hk0 : 1 ≤ k) (hk : k ≤ 8) (hr : n ≤ 10000000) :
    Calls Try.prog 36 #[.slice (some p) n n, .int .i64 v, .int .i64 (k : Int)] w fun e w' => ∃ a' cap', e = .returned (.slice a' (n + k) cap') ∧ Own w' w.heap.size a' (n + k) cap' (L ++ beL v k) ∧ Below w.heap.size w w' := by
  have HR := hid h
  clear h
  go_enter Try.func36, Try.ntmps36
  go_wp2
  go_loopw [0, 7] (fun o t U => ∃ (i : Nat) (a' : Option Addr) (cap' : Nat), i ≤ k ∧ t = .int .i64 (i : Int) ∧ o = .slice a' (n + i) cap' ∧ (i = 0 ∧ a' = some p ∧ cap' = n ∨ 0 < i ∧ Own U w.heap.size a' (n + i) cap' (L ++ beL v i)) ∧ Below w.heap.size w U) (fun _ t _ => k - ivN t)
  case atStart => exact ⟨0, some p, n, by omega, rfl, rfl, .inl ⟨rfl, rfl, rfl⟩, Below.refl _ _⟩
  case round =>
    obtain ⟨i, a', cap', hi, rfl, rfl, hown, hB⟩ := hrel
    have HBr := hid hB
    have HOw := hid hown
    clear hB hown
    by_cases hlt : i < k
    · have hdi : decide ((i : Int) < (k : Int)) = true := by simp; omega
      have e8 : IntKind.i64.wrap (8 * (i : Int)) = 8 * (i : Int) := by rw [IntKind.wrap_i64]; omega
      have e9 : IntKind.u64.wrap (8 * (i : Int)) = 8 * (i : Int) := by rw [IntKind.wrap_u64]; omega
      have hsh := shr_of v i
      have HBE := hid (beL_succ v i)
      have hq8 : (v / 256 ^ i % 256).toNat < 256 := by have := Int.emod_lt_of_pos (v / 256 ^ i) (by omega : (0 : Int) < 256); omega
      generalize (v / 256 ^ i % 256).toNat = q at hsh HBE hq8
      have key : ∃ a2 c2 w2, (Builtin.append_ #[30, 30] 30 #[.slice a' (n + i) cap', .slice (some ⟨wr.heap.size, 0, none⟩) 1 1]).run Try.prog (wr.alloc (Obj.cells #[.int .u8 (q : Int)] 5)) = .ok (.slice a2 (n + (i + 1)) c2) w2 ∧ Own w2 w.heap.size a2 (n + (i + 1)) c2 (L ++ beL v (i + 1)) ∧ Below w.heap.size w w2 := by
        rcases HOw.out with ⟨e0, rfl, rfl⟩ | ⟨_, ho⟩
        · subst e0
          have hb1 := below1 wr (Obj.cells #[.int .u8 (q : Int)] 5)
          obtain ⟨a2, c2, w2, h1, h2, h3⟩ := append_full (Row.later (below_call HBr.out hb1) HR.out) (Row.one wr q hq8) (by omega) (by omega)
          refine ⟨a2, c2, w2, h1, ?_, below_call (below_call HBr.out hb1) h3⟩
          rw [HBE.out]
          exact h2.mono (below_call HBr.out hb1).size
        · obtain ⟨a2, c2, w2, h1, h2, h3⟩ := append_byte (b := q) ho HBr.out.size (by omega) hq8
          refine ⟨a2, c2, w2, h1, ?_, HBr.out.trans (h3.below ho HBr.out.size)⟩
          rw [HBE.out, ← List.append_assoc]
          exact h2
      obtain ⟨a2, c2, w2, hrun, hown2, hb2⟩ := key
      have HRUN := hid hrun
      have HO2 := hid hown2
      have HB2 := hid hb2
      clear hrun hown2 hb2
      go_upto_region 4 with fail
      go_wp2_with (first | (at_builtin; refine wpList_append_known rfl _ _ 30 rfl _ _ rfl rfl _ w2 HRUN.out ?_))
      exact ⟨⟨i + 1, a2, c2, by omega, rfl, rfl, .inr ⟨by omega, HO2.out⟩, HB2.out⟩, by simp [ivN]; omega⟩
    · obtain rfl : i = k := by omega
      have ho : Own wr w.heap.size a' (n + i) cap' (L ++ beL v i) := by
        rcases HOw.out with ⟨e0, _, _⟩ | ⟨_, ho⟩
        · omega
        · exact ho
      have HO := hid ho
      clear ho
      go_wp2
      go_ret
      exact ⟨a', cap', rfl, HO.out, HBr.out⟩
end Go.Proofs.Ythfmmfphnimlnaa
