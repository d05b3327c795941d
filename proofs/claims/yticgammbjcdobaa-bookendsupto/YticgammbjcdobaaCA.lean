import Derived.Test.YticgammbjcdobaaA1
import Derived.Test.YticgammbjcdobaaA2
namespace Go.Proofs.Yticgammbjcdobaa
open Go.RowKit
set_option maxRecDepth 100000 in
set_option maxHeartbeats 400000 in
theorem width16 (w : World) : Calls Try.prog 82 #[] w fun e w' => e = .returned (.int .i64 2) ∧ w' = w := by
  go_enter Try.func82, Try.ntmps82
  go_wp2
  go_loop [1, 2] (fun n r => ∃ k : Nat, k ≤ 2 ∧ n = .int .i64 k ∧ r = .int .u64 ((65535 / 256 ^ k : Nat) : Int)) (fun n _ => 2 - (intOf n).toNat)
  case atStart => exact ⟨0, by omega, rfl, rfl⟩
  case round =>
    obtain ⟨k, hk, rfl, rfl⟩ := hrel
    rcases (by omega : k = 0 ∨ k = 1 ∨ k = 2) with rfl | rfl | rfl
    · go_wp2
      exact ⟨⟨1, by omega, by go_num, by go_num⟩, by simp [intOf]⟩
    · go_wp2
      exact ⟨⟨2, by omega, by go_num, by go_num⟩, by simp [intOf]⟩
    · go_wp2
      go_ret
      exact ⟨rfl, rfl⟩
theorem make_run (n more : Nat) (hr : n + more ≤ 140737488355328) (u : World) : (Instr.makeSlice 33 (.int .i64 (n : Int)) (.int .i64 ((n : Int) + (more : Int)))).run Try.prog u =
    .ok (.slice (some ⟨u.heap.size, 0, none⟩) n (n + more)) (u.alloc (.cells (madeCells #[.int .u8 0] (n + more)) 5)) := by
  obtain ⟨i0, hi, hz0, hz1, hz2⟩ := info_parts info5
  have h := run_make (P := Try.prog) u 33 5 i0 (.int .u8 0) Try.underlying33 hi hz0 .i64 .i64 (n : Int) ((n : Int) + (more : Int)) (by omega) (by omega) (by rw [hz2]; omega) (by omega)
  have e : ((n : Int) + (more : Int)).toNat = n + more := by omega
  rw [e] at h
  simpa [hz1, Value.cells] using h
theorem copy_run (w : World) (a : Option Addr) (n cap more : Nat) (L : List Nat) (h : Row w a n cap L) (hr : n + more ≤ 140737488355328) :
    ∃ v' w', (Builtin.copy_ #[33, 33] 3 #[.slice (some ⟨w.heap.size, 0, none⟩) n (n + more), .slice a n cap]).run Try.prog (w.alloc (.cells (madeCells #[.int .u8 0] (n + more)) 5)) = .ok v' w' ∧
      Own w' w.heap.size (some ⟨w.heap.size, 0, none⟩) n (n + more) L ∧ Below w.heap.size w w' := by
  have hh := heap_alloc_new w (.cells (madeCells #[.int .u8 0] (n + more)) 5)
  have hsz : (madeCells #[Value.int .u8 0] (n + more)).size = n + more := by simp [madeCells]
  have hbase : Below w.heap.size w (w.alloc (.cells (madeCells #[.int .u8 0] (n + more)) 5)) := below1 _ _
  cases a with
  | none =>
    obtain ⟨rfl, rfl⟩ := h.none_ rfl
    have hL : L = [] := List.eq_nil_of_length_eq_zero h.len
    subst hL
    refine ⟨_, _, run_copy_nil (P := Try.prog) _ 33 33 3 5 _ _ _ Try.underlying33 (by kernel_rfl), ⟨⟨rfl, .inr ⟨_, _, _, rfl, Nat.le_refl _, hh, by omega, by unfold maxLen; omega, by rw [hsz, Nat.mul_one], by simp [u8s]⟩⟩, h.small⟩, hbase⟩
  | some x =>
    have hl : (u8s L).length = n := by rw [u8s_length, h.len]
    have hr := run_copy_row (P := Try.prog) (w.alloc (.cells (madeCells #[.int .u8 0] (n + more)) 5)) 33 33 3 5 w.heap.size 0 n (n + more) x n cap _ 5 (u8s L) Try.underlying33 (by kernel_rfl) hh (by rw [hl]; simp) (fun j v hj => cell_later (below1 _ _) (h.cells x rfl j v hj)) (by rw [hl, hsz]; omega) (u8s_one L)
    refine ⟨_, _, hr, ⟨⟨by rw [hl, Nat.mul_one], .inr ⟨_, _, _, rfl, Nat.le_refl _, setRow_heap _ _ _ _ _ _ hh, by omega, by unfold maxLen; omega, ?_, ?_⟩⟩, h.small⟩, ?_⟩
    · simp [hl, hsz]
    · simp only [Nat.mul_one, List.take_zero, List.nil_append, Nat.zero_add]
      rw [List.take_left' hl]
    · refine hbase.trans ⟨rfl, rfl, rfl, by simp, fun k hk => ?_⟩
      exact setRow_other _ _ _ _ (by omega)
set_option maxRecDepth 100000 in
set_option maxHeartbeats 400000 in
theorem room_any (a : Option Addr) (n cap : Nat) (more : Nat) (L : List Nat) (w : World) (h : Row w a n cap L) (hr : n + more ≤ 140737488355328) :
    Calls Try.prog 81 #[.slice a n cap, .int .i64 (more : Int)] w fun e w' => ∃ g, e = .returned (.slice (some ⟨g, 0, none⟩) n (n + more)) ∧ Own w' w.heap.size (some ⟨g, 0, none⟩) n (n + more) L ∧ Below w.heap.size w w' := by
  have hmk := make_run n more hr
  have ew : IntKind.i64.wrap ((n : Int) + (more : Int)) = (n : Int) + (more : Int) := by rw [IntKind.wrap_i64]; omega
  obtain ⟨v', w2, hrun, hown, hb⟩ := copy_run w a n cap more L h hr
  clear h hr
  go_enter Try.func81, Try.ntmps81
  go_wp2
  go_ret
  exact ⟨_, rfl, hown, hb⟩
end Go.Proofs.Yticgammbjcdobaa
namespace Go.Proofs.Yticgammbjcdobaa
open Go.RowKit
set_option linter.unusedVariables false
set_option maxRecDepth 100000 in
set_option maxHeartbeats 1000000 in
theorem width64 (w : World) : Calls Try.prog 87 #[] w fun e w' => e = .returned (.int .i64 8) ∧ w' = w := by
  go_enter Try.func87, Try.ntmps87
  go_wp2
  go_loop [1, 2] (fun n r => ∃ k : Nat, k ≤ 8 ∧ n = .int .i64 k ∧ r = .int .u64 ((18446744073709551615 / 256 ^ k : Nat) : Int)) (fun n _ => 8 - (intOf n).toNat)
  case atStart => exact ⟨0, by omega, rfl, rfl⟩
  case round =>
    obtain ⟨k, hk, rfl, rfl⟩ := hrel
    rcases (by omega : k = 0 ∨ k = 1 ∨ k = 2 ∨ k = 3 ∨ k = 4 ∨ k = 5 ∨ k = 6 ∨ k = 7 ∨ k = 8) with rfl | rfl | rfl | rfl | rfl | rfl | rfl | rfl | rfl
    · go_wp2
      exact ⟨⟨1, by omega, by go_num, by go_num⟩, by simp [intOf]⟩
    · go_wp2
      exact ⟨⟨2, by omega, by go_num, by go_num⟩, by simp [intOf]⟩
    · go_wp2
      exact ⟨⟨3, by omega, by go_num, by go_num⟩, by simp [intOf]⟩
    · go_wp2
      exact ⟨⟨4, by omega, by go_num, by go_num⟩, by simp [intOf]⟩
    · go_wp2
      exact ⟨⟨5, by omega, by go_num, by go_num⟩, by simp [intOf]⟩
    · go_wp2
      exact ⟨⟨6, by omega, by go_num, by go_num⟩, by simp [intOf]⟩
    · go_wp2
      exact ⟨⟨7, by omega, by go_num, by go_num⟩, by simp [intOf]⟩
    · go_wp2
      exact ⟨⟨8, by omega, by go_num, by go_num⟩, by simp [intOf]⟩
    · go_wp2
      go_ret
      exact ⟨rfl, rfl⟩
def LayRel (w : World) (a : Option Addr) (base n : Nat) (L : List Nat) (v k : Nat) (o r t : Value) (w' : World) : Prop :=
  ∃ (i : Nat) (a' : Option Addr) (cap' : Nat), i ≤ k ∧ t = .int .i64 (i : Int) ∧ r = .int .u64 ((v / 256 ^ i : Nat) : Int) ∧ o = .slice a' (n + i) cap' ∧ Own w' base a' (n + i) cap' (L ++ leL v i) ∧ Gr a a' w w'
theorem byte_of (v i : Nat) : IntKind.u8.wrap ((v / 256 ^ i : Nat) : Int) = ((v / 256 ^ i % 256 : Nat) : Int) := by rw [IntKind.wrap_u8]; omega
theorem rest_of (v i : Nat) : (((v / 256 ^ i : Nat) : Int) / 256) = ((v / 256 ^ (i + 1) : Nat) : Int) := by
  rw [Nat.pow_succ, ← Nat.div_div_eq_div_mul]
  omega
theorem append_byte {w : World} {base n cap : Nat} {a : Option Addr} {L : List Nat} {b : Nat} (h : Own w base a n cap L) (hb : base ≤ w.heap.size) (hr : n + 1 ≤ 140737488355328) (hb8 : b < 256) :
    ∃ a' cap' w', (Builtin.append_ #[33, 33] 33 #[.slice a n cap, .slice (some ⟨w.heap.size, 0, none⟩) 1 1]).run Try.prog (w.alloc (Obj.cells #[Value.int .u8 (b : Int)] 5)) = .ok (.slice a' (n + 1) cap') w' ∧ Own w' base a' (n + 1) cap' (L ++ [b]) ∧ Gr a a' w w' := by
  obtain ⟨a', cap', w', h1, h2, h4⟩ := append_any (h.alloc (Obj.cells #[Value.int .u8 (b : Int)] 5)) (Row.one w b hb8) (by simp; omega) hr
  exact ⟨a', cap', w', h1, h2, h4.pre (below1 _ _)⟩
set_option maxRecDepth 100000 in
set_option maxHeartbeats 1000000 in
theorem lay16 (a : Option Addr) (n cap : Nat) (L : List Nat) (v : Nat) (w : World) (base : Nat) (hv : v < 65536) (h : Own w base a n cap L) (hb : base ≤ w.heap.size) (hr : n + 2 ≤ 140737488355328) :
    Calls Try.prog 80 #[.slice a n cap, .int .u16 (v : Int)] w fun e w' => ∃ a' cap', e = .returned (.slice a' (n + 2) cap') ∧ Own w' base a' (n + 2) cap' (L ++ leL v 2) ∧ Gr a a' w w' := by
  have HR : Hid (n + 2 ≤ 140737488355328) := hr
  have HV : Hid (LayRel w a base n L v 2 (.slice a n cap) (.int .u64 (v : Int)) (.int .i64 0) w) := ⟨0, a, cap, by omega, rfl, by simp, rfl, by simpa [leL_zero] using h, Gr.refl _ _⟩
  clear h hr
  go_enter Try.func80, Try.ntmps80
  go_wp2_with (first | (go_at_call 82; refine (width16 _).mono ?_; rintro e w1 ⟨rfl, rfl⟩))
  rename World => w
  go_loopw [0, 5, 9] (LayRel w a base n L v 2) (fun _ _ t _ => 2 - (intOf t).toNat)
  case atStart => exact HV.out
  case round =>
    clear HV
    obtain ⟨i, a', cap', hi, rfl, rfl, rfl, hown, hB⟩ := hrel
    have hbw : base ≤ wr.heap.size := Nat.le_trans hb hB.but.size
    by_cases hlt : i < 2
    · have hd : decide ((i : Int) < 2) = true := by simp; omega
      have e1 := byte_of v i
      have e2 := rest_of v i
      obtain ⟨a2, c2, w2, hrun, hown2, hB2⟩ := append_byte (b := v / 256 ^ i % 256) hown hbw (by have := HR.out; omega) (by omega)
      have HRUN : Hid _ := hrun
      have HO : Hid (Own w2 base a2 (n + (i + 1)) c2 (L ++ leL v (i + 1))) := by rw [leL_succ, ← List.append_assoc]; exact hown2
      have HB : Hid (Gr a a2 w w2) := hB.trans hB2
      clear hrun hown hown2 hB hB2
      go_wp2_with (first | (at_builtin; refine wpList_append_known rfl _ _ 33 rfl _ _ rfl rfl _ w2 HRUN.out ?_))
      go_roundw
      case rel => exact ⟨i + 1, a2, c2, by omega, by go_num, by rw [← e2]; simp, rfl, HO.out, HB.out⟩
      case measure => simp [intOf]; omega
    · obtain rfl : i = 2 := by omega
      go_wp2
      go_ret
      exact ⟨a', cap', rfl, hown, hB⟩
set_option maxRecDepth 100000 in
set_option maxHeartbeats 1000000 in
theorem lay64 (a : Option Addr) (n cap : Nat) (L : List Nat) (v : Nat) (w : World) (base : Nat) (hv : v < 18446744073709551616) (h : Own w base a n cap L) (hb : base ≤ w.heap.size) (hr : n + 8 ≤ 140737488355328) :
    Calls Try.prog 85 #[.slice a n cap, .int .u64 (v : Int)] w fun e w' => ∃ a' cap', e = .returned (.slice a' (n + 8) cap') ∧ Own w' base a' (n + 8) cap' (L ++ leL v 8) ∧ Gr a a' w w' := by
  have HR : Hid (n + 8 ≤ 140737488355328) := hr
  have HV : Hid (LayRel w a base n L v 8 (.slice a n cap) (.int .u64 (v : Int)) (.int .i64 0) w) := ⟨0, a, cap, by omega, rfl, by simp, rfl, by simpa [leL_zero] using h, Gr.refl _ _⟩
  clear h hr
  go_enter Try.func85, Try.ntmps85
  go_wp2_with (first | (go_at_call 87; refine (width64 _).mono ?_; rintro e w1 ⟨rfl, rfl⟩))
  rename World => w
  go_loopw [0, 5, 8] (LayRel w a base n L v 8) (fun _ _ t _ => 8 - (intOf t).toNat)
  case atStart => exact HV.out
  case round =>
    clear HV
    obtain ⟨i, a', cap', hi, rfl, rfl, rfl, hown, hB⟩ := hrel
    have hbw : base ≤ wr.heap.size := Nat.le_trans hb hB.but.size
    by_cases hlt : i < 8
    · have hd : decide ((i : Int) < 8) = true := by simp; omega
      have e1 := byte_of v i
      have e2 := rest_of v i
      obtain ⟨a2, c2, w2, hrun, hown2, hB2⟩ := append_byte (b := v / 256 ^ i % 256) hown hbw (by have := HR.out; omega) (by omega)
      have HRUN : Hid _ := hrun
      have HO : Hid (Own w2 base a2 (n + (i + 1)) c2 (L ++ leL v (i + 1))) := by rw [leL_succ, ← List.append_assoc]; exact hown2
      have HB : Hid (Gr a a2 w w2) := hB.trans hB2
      clear hrun hown hown2 hB hB2
      go_wp2_with (first | (at_builtin; refine wpList_append_known rfl _ _ 33 rfl _ _ rfl rfl _ w2 HRUN.out ?_))
      go_roundw
      case rel => exact ⟨i + 1, a2, c2, by omega, by go_num, by rw [← e2]; simp, rfl, HO.out, HB.out⟩
      case measure => simp [intOf]; omega
    · obtain rfl : i = 8 := by omega
      go_wp2
      go_ret
      exact ⟨a', cap', rfl, hown, hB⟩
set_option maxRecDepth 100000 in
set_option maxHeartbeats 1000000 in
theorem put16 (a : Option Addr) (n cap : Nat) (L : List Nat) (v : Nat) (w : World) (hv : v < 65536) (h : Row w a n cap L) (hr : n + 2 ≤ 140737488355328) :
    Calls Try.prog 72 #[.slice a n cap, .int .u16 (v : Int)] w fun e w' => ∃ a' cap', e = .returned (.slice a' (n + 2) cap') ∧ Own w' w.heap.size a' (n + 2) cap' (L ++ leL v 2) ∧ Below w.heap.size w w' := by
  have HR : Hid (n + 2 ≤ 140737488355328) := hr
  clear hr
  go_enter Try.func72, Try.ntmps72
  go_wp2_with (first | (go_at_call 82; refine (width16 _).mono ?_; rintro e w1 ⟨rfl, rfl⟩) | (go_at_call 81; refine (room_any a n cap 2 L _ h HR.out).mono ?_; rintro e w2 ⟨g, rfl, hown, hb⟩) | (go_at_call 80; refine (lay16 _ _ _ L v _ _ hv hown hb.size HR.out).mono ?_; rintro e w3 ⟨a3, c3, rfl, hown3, hb3⟩))
  go_ret
  exact ⟨a3, c3, rfl, hown3, hb.trans (hb3.below hown hb.size)⟩
end Go.Proofs.Yticgammbjcdobaa
namespace Go.Proofs.Yticgammbjcdobaa
open Go.RowKit
set_option linter.unusedVariables false
end Go.Proofs.Yticgammbjcdobaa
namespace Go.Proofs.Yticgammbjcdobaa
open Go.RowKit
set_option linter.unusedVariables false
end Go.Proofs.Yticgammbjcdobaa
