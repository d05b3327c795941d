import Derived.Test.YthfmmfphnimlnaaA1
import Derived.Test.YthfmmfphnimlnaaA2
namespace Go.Proofs.Ythfmmfphnimlnaa
open Go.RowKit
set_option maxRecDepth 100000 in
set_option maxHeartbeats 400000 in
theorem width16 (w : World) : Calls Try.prog 88 #[] w fun e w' => e = .returned (.int .i64 2) ∧ w' = w := by
  go_enter Try.func88, Try.ntmps88
  go_wp2
  go_loop [1, 2] (fun n r => ∃ k : Nat, k ≤ 2 ∧ n = .int .i64 k ∧ r = .int .u64 ((65535 / 256 ^ k : Nat) : Int)) (fun n _ => 2 - (intOf n).toNat)
  case atStart => exact ⟨0, by omega, rfl, rfl⟩
  case round =>
    obtain ⟨k, hk, rfl, rfl⟩ := hrel
    rcases (by omega : k = 0 ∨ k = 1 ∨ k = 2) with rfl | rfl | rfl
    · go_wp2
      exact ⟨⟨1, by omega, by go_num, by go_num⟩, by simp [intOf]⟩
    · go_wp2
      exact ⟨⟨2, by omega, by go_num, by go_num⟩, by simp [intOf]⟩
    · go_wp2
      go_ret
      exact ⟨rfl, rfl⟩
theorem make_run (n more : Nat) (hr : n + more ≤ 140737488355328) (u : World) : (Instr.makeSlice 30 (.int .i64 (n : Int)) (.int .i64 ((n : Int) + (more : Int)))).run Try.prog u =
    .ok (.slice (some ⟨u.heap.size, 0, none⟩) n (n + more)) (u.alloc (.cells (madeCells #[.int .u8 0] (n + more)) 5)) := by
  obtain ⟨i0, hi, hz0, hz1, hz2⟩ := info_parts info5
  have h := run_make (P := Try.prog) u 30 5 i0 (.int .u8 0) Try.underlying30 hi hz0 .i64 .i64 (n : Int) ((n : Int) + (more : Int)) (by omega) (by omega) (by rw [hz2]; omega) (by omega)
  have e : ((n : Int) + (more : Int)).toNat = n + more := by omega
  rw [e] at h
  simpa [hz1, Value.cells] using h
theorem copy_run (w : World) (a : Option Addr) (n cap more : Nat) (L : List Nat) (h : Row w a n cap L) (hr : n + more ≤ 140737488355328) :
    ∃ v' w', (Builtin.copy_ #[30, 30] 3 #[.slice (some ⟨w.heap.size, 0, none⟩) n (n + more), .slice a n cap]).run Try.prog (w.alloc (.cells (madeCells #[.int .u8 0] (n + more)) 5)) = .ok v' w' ∧
      Own w' w.heap.size (some ⟨w.heap.size, 0, none⟩) n (n + more) L ∧ Below w.heap.size w w' := by
  have hh := heap_alloc_new w (.cells (madeCells #[.int .u8 0] (n + more)) 5)
  have hsz : (madeCells #[Value.int .u8 0] (n + more)).size = n + more := by simp [madeCells]
  have hbase : Below w.heap.size w (w.alloc (.cells (madeCells #[.int .u8 0] (n + more)) 5)) := below1 _ _
  cases a with
  | none =>
    obtain ⟨rfl, rfl⟩ := h.none_ rfl
    have hL : L = [] := List.eq_nil_of_length_eq_zero h.len
    subst hL
    refine ⟨_, _, run_copy_nil (P := Try.prog) _ 30 30 3 5 _ _ _ Try.underlying30 (by kernel_rfl), ⟨⟨rfl, .inr ⟨_, _, _, rfl, Nat.le_refl _, hh, by omega, by unfold maxLen; omega, by rw [hsz, Nat.mul_one], by simp [u8s]⟩⟩, h.small⟩, hbase⟩
  | some x =>
    have hl : (u8s L).length = n := by rw [u8s_length, h.len]
    have hr := run_copy_row (P := Try.prog) (w.alloc (.cells (madeCells #[.int .u8 0] (n + more)) 5)) 30 30 3 5 w.heap.size 0 n (n + more) x n cap _ 5 (u8s L) Try.underlying30 (by kernel_rfl) hh (by rw [hl]; simp) (fun j v hj => cell_later (below1 _ _) (h.cells x rfl j v hj)) (by rw [hl, hsz]; omega) (u8s_one L)
    refine ⟨_, _, hr, ⟨⟨by rw [hl, Nat.mul_one], .inr ⟨_, _, _, rfl, Nat.le_refl _, setRow_heap _ _ _ _ _ _ hh, by omega, by unfold maxLen; omega, ?_, ?_⟩⟩, h.small⟩, ?_⟩
    · simp [hl, hsz]
    · simp only [Nat.mul_one, List.take_zero, List.nil_append, Nat.zero_add]
      rw [List.take_left' hl]
    · refine hbase.trans ⟨rfl, rfl, rfl, by simp, fun k hk => ?_⟩
      exact setRow_other _ _ _ _ (by omega)
set_option maxRecDepth 100000 in
set_option maxHeartbeats 400000 in
theorem room_any (a : Option Addr) (n cap : Nat) (more : Nat) (L : List Nat) (w : World) (h : Row w a n cap L) (hr : n + more ≤ 140737488355328) :
    Calls Try.prog 55 #[.slice a n cap, .int .i64 (more : Int)] w fun e w' => ∃ g, e = .returned (.slice (some ⟨g, 0, none⟩) n (n + more)) ∧ Own w' w.heap.size (some ⟨g, 0, none⟩) n (n + more) L ∧ Below w.heap.size w w' := by
  have hmk := make_run n more hr
  have ew : IntKind.i64.wrap ((n : Int) + (more : Int)) = (n : Int) + (more : Int) := by rw [IntKind.wrap_i64]; omega
  obtain ⟨v', w2, hrun, hown, hb⟩ := copy_run w a n cap more L h hr
  clear h hr
  go_enter Try.func55, Try.ntmps55
  go_wp2
  go_ret
  exact ⟨_, rfl, hown, hb⟩
end Go.Proofs.Ythfmmfphnimlnaa
namespace Go.Proofs.Ythfmmfphnimlnaa
open Go.RowKit
set_option linter.unusedVariables false
set_option maxRecDepth 100000 in
set_option maxHeartbeats 1000000 in
theorem width8 (w : World) : Calls Try.prog 91 #[] w fun e w' => e = .returned (.int .i64 1) ∧ w' = w := by
  go_enter Try.func91, Try.ntmps91
  go_wp2
  go_loop [1, 2] (fun n r => ∃ k : Nat, k ≤ 1 ∧ n = .int .i64 k ∧ r = .int .u64 ((255 / 256 ^ k : Nat) : Int)) (fun n _ => 1 - (intOf n).toNat)
  case atStart => exact ⟨0, by omega, rfl, rfl⟩
  case round =>
    obtain ⟨k, hk, rfl, rfl⟩ := hrel
    rcases (by omega : k = 0 ∨ k = 1) with rfl | rfl
    · go_wp2
      exact ⟨⟨1, by omega, by go_num, by go_num⟩, by simp [intOf]⟩
    · go_wp2
      go_ret
      exact ⟨rfl, rfl⟩
set_option maxRecDepth 100000 in
set_option maxHeartbeats 1000000 in
theorem width32 (w : World) : Calls Try.prog 69 #[] w fun e w' => e = .returned (.int .i64 4) ∧ w' = w := by
  go_enter Try.func69, Try.ntmps69
  go_wp2
  go_loop [1, 2] (fun n r => ∃ k : Nat, k ≤ 4 ∧ n = .int .i64 k ∧ r = .int .u64 ((4294967295 / 256 ^ k : Nat) : Int)) (fun n _ => 4 - (intOf n).toNat)
  case atStart => exact ⟨0, by omega, rfl, rfl⟩
  case round =>
    obtain ⟨k, hk, rfl, rfl⟩ := hrel
    rcases (by omega : k = 0 ∨ k = 1 ∨ k = 2 ∨ k = 3 ∨ k = 4) with rfl | rfl | rfl | rfl | rfl
    · go_wp2
      exact ⟨⟨1, by omega, by go_num, by go_num⟩, by simp [intOf]⟩
    · go_wp2
      exact ⟨⟨2, by omega, by go_num, by go_num⟩, by simp [intOf]⟩
    · go_wp2
      exact ⟨⟨3, by omega, by go_num, by go_num⟩, by simp [intOf]⟩
    · go_wp2
      exact ⟨⟨4, by omega, by go_num, by go_num⟩, by simp [intOf]⟩
    · go_wp2
      go_ret
      exact ⟨rfl, rfl⟩
set_option maxRecDepth 100000 in
set_option maxHeartbeats 1000000 in
theorem width64 (w : World) : Calls Try.prog 67 #[] w fun e w' => e = .returned (.int .i64 8) ∧ w' = w := by
  go_enter Try.func67, Try.ntmps67
  go_wp2
  go_loop [1, 2] (fun n r => ∃ k : Nat, k ≤ 8 ∧ n = .int .i64 k ∧ r = .int .u64 ((18446744073709551615 / 256 ^ k : Nat) : Int)) (fun n _ => 8 - (intOf n).toNat)
  case atStart => exact ⟨0, by omega, rfl, rfl⟩
  case round =>
    obtain ⟨k, hk, rfl, rfl⟩ := hrel
    rcases (by omega : k = 0 ∨ k = 1 ∨ k = 2 ∨ k = 3 ∨ k = 4 ∨ k = 5 ∨ k = 6 ∨ k = 7 ∨ k = 8) with rfl | rfl | rfl | rfl | rfl | rfl | rfl | rfl | rfl
    · go_wp2
      exact ⟨⟨1, by omega, by go_num, by go_num⟩, by simp [intOf]⟩
    · go_wp2
      exact ⟨⟨2, by omega, by go_num, by go_num⟩, by simp [intOf]⟩
    · go_wp2
      exact ⟨⟨3, by omega, by go_num, by go_num⟩, by simp [intOf]⟩
    · go_wp2
      exact ⟨⟨4, by omega, by go_num, by go_num⟩, by simp [intOf]⟩
    · go_wp2
      exact ⟨⟨5, by omega, by go_num, by go_num⟩, by simp [intOf]⟩
    · go_wp2
      exact ⟨⟨6, by omega, by go_num, by go_num⟩, by simp [intOf]⟩
    · go_wp2
      exact ⟨⟨7, by omega, by go_num, by go_num⟩, by simp [intOf]⟩
    · go_wp2
      exact ⟨⟨8, by omega, by go_num, by go_num⟩, by simp [intOf]⟩
    · go_wp2
      go_ret
      exact ⟨rfl, rfl⟩
def LayRel (w : World) (a : Option Addr) (base n : Nat) (L : List Nat) (v k : Nat) (o r t : Value) (w' : World) : Prop :=
  ∃ (i : Nat) (a' : Option Addr) (cap' : Nat), i ≤ k ∧ t = .int .i64 (i : Int) ∧ r = .int .u64 ((v / 256 ^ i : Nat) : Int) ∧ o = .slice a' (n + i) cap' ∧ Own w' base a' (n + i) cap' (L ++ leL v i) ∧ Gr a a' w w'
theorem byte_of (v i : Nat) : IntKind.u8.wrap ((v / 256 ^ i : Nat) : Int) = ((v / 256 ^ i % 256 : Nat) : Int) := by rw [IntKind.wrap_u8]; omega
theorem rest_of (v i : Nat) : (((v / 256 ^ i : Nat) : Int) / 256) = ((v / 256 ^ (i + 1) : Nat) : Int) := by
  rw [Nat.pow_succ, ← Nat.div_div_eq_div_mul]
  omega
theorem append_byte {w : World} {base n cap : Nat} {a : Option Addr} {L : List Nat} {b : Nat} (h : Own w base a n cap L) (hb : base ≤ w.heap.size) (hr : n + 1 ≤ 140737488355328) (hb8 : b < 256) :
    ∃ a' cap' w', (Builtin.append_ #[30, 30] 30 #[.slice a n cap, .slice (some ⟨w.heap.size, 0, none⟩) 1 1]).run Try.prog (w.alloc (Obj.cells #[Value.int .u8 (b : Int)] 5)) = .ok (.slice a' (n + 1) cap') w' ∧ Own w' base a' (n + 1) cap' (L ++ [b]) ∧ Gr a a' w w' := by
  obtain ⟨a', cap', w', h1, h2, h4⟩ := append_any (h.alloc (Obj.cells #[Value.int .u8 (b : Int)] 5)) (Row.one w b hb8) (by simp; omega) hr
  exact ⟨a', cap', w', h1, h2, h4.pre (below1 _ _)⟩
set_option maxRecDepth 100000 in
set_option maxHeartbeats 1000000 in
theorem lay8 (a : Option Addr) (n cap : Nat) (L : List Nat) (v : Nat) (w : World) (base : Nat) (hv : v < 256) (h : Own w base a n cap L) (hb : base ≤ w.heap.size) (hr : n + 1 ≤ 140737488355328) :
    Calls Try.prog 90 #[.slice a n cap, .int .u8 (v : Int)] w fun e w' => ∃ a' cap', e = .returned (.slice a' (n + 1) cap') ∧ Own w' base a' (n + 1) cap' (L ++ leL v 1) ∧ Gr a a' w w' := by
  have HR : Hid (n + 1 ≤ 140737488355328) := hr
  have HV : Hid (LayRel w a base n L v 1 (.slice a n cap) (.int .u64 (v : Int)) (.int .i64 0) w) := ⟨0, a, cap, by omega, rfl, by simp, rfl, by simpa [leL_zero] using h, Gr.refl _ _⟩
  clear h hr
  go_enter Try.func90, Try.ntmps90
  go_wp2_with (first | (go_at_call 91; refine (width8 _).mono ?_; rintro e w1 ⟨rfl, rfl⟩))
  rename World => w
  go_loopw [0, 5, 9] (LayRel w a base n L v 1) (fun _ _ t _ => 1 - (intOf t).toNat)
  case atStart => exact HV.out
  case round =>
    clear HV
    obtain ⟨i, a', cap', hi, rfl, rfl, rfl, hown, hB⟩ := hrel
    have hbw : base ≤ wr.heap.size := Nat.le_trans hb hB.but.size
    by_cases hlt : i < 1
    · have hd : decide ((i : Int) < 1) = true := by simp; omega
      have e1 := byte_of v i
      have e2 := rest_of v i
      obtain ⟨a2, c2, w2, hrun, hown2, hB2⟩ := append_byte (b := v / 256 ^ i % 256) hown hbw (by have := HR.out; omega) (by omega)
      have HRUN : Hid _ := hrun
      have HO : Hid (Own w2 base a2 (n + (i + 1)) c2 (L ++ leL v (i + 1))) := by rw [leL_succ, ← List.append_assoc]; exact hown2
      have HB : Hid (Gr a a2 w w2) := hB.trans hB2
      clear hrun hown hown2 hB hB2
      go_wp2_with (first | (at_builtin; refine wpList_append_known rfl _ _ 30 rfl _ _ rfl rfl _ w2 HRUN.out ?_))
      go_roundw
      case rel => exact ⟨i + 1, a2, c2, by omega, by go_num, by rw [← e2]; simp, rfl, HO.out, HB.out⟩
      case measure => simp [intOf]; omega
    · obtain rfl : i = 1 := by omega
      go_wp2
      go_ret
      exact ⟨a', cap', rfl, hown, hB⟩
set_option maxRecDepth 100000 in
set_option maxHeartbeats 1000000 in
theorem lay16 (a : Option Addr) (n cap : Nat) (L : List Nat) (v : Nat) (w : World) (base : Nat) (hv : v < 65536) (h : Own w base a n cap L) (hb : base ≤ w.heap.size) (hr : n + 2 ≤ 140737488355328) :
    Calls Try.prog 87 #[.slice a n cap, .int .u16 (v : Int)] w fun e w' => ∃ a' cap', e = .returned (.slice a' (n + 2) cap') ∧ Own w' base a' (n + 2) cap' (L ++ leL v 2) ∧ Gr a a' w w' := by
  have HR : Hid (n + 2 ≤ 140737488355328) := hr
  have HV : Hid (LayRel w a base n L v 2 (.slice a n cap) (.int .u64 (v : Int)) (.int .i64 0) w) := ⟨0, a, cap, by omega, rfl, by simp, rfl, by simpa [leL_zero] using h, Gr.refl _ _⟩
  clear h hr
  go_enter Try.func87, Try.ntmps87
  go_wp2_with (first | (go_at_call 88; refine (width16 _).mono ?_; rintro e w1 ⟨rfl, rfl⟩))
  rename World => w
  go_loopw [0, 5, 9] (LayRel w a base n L v 2) (fun _ _ t _ => 2 - (intOf t).toNat)
  case atStart => exact HV.out
  case round =>
    clear HV
    obtain ⟨i, a', cap', hi, rfl, rfl, rfl, hown, hB⟩ := hrel
    have hbw : base ≤ wr.heap.size := Nat.le_trans hb hB.but.size
    by_cases hlt : i < 2
    · have hd : decide ((i : Int) < 2) = true := by simp; omega
      have e1 := byte_of v i
      have e2 := rest_of v i
      obtain ⟨a2, c2, w2, hrun, hown2, hB2⟩ := append_byte (b := v / 256 ^ i % 256) hown hbw (by have := HR.out; omega) (by omega)
      have HRUN : Hid _ := hrun
      have HO : Hid (Own w2 base a2 (n + (i + 1)) c2 (L ++ leL v (i + 1))) := by rw [leL_succ, ← List.append_assoc]; exact hown2
      have HB : Hid (Gr a a2 w w2) := hB.trans hB2
      clear hrun hown hown2 hB hB2
      go_wp2_with (first | (at_builtin; refine wpList_append_known rfl _ _ 30 rfl _ _ rfl rfl _ w2 HRUN.out ?_))
      go_roundw
      case rel => exact ⟨i + 1, a2, c2, by omega, by go_num, by rw [← e2]; simp, rfl, HO.out, HB.out⟩
      case measure => simp [intOf]; omega
    · obtain rfl : i = 2 := by omega
      go_wp2
      go_ret
      exact ⟨a', cap', rfl, hown, hB⟩
set_option maxRecDepth 100000 in
set_option maxHeartbeats 1000000 in
theorem lay32 (a : Option Addr) (n cap : Nat) (L : List Nat) (v : Nat) (w : World) (base : Nat) (hv : v < 4294967296) (h : Own w base a n cap L) (hb : base ≤ w.heap.size) (hr : n + 4 ≤ 140737488355328) :
    Calls Try.prog 68 #[.slice a n cap, .int .u32 (v : Int)] w fun e w' => ∃ a' cap', e = .returned (.slice a' (n + 4) cap') ∧ Own w' base a' (n + 4) cap' (L ++ leL v 4) ∧ Gr a a' w w' := by
  have HR : Hid (n + 4 ≤ 140737488355328) := hr
  have HV : Hid (LayRel w a base n L v 4 (.slice a n cap) (.int .u64 (v : Int)) (.int .i64 0) w) := ⟨0, a, cap, by omega, rfl, by simp, rfl, by simpa [leL_zero] using h, Gr.refl _ _⟩
  clear h hr
  go_enter Try.func68, Try.ntmps68
  go_wp2_with (first | (go_at_call 69; refine (width32 _).mono ?_; rintro e w1 ⟨rfl, rfl⟩))
  rename World => w
  go_loopw [0, 5, 9] (LayRel w a base n L v 4) (fun _ _ t _ => 4 - (intOf t).toNat)
  case atStart => exact HV.out
  case round =>
    clear HV
    obtain ⟨i, a', cap', hi, rfl, rfl, rfl, hown, hB⟩ := hrel
    have hbw : base ≤ wr.heap.size := Nat.le_trans hb hB.but.size
    by_cases hlt : i < 4
    · have hd : decide ((i : Int) < 4) = true := by simp; omega
      have e1 := byte_of v i
      have e2 := rest_of v i
      obtain ⟨a2, c2, w2, hrun, hown2, hB2⟩ := append_byte (b := v / 256 ^ i % 256) hown hbw (by have := HR.out; omega) (by omega)
      have HRUN : Hid _ := hrun
      have HO : Hid (Own w2 base a2 (n + (i + 1)) c2 (L ++ leL v (i + 1))) := by rw [leL_succ, ← List.append_assoc]; exact hown2
      have HB : Hid (Gr a a2 w w2) := hB.trans hB2
      clear hrun hown hown2 hB hB2
      go_wp2_with (first | (at_builtin; refine wpList_append_known rfl _ _ 30 rfl _ _ rfl rfl _ w2 HRUN.out ?_))
      go_roundw
      case rel => exact ⟨i + 1, a2, c2, by omega, by go_num, by rw [← e2]; simp, rfl, HO.out, HB.out⟩
      case measure => simp [intOf]; omega
    · obtain rfl : i = 4 := by omega
      go_wp2
      go_ret
      exact ⟨a', cap', rfl, hown, hB⟩
set_option maxRecDepth 100000 in
set_option maxHeartbeats 1000000 in
theorem lay64 (a : Option Addr) (n cap : Nat) (L : List Nat) (v : Nat) (w : World) (base : Nat) (hv : v < 18446744073709551616) (h : Own w base a n cap L) (hb : base ≤ w.heap.size) (hr : n + 8 ≤ 140737488355328) :
    Calls Try.prog 66 #[.slice a n cap, .int .u64 (v : Int)] w fun e w' => ∃ a' cap', e = .returned (.slice a' (n + 8) cap') ∧ Own w' base a' (n + 8) cap' (L ++ leL v 8) ∧ Gr a a' w w' := by
  have HR : Hid (n + 8 ≤ 140737488355328) := hr
  have HV : Hid (LayRel w a base n L v 8 (.slice a n cap) (.int .u64 (v : Int)) (.int .i64 0) w) := ⟨0, a, cap, by omega, rfl, by simp, rfl, by simpa [leL_zero] using h, Gr.refl _ _⟩
  clear h hr
  go_enter Try.func66, Try.ntmps66
  go_wp2_with (first | (go_at_call 67; refine (width64 _).mono ?_; rintro e w1 ⟨rfl, rfl⟩))
  rename World => w
  go_loopw [0, 5, 8] (LayRel w a base n L v 8) (fun _ _ t _ => 8 - (intOf t).toNat)
  case atStart => exact HV.out
  case round =>
    clear HV
    obtain ⟨i, a', cap', hi, rfl, rfl, rfl, hown, hB⟩ := hrel
    have hbw : base ≤ wr.heap.size := Nat.le_trans hb hB.but.size
    by_cases hlt : i < 8
    · have hd : decide ((i : Int) < 8) = true := by simp; omega
      have e1 := byte_of v i
      have e2 := rest_of v i
      obtain ⟨a2, c2, w2, hrun, hown2, hB2⟩ := append_byte (b := v / 256 ^ i % 256) hown hbw (by have := HR.out; omega) (by omega)
      have HRUN : Hid _ := hrun
      have HO : Hid (Own w2 base a2 (n + (i + 1)) c2 (L ++ leL v (i + 1))) := by rw [leL_succ, ← List.append_assoc]; exact hown2
      have HB : Hid (Gr a a2 w w2) := hB.trans hB2
      clear hrun hown hown2 hB hB2
      go_wp2_with (first | (at_builtin; refine wpList_append_known rfl _ _ 30 rfl _ _ rfl rfl _ w2 HRUN.out ?_))
      go_roundw
      case rel => exact ⟨i + 1, a2, c2, by omega, by go_num, by rw [← e2]; simp, rfl, HO.out, HB.out⟩
      case measure => simp [intOf]; omega
    · obtain rfl : i = 8 := by omega
      go_wp2
      go_ret
      exact ⟨a', cap', rfl, hown, hB⟩
set_option maxRecDepth 100000 in
set_option maxHeartbeats 1000000 in
theorem put8 (a : Option Addr) (n cap : Nat) (L : List Nat) (v : Nat) (w : World) (hv : v < 256) (h : Row w a n cap L) (hr : n + 1 ≤ 140737488355328) :
    Calls Try.prog 72 #[.slice a n cap, .int .u8 (v : Int)] w fun e w' => ∃ a' cap', e = .returned (.slice a' (n + 1) cap') ∧ Own w' w.heap.size a' (n + 1) cap' (L ++ leL v 1) ∧ Below w.heap.size w w' := by
  have HR : Hid (n + 1 ≤ 140737488355328) := hr
  clear hr
  go_enter Try.func72, Try.ntmps72
  go_wp2_with (first | (go_at_call 91; refine (width8 _).mono ?_; rintro e w1 ⟨rfl, rfl⟩) | (go_at_call 55; refine (room_any a n cap 1 L _ h HR.out).mono ?_; rintro e w2 ⟨g, rfl, hown, hb⟩) | (go_at_call 90; refine (lay8 _ _ _ L v _ _ hv hown hb.size HR.out).mono ?_; rintro e w3 ⟨a3, c3, rfl, hown3, hb3⟩))
  go_ret
  exact ⟨a3, c3, rfl, hown3, hb.trans (hb3.below hown hb.size)⟩
set_option maxRecDepth 100000 in
set_option maxHeartbeats 1000000 in
theorem put16 (a : Option Addr) (n cap : Nat) (L : List Nat) (v : Nat) (w : World) (hv : v < 65536) (h : Row w a n cap L) (hr : n + 2 ≤ 140737488355328) :
    Calls Try.prog 70 #[.slice a n cap, .int .u16 (v : Int)] w fun e w' => ∃ a' cap', e = .returned (.slice a' (n + 2) cap') ∧ Own w' w.heap.size a' (n + 2) cap' (L ++ leL v 2) ∧ Below w.heap.size w w' := by
  have HR : Hid (n + 2 ≤ 140737488355328) := hr
  clear hr
  go_enter Try.func70, Try.ntmps70
  go_wp2_with (first | (go_at_call 88; refine (width16 _).mono ?_; rintro e w1 ⟨rfl, rfl⟩) | (go_at_call 55; refine (room_any a n cap 2 L _ h HR.out).mono ?_; rintro e w2 ⟨g, rfl, hown, hb⟩) | (go_at_call 87; refine (lay16 _ _ _ L v _ _ hv hown hb.size HR.out).mono ?_; rintro e w3 ⟨a3, c3, rfl, hown3, hb3⟩))
  go_ret
  exact ⟨a3, c3, rfl, hown3, hb.trans (hb3.below hown hb.size)⟩
set_option maxRecDepth 100000 in
set_option maxHeartbeats 1000000 in
theorem put32 (a : Option Addr) (n cap : Nat) (L : List Nat) (v : Nat) (w : World) (hv : v < 4294967296) (h : Row w a n cap L) (hr : n + 4 ≤ 140737488355328) :
    Calls Try.prog 41 #[.slice a n cap, .int .u32 (v : Int)] w fun e w' => ∃ a' cap', e = .returned (.slice a' (n + 4) cap') ∧ Own w' w.heap.size a' (n + 4) cap' (L ++ leL v 4) ∧ Below w.heap.size w w' := by
  have HR : Hid (n + 4 ≤ 140737488355328) := hr
  clear hr
  go_enter Try.func41, Try.ntmps41
  go_wp2_with (first | (go_at_call 69; refine (width32 _).mono ?_; rintro e w1 ⟨rfl, rfl⟩) | (go_at_call 55; refine (room_any a n cap 4 L _ h HR.out).mono ?_; rintro e w2 ⟨g, rfl, hown, hb⟩) | (go_at_call 68; refine (lay32 _ _ _ L v _ _ hv hown hb.size HR.out).mono ?_; rintro e w3 ⟨a3, c3, rfl, hown3, hb3⟩))
  go_ret
  exact ⟨a3, c3, rfl, hown3, hb.trans (hb3.below hown hb.size)⟩
set_option maxRecDepth 100000 in
set_option maxHeartbeats 1000000 in
theorem put64 (a : Option Addr) (n cap : Nat) (L : List Nat) (v : Nat) (w : World) (hv : v < 18446744073709551616) (h : Row w a n cap L) (hr : n + 8 ≤ 140737488355328) :
    Calls Try.prog 40 #[.slice a n cap, .int .u64 (v : Int)] w fun e w' => ∃ a' cap', e = .returned (.slice a' (n + 8) cap') ∧ Own w' w.heap.size a' (n + 8) cap' (L ++ leL v 8) ∧ Below w.heap.size w w' := by
  have HR : Hid (n + 8 ≤ 140737488355328) := hr
  clear hr
  go_enter Try.func40, Try.ntmps40
  go_wp2_with (first | (go_at_call 67; refine (width64 _).mono ?_; rintro e w1 ⟨rfl, rfl⟩) | (go_at_call 55; refine (room_any a n cap 8 L _ h HR.out).mono ?_; rintro e w2 ⟨g, rfl, hown, hb⟩) | (go_at_call 66; refine (lay64 _ _ _ L v _ _ hv hown hb.size HR.out).mono ?_; rintro e w3 ⟨a3, c3, rfl, hown3, hb3⟩))
  go_ret
  exact ⟨a3, c3, rfl, hown3, hb.trans (hb3.below hown hb.size)⟩
end Go.Proofs.Ythfmmfphnimlnaa
namespace Go.Proofs.Ythfmmfphnimlnaa
open Go.RowKit
set_option linter.unusedVariables false
def getV (L : List Nat) (k : Nat) : Nat := if L.length < k then 0 else valL (L.take k)
def getE (L : List Nat) (k : Nat) : Int := if L.length < k then 17 else 0
theorem getV_lt (L : List Nat) (k : Nat) (hs : ∀ x ∈ L, x < 256) : getV L k < 256 ^ k := by
  unfold getV
  split
  · exact Nat.pow_pos (by omega)
  · exact valL_take_lt L k (by omega) hs
theorem get_short {L : List Nat} {k : Nat} (h : L.length < k) : getV L k = 0 ∧ getE L k = 17 := by unfold getV getE; rw [if_pos h, if_pos h]; exact ⟨rfl, rfl⟩
theorem get_full {L : List Nat} {k : Nat} (h : ¬ L.length < k) : getV L k = valL (L.take k) ∧ getE L k = 0 := by unfold getV getE; rw [if_neg h, if_neg h]; exact ⟨rfl, rfl⟩
theorem or_step {L : List Nat} {i : Nat} (h : i < L.length) (hi : i < 8) (hs : ∀ x ∈ L, x < 256) :
    bits .or .u64 ((valL (L.take i) : Nat) : Int) (IntKind.u64.wrap (IntKind.u64.wrap (L[i] : Int) * 2 ^ (i * 8))) = ((valL (L.take (i + 1)) : Nat) : Int) := by
  have hb := hs L[i] (List.getElem_mem h)
  have hv := valL_take_lt L i (by omega) hs
  have hv1 := valL_take_lt L (i + 1) (by omega) hs
  rw [valL_take L i h] at *
  have hp : (256 : Nat) ^ (i + 1) ≤ 256 ^ 8 := Nat.pow_le_pow_right (by omega) (by omega)
  have hp0 : (256 : Nat) ^ i ≤ 256 ^ 8 := Nat.pow_le_pow_right (by omega) (by omega)
  have e0 : IntKind.u64.wrap (L[i] : Int) = (L[i] : Int) := by rw [IntKind.wrap_u64]; omega
  have e3 : ((L[i] : Int) * 2 ^ (i * 8)) = ((256 ^ i * L[i] : Nat) : Int) := by
    rw [Nat.mul_comm (256 ^ i), pow256, Nat.mul_comm 8 i]; simp
  have hm : 256 ^ i * L[i] < 18446744073709551616 := by omega
  rw [e0, e3]
  have e4 : IntKind.u64.wrap ((256 ^ i * L[i] : Nat) : Int) = ((256 ^ i * L[i] : Nat) : Int) := by
    generalize 256 ^ i * L[i] = q at *
    rw [IntKind.wrap_u64]; omega
  rw [e4, u64_or_nat _ _ (by omega) hm, Nat.mul_comm (256 ^ i), join8 hv, Nat.mul_comm]
def GetRel (L : List Nat) (k : Nat) (v t : Value) : Prop := ∃ i : Nat, i ≤ k ∧ t = .int .i64 (i : Int) ∧ v = .int .u64 ((valL (L.take i) : Nat) : Int)
set_option maxRecDepth 100000 in
set_option maxHeartbeats 1000000 in
theorem get8 (a : Option Addr) (n cap : Nat) (L : List Nat) (w : World) (h : Row w a n cap L) :
    Calls Try.prog 105 #[.slice a n cap] w fun e w' => e = .returned (.tuple #[.int .u8 ((getV L 1 : Nat) : Int), .int .i64 (getE L 1)]) ∧ w' = w := by
  obtain rfl := h.len
  by_cases hl : L.length < 1
  · obtain ⟨e1, e2⟩ := get_short hl
    rw [e1, e2]
    have hd : decide ((L.length : Int) < 1) = true := by simp; omega
    go_enter Try.func105, Try.ntmps105
    go_wp2_with (first | (go_at_call 91; refine (width8 _).mono ?_; rintro e w1 ⟨rfl, rfl⟩))
    exact bodyPost_ret (v := .tuple #[.int .u8 0, .int .i64 17]) (by simp [results, Try.results105, go_sem]) rfl ⟨rfl, rfl⟩
  · obtain ⟨e1, e2⟩ := get_full hl
    rw [e1, e2]
    have hd : decide ((L.length : Int) < 1) = false := by simp; omega
    obtain ⟨b, o, rfl, hc⟩ := h.plain (by omega)
    have HC : Hid (∀ i (hi : i < L.length), w.cell? ⟨b, o + i, none⟩ = some (.int .u8 ((L[i] : Nat) : Int))) := hc
    have HS : Hid (∀ x ∈ L, x < 256) := h.small
    have HT : Hid (valL (L.take 1) < 256) := valL_take_lt L 1 (by omega) h.small
    clear hc h e1 e2
    go_enter Try.func105, Try.ntmps105
    go_wp2_with (first | (go_at_call 91; refine (width8 _).mono ?_; rintro e w1 ⟨rfl, rfl⟩))
    go_loop [5, 13] (GetRel L 1) (fun _ t => 1 - (intOf t).toNat)
    case atStart => exact ⟨0, by omega, rfl, rfl⟩
    case round =>
      obtain ⟨i, hi, rfl, rfl⟩ := hrel
      by_cases hlt : i < 1
      · have hd2 : decide ((i : Int) < 1) = true := by simp; omega
        have hli : i < L.length := by omega
        have hcell := HC.out i hli
        have ew : IntKind.i64.wrap ((i : Int) * 8) = (i : Int) * 8 := by rw [IntKind.wrap_i64]; omega
        have hor : Hid _ := or_step hli (by omega) HS.out
        go_wp2
        exact ⟨⟨i + 1, by omega, by go_num, by rw [← hor.out]⟩, by simp [intOf]; omega⟩
      · obtain rfl : i = 1 := by omega
        have ew : IntKind.u8.wrap ((valL (L.take 1) : Nat) : Int) = ((valL (L.take 1) : Nat) : Int) := by have := HT.out; rw [IntKind.wrap_u8]; omega
        go_wp2
        exact bodyPost_ret (v := .tuple #[.int .u8 ((valL (L.take 1) : Nat) : Int), .int .i64 0]) (by simp [results, Try.results105, go_sem]) rfl ⟨rfl, rfl⟩
set_option maxRecDepth 100000 in
set_option maxHeartbeats 1000000 in
theorem wide8 (a : Option Addr) (n cap : Nat) (L : List Nat) (w : World) (h : Row w a n cap L) :
    Calls Try.prog 99 #[.slice a n cap] w fun e w' => e = .returned (.tuple #[.int .u64 ((getV L 1 : Nat) : Int), .int .i64 (getE L 1)]) ∧ w' = w := by
  have HT : Hid (getV L 1 < 256) := getV_lt L 1 h.small
  have ew : IntKind.u64.wrap ((getV L 1 : Nat) : Int) = ((getV L 1 : Nat) : Int) := by have := HT.out; rw [IntKind.wrap_u64]; omega
  go_enter Try.func99, Try.ntmps99
  go_wp2_with (first | (go_at_call 105; refine (get8 _ _ _ L _ h).mono ?_; rintro e w1 ⟨rfl, rfl⟩))
  exact bodyPost_ret (v := .tuple #[.int .u64 ((getV L 1 : Nat) : Int), .int .i64 (getE L 1)]) (by simp [results, Try.results99, go_sem]) rfl ⟨rfl, rfl⟩
set_option maxRecDepth 100000 in
set_option maxHeartbeats 1000000 in
theorem get16 (a : Option Addr) (n cap : Nat) (L : List Nat) (w : World) (h : Row w a n cap L) :
    Calls Try.prog 106 #[.slice a n cap] w fun e w' => e = .returned (.tuple #[.int .u16 ((getV L 2 : Nat) : Int), .int .i64 (getE L 2)]) ∧ w' = w := by
  obtain rfl := h.len
  by_cases hl : L.length < 2
  · obtain ⟨e1, e2⟩ := get_short hl
    rw [e1, e2]
    have hd : decide ((L.length : Int) < 2) = true := by simp; omega
    go_enter Try.func106, Try.ntmps106
    go_wp2_with (first | (go_at_call 88; refine (width16 _).mono ?_; rintro e w1 ⟨rfl, rfl⟩))
    exact bodyPost_ret (v := .tuple #[.int .u16 0, .int .i64 17]) (by simp [results, Try.results106, go_sem]) rfl ⟨rfl, rfl⟩
  · obtain ⟨e1, e2⟩ := get_full hl
    rw [e1, e2]
    have hd : decide ((L.length : Int) < 2) = false := by simp; omega
    obtain ⟨b, o, rfl, hc⟩ := h.plain (by omega)
    have HC : Hid (∀ i (hi : i < L.length), w.cell? ⟨b, o + i, none⟩ = some (.int .u8 ((L[i] : Nat) : Int))) := hc
    have HS : Hid (∀ x ∈ L, x < 256) := h.small
    have HT : Hid (valL (L.take 2) < 65536) := valL_take_lt L 2 (by omega) h.small
    clear hc h e1 e2
    go_enter Try.func106, Try.ntmps106
    go_wp2_with (first | (go_at_call 88; refine (width16 _).mono ?_; rintro e w1 ⟨rfl, rfl⟩))
    go_loop [5, 13] (GetRel L 2) (fun _ t => 2 - (intOf t).toNat)
    case atStart => exact ⟨0, by omega, rfl, rfl⟩
    case round =>
      obtain ⟨i, hi, rfl, rfl⟩ := hrel
      by_cases hlt : i < 2
      · have hd2 : decide ((i : Int) < 2) = true := by simp; omega
        have hli : i < L.length := by omega
        have hcell := HC.out i hli
        have ew : IntKind.i64.wrap ((i : Int) * 8) = (i : Int) * 8 := by rw [IntKind.wrap_i64]; omega
        have hor : Hid _ := or_step hli (by omega) HS.out
        go_wp2
        exact ⟨⟨i + 1, by omega, by go_num, by rw [← hor.out]⟩, by simp [intOf]; omega⟩
      · obtain rfl : i = 2 := by omega
        have ew : IntKind.u16.wrap ((valL (L.take 2) : Nat) : Int) = ((valL (L.take 2) : Nat) : Int) := by have := HT.out; rw [IntKind.wrap_u16]; omega
        go_wp2
        exact bodyPost_ret (v := .tuple #[.int .u16 ((valL (L.take 2) : Nat) : Int), .int .i64 0]) (by simp [results, Try.results106, go_sem]) rfl ⟨rfl, rfl⟩
set_option maxRecDepth 100000 in
set_option maxHeartbeats 1000000 in
theorem wide16 (a : Option Addr) (n cap : Nat) (L : List Nat) (w : World) (h : Row w a n cap L) :
    Calls Try.prog 100 #[.slice a n cap] w fun e w' => e = .returned (.tuple #[.int .u64 ((getV L 2 : Nat) : Int), .int .i64 (getE L 2)]) ∧ w' = w := by
  have HT : Hid (getV L 2 < 65536) := getV_lt L 2 h.small
  have ew : IntKind.u64.wrap ((getV L 2 : Nat) : Int) = ((getV L 2 : Nat) : Int) := by have := HT.out; rw [IntKind.wrap_u64]; omega
  go_enter Try.func100, Try.ntmps100
  go_wp2_with (first | (go_at_call 106; refine (get16 _ _ _ L _ h).mono ?_; rintro e w1 ⟨rfl, rfl⟩))
  exact bodyPost_ret (v := .tuple #[.int .u64 ((getV L 2 : Nat) : Int), .int .i64 (getE L 2)]) (by simp [results, Try.results100, go_sem]) rfl ⟨rfl, rfl⟩
set_option maxRecDepth 100000 in
set_option maxHeartbeats 1000000 in
theorem get32 (a : Option Addr) (n cap : Nat) (L : List Nat) (w : World) (h : Row w a n cap L) :
    Calls Try.prog 107 #[.slice a n cap] w fun e w' => e = .returned (.tuple #[.int .u32 ((getV L 4 : Nat) : Int), .int .i64 (getE L 4)]) ∧ w' = w := by
  obtain rfl := h.len
  by_cases hl : L.length < 4
  · obtain ⟨e1, e2⟩ := get_short hl
    rw [e1, e2]
    have hd : decide ((L.length : Int) < 4) = true := by simp; omega
    go_enter Try.func107, Try.ntmps107
    go_wp2_with (first | (go_at_call 69; refine (width32 _).mono ?_; rintro e w1 ⟨rfl, rfl⟩))
    exact bodyPost_ret (v := .tuple #[.int .u32 0, .int .i64 17]) (by simp [results, Try.results107, go_sem]) rfl ⟨rfl, rfl⟩
  · obtain ⟨e1, e2⟩ := get_full hl
    rw [e1, e2]
    have hd : decide ((L.length : Int) < 4) = false := by simp; omega
    obtain ⟨b, o, rfl, hc⟩ := h.plain (by omega)
    have HC : Hid (∀ i (hi : i < L.length), w.cell? ⟨b, o + i, none⟩ = some (.int .u8 ((L[i] : Nat) : Int))) := hc
    have HS : Hid (∀ x ∈ L, x < 256) := h.small
    have HT : Hid (valL (L.take 4) < 4294967296) := valL_take_lt L 4 (by omega) h.small
    clear hc h e1 e2
    go_enter Try.func107, Try.ntmps107
    go_wp2_with (first | (go_at_call 69; refine (width32 _).mono ?_; rintro e w1 ⟨rfl, rfl⟩))
    go_loop [5, 13] (GetRel L 4) (fun _ t => 4 - (intOf t).toNat)
    case atStart => exact ⟨0, by omega, rfl, rfl⟩
    case round =>
      obtain ⟨i, hi, rfl, rfl⟩ := hrel
      by_cases hlt : i < 4
      · have hd2 : decide ((i : Int) < 4) = true := by simp; omega
        have hli : i < L.length := by omega
        have hcell := HC.out i hli
        have ew : IntKind.i64.wrap ((i : Int) * 8) = (i : Int) * 8 := by rw [IntKind.wrap_i64]; omega
        have hor : Hid _ := or_step hli (by omega) HS.out
        go_wp2
        exact ⟨⟨i + 1, by omega, by go_num, by rw [← hor.out]⟩, by simp [intOf]; omega⟩
      · obtain rfl : i = 4 := by omega
        have ew : IntKind.u32.wrap ((valL (L.take 4) : Nat) : Int) = ((valL (L.take 4) : Nat) : Int) := by have := HT.out; rw [IntKind.wrap_u32]; omega
        go_wp2
        exact bodyPost_ret (v := .tuple #[.int .u32 ((valL (L.take 4) : Nat) : Int), .int .i64 0]) (by simp [results, Try.results107, go_sem]) rfl ⟨rfl, rfl⟩
set_option maxRecDepth 100000 in
set_option maxHeartbeats 1000000 in
theorem wide32 (a : Option Addr) (n cap : Nat) (L : List Nat) (w : World) (h : Row w a n cap L) :
    Calls Try.prog 101 #[.slice a n cap] w fun e w' => e = .returned (.tuple #[.int .u64 ((getV L 4 : Nat) : Int), .int .i64 (getE L 4)]) ∧ w' = w := by
  have HT : Hid (getV L 4 < 4294967296) := getV_lt L 4 h.small
  have ew : IntKind.u64.wrap ((getV L 4 : Nat) : Int) = ((getV L 4 : Nat) : Int) := by have := HT.out; rw [IntKind.wrap_u64]; omega
  go_enter Try.func101, Try.ntmps101
  go_wp2_with (first | (go_at_call 107; refine (get32 _ _ _ L _ h).mono ?_; rintro e w1 ⟨rfl, rfl⟩))
  exact bodyPost_ret (v := .tuple #[.int .u64 ((getV L 4 : Nat) : Int), .int .i64 (getE L 4)]) (by simp [results, Try.results101, go_sem]) rfl ⟨rfl, rfl⟩
set_option maxRecDepth 100000 in
set_option maxHeartbeats 1000000 in
theorem get64 (a : Option Addr) (n cap : Nat) (L : List Nat) (w : World) (h : Row w a n cap L) :
    Calls Try.prog 103 #[.slice a n cap] w fun e w' => e = .returned (.tuple #[.int .u64 ((getV L 8 : Nat) : Int), .int .i64 (getE L 8)]) ∧ w' = w := by
  obtain rfl := h.len
  by_cases hl : L.length < 8
  · obtain ⟨e1, e2⟩ := get_short hl
    rw [e1, e2]
    have hd : decide ((L.length : Int) < 8) = true := by simp; omega
    go_enter Try.func103, Try.ntmps103
    go_wp2_with (first | (go_at_call 67; refine (width64 _).mono ?_; rintro e w1 ⟨rfl, rfl⟩))
    exact bodyPost_ret (v := .tuple #[.int .u64 0, .int .i64 17]) (by simp [results, Try.results103, go_sem]) rfl ⟨rfl, rfl⟩
  · obtain ⟨e1, e2⟩ := get_full hl
    rw [e1, e2]
    have hd : decide ((L.length : Int) < 8) = false := by simp; omega
    obtain ⟨b, o, rfl, hc⟩ := h.plain (by omega)
    have HC : Hid (∀ i (hi : i < L.length), w.cell? ⟨b, o + i, none⟩ = some (.int .u8 ((L[i] : Nat) : Int))) := hc
    have HS : Hid (∀ x ∈ L, x < 256) := h.small
    have HT : Hid (valL (L.take 8) < 18446744073709551616) := valL_take_lt L 8 (by omega) h.small
    clear hc h e1 e2
    go_enter Try.func103, Try.ntmps103
    go_wp2_with (first | (go_at_call 67; refine (width64 _).mono ?_; rintro e w1 ⟨rfl, rfl⟩))
    go_loop [5, 13] (GetRel L 8) (fun _ t => 8 - (intOf t).toNat)
    case atStart => exact ⟨0, by omega, rfl, rfl⟩
    case round =>
      obtain ⟨i, hi, rfl, rfl⟩ := hrel
      by_cases hlt : i < 8
      · have hd2 : decide ((i : Int) < 8) = true := by simp; omega
        have hli : i < L.length := by omega
        have hcell := HC.out i hli
        have ew : IntKind.i64.wrap ((i : Int) * 8) = (i : Int) * 8 := by rw [IntKind.wrap_i64]; omega
        have hor : Hid _ := or_step hli (by omega) HS.out
        go_wp2
        exact ⟨⟨i + 1, by omega, by go_num, by rw [← hor.out]⟩, by simp [intOf]; omega⟩
      · obtain rfl : i = 8 := by omega
        have ew : IntKind.u64.wrap ((valL (L.take 8) : Nat) : Int) = ((valL (L.take 8) : Nat) : Int) := by have := HT.out; rw [IntKind.wrap_u64]; omega
        go_wp2
        exact bodyPost_ret (v := .tuple #[.int .u64 ((valL (L.take 8) : Nat) : Int), .int .i64 0]) (by simp [results, Try.results103, go_sem]) rfl ⟨rfl, rfl⟩
set_option maxRecDepth 100000 in
set_option maxHeartbeats 1000000 in
theorem wide64 (a : Option Addr) (n cap : Nat) (L : List Nat) (w : World) (h : Row w a n cap L) :
    Calls Try.prog 102 #[.slice a n cap] w fun e w' => e = .returned (.tuple #[.int .u64 ((getV L 8 : Nat) : Int), .int .i64 (getE L 8)]) ∧ w' = w := by
  have HT : Hid (getV L 8 < 18446744073709551616) := getV_lt L 8 h.small
  have ew : IntKind.u64.wrap ((getV L 8 : Nat) : Int) = ((getV L 8 : Nat) : Int) := by have := HT.out; rw [IntKind.wrap_u64]; omega
  go_enter Try.func102, Try.ntmps102
  go_wp2_with (first | (go_at_call 103; refine (get64 _ _ _ L _ h).mono ?_; rintro e w1 ⟨rfl, rfl⟩))
  exact bodyPost_ret (v := .tuple #[.int .u64 ((getV L 8 : Nat) : Int), .int .i64 (getE L 8)]) (by simp [results, Try.results102, go_sem]) rfl ⟨rfl, rfl⟩
end Go.Proofs.Ythfmmfphnimlnaa
namespace Go.Proofs.Ythfmmfphnimlnaa
open Go.RowKit
set_option linter.unusedVariables false
structure Rd (w : World) (g gb : Nat) (R : List Nat) : Prop where
  ex : ∃ o cap, Lies w ⟨g, 0, none⟩ (.slice (some ⟨gb, o, none⟩) R.length cap) ∧ R.length ≤ cap ∧ ∀ i (hi : i < R.length), w.cell? ⟨gb, o + i, none⟩ = some (.int .u8 ((R[i] : Nat) : Int))
  ne : gb ≠ g
  small : ∀ x ∈ R, x < 256
theorem Rd.but {S : Nat → Prop} {w w' : World} {g gb : Nat} {R : List Nat} (hb : But S w w') (h : Rd w g gb R) (h1 : ¬ S g) (h2 : ¬ S gb) : Rd w' g gb R := by
  obtain ⟨o, cap, hl, hc, hcell⟩ := h.ex
  refine ⟨⟨o, cap, hl.but hb h1, hc, fun i hi => ?_⟩, h.ne, h.small⟩
  have hk := hcell i hi
  rw [World.cell?_of_block (w := w) (hb.block gb (World.block_lt_of_cell? _ _ hk) h2)]
  exact hk
theorem Rd.later {w w' : World} {g gb : Nat} {R : List Nat} (hb : Below w.heap.size w w') (h : Rd w g gb R) : Rd w' g gb R := h.but (S := fun _ => False) (But.of hb) (fun h => h) (fun h => h)
theorem Rd.alloc {w : World} {g gb : Nat} {R : List Nat} (h : Rd w g gb R) (o : Obj) : Rd (w.alloc o) g gb R := h.later (below1 _ _)
theorem Rd.lt {w : World} {g gb : Nat} {R : List Nat} (h : Rd w g gb R) : g < w.heap.size := by
  obtain ⟨o, cap, hl, _⟩ := h.ex
  exact World.block_lt_of_cell? _ _ hl.1
theorem drop_get (R : List Nat) (n i : Nat) (h : i < (R.drop n).length) : (R.drop n)[i] = R[n + i]'(by simp at h; omega) := by simp
theorem Rd.shift {w : World} {g gb : Nat} {R : List Nat} {o cap n o' cap' : Nat} (h : Rd w g gb R) (hl : Lies w ⟨g, 0, none⟩ (.slice (some ⟨gb, o, none⟩) R.length cap))
    (hcell : ∀ i (hi : i < R.length), w.cell? ⟨gb, o + i, none⟩ = some (.int .u8 ((R[i] : Nat) : Int))) (hn : n ≤ R.length) (hc : R.length - n ≤ cap') (ho : o' = o + n ∨ n = R.length) :
    Rd (w.setCell ⟨g, 0, none⟩ (.slice (some ⟨gb, o', none⟩) (R.length - n) cap')) g gb (R.drop n) := by
  refine ⟨⟨o', cap', ?_, by simpa using hc, fun i hi => ?_⟩, h.ne, fun x hx => h.small x (List.mem_of_mem_drop hx)⟩
  · rw [List.length_drop]; exact hl.put
  · rw [drop_get]
    have hi2 : i < R.length - n := by simpa using hi
    rw [World.cell?_setCell_other _ _ _ _ (fun e => h.ne (by simpa using congrArg Addr.block e.symm))]
    rcases ho with rfl | rfl
    · rw [Nat.add_assoc]; exact hcell (n + i) (by omega)
    · omega
set_option maxRecDepth 100000 in
set_option maxHeartbeats 1000000 in
theorem take_any (g gb : Nat) (R : List Nat) (n : Nat) (w : World) (h : Rd w g gb R) (hn : n ≤ R.length) :
    Calls Try.prog 94 #[.pointer (some ⟨g, 0, none⟩), .int .i64 (n : Int)] w fun e w' => e = .returned (.tuple #[]) ∧ Rd w' g gb (R.drop n) ∧ But (· = g) w w' := by
  obtain ⟨o, cap, hl, hc, hcell⟩ := h.ex
  have hl1 := hl.1
  have hl2 := hl.2
  have hle : (n : Int) ≤ (R.length : Int) := by omega
  have hcap : (R.length : Int) ≤ (cap : Int) := by omega
  have h0 : (0 : Int) ≤ (n : Int) := by omega
  have HH : Hid (Rd w g gb R) := h
  have HC : Hid (∀ i (hi : i < R.length), w.cell? ⟨gb, o + i, none⟩ = some (.int .u8 ((R[i] : Nat) : Int))) := hcell
  clear h hcell
  go_enter Try.func94, Try.ntmps94
  go_wp2
  · exact bodyPost_end (v := .tuple #[]) (by simp [results, Try.results94, go_sem]) rfl ⟨rfl, HH.out.shift hl HC.out hn (by omega) (.inr (by omega)), (But.refl (· = g) w).setCell (p := ⟨g, 0, none⟩) rfl _⟩
  · exact bodyPost_end (v := .tuple #[]) (by simp [results, Try.results94, go_sem]) rfl ⟨rfl, HH.out.shift hl HC.out hn (by omega) (.inl rfl), (But.refl (· = g) w).setCell (p := ⟨g, 0, none⟩) rfl _⟩
abbrev okW (k : Int) : Prop := k = 1 ∨ k = 2 ∨ k = 4 ∨ k = 8
def lookV (L : List Nat) (k : Int) : Nat := if okW k then getV L k.toNat else 0
def lookE (L : List Nat) (k : Int) : Int := if okW k then getE L k.toNat else 5
set_option maxRecDepth 100000 in
set_option maxHeartbeats 1000000 in
theorem look_any (a : Option Addr) (n cap : Nat) (L : List Nat) (k : Int) (w : World) (h : Row w a n cap L) :
    Calls Try.prog 95 #[.slice a n cap, .int .i64 k] w fun e w' => e = .returned (.tuple #[.int .u64 ((lookV L k : Nat) : Int), .int .i64 (lookE L k)]) ∧ w' = w := by
  by_cases h1 : k = 1
  · subst h1
    go_enter Try.func95, Try.ntmps95
    go_wp2_with (first | (go_at_call 99; refine (wide8 _ _ _ L _ h).mono ?_; rintro e w1 ⟨rfl, rfl⟩))
    exact bodyPost_ret (v := .tuple #[.int .u64 ((getV L 1 : Nat) : Int), .int .i64 (getE L 1)]) (by simp [results, Try.results95, go_sem]) rfl ⟨rfl, rfl⟩
  by_cases h2 : k = 2
  · subst h2
    go_enter Try.func95, Try.ntmps95
    go_wp2_with (first | (go_at_call 100; refine (wide16 _ _ _ L _ h).mono ?_; rintro e w1 ⟨rfl, rfl⟩))
    exact bodyPost_ret (v := .tuple #[.int .u64 ((getV L 2 : Nat) : Int), .int .i64 (getE L 2)]) (by simp [results, Try.results95, go_sem]) rfl ⟨rfl, rfl⟩
  by_cases h4 : k = 4
  · subst h4
    go_enter Try.func95, Try.ntmps95
    go_wp2_with (first | (go_at_call 101; refine (wide32 _ _ _ L _ h).mono ?_; rintro e w1 ⟨rfl, rfl⟩))
    exact bodyPost_ret (v := .tuple #[.int .u64 ((getV L 4 : Nat) : Int), .int .i64 (getE L 4)]) (by simp [results, Try.results95, go_sem]) rfl ⟨rfl, rfl⟩
  by_cases h8 : k = 8
  · subst h8
    go_enter Try.func95, Try.ntmps95
    go_wp2_with (first | (go_at_call 102; refine (wide64 _ _ _ L _ h).mono ?_; rintro e w1 ⟨rfl, rfl⟩))
    exact bodyPost_ret (v := .tuple #[.int .u64 ((getV L 8 : Nat) : Int), .int .i64 (getE L 8)]) (by simp [results, Try.results95, go_sem]) rfl ⟨rfl, rfl⟩
  have hno : ¬ okW k := by unfold okW; omega
  have e1 : lookV L k = 0 := by unfold lookV; rw [if_neg hno]
  have e2 : lookE L k = 5 := by unfold lookE; rw [if_neg hno]
  rw [e1, e2]
  have b1 : (k == 1) = false := by simp; omega
  have b2 : (k == 2) = false := by simp; omega
  have b4 : (k == 4) = false := by simp; omega
  have b8 : (k == 8) = false := by simp; omega
  clear h1 h2 h4 h8 hno
  go_enter Try.func95, Try.ntmps95
  go_wp2
  exact bodyPost_ret (v := .tuple #[.int .u64 0, .int .i64 5]) (by simp [results, Try.results95, go_sem]) rfl ⟨rfl, rfl⟩
theorem look_ok {L : List Nat} {k : Int} (h : lookE L k = 0) : okW k ∧ k.toNat ≤ L.length ∧ (k.toNat : Int) = k ∧ lookV L k = valL (L.take k.toNat) := by
  unfold lookE at h
  split at h
  · rename_i hk
    unfold getE at h
    split at h
    · omega
    · rename_i hl
      refine ⟨hk, by omega, ?_, ?_⟩
      · unfold okW at hk; omega
      · unfold lookV getV; rw [if_pos hk, if_neg hl]
  · omega
theorem look_bad {L : List Nat} {k : Int} (h : lookE L k ≠ 0) : lookV L k = 0 := by
  unfold lookE at h
  unfold lookV
  split
  · rename_i hk
    rw [if_pos hk] at h
    unfold getE at h
    unfold getV
    split
    · rfl
    · rename_i hl; rw [if_neg hl] at h; omega
  · rfl
theorem Rd.row {w : World} {g gb : Nat} {R : List Nat} {o cap : Nat} (h : Rd w g gb R) (hc : R.length ≤ cap) (hcell : ∀ i (hi : i < R.length), w.cell? ⟨gb, o + i, none⟩ = some (.int .u8 ((R[i] : Nat) : Int))) : Row w (some ⟨gb, o, none⟩) R.length cap R := Row.at rfl hc h.small hcell
def numN (R : List Nat) (k : Int) : Nat := if lookE R k = 0 then k.toNat else 0
def intE (R : List Nat) (k m : Int) : Int := if m < 0 then 5 else if lookE R k ≠ 0 then lookE R k else if m < ((lookV R k : Nat) : Int) then 5 else 0
def intV (R : List Nat) (k m : Int) : Nat := if intE R k m = 0 then lookV R k else 0
def intN (R : List Nat) (k m : Int) : Nat := if intE R k m = 0 then k.toNat else 0
set_option maxRecDepth 100000 in
set_option maxHeartbeats 1000000 in
theorem int_any (g gb : Nat) (R : List Nat) (k m : Int) (w : World) (h : Rd w g gb R) (hm : m < 9223372036854775808) :
    Calls Try.prog 83 #[.pointer (some ⟨g, 0, none⟩), .int .i64 k, .int .i64 m] w fun e w' => e = .returned (.tuple #[.int .i64 ((intV R k m : Nat) : Int), .int .i64 (intE R k m)]) ∧ Rd w' g gb (R.drop (intN R k m)) ∧ But (· = g) w w' := by
  obtain ⟨o, cap, hl, hc, hcell⟩ := h.ex
  have hl1 := hl.1
  have hrow := h.row hc hcell
  clear hcell
  by_cases hm0 : m < 0
  · have e1 : intE R k m = 5 := by unfold intE; rw [if_pos hm0]
    have e2 : intV R k m = 0 := by unfold intV; rw [e1, if_neg (by omega)]
    have e3 : intN R k m = 0 := by unfold intN; rw [e1, if_neg (by omega)]
    rw [e1, e2, e3]
    go_enter Try.func83, Try.ntmps83
    go_wp2
    exact bodyPost_ret (v := .tuple #[.int .i64 0, .int .i64 5]) (by simp [results, Try.results83, go_sem]) rfl ⟨rfl, by simpa using h, But.refl _ _⟩
  have hm1 : 0 ≤ m := by omega
  have ewm : IntKind.u64.wrap m = m := by rw [IntKind.wrap_u64]; omega
  by_cases hz : lookE R k = 0
  · have hq := look_ok hz
    obtain ⟨-, hkl, hk, -⟩ := hq
    have HK : Hid ((k.toNat : Int) = k) := hk
    clear hk
    by_cases hgt : m < ((lookV R k : Nat) : Int)
    · have e1 : intE R k m = 5 := by unfold intE; rw [if_neg hm0, if_neg (by omega), if_pos hgt]
      have e2 : intV R k m = 0 := by unfold intV; rw [e1, if_neg (by omega)]
      have e3 : intN R k m = 0 := by unfold intN; rw [e1, if_neg (by omega)]
      rw [e1, e2, e3]
      have hd : decide (m < ((lookV R k : Nat) : Int)) = true := decide_eq_true hgt
      clear hkl
      go_enter Try.func83, Try.ntmps83
      go_wp2_with (first | (go_at_call 95; refine (look_any _ _ _ R k _ hrow).mono ?_; rintro e w1 ⟨rfl, rfl⟩))
      exact bodyPost_ret (v := .tuple #[.int .i64 0, .int .i64 5]) (by simp [results, Try.results83, go_sem]) rfl ⟨rfl, by simpa using h, But.refl _ _⟩
    · have e1 : intE R k m = 0 := by unfold intE; rw [if_neg hm0, if_neg (by omega), if_neg hgt]
      have e2 : intV R k m = lookV R k := by unfold intV; rw [if_pos e1]
      have e3 : intN R k m = k.toNat := by unfold intN; rw [if_pos e1]
      rw [e1, e2, e3]
      have hd : decide (m < ((lookV R k : Nat) : Int)) = false := decide_eq_false hgt
      have ewv : IntKind.i64.wrap ((lookV R k : Nat) : Int) = ((lookV R k : Nat) : Int) := by rw [IntKind.wrap_i64]; omega
      go_enter Try.func83, Try.ntmps83
      go_wp2_with (first | (go_at_call 95; refine (look_any _ _ _ R k _ hrow).mono ?_; rintro e w1 ⟨rfl, rfl⟩) | (go_at_call 94; rw [show Value.int IntKind.i64 k = .int .i64 (k.toNat : Int) by rw [HK.out]]; refine (take_any g gb R k.toNat _ h hkl).mono ?_; rintro e w2 ⟨rfl, hrd, hbut⟩))
      exact bodyPost_ret (v := .tuple #[.int .i64 ((lookV R k : Nat) : Int), .int .i64 0]) (by simp [results, Try.results83, go_sem]) rfl ⟨rfl, hrd, hbut⟩
  · have e1 : intE R k m = lookE R k := by unfold intE; rw [if_neg hm0, if_pos hz]
    have e2 : intV R k m = 0 := by unfold intV; rw [e1, if_neg hz]
    have e3 : intN R k m = 0 := by unfold intN; rw [e1, if_neg hz]
    have hbz : (lookE R k == 0) = false := by simpa using hz
    have hbz2 : (lookE R k != 0) = true := by simpa using hz
    rw [e1, e2, e3]
    go_enter Try.func83, Try.ntmps83
    go_wp2_with (first | (go_at_call 95; refine (look_any _ _ _ R k _ hrow).mono ?_; rintro e w1 ⟨rfl, rfl⟩))
    exact bodyPost_ret (v := .tuple #[.int .i64 0, .int .i64 (lookE R k)]) (by simp [results, Try.results83, go_sem]) rfl ⟨rfl, by simpa using h, But.refl _ _⟩
end Go.Proofs.Ythfmmfphnimlnaa
