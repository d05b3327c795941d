import Derived.Test.YtjncgpekmilpeaaA1
import Derived.Test.YtjncgpekmilpeaaA2
namespace Go.Proofs.Ytjncgpekmilpeaa
open Go.RowKit

set_option maxRecDepth 100000 in
set_option maxHeartbeats 400000 in
theorem width16 (w : World) : Calls Try.prog 44 #[] w fun e w' => e = .returned (.int .i64 2) ∧ w' = w := by
  go_enter Try.func44, Try.ntmps44
  go_wp2
  go_loop [1, 2] (fun n r => ∃ k : Nat, k ≤ 2 ∧ n = .int .i64 k ∧ r = .int .u64 ((65535 / 256 ^ k : Nat) : Int)) (fun n _ => 2 - (intOf n).toNat)
  case atStart => exact ⟨0, by omega, rfl, rfl⟩
  case round =>
    obtain ⟨k, hk, rfl, rfl⟩ := hrel
    rcases (by omega : k = 0 ∨ k = 1 ∨ k = 2) with rfl | rfl | rfl
    · go_wp2
      exact ⟨⟨1, by omega, by go_num, by go_num⟩, by simp [intOf]⟩
    · go_wp2
      exact ⟨⟨2, by omega, by go_num, by go_num⟩, by simp [intOf]⟩
    · go_wp2
      go_ret
      exact ⟨rfl, rfl⟩

theorem make_run (n more : Nat) (hr : n + more ≤ 140737488355328) (u : World) : (Instr.makeSlice 22 (.int .i64 (n : Int)) (.int .i64 ((n : Int) + (more : Int)))).run Try.prog u =
    .ok (.slice (some ⟨u.heap.size, 0, none⟩) n (n + more)) (u.alloc (.cells (madeCells #[.int .u8 0] (n + more)) 5)) := by
  obtain ⟨i0, hi, hz0, hz1, hz2⟩ := info_parts info5
  have h := run_make (P := Try.prog) u 22 5 i0 (.int .u8 0) Try.underlying22 hi hz0 .i64 .i64 (n : Int) ((n : Int) + (more : Int)) (by omega) (by omega) (by rw [hz2]; omega) (by omega)
  have e : ((n : Int) + (more : Int)).toNat = n + more := by omega
  rw [e] at h
  simpa [hz1, Value.cells] using h
theorem copy_run (w : World) (a : Option Addr) (n cap more : Nat) (L : List Nat) (h : Row w a n cap L) (hr : n + more ≤ 140737488355328) :
    ∃ v' w', (Builtin.copy_ #[22, 22] 3 #[.slice (some ⟨w.heap.size, 0, none⟩) n (n + more), .slice a n cap]).run Try.prog (w.alloc (.cells (madeCells #[.int .u8 0] (n + more)) 5)) = .ok v' w' ∧
      Own w' w.heap.size (some ⟨w.heap.size, 0, none⟩) n (n + more) L ∧ Below w.heap.size w w' := by
  have hh := heap_alloc_new w (.cells (madeCells #[.int .u8 0] (n + more)) 5)
  have hsz : (madeCells #[Value.int .u8 0] (n + more)).size = n + more := by simp [madeCells]
  have hbase : Below w.heap.size w (w.alloc (.cells (madeCells #[.int .u8 0] (n + more)) 5)) := below1 _ _
  cases a with
  | none =>
    obtain ⟨rfl, rfl⟩ := h.none_ rfl
    have hL : L = [] := List.eq_nil_of_length_eq_zero h.len
    subst hL
    refine ⟨_, _, run_copy_nil (P := Try.prog) _ 22 22 3 5 _ _ _ Try.underlying22 (by kernel_rfl), ⟨⟨rfl, .inr ⟨_, _, _, rfl, Nat.le_refl _, hh, by omega, by unfold maxLen; omega, by rw [hsz, Nat.mul_one], by simp [u8s]⟩⟩, h.small⟩, hbase⟩
  | some x =>
    have hl : (u8s L).length = n := by rw [u8s_length, h.len]
    have hr := run_copy_row (P := Try.prog) (w.alloc (.cells (madeCells #[.int .u8 0] (n + more)) 5)) 22 22 3 5 w.heap.size 0 n (n + more) x n cap _ 5 (u8s L) Try.underlying22 (by kernel_rfl) hh (by rw [hl]; simp) (fun j v hj => cell_later (below1 _ _) (h.cells x rfl j v hj)) (by rw [hl, hsz]; omega) (u8s_one L)
    refine ⟨_, _, hr, ⟨⟨by rw [hl, Nat.mul_one], .inr ⟨_, _, _, rfl, Nat.le_refl _, setRow_heap _ _ _ _ _ _ hh, by omega, by unfold maxLen; omega, ?_, ?_⟩⟩, h.small⟩, ?_⟩
    · simp [hl, hsz]
    · simp only [Nat.mul_one, List.take_zero, List.nil_append, Nat.zero_add]
      rw [List.take_left' hl]
    · refine hbase.trans ⟨rfl, rfl, rfl, by simp, fun k hk => ?_⟩
      exact setRow_other _ _ _ _ (by omega)

set_option maxRecDepth 100000 in
set_option maxHeartbeats 400000 in
theorem room_any (a : Option Addr) (n cap : Nat) (more : Nat) (L : List Nat) (w : World) (h : Row w a n cap L) (hr : n + more ≤ 140737488355328) :
    Calls Try.prog 37 #[.slice a n cap, .int .i64 (more : Int)] w fun e w' => ∃ g, e = .returned (.slice (some ⟨g, 0, none⟩) n (n + more)) ∧ Own w' w.heap.size (some ⟨g, 0, none⟩) n (n + more) L ∧ Below w.heap.size w w' := by
  have hmk := make_run n more hr
  have ew : IntKind.i64.wrap ((n : Int) + (more : Int)) = (n : Int) + (more : Int) := by rw [IntKind.wrap_i64]; omega
  obtain ⟨v', w2, hrun, hown, hb⟩ := copy_run w a n cap more L h hr
  clear h hr
  go_enter Try.func37, Try.ntmps37
  go_wp2
  go_ret
  exact ⟨_, rfl, hown, hb⟩
end Go.Proofs.Ytjncgpekmilpeaa
