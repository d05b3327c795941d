import Derived.Test.YtolfkpcehnincaaC2
namespace Go.Proofs.Ytolfkpcehnincaa
open Go.RowKit

theorem keep_call {C : Prop} {K : Nat} {w0 W w1 : World} (hb : Below W.heap.size W w1) (hK : K ≤ w0.heap.size) (hS : C ∧ Below K w0 W) : Below K w0 w1 :=
  hS.2.trans (hb.mono (Nat.le_trans hK hS.2.size))
theorem boxed_cells (w : World) (a b : Int) (w' : World) (h : Below (w.heap.size + 1) (w.alloc (Obj.cells #[.int .u64 a, .int .u64 b] 24)) w') :
    (w'.cell? ⟨w.heap.size, 0, none⟩ = some (.int .u64 a) ∧ w'.cell? ⟨w.heap.size, 1, none⟩ = some (.int .u64 b)) ∧ Below (w.heap.size + 1) (w.alloc (Obj.cells #[.int .u64 a, .int .u64 b] 24)) w' := by
  refine ⟨⟨?_, ?_⟩, h⟩
  · rw [h.cell (by simp)]; simp [go_sem]
  · rw [h.cell (by simp)]; simp [go_sem]
theorem below_box {w w' : World} {o : Obj} (h : Below (w.heap.size + 1) (w.alloc o) w') : Below w.heap.size w w' := (below1 w o).trans (h.mono (Nat.le_succ _))
set_option maxRecDepth 100000 in
set_option maxHeartbeats 2000000 in
theorem hash_law (o : Int) (a b : Nat) (k : Int) (w : World) (ha : a < B64) (hb : b < B64) :
    Calls Try.prog 5 #[.int .i64 o, .agg #[.int .u64 (a : Int), .int .u64 (b : Int)], .int .i64 k] w fun e w' => e = .returned (.bool true) ∧ Below w.heap.size w w' := by
  have hC : Hid _ := boxed_cells w a b
  go_enter Try.func5, Try.ntmps5
  go_wp2
  go_region_held3 (fun w' => (w'.cell? ⟨w.heap.size, 0, none⟩ = some (.int .u64 (a : Int)) ∧ w'.cell? ⟨w.heap.size, 1, none⟩ = some (.int .u64 (b : Int))) ∧ Below (w.heap.size + 1) (w.alloc (Obj.cells #[.int .u64 (a : Int), .int .u64 (b : Int)] 24)) w') (first | exact hC.out _ (Below.refl _ _).drew | exact hC.out _ (keep_call hx (by simp) (by assumption))) (first | (go_at_call 7; refine (alive_any _).mono ?_; rintro e w1 ⟨rfl, hx⟩) | (go_at_call 6; refine (hash_any _ _ _ _ _ ha hb).mono ?_; rintro e w1 ⟨rfl, hx⟩) | (go_at_call 8; refine (rhash_any _ _ _ _ _ ha hb).mono ?_; rintro e w1 ⟨rfl, hx⟩))
  have hB : Below (w.heap.size + 1) (w.alloc (Obj.cells #[.int .u64 (a : Int), .int .u64 (b : Int)] 24)) w1 := And.right (by assumption)
  go_wp2
  go_ret
  exact ⟨rfl, below_box hB⟩
end Go.Proofs.Ytolfkpcehnincaa
