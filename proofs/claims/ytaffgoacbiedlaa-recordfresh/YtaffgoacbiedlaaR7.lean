import Derived.Test.YtaffgoacbiedlaaR6
import Derived.Defers
import Derived.Recover
namespace Go.Proofs.Ytaffgoacbiedlaa
open Go.RowKit
set_option linter.unusedVariables false
set_option linter.unusedSimpArgs false

theorem neq_nil (x : Value) (w : World) : (binOp .neq 20 (.iface 22 x) .nilIface).run Try.prog w = .ok (.bool true) w := by
  simp [go_sem]
theorem neq_nil0 (w : World) : (binOp .neq 20 .nilIface .nilIface).run Try.prog w = .ok (.bool false) w := by
  simp [go_sem]
set_option maxRecDepth 100000 in
set_option maxHeartbeats 1000000 in
theorem catch_idle (p q : Addr) (w : World) :
    CallsD Try.prog 32 #[.pointer (some p), .pointer (some q)] .returning w fun e u' w' => e = .returned (.tuple #[]) ∧ u' = .returning ∧ w' = w := by
  have h0 := neq_nil0
  refine callsD_of_wpS Try.func32 rfl fun c₀ cs hu => ?_
  apply wpS_seq
  apply wpS_region
  simp [wpOpsS, go_sem, recoverD, hu, Try.ntmps32, Exit.thenS]
  refine wpS_cond (t := false) (by simp [Act.eval, Array.replicate]) ?_
  simp only [Bool.false_eq_true, if_false]
  refine wpS_of_wp (wp_skip ?_)
  cases c₀
  simp_all [bodyPostS, results, Try.results32]
set_option maxRecDepth 100000 in
set_option maxHeartbeats 1000000 in
theorem catch_panic (p q : Nat) (x : Value) (L : List Value) (y : Value) (w : World) (hp : Bx w p L) (hl : L.length = 13) (hq : w.cell? ⟨q, 0, none⟩ = some y) (hfz : w.frozen? ⟨q, 0, none⟩ = false) (hpq : p ≠ q) :
    CallsD Try.prog 32 #[.pointer (some ⟨p, 0, none⟩), .pointer (some ⟨q, 0, none⟩)] (.panicking [{ v := .iface 22 x, recovered := false }]) w fun e u' w' => e = .returned (.tuple #[]) ∧ u' = .panicking [{ v := .iface 22 x, recovered := true }] ∧ w' = (w.setCells p 0 z41).setCell ⟨q, 0, none⟩ (.int .i64 1) := by
  have h0 := neq_nil x
  obtain ⟨Z, hZl, hZo, hZz, hz⟩ := zero41
  have hZ0 : (Z.toArray = #[]) = False := by simp; intro h; rw [h] at hZl; simp at hZl
  rw [← hZz]
  have hst := stc (n := 13) (L := Z) (hl ▸ hp.there) hZl hZo
  have hq2 : (w.setCells p 0 Z).cell? ⟨q, 0, none⟩ = some y := by
    have hk := (setCells_but (S := (· = p)) rfl Z 0 (But.refl _ w)).block q (World.block_lt_of_cell? _ _ hq) (by omega)
    rw [World.cell?_of_block (w := w) hk]; exact hq
  have hz2 : (w.setCells p 0 Z).frozen? ⟨q, 0, none⟩ = false := by rw [frozen_setCells]; exact hfz
  clear hp hl hq hfz hpq hZo hZz
  refine callsD_of_wpS Try.func32 rfl fun c₀ cs hu => ?_
  apply wpS_seq
  apply wpS_region
  simp [wpOpsS, go_sem, recoverD, hu, Try.ntmps32, Exit.thenS]
  refine wpS_cond (t := true) (by simp [Act.eval, Array.replicate]) ?_
  simp only [if_true]
  refine wpS_of_wp ?_
  go_wp2
  exact ⟨rfl, _, rfl, _, by simp [results, Try.results32], rfl, rfl, rfl⟩
set_option maxRecDepth 100000 in
set_option maxHeartbeats 1000000 in
theorem newReader_lt (a : Option Addr) (n cap : Nat) (L : List Nat) (w : World) (h : Row w a n cap L) (hr : n ≤ 140737488355328) :
    Calls Try.prog 27 #[.slice a n cap] w fun e w' => ∃ g gb, e = .returned (.pointer (some ⟨g, 0, none⟩)) ∧ Rd w' g gb L ∧ (w.heap.size ≤ g ∧ w.heap.size ≤ gb ∧ g < w'.heap.size ∧ gb < w'.heap.size) ∧ Below w.heap.size w w' := by
  have HR : Hid (n + 0 ≤ 140737488355328) := hr
  clear hr
  go_enter Try.func27, Try.ntmps27
  go_wp2_with (first | (go_at_call 49; refine (room_any a n cap 0 L _ h HR.out).mono ?_; rintro e w2 ⟨g, rfl, hown, hb⟩))
  go_ret
  have hg := own_block hown.row g rfl
  have hlt := hown.lt g ⟨_, rfl, rfl⟩
  exact ⟨_, g, rfl, Rd.new hown rfl 85 rfl, ⟨hb.size, hg, by simp, by simp; omega⟩, hb.alloc hb.size _⟩
end Go.Proofs.Ytaffgoacbiedlaa
