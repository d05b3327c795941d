import Derived.Test.YtfibidfkhfkfpaaE1
namespace Go.Proofs.Ytfibidfkhfkfpaa
open Go.RowKit
set_option linter.unusedVariables false

theorem sbox_new (w : World) (o : Obj) (sb : Bool) (k N : Int) : ((w.alloc o).alloc (Obj.cells #[.bool sb, .int .i64 k, .int .i64 N] 46)).cell? ⟨w.heap.size + 1, 2, none⟩ = some (.int .i64 N) := by
  simp [go_sem]
set_option maxRecDepth 100000 in
set_option maxHeartbeats 2000000 in
theorem step_skip (gp bp gr br n : Nat) (f : Nat → Nat) (W : Int) (t : Nat) (sb : Bool) (N : Int) (w : World) (h : Pr w gp bp gr br n f W t) :
    Calls Try.prog 14 #[.agg #[.pointer (some ⟨gp, 0, none⟩), .pointer (some ⟨gr, 0, none⟩)], .agg #[.bool sb, .int .i64 2, .int .i64 N]] w fun e w' => e = .returned (.bool true) ∧ (∃ t1, Pr w' gp bp gr br n f W t1) ∧ But (fun j => j = gp ∨ j = gr) w w' := by
  have hlp := h.p.lt
  have hlr := h.r.lt
  by_cases hN : 0 ≤ N ∧ N ≤ (n : Int)
  · obtain ⟨k, rfl⟩ : ∃ k : Nat, N = (k : Int) := ⟨N.toNat, by omega⟩
    have hk : k ≤ n := by omega
    have H : Hid (Pr ((w.alloc (Obj.cells #[.pointer (some ⟨gp, 0, none⟩), .pointer (some ⟨gr, 0, none⟩)] 44)).alloc (Obj.cells #[.bool sb, .int .i64 2, .int .i64 (k : Int)] 46)) gp bp gr br n f W t) := (h.alloc _).alloc _
    have HB0 : Hid (But (fun j => j = gp ∨ j = gr) w ((w.alloc (Obj.cells #[.pointer (some ⟨gp, 0, none⟩), .pointer (some ⟨gr, 0, none⟩)] 44)).alloc (Obj.cells #[.bool sb, .int .i64 2, .int .i64 (k : Int)] 46))) := But.of (below2 _ _ _)
    have HS : Hid (∀ w' : World, But (fun j => j = gp ∨ j = gr) ((w.alloc (Obj.cells #[.pointer (some ⟨gp, 0, none⟩), .pointer (some ⟨gr, 0, none⟩)] 44)).alloc (Obj.cells #[.bool sb, .int .i64 2, .int .i64 (k : Int)] 46)) w' → (w'.cell? ⟨w.heap.size, 0, none⟩ = some (.pointer (some ⟨gp, 0, none⟩)) ∧ w'.cell? ⟨w.heap.size, 1, none⟩ = some (.pointer (some ⟨gr, 0, none⟩)) ∧ w'.cell? ⟨w.heap.size + 1, 2, none⟩ = some (.int .i64 (k : Int))) ∧ But (fun j => j = gp ∨ j = gr) ((w.alloc (Obj.cells #[.pointer (some ⟨gp, 0, none⟩), .pointer (some ⟨gr, 0, none⟩)] 44)).alloc (Obj.cells #[.bool sb, .int .i64 2, .int .i64 (k : Int)] 46)) w') := by
      intro w' hb
      obtain ⟨x0, x1⟩ := (PBox.new w gp gr).alloc (Obj.cells #[.bool sb, .int .i64 2, .int .i64 (k : Int)] 46)
      have n1 : ¬ (w.heap.size = gp ∨ w.heap.size = gr) := by omega
      have n2 : ¬ (w.heap.size + 1 = gp ∨ w.heap.size + 1 = gr) := by omega
      exact ⟨⟨cell_but hb x0 n1, cell_but hb x1 n1, cell_but hb (sbox_new _ _ _ _ _) n2⟩, hb⟩
    clear h hN
    go_enter Try.func14, Try.ntmps14
    go_upto_region 9 with fail
    go_region_held3 (fun w' => (w'.cell? ⟨w.heap.size, 0, none⟩ = some (.pointer (some ⟨gp, 0, none⟩)) ∧ w'.cell? ⟨w.heap.size, 1, none⟩ = some (.pointer (some ⟨gr, 0, none⟩)) ∧ w'.cell? ⟨w.heap.size + 1, 2, none⟩ = some (.int .i64 (k : Int))) ∧ But (fun j => j = gp ∨ j = gr) ((w.alloc (Obj.cells #[.pointer (some ⟨gp, 0, none⟩), .pointer (some ⟨gr, 0, none⟩)] 44)).alloc (Obj.cells #[.bool sb, .int .i64 2, .int .i64 (k : Int)] 46)) w') (first | exact HS.out _ (But.of (Below.refl _ _).drew) | exact HS.out _ (But.trans (And.right (by assumption)) hb1.mono2) | exact HS.out _ (But.trans (And.right (by assumption)) hb2.mono3)) (first | (go_at_call 21; refine (rskip_ok gr br n f W t k _ (H.out.r.drew.but hb1 (Ne.symm H.out.ne) (fun h0 => Ne.symm (H.out.ne2 h0))) hk).mono ?_; rintro e w2 ⟨rfl, D2, hb2⟩) | (go_at_call 12; refine (skip_ok gp bp n _ t k _ H.out.p.drew hk).mono ?_; rintro e w1 ⟨rfl, D1, hb1⟩))
    go_wp2
    go_ret
    exact ⟨rfl, ⟨k, (H.out.later (Below.refl _ _).drew).draw D1 hb1 D2 hb2⟩, ((HB0.out.call (Below.refl _ _).drew).trans hb1.mono2).trans hb2.mono3⟩
  · have H : Hid (Pr ((w.alloc (Obj.cells #[.pointer (some ⟨gp, 0, none⟩), .pointer (some ⟨gr, 0, none⟩)] 44)).alloc (Obj.cells #[.bool sb, .int .i64 2, .int .i64 N] 46)) gp bp gr br n f W t) := (h.alloc _).alloc _
    have HB0 : Hid (But (fun j => j = gp ∨ j = gr) w ((w.alloc (Obj.cells #[.pointer (some ⟨gp, 0, none⟩), .pointer (some ⟨gr, 0, none⟩)] 44)).alloc (Obj.cells #[.bool sb, .int .i64 2, .int .i64 N] 46))) := But.of (below2 _ _ _)
    have HS : Hid (∀ w' : World, But (fun j => j = gp ∨ j = gr) ((w.alloc (Obj.cells #[.pointer (some ⟨gp, 0, none⟩), .pointer (some ⟨gr, 0, none⟩)] 44)).alloc (Obj.cells #[.bool sb, .int .i64 2, .int .i64 N] 46)) w' → (w'.cell? ⟨w.heap.size, 0, none⟩ = some (.pointer (some ⟨gp, 0, none⟩)) ∧ w'.cell? ⟨w.heap.size, 1, none⟩ = some (.pointer (some ⟨gr, 0, none⟩)) ∧ w'.cell? ⟨w.heap.size + 1, 2, none⟩ = some (.int .i64 N)) ∧ But (fun j => j = gp ∨ j = gr) ((w.alloc (Obj.cells #[.pointer (some ⟨gp, 0, none⟩), .pointer (some ⟨gr, 0, none⟩)] 44)).alloc (Obj.cells #[.bool sb, .int .i64 2, .int .i64 N] 46)) w') := by
      intro w' hb
      obtain ⟨x0, x1⟩ := (PBox.new w gp gr).alloc (Obj.cells #[.bool sb, .int .i64 2, .int .i64 N] 46)
      have n1 : ¬ (w.heap.size = gp ∨ w.heap.size = gr) := by omega
      have n2 : ¬ (w.heap.size + 1 = gp ∨ w.heap.size + 1 = gr) := by omega
      exact ⟨⟨cell_but hb x0 n1, cell_but hb x1 n1, cell_but hb (sbox_new _ _ _ _ _) n2⟩, hb⟩
    clear h
    go_enter Try.func14, Try.ntmps14
    go_upto_region 9 with fail
    go_region_held3 (fun w' => (w'.cell? ⟨w.heap.size, 0, none⟩ = some (.pointer (some ⟨gp, 0, none⟩)) ∧ w'.cell? ⟨w.heap.size, 1, none⟩ = some (.pointer (some ⟨gr, 0, none⟩)) ∧ w'.cell? ⟨w.heap.size + 1, 2, none⟩ = some (.int .i64 N)) ∧ But (fun j => j = gp ∨ j = gr) ((w.alloc (Obj.cells #[.pointer (some ⟨gp, 0, none⟩), .pointer (some ⟨gr, 0, none⟩)] 44)).alloc (Obj.cells #[.bool sb, .int .i64 2, .int .i64 N] 46)) w') (first | exact HS.out _ (But.of (Below.refl _ _).drew)) (first | (go_at_call 21; refine (rskip_bad gr br n f W t N _ H.out.r.drew hN).mono ?_; rintro e w2 ⟨rfl, rfl⟩) | (go_at_call 12; refine (skip_bad gp bp n _ t N _ H.out.p.drew hN).mono ?_; rintro e w1 ⟨rfl, rfl⟩))
    go_wp2
    go_ret
    exact ⟨rfl, ⟨t, H.out.later (Below.refl _ _).drew⟩, HB0.out.call (Below.refl _ _).drew⟩
/-- Any step of both. -/
theorem step_any (gp bp gr br n : Nat) (f : Nat → Nat) (W : Int) (t : Nat) (sb : Bool) (k N : Int) (w : World) (h : Pr w gp bp gr br n f W t) :
    Calls Try.prog 14 #[.agg #[.pointer (some ⟨gp, 0, none⟩), .pointer (some ⟨gr, 0, none⟩)], .agg #[.bool sb, .int .i64 k, .int .i64 N]] w fun e w' => e = .returned (.bool true) ∧ (∃ t1, Pr w' gp bp gr br n f W t1) ∧ But (fun j => j = gp ∨ j = gr) w w' := by
  by_cases h0 : k = 0
  · subst h0
    exact step_draw gp bp gr br n f W t sb N w h
  by_cases h1 : k = 1
  · subst h1
    exact step_count gp bp gr br n f W t sb N w h
  by_cases h2 : k = 2
  · subst h2
    exact step_skip gp bp gr br n f W t sb N w h
  · refine (step_none gp gr sb k N w h0 h1 h2).mono ?_
    rintro e w' ⟨rfl, hb⟩
    exact ⟨rfl, ⟨t, h.later hb⟩, But.of hb⟩
end Go.Proofs.Ytfibidfkhfkfpaa
