import Derived.Test.YtfibidfkhfkfpaaD1
namespace Go.Proofs.Ytfibidfkhfkfpaa
open Go.RowKit
set_option linter.unusedVariables false

set_option maxRecDepth 100000 in
set_option maxHeartbeats 2000000 in
theorem rdraw_more (g gb n : Nat) (f : Nat → Nat) (W : Int) (t : Nat) (w : World) (h : Dw w g gb n f W t) (ht : t < n) :
    Calls Try.prog 18 #[.pointer (some ⟨g, 0, none⟩)] w fun e w' => e = .returned (.tuple #[.agg #[.int .u64 (hiI (cutN (f t) W)), .int .u64 (loI (cutN (f t) W))], .int .i64 0]) ∧ Dw w' g gb n f W (t + 1) ∧ But (· = g) w w' := by
  have x := (h.alloc (.cells #[.int .u64 0, .int .u64 0] 25)).tk.1
  have x2 := (h.alloc (.cells #[.int .u64 0, .int .u64 0] 25)).tk.2
  have hlt := h.lt
  have hgb := h.lt2 (by omega)
  have hne := h.ne (by omega)
  have hn := h.big
  have hsm := h.small t
  obtain ⟨a, cap, y, hc, hz⟩ := (h.alloc (.cells #[.int .u64 0, .int .u64 0] 25)).all
  obtain rfl := hz (by omega)
  have hd1 : ((t : Int) == (n : Int)) = false := by simp; omega
  have H : Hid (Dw w g gb n f W t) := h
  clear h hz
  go_enter Try.func18, Try.ntmps18
  go_wp2
  go_quiet (fail)
  go_upto_region 4 with fail
  obtain ⟨v, hv⟩ : ∃ v, v = (((w.alloc (Obj.cells #[Value.int IntKind.u64 0, Value.int IntKind.u64 0] 25)).drewN nq).setCell ⟨g, 2, none⟩ (.int .i64 ((t : Int) + 1))) := ⟨_, rfl⟩
  rw [← hv]
  have DV : Dw v g gb n f W (t + 1) := by
    have := ((H.out.alloc (Obj.cells #[Value.int IntKind.u64 0, Value.int IntKind.u64 0] 25)).drewN nq).put (t' := t + 1) (by omega)
    rw [Int.natCast_succ] at this
    rw [hv]
    exact this
  have BV : But (· = g) w v := by
    rw [hv]
    exact (But.of (S := (· = g)) (below_drewN (below1 _ _) _)).own _ _
  have L0 : Lies v ⟨w.heap.size, 0, none⟩ (.int .u64 0) := by
    rw [hv]
    exact Lies.keep ((lies_new (by rfl)).later (below_drewN (Below.refl _ _) _)) (addr_ne (.inl (by omega)))
  have L1 : Lies v ⟨w.heap.size, 1, none⟩ (.int .u64 0) := by
    rw [hv]
    exact Lies.keep ((lies_new (by rfl)).later (below_drewN (Below.refl _ _) _)) (addr_ne (.inl (by omega)))
  have y0 : v.cell? ⟨g, 0, none⟩ = some (.slice (some ⟨gb, 0, none⟩) n cap) := by
    rw [hv]
    exact cell_set_ne (cell_later (below_drewN (Below.refl _ _) _) y) (by omega)
  have HH : Hid (Dw v g gb n f W (t + 1) ∧ But (· = g) w v ∧ w.heap.size < v.heap.size) := ⟨DV, BV, World.block_lt_of_cell? _ _ L0.1⟩
  have HS : Hid (∀ w' : World, But (· = w.heap.size) v w' → (w'.cell? ⟨g, 0, none⟩ = some (.slice (some ⟨gb, 0, none⟩) n cap) ∧ w'.cell? ⟨g, 1, none⟩ = some (.int .i64 W) ∧ w'.cell? ⟨g, 2, none⟩ = some (.int .i64 ((t : Int) + 1)) ∧ w'.cell? ⟨gb, t * 2, none⟩ = some (.int .u64 (hiI (f t))) ∧ w'.cell? ⟨gb, t * 2 + 1, none⟩ = some (.int .u64 (loI (f t)))) ∧ But (· = w.heap.size) v w') := by
    intro w' hb
    obtain ⟨p0, p1⟩ := DV.ar t ht
    have q := DV.tk.1
    rw [Int.natCast_succ] at q
    have n1 : ¬ g = w.heap.size := by omega
    have n2 : ¬ gb = w.heap.size := by omega
    exact ⟨⟨cell_but hb y0 n1, cell_but hb DV.wid n1, cell_but hb q n1, cell_but hb p0 n2, cell_but hb p1 n2⟩, hb⟩
  have HL : Hid (∀ w' : World, Below v.heap.size v w' → (w'.cell? ⟨w.heap.size, 0, none⟩ = some (.int .u64 0) ∧ w'.cell? ⟨w.heap.size, 1, none⟩ = some (.int .u64 0) ∧ w'.frozen? ⟨w.heap.size, 0, none⟩ = false ∧ w'.frozen? ⟨w.heap.size, 1, none⟩ = false)) := fun w' hb => ⟨cell_later hb L0.1, cell_later hb L1.1, (L0.later hb).2, (L1.later hb).2⟩
  have hsz : t + 1 ≤ n := by omega
  have hti : (t : Int) < (n : Int) := by omega
  have h0i : (0 : Int) ≤ (t : Int) := by omega
  have hw1 : IntKind.i64.wrap ((t : Int) + 1 - 1) = (t : Int) := by rw [IntKind.wrap_i64]; omega
  have hw2 : IntKind.i64.wrap (t : Int) = (t : Int) := by rw [IntKind.wrap_i64]; omega
  clear hv DV BV L0 L1 y0 x x2 y
  go_region_held3 (fun w' => (w'.cell? ⟨g, 0, none⟩ = some (.slice (some ⟨gb, 0, none⟩) n cap) ∧ w'.cell? ⟨g, 1, none⟩ = some (.int .i64 W) ∧ w'.cell? ⟨g, 2, none⟩ = some (.int .i64 ((t : Int) + 1)) ∧ w'.cell? ⟨gb, t * 2, none⟩ = some (.int .u64 (hiI (f t))) ∧ w'.cell? ⟨gb, t * 2 + 1, none⟩ = some (.int .u64 (loI (f t)))) ∧ But (· = w.heap.size) v w') (first | exact HS.out _ (But.of (Below.refl _ _).drew) | exact HS.out _ ((And.right (by assumption) : But (· = w.heap.size) v v.drew).call hb9) | exact HS.out _ (((And.right (by assumption) : But (· = w.heap.size) v w9).own _ _).own _ _)) (first | (go_at_call 23; refine (cutR _ _ _ hsm).mono ?_; rintro e w9 ⟨rfl, hb9⟩; obtain ⟨l0, l1, l2, l3⟩ := HL.out w9 (below_call (Below.refl _ _).drew hb9)))
  go_wp2
  obtain ⟨DV, BV, hsv⟩ := HH.out
  have D9 := ((DV.drew.later hb9).fresh (b := w.heap.size) (by omega) (fun _ => by omega) 0 (.int .u64 (hiI (cutN (f t) W)))).fresh (b := w.heap.size) (by omega) (fun _ => by omega) 1 (.int .u64 (loI (cutN (f t) W)))
  have B9 := (((BV.call (Below.refl _ _).drew).call hb9).put (p := ⟨w.heap.size, 0, none⟩) (Nat.le_refl _) (.int .u64 (hiI (cutN (f t) W)))).put (p := ⟨w.heap.size, 1, none⟩) (Nat.le_refl _) (.int .u64 (loI (cutN (f t) W)))
  exact bodyPost_ret (v := .tuple #[.agg #[.int .u64 (hiI (cutN (f t) W)), .int .u64 (loI (cutN (f t) W))], .int .i64 0]) (by simp [results, Try.results18, go_sem, l0, l1]) rfl ⟨rfl, D9, B9⟩
end Go.Proofs.Ytfibidfkhfkfpaa
