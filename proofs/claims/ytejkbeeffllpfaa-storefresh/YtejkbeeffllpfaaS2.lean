import Derived.Test.YtejkbeeffllpfaaS1
namespace Go.Proofs.Ytejkbeeffllpfaa
open Go.RowKit
set_option linter.unusedVariables false
set_option linter.unusedSimpArgs false

/-- The boxes of a call. -/
structure Bx (w : World) (b : Nat) (z : Sid) (r : Nat) (o : Opx) : Prop where
  s0 : w.cell? ⟨b, 0, none⟩ = some (.pointer (some ⟨z.s, 0, none⟩))
  s1 : w.cell? ⟨b, 1, none⟩ = some (.pointer (some ⟨r, 0, none⟩))
  c0 : w.cell? ⟨b + 1, 0, none⟩ = some (.int .i64 o.kd)
  c2 : w.cell? ⟨b + 1, 2, none⟩ = some (.int .i64 o.id)
  c3 : w.cell? ⟨b + 1, 3, none⟩ = some (.int .i64 o.of)
  c4 : w.cell? ⟨b + 1, 4, none⟩ = some (.int .i64 o.nn)
  c5 : w.cell? ⟨b + 1, 5, none⟩ = some (.slice o.da o.md o.cd)
theorem Bx.but {S : Nat → Prop} {w w' : World} {b : Nat} {z : Sid} {r : Nat} {o : Opx} (hb : But S w w') (h : Bx w b z r o) (h1 : ¬ S b) (h2 : ¬ S (b + 1)) : Bx w' b z r o :=
  ⟨cell_but hb h.s0 h1, cell_but hb h.s1 h1, cell_but hb h.c0 h2, cell_but hb h.c2 h2, cell_but hb h.c3 h2, cell_but hb h.c4 h2, cell_but hb h.c5 h2⟩
theorem Bx.later {w w' : World} {b : Nat} {z : Sid} {r : Nat} {o : Opx} (hb : Below w.heap.size w w') (h : Bx w b z r o) : Bx w' b z r o := h.but (S := fun _ => False) (But.of hb) (fun h => h) (fun h => h)
theorem Bx.new (w : World) (z : Sid) (r : Nat) (o : Opx) : Bx ((w.alloc (.cells #[.pointer (some ⟨z.s, 0, none⟩), .pointer (some ⟨r, 0, none⟩)] 46)).alloc (.cells (opxCells o) 51)) w.heap.size z r o := by
  have hs : (w.alloc (.cells #[.pointer (some ⟨z.s, 0, none⟩), .pointer (some ⟨r, 0, none⟩)] 46)).heap.size = w.heap.size + 1 := by simp
  have h2 : ∀ i v, (opxCells o)[i]? = some v → ((w.alloc (.cells #[.pointer (some ⟨z.s, 0, none⟩), .pointer (some ⟨r, 0, none⟩)] 46)).alloc (.cells (opxCells o) 51)).cell? ⟨w.heap.size + 1, i, none⟩ = some v := fun i v hv => by
    have := (lies_new (w.alloc (.cells #[.pointer (some ⟨z.s, 0, none⟩), .pointer (some ⟨r, 0, none⟩)] 46)) (opxCells o) 51 i v hv).1
    rwa [hs] at this
  exact ⟨cell_later (below1 _ _) (lies_new _ _ _ 0 _ rfl).1, cell_later (below1 _ _) (lies_new _ _ _ 1 _ rfl).1, h2 0 _ rfl, h2 2 _ rfl, h2 3 _ rfl, h2 4 _ rfl, h2 5 _ rfl⟩
/-- A call's start. -/
theorem play_start {w : World} {base : Nat} {z : Sid} {r : Nat} {M : Nat → Prop} {nx : Int} {Os : List Ob} {G : Int → Nat} {a : Option Addr} {cap : Nat} {col : Nat → Nat} (h : Duo w base z r nx Os G a cap col) (o : Opx) :
    ∃ W, W = (w.alloc (.cells #[.pointer (some ⟨z.s, 0, none⟩), .pointer (some ⟨r, 0, none⟩)] 46)).alloc (.cells #[.int .i64 o.kd, .int .i64 o.wh, .int .i64 o.id, .int .i64 o.of, .int .i64 o.nn, .slice o.da o.md o.cd] 51) ∧ Duo W base z r nx Os G a cap col ∧ Bx W w.heap.size z r o ∧ Below w.heap.size w W ∧ (∀ k, Own2 z Os col k → k ≠ w.heap.size ∧ k ≠ w.heap.size + 1) :=
  ⟨_, rfl, h.later (below2 _ _ _), Bx.new w z r o, below2 _ _ _, fun k hk => by have := h.lt k hk; omega⟩
theorem own_z {z : Sid} {Os : List Ob} {col : Nat → Nat} {w w' : World} (h : But (Zb z) w w') : But (Own2 z Os col) w w' := h.mono (fun _ h => .inl h)
theorem own_c {z : Sid} {Os : List Ob} {col : Nat → Nat} {w w' : World} (h : But (fun k => col k ≠ 0) w w') : But (Own2 z Os col) w w' := h.mono (fun _ h => .inr (.inr h))
/-- Both behind a Create. -/
theorem Duo.create {w w2 w3 : World} {base : Nat} {z : Sid} {r : Nat} {nx : Int} {Os : List Ob} {G G' : Int → Nat} {a a' : Option Addr} {cap cap' : Nat} {col col' : Nat → Nat} (h : Duo w base z r nx Os G a cap col) {k : Nat} {P : List Nat} {ad : Option Addr} (hbl : ∀ j, Blk ad j → w.heap.size ≤ j ∧ j < w2.heap.size) (hS : St w2 z (nx + 1) (Os ++ [⟨nx, List.replicate k 0, P, ad⟩])) (hB : But (Zb z) w w2)
    (hQ : Rf w3 base r z.room z.n (nx + 1) (vw Os ++ [(nx, List.replicate k 0)]) G' a' cap' col') (hc : ∀ j, col' j ≠ 0 → col j ≠ 0 ∨ w2.heap.size ≤ j) (hB3 : But (fun j => col j ≠ 0) w2 w3) :
    Duo w3 base z r (nx + 1) (Os ++ [⟨nx, List.replicate k 0, P, ad⟩]) G' a' cap' col' ∧ (∀ j, Own2 z (Os ++ [⟨nx, List.replicate k 0, P, ad⟩]) col' j → Own2 z Os col j ∨ w.heap.size ≤ j) ∧ But (Own2 z Os col) w w3 := by
  have hr : ∀ j, Rb (Os ++ [⟨nx, List.replicate k 0, P, ad⟩]) j → Rb Os j ∨ w.heap.size ≤ j := fun j hj => by
    rcases rb_append hj with h1 | h1
    · exact .inl h1
    · exact .inr (hbl j h1).1
  refine ⟨⟨hS.but hB3 (fun j hj e => (h.ap j e).1 hj) (fun j hj e => ?_), by rw [vw_append]; exact hQ, fun j hj => ?_⟩, ?_, (own_z hB).trans (own_c hB3)⟩
  · rcases hr j hj with h1 | h1
    · exact (h.ap j e).2 h1
    · have := h.q.lt j e
      omega
  · rcases hc j hj with h1 | h1
    · refine ⟨(h.ap j h1).1, fun e => ?_⟩
      rcases hr j e with h2 | h2
      · exact (h.ap j h1).2 h2
      · have := h.q.lt j h1
        omega
    · exact ⟨fun e => by have := hS.zlt j e; omega, fun e => by have := hS.rlt j e; omega⟩
  · rintro j (h1 | h1 | h1)
    · exact .inl (.inl h1)
    · rcases hr j h1 with h2 | h2
      · exact .inl (.inr (.inl h2))
      · exact .inr h2
    · rcases hc j h1 with h2 | h2
      · exact .inl (.inr (.inr h2))
      · exact .inr (Nat.le_trans hB.size h2)
set_option maxRecDepth 100000 in
set_option maxHeartbeats 2000000 in
theorem play_0 (base : Nat) (z : Sid) (r : Nat) (M : Nat → Prop) (o : Opx) (w : World) (hP : Pr w base z r M) (hO : OpxIn w o) (hk : o.kd = 0) :
    Calls Try.prog 16 #[.agg #[.pointer (some ⟨z.s, 0, none⟩), .pointer (some ⟨r, 0, none⟩)], .agg (opxCells o)] w fun e w' => e = .returned (.bool true) ∧ Left w base z r M w' := by
  obtain ⟨nx, Os, G, a, cap, col, hD, hM, hMb⟩ := hP
  obtain ⟨W, hW, hDW, hBx, hBW, hne⟩ := play_start (M := M) hD o
  have HD := hid hD
  have HM := hid hM
  have HMb := hid hMb
  have HDW := hid hDW
  have HBW := hid hBW
  have HNE := hid hne
  have s0 := hBx.s0
  have c0 := hBx.c0
  have c4 := hBx.c4
  rw [hk] at c0 hW
  have HBx := hid hBx
  unfold opxCells
  rw [hk]
  clear hD hM hMb hDW hBx hBW hne
  have hnz : ¬ Zb z w.heap.size := fun e => (HNE.out _ (.inl e)).1 rfl
  have hnz1 : ¬ Zb z (w.heap.size + 1) := fun e => (HNE.out _ (.inl e)).2 rfl
  by_cases hE : mayE z.room z.n nx Os o.nn = 0
  · have hE2 : mayV z.room z.n nx (vw Os) o.nn = 0 := by rw [vw_may HD.out.s]; exact hE
    obtain ⟨k, hk2⟩ : ∃ k : Nat, o.nn = (k : Int) := ⟨o.nn.toNat, by have := (mayE_zero hE).1; omega⟩
    rw [hk2] at hE hE2 c4 hW ⊢
    have HE := hid hE
    have HE2 := hid hE2
    clear hE hE2
    go_enter Try.func16, Try.ntmps16
    go_upto_region 3 with fail
    rw [← hW]
    clear hW
    go_upto_region 4 with (first | (go_at_call 8; refine (st_create_ok z nx Os k _ HDW.out.s HE.out).mono ?_; rintro e w2 ⟨P, ad, rfl, hbl, S2, B2⟩))
    have HBx2 := hid (HBx.out.but B2 hnz hnz1)
    have s1 := HBx2.out.s1
    have d4 := HBx2.out.c4
    rw [hk2] at d4
    have HQ2 := hid (HDW.out.q.but B2 (fun j hj => (HDW.out.ap j hj).1))
    have HBL := hid hbl
    have HS2 := hid S2
    have HB2 := hid B2
    clear hbl S2 B2 s0 c0 c4
    go_wp2_with (first | (go_at_call 36; refine (rcreate_ok base r z.room z.n nx (vw Os) G a cap col k _ HQ2.out HE2.out).mono ?_; rintro e w3 ⟨G3, a3, cap3, col3, rfl, Q3, hc3, B3⟩; have HQ3 := hid Q3; have HC3 := hid hc3; have HB3 := hid B3; clear Q3 hc3 B3))
    go_ret
    obtain ⟨q1, q2, q3⟩ := HDW.out.create HBL.out HS2.out HB2.out HQ3.out HC3.out HB3.out
    exact ⟨rfl, left_of HD.out HM.out HMb.out q1 (fun j hj => (q2 j hj).elim .inl (fun h => .inr (Nat.le_trans HBW.out.size h))) ((But.of HBW.out).trans q3)⟩
  · obtain ⟨E, hEE⟩ : ∃ E, mayE z.room z.n nx Os o.nn = E := ⟨_, rfl⟩
    have hE2 : mayV z.room z.n nx (vw Os) o.nn = E := by rw [vw_may HD.out.s]; exact hEE
    have hE0 : E ≠ 0 := fun e => hE (by rw [hEE]; exact e)
    have HE := hid hEE
    have HE2 := hid hE2
    clear hE hE2 hEE
    go_enter Try.func16, Try.ntmps16
    go_upto_region 3 with fail
    rw [← hW]
    clear hW
    go_upto_region 4 with (first | (go_at_call 8; refine (st_create_bad z nx Os o.nn E _ HDW.out.s HE.out hE0).mono ?_; rintro e w2 ⟨rfl, B2⟩))
    have HBx2 := hid (HBx.out.later B2)
    have s1 := HBx2.out.s1
    have d4 := HBx2.out.c4
    have HD2 := hid (HDW.out.later B2)
    have HB2 := hid B2
    clear B2 s0 c0 c4
    go_wp2_with (first | (go_at_call 36; refine (rcreate_bad base r z.room z.n nx (vw Os) G a cap col o.nn E _ HD2.out.q HE2.out hE0).mono ?_; rintro e w3 ⟨rfl, B3⟩; have HB3 := hid B3; clear B3))
    go_ret
    exact ⟨rfl, left_of HD.out HM.out HMb.out (HD2.out.later HB3.out) (fun j hj => .inl hj) (But.of (below_call (below_call HBW.out HB2.out) HB3.out))⟩
end Go.Proofs.Ytejkbeeffllpfaa
