import Derived.Test.YtfibidfkhfkfpaaD2
namespace Go.Proofs.Ytfibidfkhfkfpaa
open Go.RowKit
set_option linter.unusedVariables false

set_option maxRecDepth 100000 in
set_option maxHeartbeats 1000000 in
theorem left_q (g gb n : Nat) (c : Nat → Nat) (t : Nat) (w : World) (h : Dr w g gb n c t) :
    Calls Try.prog 10 #[.pointer (some ⟨g, 0, none⟩)] w fun e w' => e = .returned (.int .i64 ((n - t : Nat) : Int)) ∧ ∃ m, w' = w.drewN m := by
  have x := h.tk.1
  have y := h.all
  have hn := h.big
  have hle := h.le
  clear h
  by_cases ht : t < n
  · go_enter Try.func10, Try.ntmps10
    go_wp2
    go_quiet (first | (go_at_call 16; refine Calls.quiet_of_same (behind_more gb n t _ ht hn)))
    go_wp2
    go_ret
    exact ⟨rfl, _, rfl⟩
  · obtain rfl : t = n := by omega
    obtain ⟨x0, hx0⟩ : ∃ x0, ∀ w : World, Calls Try.prog 16 #[.slice (some ⟨gb, 0, none⟩) t t, .int .i64 (t : Int)] w fun e w' => e = .returned (.slice x0 0 0) ∧ w' = w := behind_end gb t hn
    rw [Nat.sub_self]
    go_enter Try.func10, Try.ntmps10
    go_wp2
    go_quiet (first | (go_at_call 16; refine Calls.quiet_of_same (hx0 _)))
    go_wp2
    go_ret
    exact ⟨rfl, _, rfl⟩
set_option maxRecDepth 100000 in
set_option maxHeartbeats 1000000 in
theorem rleft_q (g gb n : Nat) (f : Nat → Nat) (W : Int) (t : Nat) (w : World) (h : Dw w g gb n f W t) :
    Calls Try.prog 20 #[.pointer (some ⟨g, 0, none⟩)] w fun e w' => e = .returned (.int .i64 ((n - t : Nat) : Int)) ∧ ∃ m, w' = w.drewN m := by
  have x := h.tk.1
  obtain ⟨a, cap, y, hc, hz⟩ := h.all
  have hn := h.big
  have hle := h.le
  have hE : Hid ((n : Int) - (t : Int) = ((n - t : Nat) : Int)) := by unfold Hid; omega
  clear h hz
  go_enter Try.func20, Try.ntmps20
  go_wp2
  go_quiet (fail)
  go_wp2
  go_ret
  exact ⟨ret_int hE.out, _, rfl⟩

/-- The program's and the document's, of one list, at one place. -/
structure Pr (w : World) (gp bp gr br n : Nat) (f : Nat → Nat) (W : Int) (t : Nat) : Prop where
  p : Dr w gp bp n (fun j => cutN (f j) W) t
  r : Dw w gr br n f W t
  ne : gp ≠ gr
  ne1 : gr ≠ bp
  ne2 : 0 < n → gp ≠ br
theorem Pr.but {S : Nat → Prop} {w w' : World} {gp bp gr br n : Nat} {f : Nat → Nat} {W : Int} {t : Nat} (hb : But S w w') (h : Pr w gp bp gr br n f W t) (h1 : ¬ S gp) (h2 : ¬ S bp) (h3 : ¬ S gr) (h4 : 0 < n → ¬ S br) : Pr w' gp bp gr br n f W t :=
  ⟨h.p.but hb h1 h2, h.r.but hb h3 h4, h.ne, h.ne1, h.ne2⟩
theorem Pr.later {w w' : World} {gp bp gr br n : Nat} {f : Nat → Nat} {W : Int} {t : Nat} (hb : Below w.heap.size w w') (h : Pr w gp bp gr br n f W t) : Pr w' gp bp gr br n f W t := ⟨h.p.later hb, h.r.later hb, h.ne, h.ne1, h.ne2⟩
theorem Pr.alloc {w : World} {gp bp gr br n : Nat} {f : Nat → Nat} {W : Int} {t : Nat} (h : Pr w gp bp gr br n f W t) (o : Obj) : Pr (w.alloc o) gp bp gr br n f W t := h.later (below1 _ _)
theorem But.mono2 {w w' : World} {a b : Nat} (h : But (· = a) w w') : But (fun j => j = a ∨ j = b) w w' := h.mono (fun k e => .inl e)
theorem But.mono3 {w w' : World} {a b : Nat} (h : But (· = b) w w') : But (fun j => j = a ∨ j = b) w w' := h.mono (fun k e => .inr e)
theorem Pr.draw {w w1 w2 : World} {gp bp gr br n : Nat} {f : Nat → Nat} {W : Int} {t u : Nat} (h : Pr w gp bp gr br n f W t) (h1 : Dr w1 gp bp n (fun j => cutN (f j) W) u) (hb1 : But (· = gp) w w1) (h2 : Dw w2 gr br n f W u) (hb2 : But (· = gr) w1 w2) : Pr w2 gp bp gr br n f W u :=
  ⟨h1.but hb2 h.ne (Ne.symm h.ne1), h2, h.ne, h.ne1, h.ne2⟩

/-- A pair's box. -/
def PBox (w : World) (k gp gr : Nat) : Prop := w.cell? ⟨k, 0, none⟩ = some (.pointer (some ⟨gp, 0, none⟩)) ∧ w.cell? ⟨k, 1, none⟩ = some (.pointer (some ⟨gr, 0, none⟩))
theorem PBox.new (w : World) (gp gr : Nat) : PBox (w.alloc (.cells #[.pointer (some ⟨gp, 0, none⟩), .pointer (some ⟨gr, 0, none⟩)] 44)) w.heap.size gp gr := ⟨by simp [go_sem], by simp [go_sem]⟩
theorem PBox.but {S : Nat → Prop} {w w' : World} {k gp gr : Nat} (hb : But S w w') (h : PBox w k gp gr) (hn : ¬ S k) : PBox w' k gp gr := ⟨cell_but hb h.1 hn, cell_but hb h.2 hn⟩
theorem PBox.later {w w' : World} {k gp gr : Nat} (hb : Below w.heap.size w w') (h : PBox w k gp gr) : PBox w' k gp gr := ⟨cell_later hb h.1, cell_later hb h.2⟩
theorem PBox.alloc {w : World} {k gp gr : Nat} (h : PBox w k gp gr) (o : Obj) : PBox (w.alloc o) k gp gr := h.later (below1 _ _)

set_option maxRecDepth 100000 in
set_option maxHeartbeats 2000000 in
theorem step_draw (gp bp gr br n : Nat) (f : Nat → Nat) (W : Int) (t : Nat) (sb : Bool) (N : Int) (w : World) (h : Pr w gp bp gr br n f W t) :
    Calls Try.prog 14 #[.agg #[.pointer (some ⟨gp, 0, none⟩), .pointer (some ⟨gr, 0, none⟩)], .agg #[.bool sb, .int .i64 0, .int .i64 N]] w fun e w' => e = .returned (.bool true) ∧ (∃ t1, Pr w' gp bp gr br n f W t1) ∧ But (fun j => j = gp ∨ j = gr) w w' := by
  have heq := eqlW
  have H : Hid (Pr ((w.alloc (Obj.cells #[.pointer (some ⟨gp, 0, none⟩), .pointer (some ⟨gr, 0, none⟩)] 44)).alloc (Obj.cells #[.bool sb, .int .i64 0, .int .i64 N] 46)) gp bp gr br n f W t) := (h.alloc _).alloc _
  have X0 : PBox ((w.alloc (Obj.cells #[.pointer (some ⟨gp, 0, none⟩), .pointer (some ⟨gr, 0, none⟩)] 44)).alloc (Obj.cells #[.bool sb, .int .i64 0, .int .i64 N] 46)) w.heap.size gp gr := (PBox.new _ _ _).alloc _
  have HB0 : Hid (But (fun j => j = gp ∨ j = gr) w ((w.alloc (Obj.cells #[.pointer (some ⟨gp, 0, none⟩), .pointer (some ⟨gr, 0, none⟩)] 44)).alloc (Obj.cells #[.bool sb, .int .i64 0, .int .i64 N] 46))) := But.of (below2 _ _ _)
  have hlp := h.p.lt
  have hlr := h.r.lt
  by_cases ht : t < n
  · have hself := wEq_self (hiI (cutN (f t) W)) (loI (cutN (f t) W))
    clear h
    go_enter Try.func14, Try.ntmps14
    go_upto_region 4 with (first | (go_at_call 8; refine (draw_more gp bp n _ t _ H.out.p ht).mono ?_; rintro e w1 ⟨rfl, D1, hb1⟩))
    have X1 := (X0.but hb1 (by omega)).alloc (.cells #[.int .u64 (hiI (cutN (f t) W)), .int .u64 (loI (cutN (f t) W))] 25)
    obtain ⟨x0, x1⟩ := X1
    have Y1 := Box.new w1 (hiI (cutN (f t) W)) (loI (cutN (f t) W))
    have R1 := (H.out.r.but hb1 (Ne.symm H.out.ne) (fun h0 => Ne.symm (H.out.ne2 h0))).alloc (.cells #[.int .u64 (hiI (cutN (f t) W)), .int .u64 (loI (cutN (f t) W))] 25)
    have hlt1 := R1.lt
    have hsz1 := hb1.size
    simp at hsz1
    go_upto_region 5 with (first | (go_at_call 18; refine (rdraw_more gr br n f W t _ R1 ht).mono ?_; rintro e w2 ⟨rfl, D2, hb2⟩))
    have Y2 := (Y1.but hb2 (by omega)).alloc (.cells #[.int .u64 (hiI (cutN (f t) W)), .int .u64 (loI (cutN (f t) W))] 25)
    obtain ⟨y0, y1⟩ := Y2
    go_wp2
    go_ret
    have P2 := (H.out.draw D1 hb1 D2 ((But.of (below1 _ _)).trans hb2)).alloc (.cells #[.int .u64 (hiI (cutN (f t) W)), .int .u64 (loI (cutN (f t) W))] 25)
    exact ⟨rfl, ⟨t + 1, P2⟩, (((HB0.out.trans hb1.mono2).alloc _).trans hb2.mono3).alloc _⟩
  · obtain rfl : t = n := by have := h.p.le; omega
    clear h
    go_enter Try.func14, Try.ntmps14
    go_upto_region 4 with (first | (go_at_call 8; refine (draw_end gp bp t _ _ H.out.p).mono ?_; rintro e w1 ⟨rfl, hb1⟩))
    have X1 := (X0.later hb1).alloc (.cells #[.int .u64 0, .int .u64 0] 25)
    obtain ⟨x0, x1⟩ := X1
    have Y1 := Box.new w1 0 0
    have R1 := (H.out.r.later hb1).alloc (.cells #[.int .u64 0, .int .u64 0] 25)
    go_upto_region 5 with (first | (go_at_call 18; refine (rdraw_end gr br t f W _ R1).mono ?_; rintro e w2 ⟨rfl, hb2⟩))
    have Y2 := (Y1.later hb2).alloc (.cells #[.int .u64 0, .int .u64 0] 25)
    obtain ⟨y0, y1⟩ := Y2
    go_wp2
    go_ret
    have P2 := (((H.out.later hb1).alloc (.cells #[.int .u64 0, .int .u64 0] 25)).later hb2).alloc (.cells #[.int .u64 0, .int .u64 0] 25)
    exact ⟨rfl, ⟨t, P2⟩, (((HB0.out.call hb1).alloc _).call hb2).alloc _⟩
set_option maxRecDepth 100000 in
set_option maxHeartbeats 2000000 in
theorem step_count (gp bp gr br n : Nat) (f : Nat → Nat) (W : Int) (t : Nat) (sb : Bool) (N : Int) (w : World) (h : Pr w gp bp gr br n f W t) :
    Calls Try.prog 14 #[.agg #[.pointer (some ⟨gp, 0, none⟩), .pointer (some ⟨gr, 0, none⟩)], .agg #[.bool sb, .int .i64 1, .int .i64 N]] w fun e w' => e = .returned (.bool true) ∧ (∃ t1, Pr w' gp bp gr br n f W t1) ∧ But (fun j => j = gp ∨ j = gr) w w' := by
  have H : Hid (∀ k, Pr (((w.alloc (Obj.cells #[.pointer (some ⟨gp, 0, none⟩), .pointer (some ⟨gr, 0, none⟩)] 44)).alloc (Obj.cells #[.bool sb, .int .i64 1, .int .i64 N] 46)).drewN k) gp bp gr br n f W t) := fun k => ((h.alloc _).alloc _).later (below_drewN (Below.refl _ _) _)
  have HB0 : Hid (∀ k, But (fun j => j = gp ∨ j = gr) w (((w.alloc (Obj.cells #[.pointer (some ⟨gp, 0, none⟩), .pointer (some ⟨gr, 0, none⟩)] 44)).alloc (Obj.cells #[.bool sb, .int .i64 1, .int .i64 N] 46)).drewN k)) := fun k => But.of (below_drewN (below2 _ _ _) _)
  clear h
  go_enter Try.func14, Try.ntmps14
  go_upto_region 7 with fail
  go_quiet (first | (go_at_call 9; refine Calls.quiet_of_same (taken_any gp bp n _ t _ (H.out _).p)) | (go_at_call 19; refine Calls.quiet_of_same (rtaken_any gr br n f W t _ (H.out _).r)) | (go_at_call 10; refine Calls.quiet_of (left_q gp bp n _ t _ (H.out _).p)) | (go_at_call 20; refine Calls.quiet_of (rleft_q gr br n f W t _ (H.out _).r)))
  go_wp2
  go_ret
  exact ⟨rfl, ⟨t, H.out _⟩, HB0.out _⟩
set_option maxRecDepth 100000 in
set_option maxHeartbeats 2000000 in
theorem step_none (gp gr : Nat) (sb : Bool) (k N : Int) (w : World) (h0 : k ≠ 0) (h1 : k ≠ 1) (h2 : k ≠ 2) :
    Calls Try.prog 14 #[.agg #[.pointer (some ⟨gp, 0, none⟩), .pointer (some ⟨gr, 0, none⟩)], .agg #[.bool sb, .int .i64 k, .int .i64 N]] w fun e w' => e = .returned (.bool true) ∧ Below w.heap.size w w' := by
  have e0 : (k == 0) = false := by simp [h0]
  have e1 : (k == 1) = false := by simp [h1]
  have e2 : (k == 2) = false := by simp [h2]
  go_enter Try.func14, Try.ntmps14
  go_wp2
  go_ret
  exact ⟨rfl, below2 _ _ _⟩
end Go.Proofs.Ytfibidfkhfkfpaa
