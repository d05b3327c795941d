import Derived.Test.YtcagghfkomodlaaB2
namespace Go.Proofs.Ytcagghfkomodlaa
open Go.RowKit
set_option linter.unusedVariables false
set_option linter.unusedSimpArgs false
variable {w w' : World} {base g : Nat} {m : Int} {pa : Option Addr} {cap : Nat} {K : List Cp}
/-- Three cells of zero that may be written. -/
structure Bz (w : World) (b : Nat) : Prop where
  c0 : Lies w ⟨b, 0, none⟩ (.int .i64 0)
  c1 : Lies w ⟨b, 1, none⟩ (.int .u64 0)
  c2 : Lies w ⟨b, 2, none⟩ (.int .u64 0)
theorem Bz.new (w : World) : Bz (w.alloc (Obj.cells #[.int .i64 0, .int .u64 0, .int .u64 0] 35)) w.heap.size :=
  ⟨⟨by simp [go_sem], by simp [go_sem]⟩, ⟨by simp [go_sem], by simp [go_sem]⟩, ⟨by simp [go_sem], by simp [go_sem]⟩⟩
theorem Bz.but {S : Nat → Prop} {b : Nat} (h : Bz w b) (hb : But S w w') (hn : ¬ S b) : Bz w' b := ⟨h.c0.but hb hn, h.c1.but hb hn, h.c2.but hb hn⟩
theorem Bz.later {b : Nat} (h : Bz w b) (hb : Below w.heap.size w w') : Bz w' b := h.but (S := fun _ => False) (But.of hb) (fun h => h)
theorem Cel.set {b : Nat} (h : Bz w b) (c : Cp) : Cel (setC w b 0 c) b 0 c := by
  unfold setC
  have h1 := h.c0.put (u := .int .i64 c.1)
  have h2 := (h.c1.other (q := ⟨b, 0, none⟩) (u := .int .i64 c.1) (by simp)).put (u := .int .u64 (c.2.1 : Int))
  have h3 := ((h.c2.other (q := ⟨b, 0, none⟩) (u := .int .i64 c.1) (by simp)).other (q := ⟨b, 1, none⟩) (u := .int .u64 (c.2.1 : Int)) (by simp)).put (u := .int .u64 (c.2.2 : Int))
  exact ⟨((h1.other (by simp)).other (by simp)).1, (h2.other (by simp)).1, h3.1⟩
set_option maxRecDepth 100000 in
set_option maxHeartbeats 1000000 in
theorem at_ok (h : Dm w base g m pa cap K) (i : Nat) (c : Cp) (hc : K[i]? = some c) :
    Calls Try.prog 14 #[.pointer (some ⟨g, 0, none⟩), .int .i64 (i : Int)] w fun e w' => e = .returned (.tuple #[.agg #[.int .i64 c.1, .int .u64 (c.2.1 : Int), .int .u64 (c.2.2 : Int)], .int .i64 0]) ∧ Below w.heap.size w w' := by
  have hi : i < K.length := (List.getElem?_eq_some_iff.1 hc).1
  obtain ⟨w0, hw0⟩ : ∃ w0, w0 = w.alloc (Obj.cells #[.int .i64 0, .int .u64 0, .int .u64 0] 35) := ⟨_, rfl⟩
  have hB0 : Below w.heap.size w w0 := by rw [hw0]; exact below1 _ _
  obtain ⟨⟨r0, f0⟩, ⟨r1, f1⟩, ⟨r2, f2⟩⟩ : Bz w0 w.heap.size := by rw [hw0]; exact Bz.new w
  have h0 := h.later hB0
  have hh := hid (has_any h0 (i : Int))
  rw [show okI K (i : Int) = true from okI_iff.2 ⟨by omega, by omega⟩] at hh
  obtain ⟨b, o, rfl, hcel⟩ := h0.rd.at_ (by omega)
  obtain ⟨x0, x1, x2⟩ := hcel i c hc
  have y1 := h0.c1.1
  have HB : Hid (∀ W, But (· = w.heap.size) w0 W → Below w.heap.size w W) := fun W hW => But.below hB0 hW (fun k e => by omega)
  clear h h0 hB0 hc hcel
  go_enter Try.func14, Try.ntmps14
  go_upto_region 1 with fail
  rw [← hw0]
  clear hw0
  go_wp2_with (first | (go_at_call 20; refine hh.out.mono ?_; rintro e w9 ⟨rfl, hw9⟩; obtain rfl := hw9.symm; clear hw9))
  exact bodyPost_ret (v := .tuple #[.agg #[.int .i64 c.1, .int .u64 (c.2.1 : Int), .int .u64 (c.2.2 : Int)], .int .i64 0]) (by simp [results, Try.results14, go_sem, r0, r1, r2]) rfl ⟨rfl, HB.out _ (setC_but (S := (· = w.heap.size)) (But.refl _ _) (b := w.heap.size) rfl 0 c)⟩
set_option maxRecDepth 100000 in
set_option maxHeartbeats 1000000 in
theorem at_bad (h : Dm w base g m pa cap K) (i : Int) (hb : okI K i = false) :
    Calls Try.prog 14 #[.pointer (some ⟨g, 0, none⟩), .int .i64 i] w fun e w' => e = .returned (.tuple #[.agg #[.int .i64 0, .int .u64 0, .int .u64 0], .int .i64 15]) ∧ Below w.heap.size w w' := by
  obtain ⟨w0, hw0⟩ : ∃ w0, w0 = w.alloc (Obj.cells #[.int .i64 0, .int .u64 0, .int .u64 0] 35) := ⟨_, rfl⟩
  have hB0 : Below w.heap.size w w0 := by rw [hw0]; exact below1 _ _
  obtain ⟨⟨r0, f0⟩, ⟨r1, f1⟩, ⟨r2, f2⟩⟩ : Bz w0 w.heap.size := by rw [hw0]; exact Bz.new w
  have h0 := h.later hB0
  have hh := hid (has_any h0 i)
  rw [hb] at hh
  have y1 := h0.c1.1
  have HB : Hid (∀ W, But (· = w.heap.size) w0 W → Below w.heap.size w W) := fun W hW => But.below hB0 hW (fun k e => by omega)
  clear h h0 hB0
  go_enter Try.func14, Try.ntmps14
  go_upto_region 1 with fail
  rw [← hw0]
  clear hw0
  go_wp2_with (first | (go_at_call 20; refine hh.out.mono ?_; rintro e w9 ⟨rfl, hw9⟩; obtain rfl := hw9.symm; clear hw9))
  exact bodyPost_ret (v := .tuple #[.agg #[.int .i64 0, .int .u64 0, .int .u64 0], .int .i64 15]) (by simp [results, Try.results14, go_sem, r0, r1, r2]) rfl ⟨rfl, HB.out _ (setC_but (S := (· = w.heap.size)) (But.refl _ _) (b := w.heap.size) rfl 0 (0, 0, 0))⟩
end Go.Proofs.Ytcagghfkomodlaa
