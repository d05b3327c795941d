import Derived.Test.YtcagghfkomodlaaR2
import Derived.Test.YtcagghfkomodlaaB6
namespace Go.Proofs.Ytcagghfkomodlaa
open Go.RowKit
set_option linter.unusedVariables false
set_option linter.unusedSimpArgs false
variable {w w' : World} {base g : Nat} {m : Int} {pa : Option Addr} {cap : Nat} {K : List Cp}

set_option maxRecDepth 100000 in
set_option maxHeartbeats 1000000 in
theorem rrem_bad (h : Dm w base g m pa cap K) (i : Int) (hb : okI K i = false) :
    Calls Try.prog 22 #[.pointer (some ⟨g, 0, none⟩), .int .i64 i] w fun e w' => e = .returned (.tuple #[.agg #[.int .i64 0, .int .u64 0, .int .u64 0], .int .i64 15]) ∧ Below w.heap.size w w' := by
  obtain ⟨w0, hw0⟩ : ∃ w0, w0 = w.alloc (Obj.cells #[.int .i64 0, .int .u64 0, .int .u64 0] 35) := ⟨_, rfl⟩
  have hB0 : Below w.heap.size w w0 := by rw [hw0]; exact below1 _ _
  have HZ : Hid (Bz w0 w.heap.size) := by rw [hw0]; exact Bz.new w
  have hat := hid (rat_bad (h.later hB0) i hb)
  have HQ : Hid (∀ w1, Below w0.heap.size w0 w1 → Bz (w1.alloc (Obj.cells #[.int .i64 0, .int .u64 0, .int .u64 0] 35)) w.heap.size ∧ Cel (w1.alloc (Obj.cells #[.int .i64 0, .int .u64 0, .int .u64 0] 35)) w1.heap.size 0 (0, 0, 0) ∧ Below w.heap.size w (w1.alloc (Obj.cells #[.int .i64 0, .int .u64 0, .int .u64 0] 35))) := fun w1 hb1 => boxed (HZ.out.later hb1) (below_call hB0 hb1) (0, 0, 0)
  clear h hB0 HZ
  go_enter Try.func22, Try.ntmps22
  go_upto_region 1 with fail
  rw [← hw0]
  clear hw0
  go_upto_region 2 with (first | (go_at_call 23; refine hat.out.mono ?_; rintro e w1 ⟨rfl, hb1⟩; have HQ1 := hid (HQ.out _ hb1); clear hb1))
  generalize w1.alloc (Obj.cells #[.int .i64 0, .int .u64 0, .int .u64 0] 35) = w3 at *
  obtain ⟨⟨⟨r0, f0⟩, ⟨r1, f1⟩, ⟨r2, f2⟩⟩, ⟨x0, x1, x2⟩, HB⟩ := HQ1.out
  simp only [Int.cast_ofNat_Int] at x1 x2
  have HB3 := hid HB
  clear HB HQ1 HQ hat
  go_wp2
  exact bodyPost_ret (v := .tuple #[.agg #[.int .i64 0, .int .u64 0, .int .u64 0], .int .i64 15]) (by simp [results, Try.results22, go_sem, r0, r1, r2]) rfl ⟨rfl, But.below HB3.out (setC_but (S := (· = w.heap.size)) (But.refl _ _) (b := w.heap.size) rfl 0 (0, 0, 0)) (fun k e => by omega)⟩
theorem below_nil {a : Option Addr} (h : Gr none a w w') : Below w.heap.size w w' ∧ ∀ k, Blk a k → w.heap.size ≤ k :=
  ⟨⟨h.but.os, h.but.tape, h.but.output, h.but.size, fun k hk => h.but.block k hk (fun e => by obtain ⟨_, e, _⟩ := e; cases e)⟩, fun k hk => by
    rcases h.on k hk with e | e
    · obtain ⟨_, e, _⟩ := e; cases e
    · exact e⟩
theorem Gr.below' {e : TypeId} {k : Nat} {a a' : Option Addr} {n cap : Nat} {L : List Value} (h : Ow w base e k a n cap L) (g : Gr a a' w w') (hb : base ≤ w.heap.size) : Below base w w' :=
  ⟨g.but.os, g.but.tape, g.but.output, g.but.size, fun k hk => g.but.block k (by omega) (fun hs => by have := (h.blk k hs).1; omega)⟩
/-- The document's list, less place i, in new memory. -/
theorem rrem_app {gg i : Nat} (h : Ow w base 35 3 (some ⟨gg, 0, none⟩) K.length cap (caps K)) (hi : i < K.length) (hc : K.length ≤ cap) (hL : K.length ≤ 32) (q : Option Addr) (hq : q = cutA (some ⟨gg, 0, none⟩) cap (i + 1)) :
    ∃ a1 c1 w1, (Builtin.append_ #[22, 22] 22 #[.slice none 0 0, .slice (some ⟨gg, 0, none⟩) i cap]).run Try.prog w = .ok (.slice a1 i c1) w1 ∧ Below w.heap.size w w1 ∧
      ∃ a2 c2 w2, (Builtin.append_ #[22, 22] 22 #[.slice a1 i c1, .slice q (K.length - (i + 1)) (cap - (i + 1))]).run Try.prog w1 = .ok (.slice a2 (K.length - 1) c2) w2 ∧ Below w.heap.size w w2 ∧ Ow w2 w.heap.size 35 3 a2 (K.length - 1) c2 (caps (K.take i ++ K.drop (i + 1))) := by
  have k1 : Cr w 3 (some ⟨gg, 0, none⟩) i cap (caps (K.take i)) := by
    refine ⟨by rw [caps_length, List.length_take]; omega, fun e => (by cases e), fun x hx j u hu => ?_, caps_one _⟩
    cases hx
    rw [addr_add0]
    refine h.rv gg rfl j u ?_
    rw [← caps_take, List.getElem?_take] at hu
    split at hu
    · exact hu
    · cases hu
  obtain ⟨a1, c1, w1, hr1, ho1, hg1⟩ := append_k 22 35 _ 3 24 Try.underlying22 info35 rfl (by decide) (by decide) (Ow.nil w w.heap.size 35 3) k1 (Nat.le_refl _) (by omega)
  rw [Nat.zero_add] at hr1 ho1
  rw [List.nil_append] at ho1
  have hB1 := (below_nil hg1).1
  have h1 := h.later hB1
  have hM : (K.drop (i + 1)).length = K.length - (i + 1) := by rw [List.length_drop]
  have hlen : i + (K.length - (i + 1)) = K.length - 1 := by omega
  obtain ⟨x, hx⟩ : ∃ x, q = some x := by rw [hq]; unfold cutA; split; exact ⟨_, rfl⟩; exact ⟨_, rfl⟩
  have k2 : Cr w1 3 q (K.length - (i + 1)) (cap - (i + 1)) (caps (K.drop (i + 1))) := by
    refine ⟨by rw [caps_length, hM], fun e => (by rw [e] at hx; cases hx), fun y hy j u hu => ?_, caps_one _⟩
    have hj := (List.getElem?_eq_some_iff.1 hu).1
    rw [caps_length, hM] at hj
    rw [hq, cutA_in _ _ _ (by omega)] at hy
    cases hy
    exact caps_cells h1 (i + 1) j u hu
  obtain ⟨a2, c2, w2, hr2, ho2, hg2⟩ := append_k 22 35 _ 3 24 Try.underlying22 info35 rfl (by decide) (by decide) ho1 k2 hB1.size (by omega)
  rw [hlen] at hr2 ho2
  rw [← caps_append] at ho2
  refine ⟨a1, c1, w1, hr1, hB1, a2, c2, w2, hr2, ?_, ho2⟩
  have := Gr.below' ho1 hg2 hB1.size
  exact hB1.trans this
set_option maxRecDepth 100000 in
set_option maxHeartbeats 1000000 in
theorem rrem_ok (h : Dm w base g m pa cap K) (i : Nat) (c : Cp) (hc : K[i]? = some c) (hL : K.length ≤ 32) :
    Calls Try.prog 22 #[.pointer (some ⟨g, 0, none⟩), .int .i64 (i : Int)] w fun e w' => ∃ pa' cap', e = .returned (.tuple #[.agg #[.int .i64 c.1, .int .u64 (c.2.1 : Int), .int .u64 (c.2.2 : Int)], .int .i64 0]) ∧ Dm w' base g m pa' cap' (K.take i ++ K.drop (i + 1)) ∧ Wr w w' g pa pa' := by
  have hi : i < K.length := (List.getElem?_eq_some_iff.1 hc).1
  have hcap := h.capn
  obtain ⟨gg, rfl⟩ : ∃ gg, pa = some ⟨gg, 0, none⟩ := by
    rcases h.own.form with ⟨_, h1, _⟩ | ⟨gg, h1, _⟩
    · omega
    · exact ⟨gg, h1⟩
  obtain ⟨w0, hw0⟩ : ∃ w0, w0 = w.alloc (Obj.cells #[.int .i64 0, .int .u64 0, .int .u64 0] 35) := ⟨_, rfl⟩
  have hB0 : Below w.heap.size w w0 := by rw [hw0]; exact below1 _ _
  have HZ : Hid (Bz w0 w.heap.size) := by rw [hw0]; exact Bz.new w
  have hat := hid (rat_ok (h.later hB0) i c hc)
  have hgl := h.lt
  have HH := hid h
  have hlt0 : w.heap.size < w0.heap.size := by rw [hw0]; simp
  have HQ : Hid (∀ w1, Below w0.heap.size w0 w1 → w.heap.size < w1.heap.size ∧ Bz (w1.alloc (Obj.cells #[.int .i64 c.1, .int .u64 (c.2.1 : Int), .int .u64 (c.2.2 : Int)] 35)) w.heap.size ∧ Cel (w1.alloc (Obj.cells #[.int .i64 c.1, .int .u64 (c.2.1 : Int), .int .u64 (c.2.2 : Int)] 35)) w1.heap.size 0 c ∧ Below w.heap.size w (w1.alloc (Obj.cells #[.int .i64 c.1, .int .u64 (c.2.1 : Int), .int .u64 (c.2.2 : Int)] 35))) := fun w1 hb1 => ⟨by have := hb1.size; omega, boxed (HZ.out.later hb1) (below_call hB0 hb1) c⟩
  have hi32 : i < 32 := by omega
  have hic : (i : Int) ≤ (cap : Int) := by omega
  have hic1 : (i : Int) + 1 ≤ (K.length : Int) := by omega
  clear h hB0 HZ hlt0 hc
  obtain ⟨q, hq⟩ : ∃ q, q = cutA (some ⟨gg, 0, none⟩) cap (i + 1) := ⟨_, rfl⟩
  go_enter Try.func22, Try.ntmps22
  go_upto_region 1 with fail
  rw [← hw0]
  clear hw0
  go_upto_region 4 with (first | (go_at_call 23; refine hat.out.mono ?_; rintro e w1 ⟨rfl, hb1⟩; have HQ1 := hid (HQ.out _ hb1); clear hb1))
  generalize w1.alloc (Obj.cells #[.int .i64 c.1, .int .u64 (c.2.1 : Int), .int .u64 (c.2.2 : Int)] 35) = w3 at *
  obtain ⟨b6, hb6⟩ : ∃ b6, b6 = w1.heap.size := ⟨_, rfl⟩
  obtain ⟨b4, hb4⟩ : ∃ b4, b4 = w.heap.size := ⟨_, rfl⟩
  have h3 := HH.out.later HQ1.out.2.2.2
  have HBQ := hid HQ1.out.2.2.2
  have hb4e := hid hb4
  rw [← hb6] at HQ1 ⊢
  rw [← hb4] at HQ1 hgl ⊢
  have HQ3 := hid HQ1.out
  have hb64 := HQ3.out.1
  have hb43 : Hid (b4 < w3.heap.size) := by have := World.block_lt_of_cell? _ _ HQ3.out.2.1.c0.1; exact this
  have hb63 : Hid (b6 < w3.heap.size) := by have := World.block_lt_of_cell? _ _ HQ3.out.2.2.1.c0; exact this
  obtain ⟨a1, c1, w5, hr1, hB5, a2, c2, w6, hr2, hB6, ho6⟩ := rrem_app h3.own hi hcap hL q hq
  have HR1 := hid hr1
  have HR2 := hid hr2
  have y3 := h3.c1.1
  have y5 := (h3.later hB5).c1.1
  have y6 := (h3.later hB6).c1.1
  have z6 := (h3.later hB6).c1.2
  have hlen : (K.take i ++ K.drop (i + 1)).length = K.length - 1 := by simp; omega
  have hG : Gr (some ⟨gg, 0, none⟩) a2 w3 w6 := ⟨But.of hB6, fun k hk => .inr ((ho6.blk k hk).1)⟩
  rw [← hlen] at ho6
  obtain ⟨p1, p2⟩ := h3.put hG (ho6.mono h3.hb)
  rw [hlen] at p1 p2
  have hgb : ∀ k, (k = g ∨ Blk (some ⟨gg, 0, none⟩) k) → k < b4 := fun k hk => by
    rcases hk with rfl | hk
    · exact hgl
    · rw [hb4e.out]; exact (HH.out.own.blk k hk).2
  obtain ⟨⟨r0, f0⟩, ⟨r1, f1⟩, ⟨r2, f2⟩⟩ := HQ3.out.2.1.but p2.but (fun e => by have := hgb _ e; omega)
  obtain ⟨x0, x1, x2⟩ := HQ3.out.2.2.1.but p2.but (fun e => by have := hgb _ e; omega)
  have HFIN : Hid (∀ W, But (· = b4) (w6.setCell ⟨g, 1, none⟩ (.slice a2 (K.length - 1) c2)) W → Dm W base g m a2 c2 (K.take i ++ K.drop (i + 1)) ∧ Wr w W g (some ⟨gg, 0, none⟩) a2) := fun W hW => by
    have hblk : ∀ k, Blk a2 k → w3.heap.size ≤ k := fun k hk => (ho6.blk k hk).1
    refine ⟨p1.but hW (by omega) (fun k hk e => by have := hblk k hk; have := hb43.out; omega), ?_, fun k hk => .inr (by have := hblk k hk; have := HBQ.out.size; omega)⟩
    refine ((But.of HBQ.out).trans p2.but).comp hW (fun k e => .inr ?_)
    have := hb4e.out
    omega
  clear p1 p2 hG hB5 hB6 ho6 hlen hgb h3 HQ1 HQ hat hb6 hb4 hr1 hr2 HH
  go_upto_region 6 with (first | (at_builtin; refine wpList_append_known rfl _ _ 22 rfl _ _ rfl rfl _ w5 HR1.out ?_))
  by_cases hcc : cap = i + 1
  · have hq2 : q = some ⟨gg, 0, none⟩ := by rw [hq]; unfold cutA; rw [if_pos hcc]
    rw [hq2] at HR2
    clear hq hq2
    go_wp2_with (first | (at_builtin; refine wpList_append_known rfl _ _ 22 rfl _ _ rfl rfl _ w6 HR2.out ?_))
    exact bodyPost_ret (v := .tuple #[.agg #[.int .i64 c.1, .int .u64 (c.2.1 : Int), .int .u64 (c.2.2 : Int)], .int .i64 0]) (by simp [results, Try.results22, go_sem, r0, r1, r2]) rfl ⟨a2, c2, rfl, HFIN.out _ (setC_but (S := (· = b4)) (But.refl _ _) (b := b4) rfl 0 c)⟩
  · have hq2 : q = some ⟨gg, (i + 1) * 3, none⟩ := by rw [hq]; exact cutA_in _ _ _ hcc
    rw [hq2] at HR2
    clear hq hq2
    go_wp2_with (first | (at_builtin; refine wpList_append_known rfl _ _ 22 rfl _ _ rfl rfl _ w6 HR2.out ?_))
    exact bodyPost_ret (v := .tuple #[.agg #[.int .i64 c.1, .int .u64 (c.2.1 : Int), .int .u64 (c.2.2 : Int)], .int .i64 0]) (by simp [results, Try.results22, go_sem, r0, r1, r2]) rfl ⟨a2, c2, rfl, HFIN.out _ (setC_but (S := (· = b4)) (But.refl _ _) (b := b4) rfl 0 c)⟩
end Go.Proofs.Ytcagghfkomodlaa
