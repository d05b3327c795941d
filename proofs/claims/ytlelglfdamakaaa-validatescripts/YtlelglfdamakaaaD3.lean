import Derived.Test.YtlelglfdamakaaaD2
namespace Go.Proofs.Ytlelglfdamakaaa
open Go.RowKit H
set_option linter.unusedVariables false
set_option linter.unusedSimpArgs false
variable {w w' : World} {H : Hv} {X : List Tk} {l : Fo} {T : Nat → List K.Pu}

/-! ### A result in a variable -/
/-- A capability's cells, as they stand ahead of it. -/
structure Zc (w : World) (b : Nat) : Prop where
  c0 : Lies w ⟨b, 0, none⟩ (.int .i64 0)
  c1 : Lies w ⟨b, 1, none⟩ (.int .u64 0)
  c2 : Lies w ⟨b, 2, none⟩ (.int .u64 0)
theorem Zc.but {S : Nat → Prop} {w w' : World} {b : Nat} (h : Zc w b) (hb : But S w w') (hn : ¬ S b) : Zc w' b := ⟨h.c0.but hb hn, h.c1.but hb hn, h.c2.but hb hn⟩
theorem Cel.set {w : World} {b : Nat} (h : Zc w b) (c : Cp) : Cel (set3 w b c) b 0 c := by
  have n1 : (⟨b, 1, none⟩ : Addr) ≠ ⟨b, 0, none⟩ := by simp
  have n2 : (⟨b, 2, none⟩ : Addr) ≠ ⟨b, 0, none⟩ := by simp
  have n3 : (⟨b, 2, none⟩ : Addr) ≠ ⟨b, 1, none⟩ := by simp
  have n4 : (⟨b, 0, none⟩ : Addr) ≠ ⟨b, 1, none⟩ := by simp
  have n5 : (⟨b, 0, none⟩ : Addr) ≠ ⟨b, 2, none⟩ := by simp
  have n6 : (⟨b, 1, none⟩ : Addr) ≠ ⟨b, 2, none⟩ := by simp
  exact ⟨((h.c0.put.other n1).other n2).1, ((h.c1.other n4).put.other n3).1, ((h.c2.other n5).other n6).put.1⟩
/-- Behind a call of the validator whose answer is put into a variable. -/
structure Lw (v : World) (H : Hv) (X : List Tk) (l : Fo) (W : World) (b : Nat) (c : Cp) : Prop where
  lo : v.heap.size ≤ b
  hi : b < W.heap.size
  ce : Cel W b 0 c
  vt : Vt W H X l
  bu : But (fun k => k = H.g) v W
theorem set3_size (w : World) (b : Nat) (c : Cp) : (set3 w b c).heap.size = w.heap.size := by simp [set3, World.setCell]
theorem Lw.put {v u : World} {b : Nat} (h0 : Vt v H X l) (hv : Vt u H X l) (hb : But (fun k => k = H.g) v u) (hlo : v.heap.size ≤ b) (hz : Zc u b) (c : Cp) : Lw v H X l (set3 u b c) b c := by
  have hgl : H.g < v.heap.size := by obtain ⟨_, ⟨_, ⟨_, _, _, hk⟩, _, _⟩, _⟩ := h0; exact hk.lt
  have hvl : H.v < v.heap.size := by obtain ⟨_, ⟨_, _, hva, _⟩, _⟩ := h0; exact hva.lt
  exact ⟨hlo, by rw [set3_size]; exact World.block_lt_of_cell? _ _ hz.c0.1, Cel.set hz c, hv.but (S := fun k => k = b) (set3_but (S := fun k => k = b) (But.refl _ _) (b := b) rfl _) (fun k hk e => by have := h0.cat.lt k hk; omega) (by omega) (by omega), set3_put hb hlo _⟩
theorem Lw.next {v u : World} (hv : Vt u H X l) (hb : But (fun k => k = H.g) v u) (c : Cp) : Lw v H X l (u.alloc (Obj.cells #[.int .i64 c.1, .int .u64 (c.2.1 : Int), .int .u64 (c.2.2 : Int)] 32)) u.heap.size c :=
  ⟨hb.size, by simp, ⟨by simp [go_sem], by simp [go_sem], by simp [go_sem]⟩, hv.later (below1 _ _), hb.alloc _⟩
theorem rd2 {w : World} {q : Nat} {a b : Cp} (h1 : Cel w q 0 a) (h2 : Cel w q 3 b) : Rd w (some ⟨q, 0, none⟩) 2 [a, b] :=
  ⟨rfl, fun _ => ⟨q, 0, rfl, fun i c hc => by
    match i, hc with
    | 0, hc => cases hc; exact h1
    | 1, hc => cases hc; exact h2⟩⟩

/-! ### The document's example -/
def ya : Cp := (1, 0, 5)
def yb : Cp := (1, 0, 7)
def y0 : List Tk := List.replicate 5 tz
def y1 : Res := rootR 5 y0 [] ya 31
def y2 : Res := childR 5 y1.X y1.l 0 yb 1
theorem yd0 : 1 + modN 4 20 = 5 := by decide
theorem yg1 : givE y2.X y2.l 1 yb = 0 := by decide +kernel
theorem yg2 : givE y2.X y2.l 2 yb = 4 := by decide +kernel
theorem yg3 : givE y2.X y2.l 1 (2, 0, 0) = 3 := by decide +kernel
theorem yn1 : namG (givE y2.X y2.l 2) 1 [yb, ya] 3 = (ya, 0) := by decide +kernel
set_option maxRecDepth 100000 in
set_option maxHeartbeats 4000000 in
theorem alive_any (w : World) : Calls Try.prog 7 #[] w fun e w' => e = .returned (.bool true) ∧ Below w.heap.size w w' := by
  have HD := hid (desk_any 4 1 0 64 w)
  rw [yd0] at HD
  go_enter Try.func7, Try.ntmps7
  go_upto_region 4 with (first | (go_at_call 6; refine HD.out.mono ?_; rintro e v0 ⟨H, rfl, hl⟩; have HL := hid hl; clear hl))
  have HMo : Hid (H.mo = 5) := HL.out.mo_
  have HV0 : Hid (Vt v0 H y0 []) := HL.out.ds.vt
  have HT0 := hid HL.out.ds.tp
  have HLo := hid HL.out.lo
  have HHi := hid HL.out.hi
  have HB0 := hid HL.out.be
  clear HL
  obtain ⟨v1, hv1⟩ : ∃ v1, v1 = (v0.alloc (Obj.cells #[.int .i64 1, .int .u64 0, .int .u64 5] 32)).alloc (Obj.cells #[.int .i64 1, .int .u64 0, .int .u64 7] 32) := ⟨_, rfl⟩
  have hB1 : Below v0.heap.size v0 v1 := by rw [hv1]; exact below2 _ _ _
  have ha : Cel v1 v0.heap.size 0 ya := by rw [hv1]; exact ⟨by simp [go_sem, ya], by simp [go_sem, ya], by simp [go_sem, ya]⟩
  have hb : Cel v1 (v0.heap.size + 1) 0 yb := by rw [hv1]; exact ⟨by simp [go_sem, yb], by simp [go_sem, yb], by simp [go_sem, yb]⟩
  have HPa : Hid (∀ k, H.Pw k → k < v0.heap.size) := fun k e => HHi.out k (by rcases e with e | e; exact .inl (.inr (.inr e)); exact .inr (.inl e))
  have HV1 := hid (HV0.out.later hB1)
  have HS : Hid (∀ U, But H.Pw v1 U → (U.cell? ⟨H.d, 0, none⟩ = some (.pointer (some ⟨H.A.g, 0, none⟩)) ∧ U.cell? ⟨H.d, 1, none⟩ = some (.pointer (some ⟨H.v, 0, none⟩)) ∧ U.cell? ⟨v0.heap.size, 0, none⟩ = some (.int .i64 1) ∧ U.cell? ⟨v0.heap.size, 1, none⟩ = some (.int .u64 0) ∧ U.cell? ⟨v0.heap.size, 2, none⟩ = some (.int .u64 5) ∧ U.cell? ⟨v0.heap.size + 1, 0, none⟩ = some (.int .i64 1) ∧ U.cell? ⟨v0.heap.size + 1, 1, none⟩ = some (.int .u64 0) ∧ U.cell? ⟨v0.heap.size + 1, 2, none⟩ = some (.int .u64 7)) ∧ But H.Pw v1 U) := fun U hU => by
    have hd : ¬ H.Pw H.d := fun e => by rcases e with e | e; exact HV0.out.dis.d1 (.inr (.inr e)); exact HV0.out.dis.d2 e
    have hT := (HT0.out.but (S := H.Pw) (But.of hB1) hd).but hU hd
    have hA := ha.but hU (fun e => by have := HPa.out _ e; omega)
    have hBb := hb.but hU (fun e => by have := HPa.out _ e; omega)
    exact ⟨⟨hT.c0, hT.c1, hA.c0, hA.c1, hA.c2, hBb.c0, hBb.c1, hBb.c2⟩, hU⟩
  have HB1 := hid (below_call HB0.out hB1)
  have HLo2 : Hid (∀ k, H.Pw k → w.heap.size ≤ k) := fun k e => HLo.out k (by rcases e with e | e; exact .inl (.inr (.inr e)); exact .inr (.inl e))
  have HR1 : Hid (∀ U, Below v1.heap.size v1 U → Calls Try.prog 8 #[.pointer (some ⟨H.A.g, 0, none⟩), .agg #[.int .i64 1, .int .u64 0, .int .u64 5], .int .i64 31] U fun e w' => e = .returned (.tuple #[.int .i64 y1.num, .int .i64 y1.code]) ∧ Vt w' H y1.X y1.l ∧ But H.Pw U w') := fun U hU => by
    have := vroot (HV1.out.later hU) ya 31 (by decide)
    rw [HMo.out] at this
    exact this
  clear ha hb hB1 HV0 HT0 HB0
  go_upto_region 6 with fail
  rw [← hv1]
  clear hv1
  go_region_held3 (fun U => (U.cell? ⟨H.d, 0, none⟩ = some (.pointer (some ⟨H.A.g, 0, none⟩)) ∧ U.cell? ⟨H.d, 1, none⟩ = some (.pointer (some ⟨H.v, 0, none⟩)) ∧ U.cell? ⟨v0.heap.size, 0, none⟩ = some (.int .i64 1) ∧ U.cell? ⟨v0.heap.size, 1, none⟩ = some (.int .u64 0) ∧ U.cell? ⟨v0.heap.size, 2, none⟩ = some (.int .u64 5) ∧ U.cell? ⟨v0.heap.size + 1, 0, none⟩ = some (.int .i64 1) ∧ U.cell? ⟨v0.heap.size + 1, 1, none⟩ = some (.int .u64 0) ∧ U.cell? ⟨v0.heap.size + 1, 2, none⟩ = some (.int .u64 7)) ∧ But H.Pw v1 U) (first | exact HS.out _ HB2.out | exact HS.out _ (But.of (Below.refl _ _).drew)) (first
    | (go_at_call 8; refine (HR1.out _ (Below.refl _ _).drew).mono ?_; rintro e v2 ⟨rfl, ht, hb⟩; have HV2 := hid ht; have HB2 := hid ((But.of (S := H.Pw) (Below.refl v1.heap.size v1).drew).trans hb); clear ht hb))
  have HR2 : Hid (∀ U, Below v2.heap.size v2 U → Calls Try.prog 10 #[.pointer (some ⟨H.A.g, 0, none⟩), .int .i64 0, .agg #[.int .i64 1, .int .u64 0, .int .u64 7], .int .i64 1] U fun e w' => e = .returned (.tuple #[.int .i64 y2.num, .int .i64 y2.code]) ∧ Vt w' H y2.X y2.l ∧ But H.Pw U w') := fun U hU => by
    have := vchild (HV2.out.later hU) 0 yb 1 (by decide)
    rw [HMo.out] at this
    exact this
  go_upto_region 7 with fail
  go_region_held3 (fun U => (U.cell? ⟨H.d, 0, none⟩ = some (.pointer (some ⟨H.A.g, 0, none⟩)) ∧ U.cell? ⟨H.d, 1, none⟩ = some (.pointer (some ⟨H.v, 0, none⟩)) ∧ U.cell? ⟨v0.heap.size, 0, none⟩ = some (.int .i64 1) ∧ U.cell? ⟨v0.heap.size, 1, none⟩ = some (.int .u64 0) ∧ U.cell? ⟨v0.heap.size, 2, none⟩ = some (.int .u64 5) ∧ U.cell? ⟨v0.heap.size + 1, 0, none⟩ = some (.int .i64 1) ∧ U.cell? ⟨v0.heap.size + 1, 1, none⟩ = some (.int .u64 0) ∧ U.cell? ⟨v0.heap.size + 1, 2, none⟩ = some (.int .u64 7)) ∧ But H.Pw v1 U) (first | exact HS.out _ HB3.out | exact HS.out _ (HB2.out.call (Below.refl _ _).drew)) (first
    | (go_at_call 10; refine (HR2.out _ (Below.refl _ _).drew).mono ?_; rintro e v3 ⟨rfl, ht, hb⟩; have HV3 := hid ht; have HB3 := hid ((HB2.out.call (Below.refl v2.heap.size v2).drew).trans hb); clear ht hb))
  clear HR1 HR2 HV1 HV2 HB2
  go_upto_region 8 with fail
  have HGl : Hid (H.g < v3.heap.size) := (by obtain ⟨_, ⟨_, ⟨_, _, _, hk⟩, _, _⟩, _⟩ := HV3.out; exact hk.lt)
  have HN : Hid (∀ (U : World) (q : Nat), Below v3.heap.size v3 U → v3.heap.size ≤ q → Cel U q 0 yb → Cel U q 3 ya → Calls Try.prog 15 #[.pointer (some ⟨H.v, 0, none⟩), .int .i64 1, .int .i64 2, .slice (some ⟨q, 0, none⟩) 2 2] U fun e w' => e = .returned (.tuple #[.agg #[.int .i64 1, .int .u64 0, .int .u64 5], .int .i64 0]) ∧ Vt w' H y2.X y2.l ∧ But (fun k => k = H.g) U w') := fun U q hU hq c1 c2 => by
    have := named_any (HV3.out.later hU) 1 2 2 (rd2 c1 c2) (by decide) (by decide) (fun _ k hk e => by obtain ⟨x, hx, e2⟩ := hk; cases hx; have := HGl.out; simp only at e2; omega)
    rw [yn1] at this
    exact this
  have HNa : Hid (Calls Try.prog 15 #[.pointer (some ⟨H.v, 0, none⟩), .int .i64 1, .int .i64 2, .slice (some ⟨v3.heap.size + 1, 0, none⟩) 2 2] ((v3.alloc (Obj.cells #[.int .i64 0, .int .u64 0, .int .u64 0] 32)).alloc (Obj.cells #[.int .i64 1, .int .u64 0, .int .u64 7, .int .i64 1, .int .u64 0, .int .u64 5] 32)).drew fun e w' => e = .returned (.tuple #[.agg #[.int .i64 1, .int .u64 0, .int .u64 5], .int .i64 0]) ∧ Vt w' H y2.X y2.l ∧ But (fun k => k = H.g) v3 w' ∧ Zc w' (v3.heap.size)) := by
    refine (HN.out _ (v3.heap.size + 1) (below2 v3 (Obj.cells #[.int .i64 0, .int .u64 0, .int .u64 0] 32) (Obj.cells #[.int .i64 1, .int .u64 0, .int .u64 7, .int .i64 1, .int .u64 0, .int .u64 5] 32)).drew (by omega) ⟨by simp [go_sem, yb], by simp [go_sem, yb], by simp [go_sem, yb]⟩ ⟨by simp [go_sem, ya], by simp [go_sem, ya], by simp [go_sem, ya]⟩).mono ?_
    rintro e w' ⟨rfl, ht, hb⟩
    exact ⟨rfl, ht, (But.of (S := fun k => k = H.g) (below2 v3 (Obj.cells #[.int .i64 0, .int .u64 0, .int .u64 0] 32) (Obj.cells #[.int .i64 1, .int .u64 0, .int .u64 7, .int .i64 1, .int .u64 0, .int .u64 5] 32)).drew).trans hb, (show Zc ((v3.alloc (Obj.cells #[.int .i64 0, .int .u64 0, .int .u64 0] 32)).alloc (Obj.cells #[.int .i64 1, .int .u64 0, .int .u64 7, .int .i64 1, .int .u64 0, .int .u64 5] 32)).drew (v3.heap.size) from ⟨⟨by simp [go_sem], by simp [go_sem]⟩, ⟨by simp [go_sem], by simp [go_sem]⟩, ⟨by simp [go_sem], by simp [go_sem]⟩⟩).but hb (by have := HGl.out; omega)⟩
  have HNb : Hid (Calls Try.prog 15 #[.pointer (some ⟨H.v, 0, none⟩), .int .i64 1, .int .i64 2, .slice (some ⟨v3.heap.size, 0, none⟩) 2 2] ((v3.alloc (Obj.cells #[.int .i64 1, .int .u64 0, .int .u64 7, .int .i64 1, .int .u64 0, .int .u64 5] 32)).alloc (Obj.cells #[.int .i64 0, .int .u64 0, .int .u64 0] 32)).drew fun e w' => e = .returned (.tuple #[.agg #[.int .i64 1, .int .u64 0, .int .u64 5], .int .i64 0]) ∧ Vt w' H y2.X y2.l ∧ But (fun k => k = H.g) v3 w' ∧ Zc w' (v3.heap.size + 1)) := by
    refine (HN.out _ (v3.heap.size) (below2 v3 (Obj.cells #[.int .i64 1, .int .u64 0, .int .u64 7, .int .i64 1, .int .u64 0, .int .u64 5] 32) (Obj.cells #[.int .i64 0, .int .u64 0, .int .u64 0] 32)).drew (by omega) ⟨by simp [go_sem, yb], by simp [go_sem, yb], by simp [go_sem, yb]⟩ ⟨by simp [go_sem, ya], by simp [go_sem, ya], by simp [go_sem, ya]⟩).mono ?_
    rintro e w' ⟨rfl, ht, hb⟩
    exact ⟨rfl, ht, (But.of (S := fun k => k = H.g) (below2 v3 (Obj.cells #[.int .i64 1, .int .u64 0, .int .u64 7, .int .i64 1, .int .u64 0, .int .u64 5] 32) (Obj.cells #[.int .i64 0, .int .u64 0, .int .u64 0] 32)).drew).trans hb, (show Zc ((v3.alloc (Obj.cells #[.int .i64 1, .int .u64 0, .int .u64 7, .int .i64 1, .int .u64 0, .int .u64 5] 32)).alloc (Obj.cells #[.int .i64 0, .int .u64 0, .int .u64 0] 32)).drew (v3.heap.size + 1) from ⟨⟨by simp [go_sem], by simp [go_sem]⟩, ⟨by simp [go_sem], by simp [go_sem]⟩, ⟨by simp [go_sem], by simp [go_sem]⟩⟩).but hb (by have := HGl.out; omega)⟩
  have HNc : Hid (Calls Try.prog 15 #[.pointer (some ⟨H.v, 0, none⟩), .int .i64 1, .int .i64 2, .slice (some ⟨v3.heap.size, 0, none⟩) 2 2] (v3.alloc (Obj.cells #[.int .i64 1, .int .u64 0, .int .u64 7, .int .i64 1, .int .u64 0, .int .u64 5] 32)).drew fun e w' => e = .returned (.tuple #[.agg #[.int .i64 1, .int .u64 0, .int .u64 5], .int .i64 0]) ∧ Vt w' H y2.X y2.l ∧ But (fun k => k = H.g) v3 w') := by
    refine (HN.out _ (v3.heap.size) (below1 v3 (Obj.cells #[.int .i64 1, .int .u64 0, .int .u64 7, .int .i64 1, .int .u64 0, .int .u64 5] 32)).drew (by omega) ⟨by simp [go_sem, yb], by simp [go_sem, yb], by simp [go_sem, yb]⟩ ⟨by simp [go_sem, ya], by simp [go_sem, ya], by simp [go_sem, ya]⟩).mono ?_
    rintro e w' ⟨rfl, ht, hb⟩
    exact ⟨rfl, ht, (But.of (S := fun k => k = H.g) (below1 v3 (Obj.cells #[.int .i64 1, .int .u64 0, .int .u64 7, .int .i64 1, .int .u64 0, .int .u64 5] 32)).drew).trans hb⟩
  clear HN
  have HNew : Hid (∀ k, v3.heap.size ≤ k → v1.heap.size ≤ k) := fun k hk => Nat.le_trans HB3.out.size hk
  go_cut [4, 5] (fun s4 s5 W => ∃ b, s4 = .pointer (some ⟨b, 0, none⟩) ∧ s5 = .int .i64 0 ∧ Hid (Lw v3 H y2.X y2.l W b ya))
  case first =>
    go_region_held3 (fun U => (U.cell? ⟨H.d, 0, none⟩ = some (.pointer (some ⟨H.A.g, 0, none⟩)) ∧ U.cell? ⟨H.d, 1, none⟩ = some (.pointer (some ⟨H.v, 0, none⟩)) ∧ U.cell? ⟨v0.heap.size, 0, none⟩ = some (.int .i64 1) ∧ U.cell? ⟨v0.heap.size, 1, none⟩ = some (.int .u64 0) ∧ U.cell? ⟨v0.heap.size, 2, none⟩ = some (.int .u64 5) ∧ U.cell? ⟨v0.heap.size + 1, 0, none⟩ = some (.int .i64 1) ∧ U.cell? ⟨v0.heap.size + 1, 1, none⟩ = some (.int .u64 0) ∧ U.cell? ⟨v0.heap.size + 1, 2, none⟩ = some (.int .u64 7)) ∧ But H.Pw v1 U) (first | exact HS.out _ HB5.out | exact HS.out _ (HB3.out.call (Below.refl _ _).drew) | exact HS.out _ (HB3.out.call (below1 _ _).drew) | exact HS.out _ (HB3.out.call (below2 _ _ _).drew) | exact HS.out _ (HB5.out.alloc _) | exact HS.out _ (((HB5.out.put (HNew.out _ (by first | exact Nat.le_refl _ | exact Nat.le_succ _)) _).put (HNew.out _ (by first | exact Nat.le_refl _ | exact Nat.le_succ _)) _).put (HNew.out _ (by first | exact Nat.le_refl _ | exact Nat.le_succ _)) _)) (first
      | (go_at_call 15; (with_reducible refine HNa.out.mono ?_); rintro e v4 ⟨rfl, ht, hb, hzc⟩; have HV4 := hid ht; have HB4 := hid hb; have HB5 := hid (HB3.out.trans (Hv.Pw.of_g hb)); have HZc := hid hzc; obtain ⟨⟨z0, f0⟩, ⟨z1, f1⟩, ⟨z2, f2⟩⟩ := hzc; clear ht hb)
      | (go_at_call 15; (with_reducible refine HNb.out.mono ?_); rintro e v4 ⟨rfl, ht, hb, hzc⟩; have HV4 := hid ht; have HB4 := hid hb; have HB5 := hid (HB3.out.trans (Hv.Pw.of_g hb)); have HZc := hid hzc; obtain ⟨⟨z0, f0⟩, ⟨z1, f1⟩, ⟨z2, f2⟩⟩ := hzc; clear ht hb)
      | (go_at_call 15; (with_reducible refine HNc.out.mono ?_); rintro e v4 ⟨rfl, ht, hb⟩; have HV4 := hid ht; have HB4 := hid hb; have HB5 := hid (HB3.out.trans (Hv.Pw.of_g hb)); clear ht hb))
    all_goals (try go_wp2)
    all_goals go_meet
    all_goals (first | exact ⟨_, rfl, rfl, Lw.put HV3.out HV4.out HB4.out (by omega) HZc.out ya⟩ | exact ⟨_, rfl, rfl, Lw.next HV4.out HB4.out ya⟩)
  case rest =>
  rename World => v4
  obtain ⟨b4, rfl, rfl, HLw⟩ := hcut
  have HV4 := hid HLw.out.vt
  have HB4 := hid (HB3.out.trans (Hv.Pw.of_g HLw.out.bu))
  have HS4 : Hid (∀ U, But (fun k => k = H.g) v4 U → (U.cell? ⟨H.d, 1, none⟩ = some (.pointer (some ⟨H.v, 0, none⟩)) ∧ U.cell? ⟨v0.heap.size, 0, none⟩ = some (.int .i64 1) ∧ U.cell? ⟨v0.heap.size, 1, none⟩ = some (.int .u64 0) ∧ U.cell? ⟨v0.heap.size, 2, none⟩ = some (.int .u64 5) ∧ U.cell? ⟨v0.heap.size + 1, 0, none⟩ = some (.int .i64 1) ∧ U.cell? ⟨v0.heap.size + 1, 1, none⟩ = some (.int .u64 0) ∧ U.cell? ⟨v0.heap.size + 1, 2, none⟩ = some (.int .u64 7) ∧ U.cell? ⟨b4, 0, none⟩ = some (.int .i64 1) ∧ U.cell? ⟨b4, 1, none⟩ = some (.int .u64 0) ∧ U.cell? ⟨b4, 2, none⟩ = some (.int .u64 5)) ∧ But (fun k => k = H.g) v4 U) := fun U hU => by
    obtain ⟨⟨_, k1, k2, k3, k4, k5, k6, k7⟩, _⟩ := HS.out U (HB4.out.trans (Hv.Pw.of_g hU))
    have hc := HLw.out.ce.but hU (by have := HGl.out; have := HLw.out.lo; omega)
    exact ⟨⟨k1, k2, k3, k4, k5, k6, k7, hc.c0, hc.c1, hc.c2⟩, hU⟩
  have HG1 : Hid (∀ U, Vt U H y2.X y2.l → Calls Try.prog 11 #[.pointer (some ⟨H.v, 0, none⟩), .agg #[.int .i64 1, .int .u64 0, .int .u64 7], .int .i64 1] U fun e w' => e = .returned (.int .i64 0) ∧ Vt w' H y2.X y2.l ∧ But (fun k => k = H.g) U w') := fun U hU => by
    have := given_any hU yb 1 (by decide)
    rw [yg1] at this
    exact this
  have HG2 : Hid (∀ U, Vt U H y2.X y2.l → Calls Try.prog 11 #[.pointer (some ⟨H.v, 0, none⟩), .agg #[.int .i64 1, .int .u64 0, .int .u64 7], .int .i64 2] U fun e w' => e = .returned (.int .i64 4) ∧ Vt w' H y2.X y2.l ∧ But (fun k => k = H.g) U w') := fun U hU => by
    have := given_any hU yb 2 (by decide)
    rw [yg2] at this
    exact this
  have HG3 : Hid (∀ U, Vt U H y2.X y2.l → Calls Try.prog 11 #[.pointer (some ⟨H.v, 0, none⟩), .agg #[.int .i64 2, .int .u64 0, .int .u64 0], .int .i64 1] U fun e w' => e = .returned (.int .i64 3) ∧ Vt w' H y2.X y2.l ∧ But (fun k => k = H.g) U w') := fun U hU => by
    have := given_any hU (2, 0, 0) 1 (by decide)
    rw [yg3] at this
    exact this
  have hq : ∀ W : World, (binOp .eql 32 (.agg #[.int .i64 1, .int .u64 0, .int .u64 5]) (.agg #[.int .i64 1, .int .u64 0, .int .u64 5])).run Try.prog W = .ok (.bool true) W := fun W => by kernel_rfl
  clear HLw HNa HNb HNc HV3
  go_upto_region 9 with fail
  go_region_held3 (fun U => (U.cell? ⟨H.d, 1, none⟩ = some (.pointer (some ⟨H.v, 0, none⟩)) ∧ U.cell? ⟨v0.heap.size, 0, none⟩ = some (.int .i64 1) ∧ U.cell? ⟨v0.heap.size, 1, none⟩ = some (.int .u64 0) ∧ U.cell? ⟨v0.heap.size, 2, none⟩ = some (.int .u64 5) ∧ U.cell? ⟨v0.heap.size + 1, 0, none⟩ = some (.int .i64 1) ∧ U.cell? ⟨v0.heap.size + 1, 1, none⟩ = some (.int .u64 0) ∧ U.cell? ⟨v0.heap.size + 1, 2, none⟩ = some (.int .u64 7) ∧ U.cell? ⟨b4, 0, none⟩ = some (.int .i64 1) ∧ U.cell? ⟨b4, 1, none⟩ = some (.int .u64 0) ∧ U.cell? ⟨b4, 2, none⟩ = some (.int .u64 5)) ∧ But (fun k => k = H.g) v4 U) (first | exact HS4.out _ HB7.out | exact HS4.out _ HB6.out | exact HS4.out _ HB5.out | exact HS4.out _ (But.of (Below.refl _ _).drew)) (first
    | (go_at_call 12; refine (num_any _ _).mono ?_; rintro e w9 ⟨rfl, hw9⟩; obtain rfl := hw9.symm; clear hw9)
    | (go_at_call 11; (with_reducible refine (HG3.out _ HV6.out).mono ?_); rintro e v7 ⟨rfl, ht, hb⟩; have HB7 := hid (HB6.out.trans hb); clear ht hb)
    | (go_at_call 11; (with_reducible refine (HG2.out _ HV5.out).mono ?_); rintro e v6 ⟨rfl, ht, hb⟩; have HV6 := hid ht; have HB6 := hid (HB5.out.trans hb); clear ht hb)
    | (go_at_call 11; (with_reducible refine (HG1.out _ (HV4.out.later (Below.refl _ _).drew)).mono ?_); rintro e v5 ⟨rfl, ht, hb⟩; have HV5 := hid ht; have HB5 := hid ((But.of (S := fun k => k = H.g) (Below.refl v4.heap.size v4).drew).trans hb); clear ht hb))
  go_wp2
  go_ret
  exact ⟨rfl, But.below HB1.out (HB4.out.trans (Hv.Pw.of_g HB7.out)) HLo2.out⟩
end Go.Proofs.Ytlelglfdamakaaa
