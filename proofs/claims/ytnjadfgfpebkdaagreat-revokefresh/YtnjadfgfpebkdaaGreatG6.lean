import Derived.Test.YtnjadfgfpebkdaaGreatGA
namespace Go.Proofs.YtnjadfgfpebkdaaGreat.D
open Go.RowKit
open Go.Proofs.YtnjadfgfpebkdaaGreat.H (B64 Cp)
set_option linter.unusedVariables false

theorem and63_rng (x : Int) (h : S.i64ok x) : 0 ≤ and63 x ∧ and63 x ≤ 63 := by
  unfold and63
  show 0 ≤ IntKind.i64.wrap ((BitVec.ofInt 64 x &&& BitVec.ofInt 64 63).toNat : Int) ∧ IntKind.i64.wrap ((BitVec.ofInt 64 x &&& BitVec.ofInt 64 63).toNat : Int) ≤ 63
  have h1 : (BitVec.ofInt 64 x &&& BitVec.ofInt 64 63).toNat ≤ 63 := by
    rw [BitVec.toNat_and]
    exact Nat.le_trans Nat.and_le_right (by decide)
  rw [IntKind.wrap_i64]
  omega
theorem wrap8 (x : Int) : IntKind.u8.wrap x = (lo8 x : Int) := by
  have h : IntKind.u8.wrap x = x % 256 := by rfl
  rw [h]
  unfold lo8
  omega
set_option maxRecDepth 100000 in
set_option maxHeartbeats 2000000 in
theorem grow6 {w : World} {H : Hd} {s : Sta} {T : Nat} {N : Nat → Prop} (h : Duo w H s s T N) (o : Opr) (ok : o.Ok) (hk : o.kd = 6) :
    Calls Tryz.prog 8 #[.pointer (some ⟨H.sb, 0, none⟩), .pointer (some ⟨H.rb, 0, none⟩), opV o] w (Grew w H (growS H.mo s o) T N) := by
  have e1 : growS H.mo s o = { s with V := S.wrV s.V o.ob (and63 o.sz) [lo8 o.at_, 7] } := by unfold growS; rw [if_pos hk]
  rw [e1]
  obtain ⟨w0, hw0⟩ : ∃ w0, w0 = w.alloc (Obj.cells (opC o) 29) := ⟨_, rfl⟩
  have hB0 : Below w.heap.size w w0 := by rw [hw0]; exact below1 _ _
  have hob : OpB w0 w.heap.size 0 o := by rw [hw0]; exact opb_new w o 29
  have hb6 : (o.kd == 6) = true := by simp [hk]
  have HB0 := hid hB0
  have HOB := hid hob
  have HD0 := hid (h.later hB0)
  have HRg := hid h.rng
  have hcv := wrap8 o.at_
  have x0 := hob.zero.1
  have H3 := hid (and63_rng o.sz ok.sz)
  have hand : bits .and .i64 o.sz 63 = and63 o.sz := rfl
  obtain ⟨m, hm⟩ : ∃ m, m = and63 o.sz := ⟨_, rfl⟩
  rw [← hm] at hand H3
  obtain ⟨b8, hb8⟩ : ∃ b8, b8 = lo8 o.at_ := ⟨_, rfl⟩
  rw [← hb8] at hcv
  rw [← hm, ← hb8]
  have HL8 : Hid (b8 < 256) := by unfold Hid; rw [hb8]; exact lo8_lt _
  obtain ⟨E, hE⟩ : ∃ E, E = S.rvE s.V o.ob m 2 := ⟨_, rfl⟩
  obtain ⟨V', hV'⟩ : ∃ V', V' = S.wrV s.V o.ob m [b8, 7] := ⟨_, rfl⟩
  rw [← hV']
  have hD : ∀ x ∈ [b8, 7], x < 256 := fun x hx => by
    have := HL8.out
    simp only [List.mem_cons, List.not_mem_nil, or_false] at hx
    omega
  have HP : Hid (∀ (U : World) (N1 : Nat → Prop) (g : Nat), Duo U H s s T N1 → Row U (some ⟨g, 0, none⟩) 2 2 (S.u8s [b8, 7]) → ¬ N1 g → Calls Tryz.prog 34 #[.pointer (some ⟨H.z.s, 0, none⟩), .int .i64 o.ob, .int .i64 m, .slice (some ⟨g, 0, none⟩) 2 2] U fun e w' => e = .returned (.int .i64 E) ∧ Duo w' H { s with V := V' } s T N1 ∧ But N1 U w') := fun U N1 g hd hr hg => by
    have := pWrite hd o.ob m (some ⟨g, 0, none⟩) 2 2 [b8, 7] ok.ob hr hD (fun j hj => by obtain ⟨x, hx, e⟩ := hj; cases hx; rw [← e]; exact hg)
    rw [hE, hV']
    exact this
  have HR : Hid (∀ (U : World) (N1 : Nat → Prop) (g : Nat), Duo U H { s with V := V' } s T N1 → Row U (some ⟨g, 0, none⟩) 2 2 (S.u8s [b8, 7]) → ¬ N1 g → Calls Tryz.prog 35 #[.pointer (some ⟨H.v, 0, none⟩), .int .i64 o.ob, .int .i64 m, .slice (some ⟨g, 0, none⟩) 2 2] U fun e w' => e = .returned (.int .i64 E) ∧ Duo w' H { s with V := V' } { s with V := V' } T N1 ∧ But N1 U w') := fun U N1 g hd hr hg => by
    rw [hV'] at hd
    have := rWrite hd o.ob m (some ⟨g, 0, none⟩) 2 2 [b8, 7] (by have := H3.out; unfold S.i64ok; omega) hr hD (by decide) (fun j hj => by obtain ⟨x, hx, e⟩ := hj; cases hx; rw [← e]; exact hg)
    rw [hE, hV']
    exact this
  have HF : Hid (∀ U, But N w0 U → U.cell? ⟨w.heap.size, 1, none⟩ = some (.int .i64 o.ob) ∧ U.cell? ⟨w.heap.size, 2, none⟩ = some (.int .i64 o.at_) ∧ U.cell? ⟨w.heap.size, 4, none⟩ = some (.int .i64 o.sz)) := fun U hU => by
    have hz := (HOB.out.but hU (fun e => by have := HRg.out _ e; omega)).zero
    exact ⟨hz.2.1, hz.2.2.1, hz.2.2.2.2.1⟩
  have HSz0 := hid HB0.out.size
  obtain ⟨sx, hsx⟩ : ∃ sx, sx = ({ s with V := V' } : Sta) := ⟨_, rfl⟩
  rw [← hsx] at HP HR
  rw [← hsx]
  unfold opV Grew
  clear h hk hB0 e1 hob ok hm hb8 hE hV' hD hsx
  go_enter Tryz.func8, Tryz.ntmps8
  go_upto_region 1 with fail
  rw [← hw0]
  clear hw0
  go_upto_region 2 with fail
  have HS1 : Hid (∀ U, But N w0 U → U.cell? ⟨H.sb, 2, none⟩ = some (.pointer (some ⟨H.z.s, 0, none⟩)) → (U.cell? ⟨H.sb, 2, none⟩ = some (.pointer (some ⟨H.z.s, 0, none⟩)) ∧ U.cell? ⟨w.heap.size, 1, none⟩ = some (.int .i64 o.ob) ∧ U.cell? ⟨w.heap.size, 2, none⟩ = some (.int .i64 o.at_) ∧ U.cell? ⟨w.heap.size, 4, none⟩ = some (.int .i64 o.sz))) := fun U hU hc => ⟨hc, HF.out U hU⟩
  have HRow : Hid (∀ W : World, Row (W.alloc (Obj.cells #[.int .u8 (b8 : Int), .int .u8 7] 5)).drew (some ⟨W.heap.size, 0, none⟩) 2 2 (S.u8s [b8, 7])) := fun W => (S.row_new W [b8, 7] 5).later (Below.refl _ _).drew
  have z0 := hid HD0.out.t1.c2
  have HN0 : Hid (¬ N w0.heap.size) := fun e => by have := HRg.out _ e; have := HSz0.out; omega
  go_cut [7] (fun s7 W => s7 = .int .i64 E ∧ Hid (Duo W H sx s T N ∧ But N w0 W))
  case first =>
    go_region_held3 (fun U => (U.cell? ⟨H.sb, 2, none⟩ = some (.pointer (some ⟨H.z.s, 0, none⟩)) ∧ U.cell? ⟨w.heap.size, 1, none⟩ = some (.int .i64 o.ob) ∧ U.cell? ⟨w.heap.size, 2, none⟩ = some (.int .i64 o.at_) ∧ U.cell? ⟨w.heap.size, 4, none⟩ = some (.int .i64 o.sz))) (first | exact HS1.out _ HW1.out.2 HW1.out.1.t1.c2 | exact HS1.out _ (But.of (Below.refl _ _).drew) (cell_later (Below.refl _ _).drew z0.out) | exact HS1.out _ (But.of (below1 _ _).drew) (cell_later (below1 _ _).drew z0.out) | exact HS1.out _ (But.of (below1 _ _)) (cell_later (below1 _ _) z0.out) | exact HS1.out _ (But.refl _ _) z0.out) (first
      | (go_at_call 34; refine (HP.out _ N w0.heap.size (HD0.out.later (below1 _ _).drew) (HRow.out w0) HN0.out).mono ?_; rintro e w1 ⟨rfl, hd1, hb1⟩; have HW1 := hid (And.intro hd1 ((But.of (S := N) (below1 w0 (Obj.cells #[.int .u8 (b8 : Int), .int .u8 7] 5)).drew).trans hb1)); clear hd1 hb1))
    all_goals (try go_wp2)
    all_goals go_meet
    all_goals exact ⟨rfl, HW1.out⟩
  case rest =>
  rename World => v1
  obtain ⟨rfl, HW1⟩ := hcut
  have HS2 : Hid (∀ U, But N v1 U → U.cell? ⟨H.rb, 2, none⟩ = some (.pointer (some ⟨H.v, 0, none⟩)) → (U.cell? ⟨H.rb, 2, none⟩ = some (.pointer (some ⟨H.v, 0, none⟩)) ∧ U.cell? ⟨w.heap.size, 1, none⟩ = some (.int .i64 o.ob) ∧ U.cell? ⟨w.heap.size, 2, none⟩ = some (.int .i64 o.at_) ∧ U.cell? ⟨w.heap.size, 4, none⟩ = some (.int .i64 o.sz))) := fun U hU hc => ⟨hc, HF.out U (HW1.out.2.trans hU)⟩
  have z1 := hid HW1.out.1.t2.c2
  have HN1 : Hid (¬ N v1.heap.size) := fun e => by have h1 := HRg.out _ e; have h2 := HSz0.out; have h3 := HW1.out.2.size; omega
  have hEE : (E == E) = true := by simp
  go_upto_region 3 with fail
  go_region_held3 (fun U => (U.cell? ⟨H.rb, 2, none⟩ = some (.pointer (some ⟨H.v, 0, none⟩)) ∧ U.cell? ⟨w.heap.size, 1, none⟩ = some (.int .i64 o.ob) ∧ U.cell? ⟨w.heap.size, 2, none⟩ = some (.int .i64 o.at_) ∧ U.cell? ⟨w.heap.size, 4, none⟩ = some (.int .i64 o.sz))) (first | exact HS2.out _ HW2.out.2 HW2.out.1.t2.c2 | exact HS2.out _ (But.of (Below.refl _ _).drew) (cell_later (Below.refl _ _).drew z1.out) | exact HS2.out _ (But.of (below1 _ _).drew) (cell_later (below1 _ _).drew z1.out) | exact HS2.out _ (But.of (below1 _ _)) (cell_later (below1 _ _) z1.out) | exact HS2.out _ (But.refl _ _) z1.out) (first
    | (go_at_call 35; refine (HR.out _ N v1.heap.size (HW1.out.1.later (below1 _ _).drew) (HRow.out v1) HN1.out).mono ?_; rintro e w2 ⟨rfl, hd2, hb2⟩; have HW2 := hid (And.intro hd2 ((But.of (S := N) (below1 v1 (Obj.cells #[.int .u8 (b8 : Int), .int .u8 7] 5)).drew).trans hb2)); clear hd2 hb2))
  go_wp2
  go_ret
  exact ⟨rfl, N, HW2.out.1.mono (Nat.le_succ _), (Went.later HB0.out).trans (Went.stay (HW1.out.2.trans HW2.out.2))⟩
end Go.Proofs.YtnjadfgfpebkdaaGreat.D
