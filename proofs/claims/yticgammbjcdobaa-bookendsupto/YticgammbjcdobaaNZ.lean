import Derived.Test.YticgammbjcdobaaNX
namespace Go.Proofs.Yticgammbjcdobaa
open Go.RowKit
set_option linter.unusedVariables false
set_option linter.unusedSimpArgs false
abbrev ca : Cp := ⟨1, 0, 5⟩
theorem ca_far : ca.far := ⟨⟨by decide, by decide⟩, by decide, by decide⟩
theorem ca_has : hasF ca = true := by decide
abbrev C1 : List Value := [.int .i64 1, .int .i64 0, .int .i64 9, .int .i64 0, .int .u64 0, .int .u64 0, .bool false, .int .i64 0, .int .i64 0, .int .i64 0, .slice none 0 0, .int .i64 0, .slice none 0 0]
abbrev C2 : List Value := [.int .i64 7, .int .i64 0, .int .i64 0, .int .i64 1, .int .u64 0, .int .u64 5, .bool false, .int .i64 0, .int .i64 0, .int .i64 0, .slice none 0 0, .int .i64 0, .slice none 0 0]
abbrev C3 (k : Nat) : List Value := [.int .i64 9, .int .i64 0, .int .i64 0, .int .i64 0, .int .u64 0, .int .u64 0, .bool false, .int .i64 0, .int .i64 0, .int .i64 0, .slice none 0 0, .int .i64 0, .slice (some ⟨k, 0, none⟩) 1 1]
/-- A book that lies between two places. -/
def Rg (b kx : Nat) (m : Bm) : Prop := (b ≤ m.g ∧ m.g < kx) ∧ (b ≤ m.bl ∧ m.bl < kx) ∧ (b ≤ m.bi ∧ m.bi < kx) ∧ (b ≤ m.bt ∧ m.bt < kx) ∧ (b ≤ m.bk ∧ m.bk < kx)
abbrev Fr (b kx : Nat) (w w' : World) : Prop := But (fun j => b ≤ j ∧ j < kx) w w'
def Al1 (U : World) (b kx g : Nat) (m : Bm) : Prop := Bw U m ∧ Rg b kx m ∧ m.g = g ∧ m.n = 1 ∧ gtT m.L 1 0 5 ⟨0, 5, 0, 5, 31, 1⟩ true ∧ m.I = [] ∧ ∃ kt ki s, m.T = [⟨0, ki, [(fmV (frm ca), .pointer (some ⟨kt, 0, none⟩))]⟩] ∧ m.K = [⟨0, s, [ca]⟩] ∧ Tyd U kt 1 1 0 0 ca none
theorem al1 (b kx : Nat) (w : World) (h : Bw w (m0 b)) (hk : b + 6 ≤ kx) :
    Calls Try.prog 7 #[.pointer (some ⟨b + 5, 0, none⟩), .agg C1.toArray, rpV 0 ca ⟨none, 0, 0⟩ 0] w fun e w' => e = .returned (.tuple #[]) ∧ (∃ m, Al1 w' b kx (b + 5) m) ∧ Fr b kx w w' := by
  refine note_create (m0 b) C1 0 0 ca ⟨none, 0, 0⟩ w h ca_far rfl rfl rfl (fun g hg => by cases hg) ⟨by show (0 : Int) ≤ 0; decide, by show (0 : Int) < 1000000; decide⟩ (fun w' => (∃ m, Al1 w' b kx (b + 5) m) ∧ Fr b kx w w') (fun V U k hk2 hbV hbU hbw => ?_)
  refine (tell_new (Bm.iss { m0 b with n := (m0 b).n + 1 } k ca ca.h ca.l 31) 0 1 0 0 ca none U hbw ca_far ca_has (by constructor <;> decide) (fun g hg => by cases hg) (fun x hx => by cases hx)).mono ?_
  rintro e w' ⟨rfl, kt, ki, s, hkt, hs, hw, hx, hty, hb⟩
  have hrg : Rg b kx (m0 b) := ⟨⟨by show b ≤ b + 5; omega, by show b + 5 < kx; omega⟩, ⟨by show b ≤ b; omega, by show b < kx; omega⟩, ⟨by show b ≤ b + 1; omega, by show b + 1 < kx; omega⟩, ⟨by show b ≤ b + 3; omega, by show b + 3 < kx; omega⟩, ⟨by show b ≤ b + 4; omega, by show b + 4 < kx; omega⟩⟩
  refine ⟨rfl, ⟨_, hw, hrg, rfl, rfl, ⟨⟨⟨1, k, [(wdV 0 5, Tn.v ⟨0, 5, 0, 5, 31, 1⟩)]⟩, by simp, rfl, by simp⟩, fun h => by cases h⟩, rfl, kt, ki, s, rfl, rfl, hty⟩, ?_⟩
  exact ((hbV.mono (fun j (hj : j = b + 5) => ⟨by omega, by omega⟩)).trans (hbU.mono (fun j (hj : j = b) => ⟨by omega, by omega⟩))).trans (hb.mono (fun j (hj : j = b + 3 ∨ j = b + 4) => ⟨by omega, by omega⟩))
def Al2 (U : World) (b kx g : Nat) (m : Bm) : Prop := Bw U m ∧ Rg b kx m ∧ m.g = g ∧ m.n = 2 ∧ gtT m.L 1 0 5 ⟨0, 5, 0, 5, 31, 1⟩ true ∧ (∃ s, m.I = [⟨0, s, [ca]⟩]) ∧ ∃ kt ki s, m.T = [⟨0, ki, [(fmV (frm ca), .pointer (some ⟨kt, 0, none⟩))]⟩] ∧ m.K = [⟨0, s, [ca]⟩] ∧ Tyd U kt 1 1 0 0 ca none
theorem al2 (b kx g : Nat) (m : Bm) (w : World) (h : Al1 w b kx g m) :
    Calls Try.prog 7 #[.pointer (some ⟨g, 0, none⟩), .agg C2.toArray, rpV 0 ⟨0, 0, 0⟩ ⟨none, 0, 0⟩ 0] w fun e w' => e = .returned (.tuple #[]) ∧ (∃ m, Al2 w' b kx g m) ∧ Fr b kx w w' := by
  obtain ⟨hbw, hrg, rfl, hn, hL, hI, kt, ki, s, hT, hK, hty⟩ := h
  have hne := bi_ne hbw.dis
  have hS : ∀ j, j = m.bi → j < w.heap.size ∧ j ≠ m.g := fun j e => ⟨by rw [e]; exact hbw.lo m.bi (by simp [Bm.blks]), fun e2 => hne.2.2.1 (by omega)⟩
  refine note_add m C2 0 0 ca ⟨0, 0, 0⟩ ⟨none, 0, 0⟩ w hbw rfl rfl rfl rfl rfl rfl (by omega) (fun j => j = m.bi) (fun w' => (∃ m', Al2 w' b kx m.g m') ∧ Fr b kx w w') hS (fun U hUs hbU hw => ?_)
  have hnI : ∀ k ∈ ({ m with n := m.n + 1 } : Bm).I, k.p ≠ 0 := fun k hk => by have hk' : k ∈ m.I := hk; rw [hI] at hk'; cases hk'
  obtain ⟨l0, a', c', w7, w8, r7, r8, hw8, hb8, hb7, hnw⟩ := hw.lists_new (p := 0) (by constructor <;> decide) hnI ca
  refine ⟨.slice none 0 0, .slice a' 1 c', w7, w8, fun U' hU' => ((hw.later hU').lists_new (p := 0) (by constructor <;> decide) hnI ca).1, r7, r8, ⟨⟨_, hw8, ?_, rfl, ?_, hL, ⟨⟨a', 1, c'⟩, ?_⟩, kt, ki, s, hT, hK, ?_⟩, ?_⟩, hb8, But.of hb7⟩
  · exact hrg
  · show m.n + 1 = 2; omega
  · show m.I ++ _ = _; rw [hI]; rfl
  · have h1 := hty.but hbU (hty.g hbw.bx)
    exact h1.but hb8 (h1.map hw.lists.out)
  · obtain ⟨h1, h2, h3, h4, h5⟩ := hrg
    exact (hbU.mono (fun j hj => by subst hj; exact h1)).trans (hb8.mono (fun j (hj : j = m.bi) => by subst hj; exact h3))
def Al3 (U : World) (b kx g : Nat) (m : Bm) : Prop := Bw U m ∧ Rg b kx m ∧ m.g = g ∧ m.n = 3 ∧ gtT m.L 1 0 5 ⟨0, 5, 0, 5, 31, 1⟩ true ∧ ∃ kt ki s kt' ki' s', m.T = [⟨0, ki, [(fmV (frm ca), .pointer (some ⟨kt, 0, none⟩))]⟩, ⟨1, ki', [(fmV (frm ca), .pointer (some ⟨kt', 0, none⟩))]⟩] ∧ m.K = [⟨0, s, [ca]⟩, ⟨1, s', [ca]⟩] ∧ Tls U (some ⟨kt', 0, none⟩) [⟨3, 4, 0, 1, ca⟩, ⟨1, 1, 0, 0, ca⟩]
theorem al3 (b kx g gg : Nat) (m : Bm) (w : World) (h : Al2 w b kx g m) (hgc : w.cell? ⟨gg, 0, none⟩ = some (.int .i64 0)) (hgg : kx ≤ gg) :
    Calls Try.prog 7 #[.pointer (some ⟨g, 0, none⟩), .agg (C3 gg).toArray, rpV 0 ⟨0, 0, 0⟩ ⟨none, 0, 0⟩ 1] w fun e w' => e = .returned (.tuple #[]) ∧ (∃ m, Al3 w' b kx g m) ∧ Fr b kx w w' := by
  obtain ⟨hbw, hrg, rfl, hn, hL, ⟨s0, hI⟩, kt, ki, s, hT, hK, hty⟩ := h
  refine note_spawn m (C3 gg) 1 ⟨0, 0, 0⟩ ⟨none, 0, 0⟩ w hbw rfl rfl (by omega) (fun w' => (∃ m', Al3 w' b kx m.g m') ∧ Fr b kx w w') (fun U hUs hbU hw => ?_)
  have hgc' : U.cell? ⟨gg, 0, none⟩ = some (.int .i64 0) := by
    rw [World.cell?_of_block (w := w) (hbU.block gg (World.block_lt_of_cell? _ _ hgc) (by have := hrg.1.2; omega))]
    exact hgc
  refine (spawn1 { m with n := m.n + 1 } (C3 gg) 0 1 ca ⟨0, 0, 0⟩ ⟨none, 0, 0⟩ gg 1 kt ⟨0, s0, [ca]⟩ U hw ca_far ca_has rfl rfl rfl hgc' (by constructor <;> decide) (by constructor <;> decide) (by show _ ∈ m.I; rw [hI]; simp) rfl rfl (by show Gt m.T _ _ _; rw [hT]; exact ⟨_, List.mem_singleton.2 rfl, rfl, List.mem_singleton.2 rfl⟩) (fun g hg => by have hg' : g ∈ m.T := hg; rw [hT] at hg'; rw [List.mem_singleton.1 hg']; show (0 : Int) ≠ 1; decide) (fun g hg => by have hg' : g ∈ m.K := hg; rw [hK] at hg'; rw [List.mem_singleton.1 hg']; show (0 : Int) ≠ 1; decide) (fun g hg => by have hg' : g ∈ m.I := hg; rw [hI] at hg'; rw [List.mem_singleton.1 hg']; show (0 : Int) ≠ 1; decide)).mono ?_
  rintro e w' ⟨rfl, kt', ki', s', s'', hw', hty', hb⟩
  have h1 := hty.but hbU (hty.g hbw.bx)
  have h2 : Tyd w' kt 1 1 0 0 ca none := h1.but hb (fun hj => by
    rcases hj with hj | hj | hj
    · exact h1.map hw.told.out hj
    · exact h1.map hw.known.out hj
    · exact h1.map hw.lists.out hj)
  refine ⟨rfl, ⟨_, hw', hrg, rfl, ?_, hL, kt, ki, s, kt', ki', s', ?_, ?_, ⟨kt', some ⟨kt, 0, none⟩, rfl, ?_, kt, none, rfl, h2, rfl⟩⟩, ?_⟩
  · show m.n + 1 = 3; omega
  · show m.T ++ _ = _; rw [hT]; rfl
  · show m.K ++ _ = _; rw [hK]; rfl
  · have : Tyd w' kt' (m.n + 1) 4 0 1 ca (some ⟨kt, 0, none⟩) := hty'
    rw [hn] at this
    exact this
  · obtain ⟨h1, h2, h3, h4, h5⟩ := hrg
    exact (hbU.mono (fun j hj => by subst hj; exact h1)).trans (hb.mono (fun j (hj : j = m.bt ∨ j = m.bk ∨ j = m.bi) => by rcases hj with rfl | rfl | rfl; exact h4; exact h5; exact h3))
end Go.Proofs.Yticgammbjcdobaa
