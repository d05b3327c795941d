import Derived.Test.YtciidjhadijhdaaT3I
import Derived.BigRegion
namespace Go.Proofs.Ytciidjhadijhdaa.H.I
open Go.RowKit
set_option linter.unusedVariables false

theorem cell_ne {w : World} {b o o' : Nat} {u v : Value} (h : w.cell? ⟨b, o, none⟩ = some v) (hne : o ≠ o') : (w.setCell ⟨b, o', none⟩ u).cell? ⟨b, o, none⟩ = some v := by
  rw [World.cell?_setCell_other _ _ _ _ (fun e => hne (by cases e; rfl))]; exact h
theorem cell_nb {w : World} {b b' o o' : Nat} {u v : Value} (h : w.cell? ⟨b, o, none⟩ = some v) (hne : b ≠ b') : (w.setCell ⟨b', o', none⟩ u).cell? ⟨b, o, none⟩ = some v := by
  rw [World.cell?_setCell_other _ _ _ _ (fun e => hne (by cases e; rfl))]; exact h
/-- One cell of the places is written. -/
theorem Tm.cell {w : World} {g gb kn mo : Nat} {li sp : Int} {N : Nat} {L L' : List Q} {o : Nat} {u : Value} (h : Tm w g gb kn mo li sp N L) (hl : L'.length = N) (hok : ∀ (i : Nat) (p : Q), L'[i]? = some p → p.c.2.1 < B64 ∧ p.c.2.2 < B64)
    (hat : ∀ (i : Nat) (p : Q), L'[i]? = some p → Pa (w.setCell ⟨gb, o, none⟩ u) gb (i * 5) p) : Tm (w.setCell ⟨gb, o, none⟩ u) g gb kn mo li sp N L' :=
  ⟨cell_nb h.a0 h.ne, cell_nb h.a1 h.ne, cell_nb h.a2 h.ne, h.a3.other (fun e => h.ne (by cases e; rfl)), h.a4.other (fun e => h.ne (by cases e; rfl)), fun j => by simpa using h.fr j, hat, h.ne, hl, h.pos, h.big, hok⟩
theorem Pa.off {w : World} {b o o' : Nat} {p : Q} {u : Value} (h : Pa w b o p) (hne : o' < o ∨ o + 5 ≤ o') : Pa (w.setCell ⟨b, o', none⟩ u) b o p :=
  ⟨cell_ne h.c0 (by omega), cell_ne h.c1 (by omega), cell_ne h.c2 (by omega), cell_ne h.c3 (by omega), cell_ne h.c4 (by omega)⟩
/-- The kind alone. -/
theorem Tm.setK {w : World} {g gb kn mo : Nat} {li sp : Int} {N : Nat} {L : List Q} {i : Nat} {p : Q} (h : Tm w g gb kn mo li sp N L) (hp : L[i]? = some p) (k : Int) : Tm (w.setCell ⟨gb, i * 5, none⟩ (.int .i64 k)) g gb kn mo li sp N (L.set i ⟨k, p.c, p.v⟩) := by
  refine h.cell (by rw [List.length_set]; exact h.len) (fun j q hq => ?_) (fun j q hq => ?_)
  · rcases get_set hq with ⟨rfl, rfl⟩ | ⟨_, h3⟩
    · exact h.ok _ p hp
    · exact h.ok _ _ h3
  · rcases get_set hq with ⟨rfl, rfl⟩ | ⟨hne, h3⟩
    · have hP := h.at_ _ _ hp
      exact ⟨World.cell?_setCell_same _ _ _ hP.c0, cell_ne hP.c1 (by omega), cell_ne hP.c2 (by omega), cell_ne hP.c3 (by omega), cell_ne hP.c4 (by omega)⟩
    · exact (h.at_ _ _ h3).off (by omega)
/-- A whole place is written. -/
def setP (w : World) (b o : Nat) (x : Q) : World :=
  ((((w.setCell ⟨b, o, none⟩ (.int .i64 x.k)).setCell ⟨b, o + 1, none⟩ (.int .i64 x.c.1)).setCell ⟨b, o + 2, none⟩ (.int .u64 (x.c.2.1 : Int))).setCell ⟨b, o + 3, none⟩ (.int .u64 (x.c.2.2 : Int))).setCell ⟨b, o + 4, none⟩ (.int .i64 x.v)
theorem setP_but {S : Nat → Prop} {a w : World} (h : But S a w) {b : Nat} (hb : S b) (o : Nat) (x : Q) : But S a (setP w b o x) :=
  ((((h.setCell (p := ⟨b, o, none⟩) hb _).setCell (p := ⟨b, o + 1, none⟩) hb _).setCell (p := ⟨b, o + 2, none⟩) hb _).setCell (p := ⟨b, o + 3, none⟩) hb _).setCell (p := ⟨b, o + 4, none⟩) hb _
theorem Pa.set {w : World} {b o : Nat} {p : Q} (h : Pa w b o p) (x : Q) : Pa (setP w b o x) b o x := by
  have s0 := World.cell?_setCell_same w ⟨b, o, none⟩ (.int .i64 x.k) h.c0
  have s1 := World.cell?_setCell_same (w.setCell ⟨b, o, none⟩ (.int .i64 x.k)) ⟨b, o + 1, none⟩ (.int .i64 x.c.1) (cell_ne h.c1 (by omega))
  have s2 := World.cell?_setCell_same ((w.setCell ⟨b, o, none⟩ (.int .i64 x.k)).setCell ⟨b, o + 1, none⟩ (.int .i64 x.c.1)) ⟨b, o + 2, none⟩ (.int .u64 (x.c.2.1 : Int)) (cell_ne (cell_ne h.c2 (by omega)) (by omega))
  have s3 := World.cell?_setCell_same (((w.setCell ⟨b, o, none⟩ (.int .i64 x.k)).setCell ⟨b, o + 1, none⟩ (.int .i64 x.c.1)).setCell ⟨b, o + 2, none⟩ (.int .u64 (x.c.2.1 : Int))) ⟨b, o + 3, none⟩ (.int .u64 (x.c.2.2 : Int)) (cell_ne (cell_ne (cell_ne h.c3 (by omega)) (by omega)) (by omega))
  unfold setP
  exact ⟨cell_ne (cell_ne (cell_ne (cell_ne s0 (by omega)) (by omega)) (by omega)) (by omega), cell_ne (cell_ne (cell_ne s1 (by omega)) (by omega)) (by omega), cell_ne (cell_ne s2 (by omega)) (by omega), cell_ne s3 (by omega), World.cell?_setCell_same _ _ _ (cell_ne (cell_ne (cell_ne (cell_ne h.c4 (by omega)) (by omega)) (by omega)) (by omega))⟩
theorem Pa.setOff {w : World} {b o o' : Nat} {p : Q} (h : Pa w b o p) (x : Q) (hne : o' + 5 ≤ o ∨ o + 5 ≤ o') : Pa (setP w b o' x) b o p := by
  unfold setP
  exact ((((h.off (by omega)).off (by omega)).off (by omega)).off (by omega)).off (by omega)
theorem Tm.set {w : World} {g gb kn mo : Nat} {li sp : Int} {N : Nat} {L : List Q} {i : Nat} {p : Q} (h : Tm w g gb kn mo li sp N L) (hp : L[i]? = some p) (x : Q) (hx : x.c.2.1 < B64 ∧ x.c.2.2 < B64) : Tm (setP w gb (i * 5) x) g gb kn mo li sp N (L.set i x) := by
  have hb : But (· = gb) w (setP w gb (i * 5) x) := setP_but (S := (· = gb)) (But.refl _ _) (b := gb) (by rfl) _ _
  refine ⟨cell_but hb h.a0 h.ne, cell_but hb h.a1 h.ne, cell_but hb h.a2 h.ne, h.a3.but hb h.ne, h.a4.but hb h.ne, fun j => by have := h.fr j; unfold setP; simpa using this, fun j q hq => ?_, h.ne, by rw [List.length_set]; exact h.len, h.pos, h.big, fun j q hq => ?_⟩
  · rcases get_set hq with ⟨rfl, rfl⟩ | ⟨hne, h3⟩
    · exact (h.at_ _ _ hp).set _
    · exact (h.at_ _ _ h3).setOff _ (by omega)
  · rcases get_set hq with ⟨rfl, rfl⟩ | ⟨_, h3⟩
    · exact hx
    · exact h.ok _ _ h3
/-- live, spare. -/
theorem Tm.live {w : World} {g gb kn mo : Nat} {li sp : Int} {N : Nat} {L : List Q} (h : Tm w g gb kn mo li sp N L) (v : Int) : Tm (w.setCell ⟨g, 3, none⟩ (.int .i64 v)) g gb kn mo v sp N L := by
  have hb : But (· = g) w (w.setCell ⟨g, 3, none⟩ (.int .i64 v)) := (But.refl (· = g) _).setCell (p := ⟨g, 3, none⟩) (show g = g from rfl) _
  have hne : ¬ gb = g := fun e => h.ne e.symm
  exact ⟨cell_ne h.a0 (by omega), cell_ne h.a1 (by omega), cell_ne h.a2 (by omega), h.a3.put, h.a4.other (fun e => by cases e), fun j => by simpa using h.fr j, fun i p hp => (h.at_ i p hp).but hb hne, h.ne, h.len, h.pos, h.big, h.ok⟩
theorem Tm.spare {w : World} {g gb kn mo : Nat} {li sp : Int} {N : Nat} {L : List Q} (h : Tm w g gb kn mo li sp N L) (v : Int) : Tm (w.setCell ⟨g, 4, none⟩ (.int .i64 v)) g gb kn mo li v N L := by
  have hb : But (· = g) w (w.setCell ⟨g, 4, none⟩ (.int .i64 v)) := (But.refl (· = g) _).setCell (p := ⟨g, 4, none⟩) (show g = g from rfl) _
  have hne : ¬ gb = g := fun e => h.ne e.symm
  exact ⟨cell_ne h.a0 (by omega), cell_ne h.a1 (by omega), cell_ne h.a2 (by omega), h.a3.other (fun e => by cases e), h.a4.put, fun j => by simpa using h.fr j, fun i p hp => (h.at_ i p hp).but hb hne, h.ne, h.len, h.pos, h.big, h.ok⟩
/-- The blocks of a table. -/
def In (g gb : Nat) (k : Nat) : Prop := k = g ∨ k = gb
end Go.Proofs.Ytciidjhadijhdaa.H.I
