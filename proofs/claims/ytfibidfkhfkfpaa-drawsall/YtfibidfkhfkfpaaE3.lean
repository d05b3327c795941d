import Derived.Test.YtfibidfkhfkfpaaE2
namespace Go.Proofs.Ytfibidfkhfkfpaa
open Go.RowKit
set_option linter.unusedVariables false

/-- What the document's New answers: nothing, or draws in new memory. -/
def RSt (w : World) (r : Option Addr) (n : Nat) (f : Nat → Nat) (W : Int) (z0 z1 : Nat) : Prop :=
  (newE n W ≠ 0 ∧ r = none) ∨ (newE n W = 0 ∧ ∃ gr br, r = some ⟨gr, 0, none⟩ ∧ Dw w gr br n f W 0 ∧ z0 ≤ gr ∧ gr < z1 ∧ (0 < n → z0 ≤ br ∧ br < z1))
def PSt (w : World) (p : Option Addr) (n : Nat) (f : Nat → Nat) (W : Int) (z0 z1 : Nat) : Prop :=
  (newE n W ≠ 0 ∧ p = none) ∨ (newE n W = 0 ∧ ∃ gp bp, p = some ⟨gp, 0, none⟩ ∧ Dr w gp bp n (fun j => cutN (f j) W) 0 ∧ z0 ≤ gp ∧ gp < z1 ∧ z0 ≤ bp ∧ bp < z1)
theorem RSt.later {w w' : World} {r : Option Addr} {n : Nat} {f : Nat → Nat} {W : Int} {z0 z1 : Nat} (hb : Below w.heap.size w w') (h : RSt w r n f W z0 z1) : RSt w' r n f W z0 z1 := by
  rcases h with h | ⟨e, gr, br, hr, hD, h1, h2, h3⟩
  · exact .inl h
  · exact .inr ⟨e, gr, br, hr, hD.later hb, h1, h2, h3⟩
theorem PSt.later {w w' : World} {p : Option Addr} {n : Nat} {f : Nat → Nat} {W : Int} {z0 z1 : Nat} (hb : Below w.heap.size w w') (h : PSt w p n f W z0 z1) : PSt w' p n f W z0 z1 := by
  rcases h with h | ⟨e, gr, br, hr, hD, h1, h2, h3⟩
  · exact .inl h
  · exact .inr ⟨e, gr, br, hr, hD.later hb, h1, h2, h3⟩
theorem rnew_any (a : Option Addr) (n cap : Nat) (f : Nat → Nat) (W : Int) (w : World) (h : Ws w a n cap f) :
    Calls Try.prog 13 #[.slice a n cap, .int .i64 W] w fun e w' => ∃ r, e = .returned (.tuple #[.pointer r, .int .i64 (newE n W)]) ∧ RSt w' r n f W w.heap.size w'.heap.size ∧ Below w.heap.size w w' := by
  by_cases he : newE n W = 0
  · obtain ⟨h1, h2, h3⟩ := newE_zero he
    rw [he]
    refine (rnew_ok a n cap f W w h h1 h2 h3).mono ?_
    rintro e w' ⟨g, gb, rfl, hD, hg, hgb, hb⟩
    exact ⟨_, rfl, .inr ⟨he, g, gb, rfl, hD, hg, hD.lt, fun h0 => ⟨hgb h0, hD.lt2 h0⟩⟩, hb⟩
  · refine (rnew_bad a n cap W w he).mono ?_
    rintro e w' ⟨rfl, rfl⟩
    exact ⟨_, rfl, .inl ⟨he, rfl⟩, Below.refl _ _⟩
theorem new_any (a : Option Addr) (n cap : Nat) (f : Nat → Nat) (W : Int) (w : World) (h : Ws w a n cap f) :
    Calls Try.prog 6 #[.slice a n cap, .int .i64 W] w fun e w' => ∃ r, e = .returned (.tuple #[.pointer r, .int .i64 (newE n W)]) ∧ PSt w' r n f W w.heap.size w'.heap.size ∧ Below w.heap.size w w' := by
  by_cases he : newE n W = 0
  · obtain ⟨h1, h2, h3⟩ := newE_zero he
    rw [he]
    refine (new_ok a n cap f W w h h1 h2 h3).mono ?_
    rintro e w' ⟨g, gb, rfl, hD, hg, hgb, hgl, hb⟩
    exact ⟨_, rfl, .inr ⟨he, g, gb, rfl, hD, hg, hD.lt, hgb, hgl⟩, hb⟩
  · refine (new_bad a n cap W w he).mono ?_
    rintro e w' ⟨rfl, rfl⟩
    exact ⟨_, rfl, .inl ⟨he, rfl⟩, Below.refl _ _⟩

/-- The program's draws p and the document's r, beside one another. -/
def Half (w : World) (p r : Option Addr) (n : Nat) (f : Nat → Nat) (W : Int) (z0 z1 z3 z4 : Nat) : Prop :=
  (newE n W ≠ 0 ∧ p = none ∧ r = none) ∨ (newE n W = 0 ∧ ∃ gp bp gr br t, p = some ⟨gp, 0, none⟩ ∧ r = some ⟨gr, 0, none⟩ ∧ Pr w gp bp gr br n f W t ∧ z3 ≤ gp ∧ gp < z4 ∧ z3 ≤ bp ∧ bp < z4 ∧ z0 ≤ gr ∧ gr < z1 ∧ (0 < n → z0 ≤ br ∧ br < z1))
theorem Half.of {w : World} {p r : Option Addr} {n : Nat} {f : Nat → Nat} {W : Int} {z0 z1 z3 z4 : Nat} (h : RSt w r n f W z0 z1) (k : PSt w p n f W z3 z4) (hz : z1 ≤ z3) : Half w p r n f W z0 z1 z3 z4 := by
  rcases h with ⟨e, hr⟩ | ⟨e, gr, br, hr, hD, h1, h2, h3⟩
  · rcases k with ⟨_, hp⟩ | ⟨e', _⟩
    · exact .inl ⟨e, hp, hr⟩
    · exact absurd e' e
  · rcases k with ⟨e', _⟩ | ⟨e', gp, bp, hp, hE, k1, k2, k3, k4⟩
    · exact absurd e e'
    · exact .inr ⟨e, gp, bp, gr, br, 0, hp, hr, ⟨hE, hD, by omega, by omega, fun h0 => by have := h3 h0; omega⟩, k1, k2, k3, k4, h1, h2, h3⟩
theorem Half.but {S : Nat → Prop} {w w' : World} {p r : Option Addr} {n : Nat} {f : Nat → Nat} {W : Int} {z0 z1 z3 z4 : Nat} (hb : But S w w') (h : Half w p r n f W z0 z1 z3 z4) (hS : ∀ k, S k → ¬ (z0 ≤ k ∧ k < z1) ∧ ¬ (z3 ≤ k ∧ k < z4)) : Half w' p r n f W z0 z1 z3 z4 := by
  rcases h with h | ⟨e, gp, bp, gr, br, t, hp, hr, hP, k1, k2, k3, k4, h1, h2, h3⟩
  · exact .inl h
  · exact .inr ⟨e, gp, bp, gr, br, t, hp, hr, hP.but hb (fun s => (hS _ s).2 ⟨k1, k2⟩) (fun s => (hS _ s).2 ⟨k3, k4⟩) (fun s => (hS _ s).1 ⟨h1, h2⟩) (fun h0 s => (hS _ s).1 (h3 h0)), k1, k2, k3, k4, h1, h2, h3⟩
theorem Half.later {w w' : World} {p r : Option Addr} {n : Nat} {f : Nat → Nat} {W : Int} {z0 z1 z3 z4 : Nat} (hb : Below w.heap.size w w') (h : Half w p r n f W z0 z1 z3 z4) : Half w' p r n f W z0 z1 z3 z4 := h.but (S := fun _ => False) (But.of hb) (fun _ h => h.elim)

/-- What is written by a step of one pair. -/
def In (z0 z1 z3 z4 k : Nat) : Prop := (z0 ≤ k ∧ k < z1) ∨ (z3 ≤ k ∧ k < z4)
/-- A step of a pair that is there. -/
theorem half_step (p r : Option Addr) (n : Nat) (f : Nat → Nat) (W : Int) (z0 z1 z3 z4 : Nat) (sb : Bool) (k N : Int) (w : World) (h : Half w p r n f W z0 z1 z3 z4) (hp : p ≠ none) :
    Calls Try.prog 14 #[.agg #[.pointer p, .pointer r], .agg #[.bool sb, .int .i64 k, .int .i64 N]] w fun e w' => e = .returned (.bool true) ∧ Half w' p r n f W z0 z1 z3 z4 ∧ But (In z0 z1 z3 z4) w w' := by
  rcases h with ⟨_, h, _⟩ | ⟨e, gp, bp, gr, br, t, rfl, rfl, hP, k1, k2, k3, k4, h1, h2, h3⟩
  · exact absurd h hp
  · refine (step_any gp bp gr br n f W t sb k N w hP).mono ?_
    rintro e' w' ⟨rfl, ⟨t1, hP1⟩, hb⟩
    refine ⟨rfl, .inr ⟨e, gp, bp, gr, br, t1, rfl, rfl, hP1, k1, k2, k3, k4, h1, h2, h3⟩, hb.mono ?_⟩
    rintro j (rfl | rfl)
    · exact .inr ⟨k1, k2⟩
    · exact .inl ⟨h1, h2⟩

/-- A pair's box, whatever it holds. -/
def PB (w : World) (k : Nat) (p r : Option Addr) : Prop := w.cell? ⟨k, 0, none⟩ = some (.pointer p) ∧ w.cell? ⟨k, 1, none⟩ = some (.pointer r)
theorem PB.new (w : World) (p r : Option Addr) : PB (w.alloc (.cells #[.pointer p, .pointer r] 44)) w.heap.size p r := ⟨by simp [go_sem], by simp [go_sem]⟩
theorem PB.but {S : Nat → Prop} {w w' : World} {k : Nat} {p r : Option Addr} (hb : But S w w') (h : PB w k p r) (hn : ¬ S k) : PB w' k p r := ⟨cell_but hb h.1 hn, cell_but hb h.2 hn⟩
theorem PB.later {w w' : World} {k : Nat} {p r : Option Addr} (hb : Below w.heap.size w w') (h : PB w k p r) : PB w' k p r := ⟨cell_later hb h.1, cell_later hb h.2⟩
theorem PB.alloc {w : World} {k : Nat} {p r : Option Addr} (h : PB w k p r) (o : Obj) : PB (w.alloc o) k p r := h.later (below1 _ _)

/-- A list of steps. -/
structure Ss (w : World) (x : Option Addr) (m cap : Nat) (sb : Nat → Bool) (kd nn : Nat → Int) : Prop where
  cap_ : m ≤ cap
  plain : 0 < m → ∃ b o, x = some ⟨b, o, none⟩ ∧ ∀ i, i < m → w.cell? ⟨b, o + i * 3, none⟩ = some (.bool (sb i)) ∧ w.cell? ⟨b, o + i * 3 + 1, none⟩ = some (.int .i64 (kd i)) ∧ w.cell? ⟨b, o + i * 3 + 2, none⟩ = some (.int .i64 (nn i))
theorem Ss.later {w w' : World} {x : Option Addr} {m cap : Nat} {sb : Nat → Bool} {kd nn : Nat → Int} (hb : Below w.heap.size w w') (h : Ss w x m cap sb kd nn) : Ss w' x m cap sb kd nn :=
  ⟨h.cap_, fun h0 => by
    obtain ⟨b, o, rfl, hc⟩ := h.plain h0
    exact ⟨b, o, rfl, fun i hi => ⟨cell_later hb (hc i hi).1, cell_later hb (hc i hi).2.1, cell_later hb (hc i hi).2.2⟩⟩⟩

/-- Part of an array of words in a block of its own: from i on. -/
structure ArG (w : World) (b i n : Nat) (f : Nat → Nat) : Prop where
  lt : b < w.heap.size
  fr : ∀ j, w.frozen? ⟨b, j, none⟩ = false
  at_ : ∀ j, i ≤ j → j < n → Wd w b (j * 2) (f j)
theorem Ar.fromG {w : World} {b n : Nat} {f : Nat → Nat} (h : Ar w b n f) : ArG w b 0 n f := ⟨h.lt, h.fr, fun j _ hj => h.at_ j hj⟩
theorem ArG.set {w : World} {b i n : Nat} {f : Nat → Nat} (h : ArG w b i n f) (u : Value) : ArG (w.setCell ⟨b, i * 2 + 1, none⟩ u) b (i + 1) n f :=
  ⟨by simpa using h.lt, fun j => by simpa using h.fr j, fun j h1 h2 => by
    obtain ⟨p1, p2⟩ := h.at_ j (by omega) h2
    exact ⟨cell_set_ne p1 (by omega), cell_set_ne p2 (by omega)⟩⟩
theorem ArG.drewN {w : World} {b i n : Nat} {f : Nat → Nat} (h : ArG w b i n f) (k : Nat) : ArG (w.drewN k) b i n f := by
  have hb : Below w.heap.size w (w.drewN k) := below_drewN (Below.refl _ _) _
  exact ⟨Nat.lt_of_lt_of_le h.lt hb.size, fun j => by rw [hb.frozen h.lt]; exact h.fr j, fun j h1 h2 => (h.at_ j h1 h2).later hb⟩
theorem ArG.later {w w' : World} {b i n : Nat} {f : Nat → Nat} (hb : Below w.heap.size w w') (h : ArG w b i n f) : ArG w' b i n f :=
  ⟨Nat.lt_of_lt_of_le h.lt hb.size, fun j => by rw [hb.frozen h.lt]; exact h.fr j, fun j h1 h2 => (h.at_ j h1 h2).later hb⟩

/-- Both pairs. -/
structure St (w0 w' : World) (p r q s : Option Addr) (n : Nat) (f : Nat → Nat) (W V : Int) (z0 z1 z2 z3 z4 z5 : Nat) : Prop where
  x : Half w' p r n f W z0 z1 z3 z4
  y : Half w' q s n f V z1 z2 z4 z5
  below : Below w0.heap.size w0 w'
  big : z5 ≤ w'.heap.size
theorem St.later {w0 w w' : World} {p r q s : Option Addr} {n : Nat} {f : Nat → Nat} {W V : Int} {z0 z1 z2 z3 z4 z5 : Nat} (hb : Below w.heap.size w w') (h : St w0 w p r q s n f W V z0 z1 z2 z3 z4 z5) : St w0 w' p r q s n f W V z0 z1 z2 z3 z4 z5 :=
  ⟨h.x.later hb, h.y.later hb, below_call h.below hb, Nat.le_trans h.big hb.size⟩
theorem St.alloc {w0 w : World} {p r q s : Option Addr} {n : Nat} {f : Nat → Nat} {W V : Int} {z0 z1 z2 z3 z4 z5 : Nat} (h : St w0 w p r q s n f W V z0 z1 z2 z3 z4 z5) (o : Obj) : St w0 (w.alloc o) p r q s n f W V z0 z1 z2 z3 z4 z5 := h.later (below1 _ _)
/-- The sizes lie in their order. -/
def Ord (z0 z1 z2 z3 z4 z5 : Nat) : Prop := z0 ≤ z1 ∧ z1 ≤ z2 ∧ z2 ≤ z3 ∧ z3 ≤ z4 ∧ z4 ≤ z5
theorem St.put {w0 w : World} {p r q s : Option Addr} {n : Nat} {f : Nat → Nat} {W V : Int} {z0 z1 z2 z3 z4 z5 : Nat} (h : St w0 w p r q s n f W V z0 z1 z2 z3 z4 z5) (hz : Ord z0 z1 z2 z3 z4 z5) {gl : Nat} (h0 : w0.heap.size ≤ gl) (h1 : z2 ≤ gl) (h2 : gl < z3) (o : Nat) (u : Value) : St w0 (w.setCell ⟨gl, o, none⟩ u) p r q s n f W V z0 z1 z2 z3 z4 z5 := by
  obtain ⟨q1, q2, q3, q4, q5⟩ := hz
  have hb : But (· = gl) w (w.setCell ⟨gl, o, none⟩ u) := (But.refl (· = gl) _).own _ _
  exact ⟨h.x.but hb (fun k e => by subst e; omega), h.y.but hb (fun k e => by subst e; omega), h.below.setCell h0 _, by simpa using h.big⟩
theorem St.stepX {w0 w w' : World} {p r q s : Option Addr} {n : Nat} {f : Nat → Nat} {W V : Int} {z0 z1 z2 z3 z4 z5 : Nat} (h : St w0 w p r q s n f W V z0 z1 z2 z3 z4 z5) (hz : Ord z0 z1 z2 z3 z4 z5) (h0 : w0.heap.size ≤ z0) (hx : Half w' p r n f W z0 z1 z3 z4) (hb : But (In z0 z1 z3 z4) w w') : St w0 w' p r q s n f W V z0 z1 z2 z3 z4 z5 := by
  obtain ⟨q1, q2, q3, q4, q5⟩ := hz
  exact ⟨hx, h.y.but hb (fun k e => by unfold In at e; omega), But.below h.below hb (fun k e => by unfold In at e; omega), Nat.le_trans h.big hb.size⟩
theorem St.stepY {w0 w w' : World} {p r q s : Option Addr} {n : Nat} {f : Nat → Nat} {W V : Int} {z0 z1 z2 z3 z4 z5 : Nat} (h : St w0 w p r q s n f W V z0 z1 z2 z3 z4 z5) (hz : Ord z0 z1 z2 z3 z4 z5) (h0 : w0.heap.size ≤ z0) (hy : Half w' q s n f V z1 z2 z4 z5) (hb : But (In z1 z2 z4 z5) w w') : St w0 w' p r q s n f W V z0 z1 z2 z3 z4 z5 := by
  obtain ⟨q1, q2, q3, q4, q5⟩ := hz
  exact ⟨h.x.but hb (fun k e => by unfold In at e; omega), hy, But.below h.below hb (fun k e => by unfold In at e; omega), Nat.le_trans h.big hb.size⟩
theorem St.drewN {w0 w : World} {p r q s : Option Addr} {n : Nat} {f : Nat → Nat} {W V : Int} {z0 z1 z2 z3 z4 z5 : Nat} (h : St w0 w p r q s n f W V z0 z1 z2 z3 z4 z5) (k : Nat) : St w0 (w.drewN k) p r q s n f W V z0 z1 z2 z3 z4 z5 := h.later (below_drewN (Below.refl _ _) _)
theorem Half.nil_iff {w : World} {p r : Option Addr} {n : Nat} {f : Nat → Nat} {W : Int} {z0 z1 z3 z4 : Nat} (h : Half w p r n f W z0 z1 z3 z4) : (newE n W = 0 ∧ ∃ g, p = some ⟨g, 0, none⟩) ∨ (newE n W ≠ 0 ∧ p = none) := by
  rcases h with ⟨e, hp, _⟩ | ⟨e, gp, bp, gr, br, t, hp, _⟩
  · exact .inr ⟨e, hp⟩
  · exact .inl ⟨e, gp, hp⟩
end Go.Proofs.Ytfibidfkhfkfpaa
