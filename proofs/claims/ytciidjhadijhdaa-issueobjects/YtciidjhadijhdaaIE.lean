import Derived.Test.YtciidjhadijhdaaID
namespace Go.Proofs.Ytciidjhadijhdaa.D
open Go.RowKit
open Go.Proofs.Ytciidjhadijhdaa.H (B64)
set_option linter.unusedVariables false

/-- A put. -/
structure Pt where
  par : Int
  o : Int
  hi : Nat
  lo : Nat
  r : Int
structure Pb (w : World) (b o : Nat) (x : Pt) : Prop where
  c0 : w.cell? ⟨b, o, none⟩ = some (.int .i64 x.par)
  c1 : w.cell? ⟨b, o + 1, none⟩ = some (.int .i64 x.o)
  c2 : w.cell? ⟨b, o + 2, none⟩ = some (.int .u64 (x.hi : Int))
  c3 : w.cell? ⟨b, o + 3, none⟩ = some (.int .u64 (x.lo : Int))
  c4 : w.cell? ⟨b, o + 4, none⟩ = some (.int .i64 x.r)
theorem Pb.but {S : Nat → Prop} {w w' : World} {b o : Nat} {x : Pt} (hb : But S w w') (h : Pb w b o x) (hn : ¬ S b) : Pb w' b o x := ⟨cell_but hb h.c0 hn, cell_but hb h.c1 hn, cell_but hb h.c2 hn, cell_but hb h.c3 hn, cell_but hb h.c4 hn⟩
theorem Pb.later {w w' : World} {b o : Nat} {x : Pt} (hb : Below w.heap.size w w') (h : Pb w b o x) : Pb w' b o x := h.but (S := fun _ => False) (But.of hb) (fun h => h)
structure Ps (w : World) (a : Option Addr) (n : Nat) (F : Nat → Pt) : Prop where
  at_ : 0 < n → ∃ b o, a = some ⟨b, o, none⟩ ∧ b < w.heap.size ∧ ∀ i, i < n → Pb w b (o + i * 5) (F i)
  ok : ∀ i, i < n → (F i).hi < B64 ∧ (F i).lo < B64
theorem Ps.later {w w' : World} {a : Option Addr} {n : Nat} {F : Nat → Pt} (h : Ps w a n F) (hb : Below w.heap.size w w') : Ps w' a n F :=
  ⟨fun h0 => by obtain ⟨b, o, e, hl, h1⟩ := h.at_ h0; exact ⟨b, o, e, Nat.lt_of_lt_of_le hl hb.size, fun i hi => (h1 i hi).later hb⟩, h.ok⟩
/-- Objects that are asked of. -/
structure Os (w : World) (a : Option Addr) (n : Nat) (F : Nat → Int) : Prop where
  at_ : 0 < n → ∃ b o, a = some ⟨b, o, none⟩ ∧ ∀ i, i < n → w.cell? ⟨b, o + i, none⟩ = some (.int .i64 (F i))
theorem Os.later {w w' : World} {a : Option Addr} {n : Nat} {F : Nat → Int} (h : Os w a n F) (hb : Below w.heap.size w w') : Os w' a n F :=
  ⟨fun h0 => by obtain ⟨b, o, e, h1⟩ := h.at_ h0; exact ⟨b, o, e, fun i hi => cell_later hb (h1 i hi)⟩⟩
/-- Both catalogues. -/
structure Cats (w2 w' : World) (A : Ad) (r b : Nat) (X : List Tk) (l : Fo) (wh : Int → Int) (ev : Nat) : Prop where
  c : Cat w' A 64 64 X l
  f : Rf w' r b 64 X l wh ev
  t : Tim l wh ev
  n : ∀ k, A.All k → k ≠ r ∧ k ≠ b
  hA : ∀ k, A.All k → w2.heap.size ≤ k
  hr : w2.heap.size ≤ r
  hb : w2.heap.size ≤ b
  bl : Below w2.heap.size w2 w'
theorem Cats.later {w2 w w' : World} {A : Ad} {r b : Nat} {X : List Tk} {l : Fo} {wh : Int → Int} {ev : Nat} (h : Cats w2 w A r b X l wh ev) (hb : Below w.heap.size w w') : Cats w2 w' A r b X l wh ev :=
  ⟨h.c.later hb, h.f.later hb, h.t, h.n, h.hA, h.hr, h.hb, below_call h.bl hb⟩
/-- The program's catalogue has gone on. -/
theorem Cats.one {w2 w w' : World} {A : Ad} {r b : Nat} {X : List Tk} {l : Fo} {wh : Int → Int} {ev : Nat} (h : Cats w2 w A r b X l wh ev) (hb : But A.Wr w w') : Rf w' r b 64 X l wh ev ∧ Below w2.heap.size w2 w' :=
  ⟨h.f.but hb (fun e => (h.n r (.inr (.inr e))).1 rfl) (fun e => (h.n b (.inr (.inr e))).2 rfl), But.below h.bl hb (fun k hk => h.hA k (.inr (.inr hk)))⟩
/-- Both have. -/
theorem Cats.two {w2 w w' w'' : World} {A : Ad} {r b : Nat} {X X' : List Tk} {l l' : Fo} {wh wh' : Int → Int} {ev ev' : Nat} (h : Cats w2 w A r b X l wh ev) (hb : But A.Wr w w') (hc : Cat w' A 64 64 X' l') (hb2 : But (fun k => k = r ∨ k = b) w' w'') (hf : Rf w'' r b 64 X' l' wh' ev') (ht : Tim l' wh' ev') : Cats w2 w'' A r b X' l' wh' ev' :=
  ⟨hc.but hb2 (fun k hk e => by rcases e with rfl | rfl; exact (h.n _ hk).1 rfl; exact (h.n _ hk).2 rfl), hf, ht, h.n, h.hA, h.hr, h.hb, But.below (h.one hb).2 hb2 (fun k e => by rcases e with rfl | rfl; exact h.hr; exact h.hb)⟩
theorem tim0 : Tim [] (fun _ => 0) 0 := ⟨List.Pairwise.nil, fun x hx => by simp [nums] at hx⟩
end Go.Proofs.Ytciidjhadijhdaa.D
