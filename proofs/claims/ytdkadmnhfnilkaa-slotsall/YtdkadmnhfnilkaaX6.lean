import Derived.Test.YtdkadmnhfnilkaaX5
namespace Go.Proofs.Ytdkadmnhfnilkaa
open Go.RowKit
set_option linter.unusedVariables false

/-- The numbers of a pair of tables. -/
structure Nm where
  g : Nat
  gb : Nat
  kn : Nat
  mo : Nat
  N : Nat
  r : Nat
/-- What they hold. -/
structure Hs where
  a : Option Addr
  cap : Nat
  E : List (Cp × Int)
def PrN (w : World) (n : Nm) (s : Hs) : Prop := Pr w n.g n.gb n.kn n.mo n.N n.r s.a s.cap s.E
def XbN (n : Nm) (s : Hs) (k : Nat) : Prop := Xb n.g n.gb n.r s.a k
/-- Both pairs, where they are. -/
structure JJ (w0 W : World) (o1 o2 : Option Nm) (s1 s2 : Hs) (bx by_ : Nat) : Prop where
  p1 : ∀ n, o1 = some n → PrN W n s1
  p2 : ∀ n, o2 = some n → PrN W n s2
  dj : ∀ n m, o1 = some n → o2 = some m → ∀ k, XbN n s1 k → ¬ XbN m s2 k
  l1 : ∀ n, o1 = some n → ∀ k, XbN n s1 k → w0.heap.size ≤ k ∧ k ≠ bx ∧ k ≠ by_
  l2 : ∀ n, o2 = some n → ∀ k, XbN n s2 k → w0.heap.size ≤ k ∧ k ≠ bx ∧ k ≠ by_
theorem JJ.later {w0 W W' : World} {o1 o2 : Option Nm} {s1 s2 : Hs} {bx by_ : Nat} (hb : Below W.heap.size W W') (h : JJ w0 W o1 o2 s1 s2 bx by_) : JJ w0 W' o1 o2 s1 s2 bx by_ :=
  ⟨fun n e => Pr.later hb (h.p1 n e), fun n e => Pr.later hb (h.p2 n e), h.dj, h.l1, h.l2⟩
theorem JJ.swap {w0 W : World} {o1 o2 : Option Nm} {s1 s2 : Hs} {bx by_ : Nat} (h : JJ w0 W o1 o2 s1 s2 bx by_) : JJ w0 W o2 o1 s2 s1 bx by_ :=
  ⟨h.p2, h.p1, fun n m e1 e2 k h1 h2 => h.dj m n e2 e1 k h2 h1, h.l2, h.l1⟩
/-- A step of the first. -/
theorem JJ.step {w0 W W' : World} {n : Nm} {o2 : Option Nm} {s1 s2 : Hs} {bx by_ : Nat} {e : Ending} (h : JJ w0 W (some n) o2 s1 s2 bx by_) (h0 : w0.heap.size ≤ W.heap.size) (hx : bx < W.heap.size) (hy : by_ < W.heap.size) (hs : Stepped W n.g n.gb n.kn n.mo n.N n.r s1.a e W') :
    ∃ s1', JJ w0 W' (some n) o2 s1' s2 bx by_ := by
  obtain ⟨_, a', cap', E', hp, hb, hon⟩ := hs
  have hnew : ∀ k, XbN n ⟨a', cap', E'⟩ k → XbN n s1 k ∨ W.heap.size ≤ k := by
    rintro k (e | e | e | e)
    · exact .inl (.inl e)
    · exact .inl (.inr (.inl e))
    · exact .inl (.inr (.inr (.inl e)))
    · rcases hon k e with h1 | h1
      · exact .inl (.inr (.inr (.inr h1)))
      · exact .inr h1
  refine ⟨⟨a', cap', E'⟩, ⟨fun m e => ?_, fun m e => ?_, fun m q e1 e2 k h1 h2 => ?_, fun m e k hk => ?_, h.l2⟩⟩
  · cases e
    exact hp
  · exact Pr.but hb (h.p2 m e) (fun k hk h3 => h.dj n m rfl e k h3 hk)
  · cases e1
    rcases hnew k h1 with h3 | h3
    · exact h.dj n q rfl e2 k h3 h2
    · have := Pr.lt (h.p2 q e2) k h2
      omega
  · cases e
    rcases hnew k hk with h3 | h3
    · exact h.l1 n rfl k h3
    · exact ⟨by omega, by omega, by omega⟩
/-- What a step leaves alone. -/
theorem JJ.keep {w0 W W' : World} {n : Nm} {o2 : Option Nm} {s1 s2 : Hs} {bx by_ : Nat} {e : Ending} (h : JJ w0 W (some n) o2 s1 s2 bx by_) (hb0 : Below w0.heap.size w0 W) (hs : Stepped W n.g n.gb n.kn n.mo n.N n.r s1.a e W') : Below w0.heap.size w0 W' ∧ But (fun k => w0.heap.size ≤ k ∧ k ≠ bx ∧ k ≠ by_) W W' := by
  obtain ⟨_, a', cap', E', hp, hb, hon⟩ := hs
  have hm := hb.mono (T := fun k => w0.heap.size ≤ k ∧ k ≠ bx ∧ k ≠ by_) (fun k hk => h.l1 n rfl k hk)
  exact ⟨hm.below hb0 (fun k hk => hk.1), hm⟩
theorem keep_sb {w0 W W' : World} {n : Nm} {o2 : Option Nm} {s1 s2 : Hs} {bx by_ b : Nat} {e : Ending} {s : Sp} (h : JJ w0 W (some n) o2 s1 s2 bx by_) (hn : ∀ k, XbN n s1 k → k ≠ b) (hs : Stepped W n.g n.gb n.kn n.mo n.N n.r s1.a e W') (hb : Sb W b 0 s) : Sb W' b 0 s := by
  obtain ⟨_, a', cap', E', hp, hbt, hon⟩ := hs
  exact hb.but hbt (fun e => hn b e rfl)
/-- Two pointers in a block. -/
structure Px (w : World) (b : Nat) (x y : Option Addr) : Prop where
  c0 : w.cell? ⟨b, 0, none⟩ = some (.pointer x)
  c1 : w.cell? ⟨b, 1, none⟩ = some (.pointer y)
theorem Px.but {S : Nat → Prop} {w w' : World} {b : Nat} {x y : Option Addr} (hb : But S w w') (h : Px w b x y) (hn : ¬ S b) : Px w' b x y := ⟨cell_but hb h.c0 hn, cell_but hb h.c1 hn⟩
theorem Px.later {w w' : World} {b : Nat} {x y : Option Addr} (hb : Below w.heap.size w w') (h : Px w b x y) : Px w' b x y := h.but (S := fun _ => False) (But.of hb) (fun h => h)
def AllRel (w : World) (o1 o2 : Option Nm) (bx by_ : Nat) (x1 y1 x2 y2 : Option Addr) (n : Nat) (t : Value) (w' : World) : Prop :=
  ∃ (i : Nat) (s1 s2 : Hs), i ≤ n ∧ t = .int .i64 (i : Int) ∧ JJ w w' o1 o2 s1 s2 bx by_ ∧ Below w.heap.size w w' ∧ Px w' bx x1 y1 ∧ Px w' by_ x2 y2
/-- Both at the start. -/
theorem jj_start {w0 W : World} {o1 o2 : Option Nm} {bx by_ : Nat} (h1 : ∀ n, o1 = some n → PrN W n ⟨none, 0, []⟩) (h2 : ∀ n, o2 = some n → PrN W n ⟨none, 0, []⟩)
    (d1 : ∀ n, o1 = some n → (w0.heap.size ≤ n.g ∧ n.g < bx) ∧ (w0.heap.size ≤ n.gb ∧ n.gb < bx) ∧ (w0.heap.size ≤ n.r ∧ n.r < bx)) (d2 : ∀ n, o2 = some n → (w0.heap.size ≤ n.g ∧ n.g < bx) ∧ (w0.heap.size ≤ n.gb ∧ n.gb < bx) ∧ (w0.heap.size ≤ n.r ∧ n.r < bx)) (hxy : bx < by_)
    (d3 : ∀ n m, o1 = some n → o2 = some m → (n.g < m.g ∧ n.g < m.gb ∧ n.g < m.r) ∧ (n.gb < m.g ∧ n.gb < m.gb ∧ n.gb < m.r) ∧ (n.r < m.g ∧ n.r < m.gb ∧ n.r < m.r)) : JJ w0 W o1 o2 ⟨none, 0, []⟩ ⟨none, 0, []⟩ bx by_ := by
  have hb : ∀ k, ¬ Blk none k := fun k ⟨x, e, _⟩ => by cases e
  refine ⟨h1, h2, fun n m e1 e2 k hk1 hk2 => ?_, fun n e k hk => ?_, fun n e k hk => ?_⟩
  · have := d3 n m e1 e2
    rcases hk1 with e | e | e | e
    · rcases hk2 with f | f | f | f
      · omega
      · omega
      · omega
      · exact hb _ f
    · rcases hk2 with f | f | f | f
      · omega
      · omega
      · omega
      · exact hb _ f
    · rcases hk2 with f | f | f | f
      · omega
      · omega
      · omega
      · exact hb _ f
    · exact hb _ e
  · have := d1 n e
    rcases hk with e | e | e | e
    · omega
    · omega
    · omega
    · exact absurd e (hb _)
  · have := d2 n e
    rcases hk with e | e | e | e
    · omega
    · omega
    · omega
    · exact absurd e (hb _)
end Go.Proofs.Ytdkadmnhfnilkaa
