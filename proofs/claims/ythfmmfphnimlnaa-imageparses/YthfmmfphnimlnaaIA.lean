import Derived.Test.YthfmmfphnimlnaaWA
import Derived.Test.YthfmmfphnimlnaaWB
import Derived.Test.YthfmmfphnimlnaaT2
import Derived.Test.YthfmmfphnimlnaaBA
namespace Go.Proofs.Ythfmmfphnimlnaa
open Go.RowKit
set_option linter.unusedVariables false
structure Sl where
  a : Option Addr
  n : Nat
  c : Nat
abbrev Sl.v (s : Sl) : Value := .slice s.a s.n s.c
/-! A configuration, a state: purely, and in memory. -/
structure Cf where
  w : Int
  o : Int
  p : Int
  e : Int
  q : Int
  r : Int
  l : Int
  s : Int
  y : Int
  k : Int
def Cf.L (c : Cf) : List Value := [.int .i64 c.w, .int .i64 c.o, .int .i64 c.p, .int .i64 c.e, .int .i64 c.q, .int .i64 c.r, .int .i64 c.l, .int .i64 c.s, .int .i64 c.y, .int .i64 c.k]
abbrev Cf.v (c : Cf) : Value := .agg #[.int .i64 c.w, .int .i64 c.o, .int .i64 c.p, .int .i64 c.e, .int .i64 c.q, .int .i64 c.r, .int .i64 c.l, .int .i64 c.s, .int .i64 c.y, .int .i64 c.k]
structure Cp where
  o : Int
  h : Nat
  l : Nat
deriving DecidableEq
structure Tk where
  c : Cp
  r : Int
  p : Int
deriving DecidableEq
structure Ob where
  id : Int
  b : List Nat
structure Pc where
  n : Int
  l : List Cp
structure St where
  O : List Ob
  T : List Tk
  P : List Pc
  nx : Int
  px : Int
  ta : Int
def encC (c : Cp) : List Value := [.int .i64 c.o, .int .u64 (c.h : Int), .int .u64 (c.l : Int)]
def encT (t : Tk) : List Value := [.int .i64 t.c.o, .int .u64 (t.c.h : Int), .int .u64 (t.c.l : Int), .int .i64 t.r, .int .i64 t.p]
def encO (q : Ob × Sl) : List Value := [.int .i64 q.1.id, q.2.v]
def encP (q : Pc × Sl) : List Value := [.int .i64 q.1.n, q.2.v]
def Cp.ok (c : Cp) : Prop := c.h < 18446744073709551616 ∧ c.l < 18446744073709551616
def Cp.n (c : Cp) : Nat := c.h * B64 + c.l
theorem Cp.isV {c : Cp} (h : c.ok) : W.IsV (c.h : Int) (c.l : Int) c.n := W.IsV.of ⟨h.1, h.2, rfl⟩
abbrev stV (a b c : Sl) (x y z : Int) : Value := .agg #[.slice a.a a.n a.c, .slice b.a b.n b.c, .slice c.a c.n c.c, .int .i64 x, .int .i64 y, .int .i64 z]
/-- A list of rows of k cells. -/
structure Lk (w : World) (k : Nat) (s : Sl) (X : List (List Value)) : Prop where
  len : X.length = s.n
  cap : s.n ≤ s.c
  nil : s.a = none → s.c = 0
  at_ : ∀ i c, X[i]? = some c → ∃ g o, s.a = some ⟨g, o, none⟩ ∧ w.rangeAt g (o + i * k) c
theorem cell_later {w w' : World} {b j : Nat} {v : Value} (hb : Below w.heap.size w w') (h : w.cell? ⟨b, j, none⟩ = some v) : w'.cell? ⟨b, j, none⟩ = some v := by
  rw [hb.cell (World.block_lt_of_cell? _ _ h)]; exact h
theorem rangeAt_later {w w' : World} {b o : Nat} {L : List Value} (hb : Below w.heap.size w w') (h : w.rangeAt b o L) : w'.rangeAt b o L := fun j v hv => cell_later hb (h j v hv)
theorem Lk.later {w w' : World} {k : Nat} {s : Sl} {X : List (List Value)} (h : Lk w k s X) (hb : Below w.heap.size w w') : Lk w' k s X :=
  ⟨h.len, h.cap, h.nil, fun i c hc => by obtain ⟨g, o, e, hr⟩ := h.at_ i c hc; exact ⟨g, o, e, rangeAt_later hb hr⟩⟩
theorem Lk.empty (w : World) (k : Nat) : Lk w k ⟨none, 0, 0⟩ [] := ⟨rfl, Nat.le_refl _, fun _ => rfl, fun i c h => by simp at h⟩
/-- A state in memory: where its lists lie. -/
structure Sm (w : World) (s : St) (a b c : Sl) (Q : List (Ob × Sl)) (R : List (Pc × Sl)) : Prop where
  eo : Q.map Prod.fst = s.O
  o : Lk w 2 a (Q.map encO)
  ob : ∀ q ∈ Q, Row w q.2.a q.2.n q.2.c q.1.b
  t : Lk w 5 b (s.T.map encT)
  ep : R.map Prod.fst = s.P
  p : Lk w 2 c (R.map encP)
  pl : ∀ q ∈ R, Lk w 3 q.2 (q.1.l.map encC)
  tw : ∀ x ∈ s.T, x.c.ok
  pw : ∀ q ∈ R, ∀ x ∈ q.1.l, x.ok
  ma : a.n ≤ 140737488355328
  mb : b.n ≤ 140737488355328
  mc : c.n ≤ 140737488355328
  mo : ∀ q ∈ Q, q.2.n ≤ 140737488355328
  mp : ∀ q ∈ R, q.2.n ≤ 140737488355328
theorem Sm.later {w w' : World} {s : St} {a b c : Sl} {Q : List (Ob × Sl)} {R : List (Pc × Sl)} (h : Sm w s a b c Q R) (hb : Below w.heap.size w w') : Sm w' s a b c Q R :=
  ⟨h.eo, h.o.later hb, fun q hq => (h.ob q hq).later hb, h.t.later hb, h.ep, h.p.later hb, fun q hq => (h.pl q hq).later hb, h.tw, h.pw, h.ma, h.mb, h.mc, h.mo, h.mp⟩
/-! The rules, purely. -/
def cfgB (c : Cf) : Bool := wi c.w 1 128 && (wi c.o 1 64 && (wi c.p 1 256 && (wi c.e 1 256 && (wi c.q 1 256 && (wi c.r 1 32 && (wi c.l 1 32 && (wi c.s 0 16 && (wi c.y 1 4 && wi c.k 0 64))))))))
def MI : Int := 4611686018427387904
def obS : List Ob → Int → Int → Option Int
  | [], _, p => some p
  | o :: r, l, p => if wi o.id l MI && decide (o.b.length ≤ 4096) then obS r (o.id + 1) (p + ((o.b.length + 63) / 64 : Nat)) else none
def oLe : Option Int → Int → Bool
  | some p, m => decide (p ≤ m)
  | none, _ => false
def objB (c : Cf) (O : List Ob) : Bool := decide ((O.length : Int) ≤ c.o) && oLe (obS O 1 0) c.p
def nxtB (s : St) : Bool := wi s.nx 1 (MI + 1) && s.O.all (fun o => decide (o.id < s.nx))
def ldn (T : List Tk) (id : Int) : Nat := (T.takeWhile (fun t => decide (t.c.o = id))).length
def tkS (q : Int) : List Ob → List Tk → Bool
  | [], T => decide (T.length = 0)
  | o :: r, T => wi (ldn T o.id) 1 q && tkS q r (T.drop (ldn T o.id))
def tokB (c : Cf) (s : St) : Bool := decide ((s.T.length : Int) ≤ c.e) && tkS c.q s.O s.T
def tk0 : Tk := ⟨⟨0, 0, 0⟩, 0, 0⟩
def tkA (T : List Tk) (i : Int) : Tk := T.getD i.toNat tk0
def fstB (T : List Tk) (i : Nat) : Bool := decide (i = 0) || !decide ((tkA T (i - 1 : Nat)).c.o = (tkA T i).c.o)
def abv (T : List Tk) (p : Int) : Nat → Int → Bool
  | 0, _ => false
  | f + 1, k => if k = -1 then false else if k = p then true else abv T p f (tkA T k).p
def kAt (T : List Tk) (i : Nat) : Bool :=
  if fstB T i then decide ((tkA T i).p = -1) && decide ((tkA T i).r = 31) else abv T (tkA T i).p i (i - 1 : Nat) && partB (tkA T i).r (tkA T (tkA T i).p).r
def kinB (T : List Tk) : Bool := (List.range T.length).all (kAt T)
def wrdB (w : Int) (T : List Tk) : Bool := T.all (fun t => W.fitsB t.c.n w) && decide ((T.map Tk.c).Nodup)
def lstB (c : Cf) (l : List Cp) : Bool := decide ((l.length : Int) ≤ c.l) && l.all (fun x => wi x.o 0 MI && W.fitsB x.n c.w)
def prS (c : Cf) : List Pc → Int → Option Int
  | [], l => some l
  | p :: r, l => if wi p.n l 65535 && lstB c p.l then prS c r (p.n + 1) else none
def oPx : Option Int → Int → Bool
  | some l, x => wi x (max l 1) 65536
  | none, _ => false
def prcB (c : Cf) (s : St) : Bool := decide ((s.P.length : Int) ≤ c.r) && oPx (prS c s.P 0) s.px
def chk (c : Cf) (s : St) (d : Int) : Nat :=
  if cfgB c = false then 1 else if objB c s.O = false then 2 else if nxtB s = false then 3 else if tokB c s = false then 4 else if kinB s.T = false then 5 else if wrdB c.w s.T = false then 6 else if prcB c s = false then 7 else if wi s.ta 0 d = false then 8 else 0
end Go.Proofs.Ythfmmfphnimlnaa
