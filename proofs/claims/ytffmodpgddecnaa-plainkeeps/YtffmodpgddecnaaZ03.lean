import Derived.Laws.BitsAllLaws
import Derived.Test.YtffmodpgddecnaaZ00
import Derived.Test.YtffmodpgddecnaaZ02
import Derived.Test.YtffmodpgddecnaaRows
import Derived.WalkKit
import Derived.WalkSpells
import Derived.WalkLawsBesides
import Derived.Deep.RegionHeld3
import Derived.Deep.QuietTactic
import Derived.BigQuiet
import Derived.Maps.AppendAt
import Derived.Laws.AppendOwnNone
import Derived.Laws.OwnMore
import Derived.Laws.CopyRow
import Derived.Deep.DeepCutAuto
import Derived.Deep.MidRow
namespace Go.Proofs.Ytffmodpgddecnaa.R
structure Cl where
  op : Int
  by_ : Int
  size : Int
  obj : Int
  hi : Nat
  lo : Nat
  given : Bool
  rights : Int
  off : Int
  n : Int
  data : List Nat
  index : Int
  gifts : List Int
def clz (op by_ : Int) : Cl := ⟨op, by_, 0, 0, 0, 0, false, 0, 0, 0, [], 0, []⟩
def wi (n a b : Int) : Bool := decide (a ≤ n) && decide (n ≤ b)
def sgB (n : Int) : Bool := wi n (-2147483648) 2147483647
def gfB (l : List Int) : Bool := decide (l.length ≤ 255) && l.all (fun g => wi g 0 65535)
def inB (c : Cl) : Bool := wi c.by_ 0 65535 && sgB c.size && sgB c.off && sgB c.n && wi c.obj 0 4611686018427387904 && wi c.rights 0 255 && wi c.index 0 65535 && decide (c.data.length ≤ 1025) && gfB c.gifts
def wmB (c : Cl) : Bool := if c.op = 5 ∨ c.op = 6 then c.given || decide (c.hi = 0 ∧ c.lo = 0) else true
def partsL (op : Int) : List Nat :=
  if op = 1 then [0] else if op = 2 ∨ op = 4 ∨ op = 7 then [1, 2] else if op = 3 then [1, 2, 4] else if op = 5 then [1, 3, 2, 5, 6] else if op = 6 then [1, 3, 2, 5, 7] else if op = 8 then [8] else if op = 9 then [9] else []
def mv (p : Nat) (c d : Cl) : Cl :=
  if p = 0 then { c with size := d.size } else if p = 1 then { c with obj := d.obj } else if p = 2 then { c with hi := d.hi, lo := d.lo } else if p = 3 then { c with given := d.given } else if p = 4 then { c with rights := d.rights }
  else if p = 5 then { c with off := d.off } else if p = 6 then { c with n := d.n } else if p = 7 then { c with data := d.data } else if p = 8 then { c with index := d.index } else if p = 9 then { c with gifts := d.gifts } else c
def wo (c : Cl) (p : Nat) : Cl := mv p c (clz 0 0)
def unu (c : Cl) : Cl := (partsL c.op).foldl wo c
def blB (c : Cl) : Bool := decide (c.size = 0) && decide (c.obj = 0 ∧ c.hi = 0 ∧ c.lo = 0) && !c.given && decide (c.rights = 0) && decide (c.off = 0) && decide (c.n = 0) && decide (c.data.length = 0) && decide (c.index = 0) && decide (c.gifts.length = 0)
def fm (c : Cl) : Bool := wi c.op 1 10 && inB c && wmB c && blB (unu c)
end Go.Proofs.Ytffmodpgddecnaa.R
namespace Go.Proofs.Ytffmodpgddecnaa.R
end Go.Proofs.Ytffmodpgddecnaa.R
namespace Go.Proofs.Ytffmodpgddecnaa.R
open Go.RowKit
def u8s (l : List Nat) : List Value := l.map fun (n : Nat) => Value.int .u8 (n : Int)
theorem u8s_length (l : List Nat) : (u8s l).length = l.length := by simp [u8s]
theorem u8s_get (l : List Nat) (i : Nat) (h : i < l.length) : (u8s l)[i]? = some (.int .u8 ((l[i] : Nat) : Int)) := by simp [u8s, h]
structure Row (w : World) (a : Option Addr) (n cap : Nat) (L : List Nat) : Prop where
  len : L.length = n
  cap_ : n ≤ cap
  none_ : a = none → n = 0 ∧ cap = 0
  cells : ∀ x, a = some x → ∀ j u, (u8s L)[j]? = some u → w.cell? (x.add j) = some u
  small : ∀ x ∈ L, x < 256
theorem Row.later {W w1 : World} {a : Option Addr} {n cap : Nat} {L : List Nat} (hb : Below W.heap.size W w1) (h : Row W a n cap L) : Row w1 a n cap L :=
  ⟨h.len, h.cap_, h.none_, fun x hx j u hu => cell_later hb (h.cells x hx j u hu), h.small⟩
theorem Row.alloc {w : World} {a : Option Addr} {n cap : Nat} {L : List Nat} (h : Row w a n cap L) (o : Obj) : Row (w.alloc o) a n cap L := h.later (below1 _ _)
theorem row_nil (w : World) : Row w none 0 0 [] := ⟨rfl, Nat.le_refl _, fun _ => ⟨rfl, rfl⟩, fun _ h => (by cases h), fun _ h => (by cases h)⟩
theorem Row.plain {w : World} {a : Option Addr} {n cap : Nat} {L : List Nat} (h : Row w a n cap L) (hl : 0 < n) : ∃ b o, a = some ⟨b, o, none⟩ ∧ ∀ i (hi : i < L.length), w.cell? ⟨b, o + i, none⟩ = some (.int .u8 ((L[i] : Nat) : Int)) := by
  cases a with
  | none => have := h.none_ rfl; omega
  | some x =>
    obtain ⟨b, o, spot⟩ := x
    have hlen := h.len
    have h0 := h.cells _ rfl 0 _ (u8s_get L 0 (by omega))
    have hs : spot = none := by simpa [Addr.add] using World.cell?_spot h0
    subst hs
    refine ⟨b, o, rfl, fun i hi => ?_⟩
    have := h.cells _ rfl i _ (u8s_get L i hi)
    rw [addr_add] at this
    exact this
theorem Row.at {w : World} {b o n cap : Nat} {L : List Nat} (hl : L.length = n) (hc : n ≤ cap) (hs : ∀ x ∈ L, x < 256) (h : ∀ i (hi : i < L.length), w.cell? ⟨b, o + i, none⟩ = some (.int .u8 ((L[i] : Nat) : Int))) : Row w (some ⟨b, o, none⟩) n cap L := by
  refine ⟨hl, hc, fun h => (by cases h), fun x hx j u hu => ?_, hs⟩
  cases hx
  rw [addr_add]
  have hj : j < L.length := by have := (List.getElem?_eq_some_iff.1 hu).1; rwa [u8s_length] at this
  rw [u8s_get L j hj] at hu
  cases hu
  exact h j hj
structure Own (w : World) (base : Nat) (a : Option Addr) (n cap : Nat) (L : List Nat) : Prop where
  row : w.ownsRow base 5 1 (.slice a n cap) n (u8s L)
  small : ∀ x ∈ L, x < 256
theorem Own.len {w : World} {base : Nat} {a : Option Addr} {n cap : Nat} {L : List Nat} (h : Own w base a n cap L) : L.length = n := by
  have := h.row.1
  rw [u8s_length, Nat.mul_one] at this
  exact this
theorem Own.read {w : World} {base : Nat} {a : Option Addr} {n cap : Nat} {L : List Nat} (h : Own w base a n cap L) : Row w a n cap L := by
  refine ⟨h.len, ?_, ?_, ?_, h.small⟩
  · rcases h.row.2 with ⟨h, hn⟩ | ⟨g, c, cur, hv, _, _, hc, _⟩
    · omega
    · simp only [Value.slice.injEq] at hv; omega
  · intro ha
    rcases h.row.2 with ⟨h, hn⟩ | ⟨g, c, cur, hv, _, _, hc, _⟩
    · simp only [Value.slice.injEq] at h; omega
    · subst ha; simp at hv
  · intro x hx j u hu
    rcases h.row.2 with ⟨h, hn⟩ | ⟨g, c, cur, hv, _, _, hc, _⟩
    · subst hx; simp at h
    · subst hx
      simp only [Value.slice.injEq, Option.some.injEq] at hv
      obtain ⟨rfl, _, rfl⟩ := hv
      exact h.row.cells (g := g) rfl j u hu
theorem own_later {W w1 : World} {base : Nat} {e : TypeId} {size : Nat} {v : Value} {n : Nat} {xs : List Value} (hb : Below W.heap.size W w1) (h : W.ownsRow base e size v n xs) : w1.ownsRow base e size v n xs := by
  refine ⟨h.1, ?_⟩
  rcases h.2 with h | ⟨g, cap, cur, hv, hg, hh, r⟩
  · exact .inl h
  · have hlt : g < W.heap.size := by
      rcases Nat.lt_or_ge g W.heap.size with h1 | h1
      · exact h1
      · rw [Array.getElem?_eq_none h1] at hh; cases hh
    exact .inr ⟨g, cap, cur, hv, hg, by rw [hb.block g hlt]; exact hh, r⟩
theorem own_block {w : World} {base : Nat} {e : TypeId} {size : Nat} {v : Value} {n : Nat} {xs : List Value} (h : w.ownsRow base e size v n xs) : ∀ k, v.ownBlock = some k → base ≤ k := by
  intro k hk
  rcases h.2 with ⟨rfl, _⟩ | ⟨g, cap, cur, rfl, hg, _⟩
  · cases hk
  · simp [Value.ownBlock] at hk; omega
theorem Own.later {W w1 : World} {base : Nat} {a : Option Addr} {n cap : Nat} {L : List Nat} (hb : Below W.heap.size W w1) (h : Own W base a n cap L) : Own w1 base a n cap L := ⟨own_later hb h.row, h.small⟩
theorem Own.alloc {w : World} {base : Nat} {a : Option Addr} {n cap : Nat} {L : List Nat} (h : Own w base a n cap L) (o : Obj) : Own (w.alloc o) base a n cap L := h.later (below1 _ _)
theorem Own.mono {w : World} {base b : Nat} {a : Option Addr} {n cap : Nat} {L : List Nat} (h : Own w base a n cap L) (hb : b ≤ base) : Own w b a n cap L := ⟨own_mono h.row hb, h.small⟩
theorem Own.nil (w : World) (base : Nat) : Own w base .none 0 0 [] := ⟨⟨rfl, .inl ⟨rfl, rfl⟩⟩, fun _ h => (by cases h)⟩
theorem Own.blk {w : World} {base : Nat} {a : Option Addr} {n cap : Nat} {L : List Nat} (h : Own w base a n cap L) : ∀ k, Blk a k → base ≤ k := fun k hk => own_block h.row k (Blk.of.2 hk)
theorem Gr.below {w w' : World} {base : Nat} {a a' : Option Addr} {n cap : Nat} {L : List Nat} (h : Own w base a n cap L) (g : Gr a a' w w') (hb : base ≤ w.heap.size) : Below base w w' :=
  ⟨g.but.os, g.but.tape, g.but.output, g.but.size, fun k hk => g.but.block k (by omega) (fun hs => by have := h.blk k hs; omega)⟩
theorem Row.one (w : World) (b : Nat) (hb : b < 256) : Row (w.alloc (Obj.cells #[Value.int .u8 (b : Int)] 5)) (some ⟨w.heap.size, 0, .none⟩) 1 1 [b] :=
  Row.at (L := [b]) rfl (Nat.le_refl _) (fun x hx => by simp at hx; omega) (fun i hi => by
    have : i = 0 := by simp at hi; omega
    subst this
    simp [go_sem])
end Go.Proofs.Ytffmodpgddecnaa.R
namespace Go.Proofs.Ytffmodpgddecnaa.R
open Go.RowKit
set_option linter.unusedVariables false
theorem own_but {S : Nat → Prop} {w w' : World} {base : Nat} {e : TypeId} {size : Nat} {v : Value} {n : Nat} {xs : List Value} (hb : But S w w') (h : w.ownsRow base e size v n xs) (hS : ∀ k, base ≤ k → ¬ S k) : w'.ownsRow base e size v n xs := by
  refine ⟨h.1, ?_⟩
  rcases h.2 with h | ⟨g, cap, cur, hv, hg, hh, r⟩
  · exact .inl h
  · exact .inr ⟨g, cap, cur, hv, hg, by rw [hb.block g (Array.getElem?_eq_some_iff.1 hh).1 (hS g hg)]; exact hh, r⟩
theorem Own.but {S : Nat → Prop} {w w' : World} {base : Nat} {a : Option Addr} {n cap : Nat} {L : List Nat} (hb : But S w w') (h : Own w base a n cap L) (hS : ∀ k, base ≤ k → ¬ S k) : Own w' base a n cap L := ⟨own_but hb h.row hS, h.small⟩
end Go.Proofs.Ytffmodpgddecnaa.R
namespace Go.Proofs.Ytffmodpgddecnaa.R
open Go.RowKit
set_option linter.unusedVariables false
theorem Own.drew {w : World} {base : Nat} {a : Option Addr} {n cap : Nat} {L : List Nat} (h : Own w base a n cap L) : Own w.drew base a n cap L := h.later (Below.refl _ _).drew
theorem Own.lt {w : World} {base : Nat} {a : Option Addr} {n cap : Nat} {L : List Nat} (h : Own w base a n cap L) : ∀ k, Blk a k → k < w.heap.size := by
  intro k ⟨x, hx, hk⟩
  subst hx
  rcases h.row.2 with ⟨h, _⟩ | ⟨g', c, cur, hv, _, hh, _⟩
  · simp at h
  · simp only [Value.slice.injEq, Option.some.injEq] at hv
    obtain ⟨rfl, _⟩ := hv
    subst hk
    exact (Array.getElem?_eq_some_iff.1 hh).1
end Go.Proofs.Ytffmodpgddecnaa.R
namespace Go.Proofs.Ytffmodpgddecnaa.R
open Go.RowKit
set_option linter.unusedVariables false
end Go.Proofs.Ytffmodpgddecnaa.R
namespace Go.Proofs.Ytffmodpgddecnaa.R
open Go.RowKit
def i64s (l : List Int) : List Value := l.map fun n => Value.int .i64 n
theorem i64s_length (l : List Int) : (i64s l).length = l.length := by simp [i64s]
theorem i64s_get (l : List Int) (i : Nat) (h : i < l.length) : (i64s l)[i]? = some (.int .i64 l[i]) := by simp [i64s, h]
structure RI (w : World) (a : Option Addr) (n cap : Nat) (L : List Int) : Prop where
  len : L.length = n
  cap_ : n ≤ cap
  none_ : a = none → n = 0 ∧ cap = 0
  cells : ∀ x, a = some x → ∀ j u, (i64s L)[j]? = some u → w.cell? (x.add j) = some u
theorem RI.later {W w1 : World} {a : Option Addr} {n cap : Nat} {L : List Int} (hb : Below W.heap.size W w1) (h : RI W a n cap L) : RI w1 a n cap L :=
  ⟨h.len, h.cap_, h.none_, fun x hx j u hu => cell_later hb (h.cells x hx j u hu)⟩
theorem RI.nil (w : World) : RI w none 0 0 [] := ⟨rfl, Nat.le_refl _, fun _ => ⟨rfl, rfl⟩, fun _ h => (by cases h)⟩
theorem RI.plain {w : World} {a : Option Addr} {n cap : Nat} {L : List Int} (h : RI w a n cap L) (hl : 0 < n) : ∃ b o, a = some ⟨b, o, none⟩ ∧ ∀ i (hi : i < L.length), w.cell? ⟨b, o + i, none⟩ = some (.int .i64 L[i]) := by
  cases a with
  | none => have := h.none_ rfl; omega
  | some x =>
    obtain ⟨b, o, spot⟩ := x
    have hlen := h.len
    have h0 := h.cells _ rfl 0 _ (i64s_get L 0 (by omega))
    have hs : spot = none := by simpa [Addr.add] using World.cell?_spot h0
    subst hs
    refine ⟨b, o, rfl, fun i hi => ?_⟩
    have := h.cells _ rfl i _ (i64s_get L i hi)
    rw [addr_add] at this
    exact this
theorem RI.at {w : World} {b o n cap : Nat} {L : List Int} (hl : L.length = n) (hc : n ≤ cap) (h : ∀ i (hi : i < L.length), w.cell? ⟨b, o + i, none⟩ = some (.int .i64 L[i])) : RI w (some ⟨b, o, none⟩) n cap L := by
  refine ⟨hl, hc, fun h => (by cases h), fun x hx j u hu => ?_⟩
  cases hx
  rw [addr_add]
  have hj : j < L.length := by have := (List.getElem?_eq_some_iff.1 hu).1; rwa [i64s_length] at this
  rw [i64s_get L j hj] at hu
  cases hu
  exact h j hj
theorem RI.one (w : World) (b : Int) : RI (w.alloc (Obj.cells #[Value.int .i64 b] 3)) (some ⟨w.heap.size, 0, .none⟩) 1 1 [b] :=
  RI.at (L := [b]) rfl (Nat.le_refl _) (fun i hi => by
    have : i = 0 := by simp at hi; omega
    subst this
    simp [go_sem])
structure Sl where
  a : Option Addr
  n : Nat
  c : Nat
abbrev Sl.v (s : Sl) : Value := .slice s.a s.n s.c
abbrev Sl.nil : Sl := ⟨none, 0, 0⟩
def cC (c : Cl) (d g : Sl) : List Value := [.int .i64 c.op, .int .i64 c.by_, .int .i64 c.size, .int .i64 c.obj, .int .u64 (c.hi : Int), .int .u64 (c.lo : Int), .bool c.given, .int .i64 c.rights, .int .i64 c.off, .int .i64 c.n, d.v, .int .i64 c.index, g.v]
structure Is (w : World) (c : Cl) (d g : Sl) : Prop where
  data : Row w d.a d.n d.c c.data
  gifts : RI w g.a g.n g.c c.gifts
  hi : c.hi < 18446744073709551616
  lo : c.lo < 18446744073709551616
theorem Is.later {W w1 : World} {c : Cl} {d g : Sl} (hb : Below W.heap.size W w1) (h : Is W c d g) : Is w1 c d g := ⟨h.data.later hb, h.gifts.later hb, h.hi, h.lo⟩
end Go.Proofs.Ytffmodpgddecnaa.R
namespace Go.Proofs.Ytffmodpgddecnaa.R
open Go.RowKit
set_option linter.unusedVariables false
set_option linter.unusedSimpArgs false
end Go.Proofs.Ytffmodpgddecnaa.R
namespace Go.Proofs.Ytffmodpgddecnaa.R
open Go.RowKit
set_option linter.unusedVariables false
set_option linter.unusedSimpArgs false
theorem rangeAt_new (W : World) (cs : List Value) (t : TypeId) : (W.alloc (.cells cs.toArray t)).rangeAt W.heap.size 0 cs := by
  intro j v hv
  have hj := (List.getElem?_eq_some_iff.1 hv)
  simp [go_sem, hv]
end Go.Proofs.Ytffmodpgddecnaa.R
namespace Go.Proofs.Ytffmodpgddecnaa.R
open Go.RowKit
set_option linter.unusedVariables false
theorem ld_arm {P : Program} {w : World} {ops : Array Oper} {rest : List Oper} {a : Act} {Q : Exit → Act → World → Prop} {d : Option Tmp} {tt : TypeId} {ps : String} {af} {ty : TypeId} {x : Operand} {p v : Value}
    (hr : (Instr.loadAt ty p).run P w = .ok v w) (hx : a.eval x = p) (h : wpList P ops Q rest (a.put d v) w) :
    wpList P ops Q ({ dst := d, op := .load ty x, type := tt, pos := ps, after := af, guard := none } :: rest) a w := by
  refine wpList_plain rfl fun K hK => ?_
  unfold Oper.wp execOp
  simp only [hx, hr, Sem.run_bind, Sem.run_pure, Result.andThen_ok]
  exact hK _ _ h
theorem info47 : (Try.prog.info? 47).map (·.size) = some 13 := by kernel_rfl
theorem lv41 {w : World} {b o : Nat} {L : List Value} (h : w.rangeAt b o L) (hl : L.length = 13) : (loadVar 47 ⟨b, o, none⟩).run Try.prog w = .ok (.agg L.toArray) w :=
  run_loadVar_mid w b o 47 L _ h Try.underlying47 rfl (by rw [info47, hl])
structure Bx (w : World) (b : Nat) (L : List Value) : Prop where
  range : w.rangeAt b 0 L
  there : w.there b 0 L.length
theorem Bx.but {S : Nat → Prop} {w w' : World} {b : Nat} {L : List Value} (hb : But S w w') (h : Bx w b L) (hn : ¬ S b) : Bx w' b L := by
  refine ⟨fun j v hv => ?_, fun j hj => ?_⟩
  · have hc := h.range j v hv
    have hk := hb.block b (World.block_lt_of_cell? _ _ hc) hn
    rw [World.cell?_of_block (w := w) hk]
    exact hc
  · obtain ⟨h1, h2⟩ := h.there j hj
    obtain ⟨v, hv⟩ := Option.isSome_iff_exists.1 h1
    have hk := hb.block b (World.block_lt_of_cell? _ _ hv) hn
    exact ⟨by rw [World.cell?_of_block (w := w) hk]; exact h1, by rw [World.frozen?_of_block hk]; exact h2⟩
theorem Bx.later {w w' : World} {b : Nat} {L : List Value} (hb : Below w.heap.size w w') (h : Bx w b L) : Bx w' b L := h.but (S := fun _ => False) (But.of hb) (fun h => h)
theorem Bx.new (w : World) (L : List Value) (t : TypeId) : Bx (w.alloc (.cells L.toArray t)) w.heap.size L := by
  refine ⟨rangeAt_new w L t, fun j hj => ⟨?_, ?_⟩⟩
  · rw [rangeAt_new w L t j L[j] (by simp [hj])]; rfl
  · simp [go_sem]
theorem setCells_but {S : Nat → Prop} {b : Nat} (hb : S b) : ∀ (vs : List Value) (o : Nat) {a w : World}, But S a w → But S a (w.setCells b o vs)
  | [], _, _, _, h => h
  | v :: r, o, a, w, h => by rw [World.setCells]; exact setCells_but hb r (o + 1) (h.setCell hb _)
theorem frozen_setCells (b : Nat) (x : Addr) : ∀ (vs : List Value) (o : Nat) (w : World), (w.setCells b o vs).frozen? x = w.frozen? x
  | [], _, _ => rfl
  | v :: r, o, w => by rw [World.setCells, frozen_setCells b x r]; simp
theorem Bx.set {w : World} {b : Nat} {L M : List Value} (h : Bx w b L) (hl : M.length = L.length) : Bx (w.setCells b 0 M) b M := by
  refine ⟨World.rangeAt_setCells_same _ _ _ _ (hl ▸ h.there), fun j hj => ?_⟩
  obtain ⟨h1, h2⟩ := h.there j (by omega)
  exact ⟨World.isSome_setCells _ _ _ _ _ h1, by rw [frozen_setCells]; exact h2⟩
theorem Bx.lt {w : World} {b : Nat} {L : List Value} (h : Bx w b L) (hl : 0 < L.length) : b < w.heap.size := by
  obtain ⟨h1, _⟩ := h.there 0 hl
  obtain ⟨v, hv⟩ := Option.isSome_iff_exists.1 h1
  exact World.block_lt_of_cell? _ _ hv
theorem Bx.cell {w : World} {b : Nat} {L : List Value} (h : Bx w b L) (j : Nat) {v : Value} (hv : L[j]? = some v) : w.cell? ⟨b, j, none⟩ = some v := by
  have := h.range j v hv
  rwa [Nat.zero_add] at this
theorem stc {w : World} {b o n : Nat} {L : List Value} (h : w.there b o n) (hl : L.length = n) (h1 : ∀ v ∈ L, v.oneCell' = true) : (storeCells ⟨b, o, none⟩ L).run Try.prog w = .ok () (w.setCells b o L) :=
  run_storeCells_cells (P := Try.prog) b o L 0 w (fun j hj => by rw [Nat.add_zero]; exact (h j (by omega)).1) (fun j hj => by rw [Nat.add_zero]; exact (h j (by omega)).2) h1
end Go.Proofs.Ytffmodpgddecnaa.R
namespace Go.Proofs.Ytffmodpgddecnaa.R
open Go.RowKit
set_option linter.unusedVariables false
end Go.Proofs.Ytffmodpgddecnaa.R
namespace Go.Proofs.Ytffmodpgddecnaa.R
open Go.RowKit
set_option linter.unusedVariables false
set_option linter.unusedSimpArgs false
end Go.Proofs.Ytffmodpgddecnaa.R
namespace Go.Proofs.Ytffmodpgddecnaa.R
open Go.RowKit
set_option linter.unusedVariables false
set_option linter.unusedSimpArgs false
def wEq (b c e f : Int) : Bool := decide (b = e ∧ c = f)
theorem eqlW (b c e f : Int) (w : World) : (binOp .eql 38 (.agg #[.int .u64 b, .int .u64 c]) (.agg #[.int .u64 e, .int .u64 f])).run Try.prog w = .ok (.bool (wEq b c e f)) w := by
  unfold wEq
  by_cases h2 : b = e
  · subst h2
    by_cases h3 : c = f
    · subst h3; simp [go_sem]
    · simp [go_sem, h3]
  · simp [go_sem, h2]
end Go.Proofs.Ytffmodpgddecnaa.R
namespace Go.Proofs.Ytffmodpgddecnaa.R.W
end Go.Proofs.Ytffmodpgddecnaa.R.W
namespace Go.Proofs.Ytffmodpgddecnaa.R.W
open Go.RowKit
end Go.Proofs.Ytffmodpgddecnaa.R.W
namespace Go.Proofs.Ytffmodpgddecnaa.R.W
open Go.RowKit
end Go.Proofs.Ytffmodpgddecnaa.R.W
namespace Go.Proofs.Ytffmodpgddecnaa.R.W
open Go.RowKit
theorem _root_.Go.Proofs.Ytffmodpgddecnaa.Lies.setCell {w : World} {p q : Addr} {u v : Value} (h : Lies w p v) : ∃ v', Lies (w.setCell q u) p v' := by
  obtain ⟨v', hv'⟩ := cell?_setCell_some (w := w) (p := q) (x := u) (q := p) (v := v) h.1
  exact ⟨v', hv', by rw [World.frozen?_setCell]; exact h.2⟩
theorem _root_.Go.Proofs.Ytffmodpgddecnaa.Lies.drew {w : World} {p : Addr} {v : Value} (h : Lies w p v) : Lies w.drew p v := h
end Go.Proofs.Ytffmodpgddecnaa.R.W
namespace Go.Proofs.Ytffmodpgddecnaa.R.W
open Go.RowKit
end Go.Proofs.Ytffmodpgddecnaa.R.W
