import Derived.Test.YtlelglfdamakaaaN3
import Derived.Test.YtlelglfdamakaaaMS
import Derived.Test.YtlelglfdamakaaaMT
namespace Go.Proofs.Ytlelglfdamakaaa
open Go.RowKit H
set_option linter.unusedVariables false
set_option linter.unusedSimpArgs false

/-! ### A desk in memory -/
/-- Where a desk's parts lie: the catalogue A, the cache g (its numbers s, n, k), the validator v, the desk d, the document's catalogue r, b. -/
structure Hv where
  A : Ad
  kn : Nat
  mo : Nat
  g : Nat
  s : Nat
  n : Nat
  k : Nat
  v : Nat
  d : Nat
  r : Nat
  b : Nat
def Hv.All (H : Hv) (k : Nat) : Prop := H.A.All k ∨ k = H.g ∨ k = H.v ∨ k = H.d ∨ k = H.r ∨ k = H.b
/-- What the program's calls write. -/
def Hv.Pw (H : Hv) (k : Nat) : Prop := H.A.Wr k ∨ k = H.g
/-- What the document's calls write. -/
def Hv.Rw (H : Hv) (k : Nat) : Prop := k = H.r ∨ k = H.b
structure Hv.Dis (H : Hv) : Prop where
  g1 : ¬ H.A.All H.g
  v1 : ¬ H.A.All H.v
  v2 : H.v ≠ H.g
  d1 : ¬ H.A.All H.d
  d2 : H.d ≠ H.g
  r1 : ¬ H.A.All H.r
  r2 : H.r ≠ H.g
  r3 : H.r ≠ H.v
  r4 : H.r ≠ H.d
  b1 : ¬ H.A.All H.b
  b2 : H.b ≠ H.g
  b3 : H.b ≠ H.v
  b4 : H.b ≠ H.d
structure Tp (w : World) (d x y z : Nat) : Prop where
  c0 : w.cell? ⟨d, 0, none⟩ = some (.pointer (some ⟨x, 0, none⟩))
  c1 : w.cell? ⟨d, 1, none⟩ = some (.pointer (some ⟨y, 0, none⟩))
  c2 : w.cell? ⟨d, 2, none⟩ = some (.pointer (some ⟨z, 0, none⟩))
theorem Tp.but {S : Nat → Prop} {w w' : World} {b x y z : Nat} (h : Tp w b x y z) (hb : But S w w') (hn : ¬ S b) : Tp w' b x y z := ⟨cell_but hb h.c0 hn, cell_but hb h.c1 hn, cell_but hb h.c2 hn⟩
theorem Tp.lt {w : World} {b x y z : Nat} (h : Tp w b x y z) : b < w.heap.size := World.block_lt_of_cell? _ _ h.c0
/-- The program's side: catalogue, cache, validator. -/
structure Vd (w : World) (H : Hv) (X : List Tk) (l : Fo) (T : Nat → List K.Pu) : Prop where
  cat : Cat w H.A H.kn H.mo X l
  ch : ∃ E hi mi, K.Kc w H.g H.s H.n H.k T E hi mi
  va : Va w H.v H.g H.A.g
  dis : H.Dis
variable {w w' : World} {H : Hv} {X : List Tk} {l : Fo} {T : Nat → List K.Pu}
theorem Vd.but {S : Nat → Prop} (h : Vd w H X l T) (hb : But S w w') (h1 : ∀ k, H.A.All k → ¬ S k) (h2 : ¬ S H.g) (h3 : ¬ S H.v) : Vd w' H X l T := by
  obtain ⟨E, hi, mi, hk⟩ := h.ch
  exact ⟨h.cat.but hb h1, ⟨E, hi, mi, hk.but hb h2⟩, h.va.but hb h3, h.dis⟩
theorem Vd.later (h : Vd w H X l T) (hb : Below w.heap.size w w') : Vd w' H X l T := h.but (S := fun _ => False) (But.of hb) (fun _ _ h => h) (fun h => h) (fun h => h)
/-- With a cache that says nothing but what the catalogue says. -/
def Vt (w : World) (H : Hv) (X : List Tk) (l : Fo) : Prop := ∃ T, Vd w H X l T ∧ Tr X l T
theorem Vt.but {S : Nat → Prop} (h : Vt w H X l) (hb : But S w w') (h1 : ∀ k, H.A.All k → ¬ S k) (h2 : ¬ S H.g) (h3 : ¬ S H.v) : Vt w' H X l := by
  obtain ⟨T, h, ht⟩ := h
  exact ⟨T, h.but hb h1 h2 h3, ht⟩
theorem Vt.later (h : Vt w H X l) (hb : Below w.heap.size w w') : Vt w' H X l := h.but (S := fun _ => False) (But.of hb) (fun _ _ h => h) (fun h => h) (fun h => h)
theorem Vt.cat (h : Vt w H X l) : Cat w H.A H.kn H.mo X l := by obtain ⟨T, h, _⟩ := h; exact h.cat
theorem Vt.inv (h : Vt w H X l) : Inv H.mo X l := h.cat.inv
theorem Vt.dis (h : Vt w H X l) : H.Dis := by obtain ⟨T, h, _⟩ := h; exact h.dis
/-- Tokens may have been dropped since. -/
def Vg (w : World) (H : Hv) (X : List Tk) (l : Fo) : Prop := ∃ T, Vd w H X l T
theorem Vg.but {S : Nat → Prop} (h : Vg w H X l) (hb : But S w w') (h1 : ∀ k, H.A.All k → ¬ S k) (h2 : ¬ S H.g) (h3 : ¬ S H.v) : Vg w' H X l := by
  obtain ⟨T, h⟩ := h
  exact ⟨T, h.but hb h1 h2 h3⟩
theorem Vg.later (h : Vg w H X l) (hb : Below w.heap.size w w') : Vg w' H X l := h.but (S := fun _ => False) (But.of hb) (fun _ _ h => h) (fun h => h) (fun h => h)
theorem Vg.dis (h : Vg w H X l) : H.Dis := by obtain ⟨T, h⟩ := h; exact h.dis
theorem Vt.vg (h : Vt w H X l) : Vg w H X l := by obtain ⟨T, h, _⟩ := h; exact ⟨T, h⟩
/-- Only the cache is written. -/
theorem Vd.keep (h : Vd w H X l T) {T' : Nat → List K.Pu} (hb : But (fun k => k = H.g) w w') (hk : ∃ E hi mi, K.Kc w' H.g H.s H.n H.k T' E hi mi) : Vd w' H X l T' :=
  ⟨h.cat.but hb (fun k hk e => h.dis.g1 (e ▸ hk)), hk, h.va.but hb h.dis.v2, h.dis⟩
/-- The catalogue is written. -/
theorem Vd.turn (h : Vd w H X l T) {X' : List Tk} {l' : Fo} (hb : But H.A.Wr w w') (hc : Cat w' H.A H.kn H.mo X' l') : Vd w' H X' l' T := by
  obtain ⟨E, hi, mi, hk⟩ := h.ch
  exact ⟨hc, ⟨E, hi, mi, hk.but hb (fun e => h.dis.g1 (.inr (.inr e)))⟩, h.va.but hb (fun e => h.dis.v1 (.inr (.inr e))), h.dis⟩
theorem Hv.Pw.of_g {H : Hv} {w w' : World} (hb : But (fun k => k = H.g) w w') : But H.Pw w w' := hb.mono (fun k hk => .inr hk)
theorem Hv.Pw.of_wr {H : Hv} {w w' : World} (hb : But H.A.Wr w w') : But H.Pw w w' := hb.mono (fun k hk => .inl hk)

/-! ### The catalogue's calls -/
theorem vroot (h : Vt w H X l) (c : Cp) (r : Int) (hw : c.2.1 < B64 ∧ c.2.2 < B64) :
    Calls Try.prog 8 #[.pointer (some ⟨H.A.g, 0, none⟩), cpV c, .int .i64 r] w fun e w' => e = .returned (.tuple #[.int .i64 (rootR H.mo X l c r).num, .int .i64 (rootR H.mo X l c r).code]) ∧ Vt w' H (rootR H.mo X l c r).X (rootR H.mo X l c r).l ∧ But H.Pw w w' := by
  obtain ⟨T, h, ht⟩ := h
  refine (croot_of h.cat c r hw).mono ?_
  rintro e w' ⟨rfl, hc, hb⟩
  exact ⟨rfl, ⟨T, h.turn hb hc, ht.root h.cat.inv c r hc.inv⟩, Hv.Pw.of_wr hb⟩
theorem vchild (h : Vt w H X l) (p : Int) (c : Cp) (r : Int) (hw : c.2.1 < B64 ∧ c.2.2 < B64) :
    Calls Try.prog 10 #[.pointer (some ⟨H.A.g, 0, none⟩), .int .i64 p, cpV c, .int .i64 r] w fun e w' => e = .returned (.tuple #[.int .i64 (childR H.mo X l p c r).num, .int .i64 (childR H.mo X l p c r).code]) ∧ Vt w' H (childR H.mo X l p c r).X (childR H.mo X l p c r).l ∧ But H.Pw w w' := by
  obtain ⟨T, h, ht⟩ := h
  refine (child_of h.cat p c r hw).mono ?_
  rintro e w' ⟨rfl, hc, hb⟩
  exact ⟨rfl, ⟨T, h.turn hb hc, ht.child h.cat.inv p c r hc.inv⟩, Hv.Pw.of_wr hb⟩
/-- Which go with a number, and what is left. -/
def gonL (l : Fo) (n : Int) : List Int := if n ∈ nums l then G true l n else []
def gonK (X : List Tk) (l : Fo) (n : Int) : List Cp := (gonL l n).map (fun k => (tk X k).1)
def gonE (l : Fo) (n : Int) : Int := if n ∈ nums l then 0 else 20
def gonX (X : List Tk) (l : Fo) (n : Int) : List Tk := (dropS ⟨X, l⟩ n).X
def gonF (X : List Tk) (l : Fo) (n : Int) : Fo := (dropS ⟨X, l⟩ n).l
theorem gonK_len (X : List Tk) (l : Fo) (n : Int) : (gonK X l n).length = (gonL l n).length := by simp [gonK]
theorem vdrop (h : Vt w H X l) (n : Int) :
    Calls Try.prog 13 #[.pointer (some ⟨H.A.g, 0, none⟩), .int .i64 n] w fun e w' => ∃ a c, e = .returned (.tuple #[.slice a (gonL l n).length c, .int .i64 (gonE l n)]) ∧ Ow w' w.heap.size 32 3 a (gonL l n).length c (caps (gonK X l n)) ∧ Vg w' H (gonX X l n) (gonF X l n) ∧ But H.Pw w w' := by
  obtain ⟨T, h, ht⟩ := h
  refine (cdrop_any h.cat n).mono ?_
  rintro e w' ⟨a, c, rfl, hO, hc, hb⟩
  exact ⟨a, c, rfl, hO, ⟨T, h.turn hb hc⟩, Hv.Pw.of_wr hb⟩
theorem vfind (h : Vt w H X l) (c : Cp) (hw : c.2.1 < B64 ∧ c.2.2 < B64) : Calls Try.prog 9 #[.pointer (some ⟨H.A.g, 0, none⟩), cpV c] w fun e w' => e = .returned (.tuple #[.int .i64 (findN X l c), .bool (hasC X l c)]) ∧ Below w.heap.size w w' := cfind_any h.cat c hw
theorem vcount (h : Vt w H X l) : Calls Try.prog 19 #[.pointer (some ⟨H.A.g, 0, none⟩)] w fun e w' => e = .returned (.int .i64 (l.length : Int)) ∧ w' = w := ccount_any h.cat
end Go.Proofs.Ytlelglfdamakaaa
