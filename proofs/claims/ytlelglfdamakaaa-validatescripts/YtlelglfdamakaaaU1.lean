import Derived.Test.YtlelglfdamakaaaS2
namespace Go.Proofs.Ytlelglfdamakaaa
open Go.RowKit H
set_option linter.unusedVariables false
variable {w w' : World} {H Ha Hb : Hv} {X : List Tk} {l : Fo} {mo : Nat}

/-! ### The calls of a desk -/
theorem Ds.own {X' : List Tk} {l' : Fo} (h : Ds w H X l) (hv : Vt w' H X' l') (hb : But H.Pw w w') : Ds w' H X' l' := ⟨hv, h.tp.own hv.dis hb⟩
/-- A desk whose cache may know what was dropped. -/
structure Dg (w : World) (H : Hv) (X : List Tk) (l : Fo) : Prop where
  vg : Vg w H X l
  tp : Tp w H.d H.A.g H.v H.r
theorem Dg.but {S : Nat → Prop} (h : Dg w H X l) (hb : But S w w') (hn : ∀ k, H.All k → ¬ S k) : Dg w' H X l :=
  ⟨h.vg.but hb (fun k hk => hn k (.inl hk)) (hn _ (.inr (.inl rfl))) (hn _ (.inr (.inr (.inl rfl)))), h.tp.but hb (hn _ (.inr (.inr (.inr (.inl rfl)))))⟩
theorem Dg.later (h : Dg w H X l) (hb : Below w.heap.size w w') : Dg w' H X l := h.but (S := fun _ => False) (But.of hb) (fun _ _ h => h)
theorem droot (h : Ds w H X l) (hm : H.mo = mo) (c : Cp) (r : Int) (hw : c.2.1 < B64 ∧ c.2.2 < B64) :
    Calls Try.prog 8 #[.pointer (some ⟨H.A.g, 0, none⟩), cpV c, .int .i64 r] w fun e w' => e = .returned (.tuple #[.int .i64 (rootR mo X l c r).num, .int .i64 (rootR mo X l c r).code]) ∧ Ds w' H (rootR mo X l c r).X (rootR mo X l c r).l ∧ But H.Pw w w' := by
  subst hm
  exact (vroot h.vt c r hw).mono (fun e w' hx => ⟨hx.1, h.own hx.2.1 hx.2.2, hx.2.2⟩)
theorem dchild (h : Ds w H X l) (hm : H.mo = mo) (p : Int) (c : Cp) (r : Int) (hw : c.2.1 < B64 ∧ c.2.2 < B64) :
    Calls Try.prog 10 #[.pointer (some ⟨H.A.g, 0, none⟩), .int .i64 p, cpV c, .int .i64 r] w fun e w' => e = .returned (.tuple #[.int .i64 (childR mo X l p c r).num, .int .i64 (childR mo X l p c r).code]) ∧ Ds w' H (childR mo X l p c r).X (childR mo X l p c r).l ∧ But H.Pw w w' := by
  subst hm
  exact (vchild h.vt p c r hw).mono (fun e w' hx => ⟨hx.1, h.own hx.2.1 hx.2.2, hx.2.2⟩)
theorem ddrop (h : Ds w H X l) (n : Int) :
    Calls Try.prog 13 #[.pointer (some ⟨H.A.g, 0, none⟩), .int .i64 n] w fun e w' => ∃ a c, e = .returned (.tuple #[.slice a (gonL l n).length c, .int .i64 (gonE l n)]) ∧ Ow w' w.heap.size 32 3 a (gonL l n).length c (caps (gonK X l n)) ∧ Dg w' H (gonX X l n) (gonF X l n) ∧ But H.Pw w w' :=
  (vdrop h.vt n).mono (fun e w' ⟨a, c, h1, h2, h3, h4⟩ => ⟨a, c, h1, h2, ⟨h3, h.tp.own h3.dis h4⟩, h4⟩)
theorem dgone (h : Dg w H X l) : Calls Try.prog 14 #[.pointer (some ⟨H.v, 0, none⟩)] w fun e w' => e = .returned (.tuple #[]) ∧ Ds w' H X l ∧ But H.Pw w w' :=
  (gone_any h.vg).mono (fun e w' hx => ⟨hx.1, ⟨hx.2.1, h.tp.own hx.2.1.dis (Hv.Pw.of_g hx.2.2)⟩, Hv.Pw.of_g hx.2.2⟩)
theorem Ds.dg (h : Ds w H X l) : Dg w H X l := ⟨h.vt.vg, h.tp⟩
theorem dgiven (h : Ds w H X l) (c : Cp) (need : Int) (hw : c.2.1 < B64 ∧ c.2.2 < B64) :
    Calls Try.prog 11 #[.pointer (some ⟨H.v, 0, none⟩), cpV c, .int .i64 need] w fun e w' => e = .returned (.int .i64 (givE X l need c)) ∧ Ds w' H X l ∧ But H.Pw w w' :=
  (given_any h.vt c need hw).mono (fun e w' hx => ⟨hx.1, h.own hx.2.1 (Hv.Pw.of_g hx.2.2), Hv.Pw.of_g hx.2.2⟩)

/-! ### Scripts -/
/-- A call of a script. -/
structure Sp where
  kd : Int
  c : Cp
  p : Int
  n : Int
  la : Option Addr
  ln : Nat
  lc : Nat
  L : List Cp
structure Sb (w : World) (b o : Nat) (s : Sp) : Prop where
  c0 : w.cell? ⟨b, o, none⟩ = some (.int .i64 s.kd)
  c1 : w.cell? ⟨b, o + 1, none⟩ = some (.int .i64 s.c.1)
  c2 : w.cell? ⟨b, o + 2, none⟩ = some (.int .u64 (s.c.2.1 : Int))
  c3 : w.cell? ⟨b, o + 3, none⟩ = some (.int .u64 (s.c.2.2 : Int))
  c4 : w.cell? ⟨b, o + 4, none⟩ = some (.int .i64 s.p)
  c5 : w.cell? ⟨b, o + 5, none⟩ = some (.int .i64 s.n)
  c6 : w.cell? ⟨b, o + 6, none⟩ = some (.slice s.la s.ln s.lc)
  wide : s.c.2.1 < B64 ∧ s.c.2.2 < B64
  rd : Rd w s.la s.ln s.L
  blk : 0 < s.ln → ∀ k, Blk s.la k → k < w.heap.size
  all : ∀ c ∈ s.L, c.2.1 < B64 ∧ c.2.2 < B64
  small : s.ln ≤ 9223372036854775807
theorem Sb.later {w w' : World} {b o : Nat} {s : Sp} (hb : Below w.heap.size w w') (h : Sb w b o s) : Sb w' b o s :=
  ⟨cell_later hb h.c0, cell_later hb h.c1, cell_later hb h.c2, cell_later hb h.c3, cell_later hb h.c4, cell_later hb h.c5, cell_later hb h.c6, h.wide, h.rd.later hb, fun h0 k hk => Nat.lt_of_lt_of_le (h.blk h0 k hk) hb.size, h.all, h.small⟩
/-- A script of n calls. -/
def Ss (w : World) (a : Option Addr) (n : Nat) (f : Nat → Sp) : Prop := 0 < n → ∃ b o, a = some ⟨b, o, none⟩ ∧ ∀ i, i < n → Sb w b (o + i * 7) (f i)
end Go.Proofs.Ytlelglfdamakaaa
