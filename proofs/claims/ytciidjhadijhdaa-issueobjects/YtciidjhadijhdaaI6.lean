import Derived.Test.YtciidjhadijhdaaI5
namespace Go.Proofs.Ytciidjhadijhdaa.D
open Go.RowKit
open Go.Proofs.Ytciidjhadijhdaa.H (B64)
set_option linter.unusedVariables false

/-- How many are taken behind a Skip. -/
def skipN (t n : Nat) (k : Int) : Nat := if 0 ≤ k ∧ k ≤ (n : Int) then k.toNat else t
theorem skip_any {w : World} {g gb n : Nat} {c : Nat → Nat} {t : Nat} (h : Dr w g gb n c t) (k : Int) :
    Calls Try.prog 8 #[.pointer (some ⟨g, 0, none⟩), .int .i64 k] w fun e w' => (∃ c, e = .returned (.int .i64 c)) ∧ Dr w' g gb n c (skipN t n k) ∧ But (· = g) w w' := by
  by_cases hk : 0 ≤ k ∧ k ≤ (n : Int)
  · obtain ⟨j, rfl⟩ : ∃ j : Nat, k = (j : Int) := ⟨k.toNat, by omega⟩
    have e1 : skipN t n (j : Int) = j := by unfold skipN; rw [if_pos hk]; omega
    rw [e1]
    refine (skip_ok g gb n c t j w h (by omega)).mono ?_
    rintro e w' ⟨rfl, h1, h2⟩
    exact ⟨⟨_, rfl⟩, h1, h2⟩
  · have e1 : skipN t n k = t := by unfold skipN; rw [if_neg hk]
    rw [e1]
    refine (skip_bad g gb n c t k w h hk).mono ?_
    rintro e w' ⟨rfl, rfl⟩
    exact ⟨⟨_, rfl⟩, h, But.refl _ _⟩
theorem rskip_any {w : World} {g gb n : Nat} {f : Nat → Nat} {W : Int} {t : Nat} (h : Dw w g gb n f W t) (k : Int) :
    Calls Try.prog 15 #[.pointer (some ⟨g, 0, none⟩), .int .i64 k] w fun e w' => (∃ c, e = .returned (.int .i64 c)) ∧ Dw w' g gb n f W (skipN t n k) ∧ But (· = g) w w' := by
  by_cases hk : 0 ≤ k ∧ k ≤ (n : Int)
  · obtain ⟨j, rfl⟩ : ∃ j : Nat, k = (j : Int) := ⟨k.toNat, by omega⟩
    have e1 : skipN t n (j : Int) = j := by unfold skipN; rw [if_pos hk]; omega
    rw [e1]
    refine (rskip_ok g gb n f W t j w h (by omega)).mono ?_
    rintro e w' ⟨rfl, h1, h2⟩
    exact ⟨⟨_, rfl⟩, h1, h2⟩
  · have e1 : skipN t n k = t := by unfold skipN; rw [if_neg hk]
    rw [e1]
    refine (rskip_bad g gb n f W t k w h hk).mono ?_
    rintro e w' ⟨rfl, rfl⟩
    exact ⟨⟨_, rfl⟩, h, But.refl _ _⟩
/-- Both draws, of the same words. -/
structure Two (w0 w' : World) (gp bp gr br n : Nat) (f : Nat → Nat) (W : Int) (tp tr : Nat) : Prop where
  p : Dr w' gp bp n (cutF f W) tp
  r : Dw w' gr br n f W tr
  ne : gp ≠ gr
  n1 : 0 < n → bp ≠ gr
  n2 : 0 < n → br ≠ gp
  hp : w0.heap.size ≤ gp
  hr : w0.heap.size ≤ gr
  hb : Below w0.heap.size w0 w'
theorem Two.stepP {w0 w w1 : World} {gp bp gr br n : Nat} {f : Nat → Nat} {W : Int} {tp tr t1 : Nat} (h : Two w0 w gp bp gr br n f W tp tr) (hd : Dr w1 gp bp n (cutF f W) t1) (hb : But (· = gp) w w1) : Two w0 w1 gp bp gr br n f W t1 tr :=
  ⟨hd, h.r.but hb (fun e => h.ne e.symm) (fun h0 e => h.n2 h0 e), h.ne, h.n1, h.n2, h.hp, h.hr, below_but h.hb hb h.hp⟩
theorem Two.stepR {w0 w w1 : World} {gp bp gr br n : Nat} {f : Nat → Nat} {W : Int} {tp tr t1 : Nat} (h : Two w0 w gp bp gr br n f W tp tr) (hd : Dw w1 gr br n f W t1) (hb : But (· = gr) w w1) : Two w0 w1 gp bp gr br n f W tp t1 :=
  ⟨h.p.butN hb (fun e => h.ne e) (fun h0 e => h.n1 h0 e), hd, h.ne, h.n1, h.n2, h.hp, h.hr, below_but h.hb hb h.hr⟩
theorem Two.later {w0 w w1 : World} {gp bp gr br n : Nat} {f : Nat → Nat} {W : Int} {tp tr : Nat} (h : Two w0 w gp bp gr br n f W tp tr) (hb : Below w.heap.size w w1) : Two w0 w1 gp bp gr br n f W tp tr :=
  ⟨h.p.later hb, h.r.later hb, h.ne, h.n1, h.n2, h.hp, h.hr, below_call h.hb hb⟩
theorem cutF_small {f : Nat → Nat} (h : ∀ i, f i < B64 * B64) (W : Int) (n i : Nat) (hi : i < n) : cutF f W i < B64 * B64 := cutN_lt (h i) W
/-- An ask. -/
structure Ak where
  a : Option Addr
  m : Nat
  cap : Nat
  u : Nat → Nat
  back : Int
structure Ab (w : World) (b o : Nat) (x : Ak) : Prop where
  c0 : w.cell? ⟨b, o, none⟩ = some (.slice x.a x.m x.cap)
  c1 : w.cell? ⟨b, o + 1, none⟩ = some (.int .i64 x.back)
  ws : Ws w x.a x.m x.cap x.u
  bm : x.m ≤ 9223372036854775807
  old : 0 < x.m → ∀ y, x.a = some y → y.block < w.heap.size
theorem Ab.later {w w' : World} {b o : Nat} {x : Ak} (hb : Below w.heap.size w w') (h : Ab w b o x) : Ab w' b o x := ⟨cell_later hb h.c0, cell_later hb h.c1, h.ws.later hb, h.bm, fun h0 y hy => Nat.lt_of_lt_of_le (h.old h0 y hy) hb.size⟩
structure As (w : World) (a : Option Addr) (n : Nat) (F : Nat → Ak) : Prop where
  at_ : 0 < n → ∃ b o, a = some ⟨b, o, none⟩ ∧ ∀ i, i < n → Ab w b (o + i * 2) (F i)
theorem As.later {w w' : World} {a : Option Addr} {n : Nat} {F : Nat → Ak} (h : As w a n F) (hb : Below w.heap.size w w') : As w' a n F :=
  ⟨fun h0 => by obtain ⟨b, o, e, h1⟩ := h.at_ h0; exact ⟨b, o, e, fun i hi => (h1 i hi).later hb⟩⟩
/-- Draw with both draws there. -/
theorem Two.draw {w0 w : World} {gp bp gr br n : Nat} {f : Nat → Nat} {W : Int} {tp tr : Nat} (h : Two w0 w gp bp gr br n f W tp tr) {a : Option Addr} {m cap : Nat} {u : Nat → Nat} (hw : Ws w a m cap u) (hm : m ≤ 9223372036854775807) (ho : 0 < m → ∀ y, a = some y → y.block < w0.heap.size) :
    Calls Try.prog 9 #[.pointer (some ⟨gp, 0, none⟩), .slice a m cap] w fun e w' => e = .returned (.tuple #[.agg #[.int .u64 (hiI (drawR (hasW u m) (cutF f W) n 9 tp).1), .int .u64 (loI (drawR (hasW u m) (cutF f W) n 9 tp).1)], .int .i64 (drawR (hasW u m) (cutF f W) n 9 tp).2.1]) ∧ Two w0 w' gp bp gr br n f W (drawR (hasW u m) (cutF f W) n 9 tp).2.2 tr ∧ But (· = gp) w w' := by
  refine (idraw_any h.p (cutF_small h.r.small W n) hw hm (fun h0 x hx e => by have := ho h0 x hx; have := h.hp; omega)).mono ?_
  rintro e w' ⟨rfl, hD, hB⟩
  exact ⟨rfl, h.stepP hD hB, hB⟩
theorem Two.rdraw {w0 w : World} {gp bp gr br n : Nat} {f : Nat → Nat} {W : Int} {tp tr : Nat} (h : Two w0 w gp bp gr br n f W tp tr) {a : Option Addr} {m cap : Nat} {u : Nat → Nat} (hw : Ws w a m cap u) (hm : m ≤ 9223372036854775807) (ho : 0 < m → ∀ y, a = some y → y.block < w0.heap.size) :
    Calls Try.prog 16 #[.pointer (some ⟨gr, 0, none⟩), .slice a m cap] w fun e w' => e = .returned (.tuple #[.agg #[.int .u64 (hiI (drawR (hasW u m) (cutF f W) n 9 tr).1), .int .u64 (loI (drawR (hasW u m) (cutF f W) n 9 tr).1)], .int .i64 (drawR (hasW u m) (cutF f W) n 9 tr).2.1]) ∧ Two w0 w' gp bp gr br n f W tp (drawR (hasW u m) (cutF f W) n 9 tr).2.2 ∧ But (· = gr) w w' := by
  refine (rdraw_any h.r hw hm (fun h0 x hx e => by have := ho h0 x hx; have := h.hr; omega)).mono ?_
  rintro e w' ⟨rfl, hD, hB⟩
  exact ⟨rfl, h.stepR hD hB, hB⟩
theorem Two.skip {w0 w : World} {gp bp gr br n : Nat} {f : Nat → Nat} {W : Int} {tp tr : Nat} (h : Two w0 w gp bp gr br n f W tp tr) (k : Int) :
    Calls Try.prog 8 #[.pointer (some ⟨gp, 0, none⟩), .int .i64 k] w fun e w' => (∃ c, e = .returned (.int .i64 c)) ∧ Two w0 w' gp bp gr br n f W (skipN tp n k) tr := by
  refine (skip_any h.p k).mono ?_
  rintro e w' ⟨he, hD, hB⟩
  exact ⟨he, h.stepP hD hB⟩
theorem Two.rskip {w0 w : World} {gp bp gr br n : Nat} {f : Nat → Nat} {W : Int} {tp tr : Nat} (h : Two w0 w gp bp gr br n f W tp tr) (k : Int) :
    Calls Try.prog 15 #[.pointer (some ⟨gr, 0, none⟩), .int .i64 k] w fun e w' => (∃ c, e = .returned (.int .i64 c)) ∧ Two w0 w' gp bp gr br n f W tp (skipN tr n k) := by
  refine (rskip_any h.r k).mono ?_
  rintro e w' ⟨he, hD, hB⟩
  exact ⟨he, h.stepR hD hB⟩
theorem wNe_self (a b : Int) (w : World) : (binOp .neq 31 (.agg #[.int .u64 a, .int .u64 b]) (.agg #[.int .u64 a, .int .u64 b])).run Try.prog w = .ok (.bool false) w := by
  rw [neqW, wEq_self]; rfl
end Go.Proofs.Ytciidjhadijhdaa.D
