import Derived.Test.YtcagghfkomodlaaT2
import Derived.Test.YtcagghfkomodlaaT3
import Derived.Test.YtcagghfkomodlaaT4
import Derived.Test.YtcagghfkomodlaaT5
import Derived.Test.YtcagghfkomodlaaT6
namespace Go.Proofs.Ytcagghfkomodlaa
open Go.RowKit
set_option linter.unusedVariables false
set_option linter.unusedSimpArgs false

/-- A step of the script. -/
structure Sp where
  sec : Bool
  kd : Int
  c : Cp
  n : Int
  la : Option Addr
  ln : Nat
  lc : Nat
  P : List Int
def stpV (s : Sp) : Value := .agg #[.bool s.sec, .int .i64 s.kd, .int .i64 s.c.1, .int .u64 (s.c.2.1 : Int), .int .u64 (s.c.2.2 : Int), .int .i64 s.n, .slice s.la s.ln s.lc]
structure Sb (w : World) (b o : Nat) (s : Sp) : Prop where
  c0 : w.cell? ⟨b, o, none⟩ = some (.bool s.sec)
  c1 : w.cell? ⟨b, o + 1, none⟩ = some (.int .i64 s.kd)
  c2 : w.cell? ⟨b, o + 2, none⟩ = some (.int .i64 s.c.1)
  c3 : w.cell? ⟨b, o + 3, none⟩ = some (.int .u64 (s.c.2.1 : Int))
  c4 : w.cell? ⟨b, o + 4, none⟩ = some (.int .u64 (s.c.2.2 : Int))
  c5 : w.cell? ⟨b, o + 5, none⟩ = some (.int .i64 s.n)
  c6 : w.cell? ⟨b, o + 6, none⟩ = some (.slice s.la s.ln s.lc)
  row : Row w s.la s.ln s.lc (ints s.P)
  small : s.ln ≤ 1048576
theorem Sb.later {w w' : World} {b o : Nat} {s : Sp} (hb : Below w.heap.size w w') (h : Sb w b o s) : Sb w' b o s :=
  ⟨cell_later hb h.c0, cell_later hb h.c1, cell_later hb h.c2, cell_later hb h.c3, cell_later hb h.c4, cell_later hb h.c5, cell_later hb h.c6, h.row.later hb, h.small⟩
/-- A script of n steps. -/
def Ss (w : World) (a : Option Addr) (n : Nat) (f : Nat → Sp) : Prop := 0 < n → ∃ b o, a = some ⟨b, o, none⟩ ∧ ∀ i, i < n → Sb w b (o + i * 7) (f i)
variable {w w' : World} {base g r : Nat} {m : Int} {pa : Option Addr} {ca : Nat} {pb : Option Addr} {cb : Nat} {K : List Cp}
theorem step_any (h : Duo w base g r m pa ca pb cb K) (s : Sp) (hP : Row w s.la s.ln s.lc (ints s.P)) (hl : s.ln ≤ 1048576) :
    Calls Try.prog 18 #[.agg #[.pointer (some ⟨g, 0, none⟩), .pointer (some ⟨r, 0, none⟩)], .agg #[.bool s.sec, .int .i64 s.kd, .int .i64 s.c.1, .int .u64 (s.c.2.1 : Int), .int .u64 (s.c.2.2 : Int), .int .i64 s.n, .slice s.la s.ln s.lc]] w (Did w base g r m pa pb) := by
  by_cases k0 : s.kd = 0
  · rw [k0]
    by_cases hf : m ≤ (K.length : Int)
    · exact step_add_full h _ _ _ _ _ _ hf
    · exact step_add_more h _ _ _ _ _ _ hf
  · by_cases k1 : s.kd = 1
    · rw [k1]
      by_cases hok : okI K s.n = true
      · obtain ⟨k, hk, _, hkc⟩ := atC_ok hok
        have := step_rem_ok h s.sec s.c s.la s.ln s.lc k _ hkc
        rw [← hk] at this
        exact this
      · exact step_rem_bad h _ _ _ _ _ _ (by simpa using hok)
    · by_cases k2 : s.kd = 2
      · rw [k2]
        by_cases hok : okI K s.n = true
        · obtain ⟨k, hk, _, hkc⟩ := atC_ok hok
          have := step_at_ok h s.sec s.c s.la s.ln s.lc k _ hkc
          rw [← hk] at this
          exact this
        · exact step_at_bad h _ _ _ _ _ _ (by simpa using hok)
      · by_cases k3 : s.kd = 3
        · rw [k3]; exact step_all h _ _ _ _ _ _
        · by_cases k4 : s.kd = 4
          · rw [k4]; exact step_pick h _ _ _ _ _ _ hP hl
          · exact step_other h _ _ _ _ _ _ _ k0 k1 k2 k3 k4
/-- A pair, or two nils; S: what its calls may write. -/
def Pd (ok : Bool) (w : World) (base : Nat) (m : Int) (vp vr : Value) (S : Nat → Prop) : Prop :=
  match ok with
  | true => ∃ g r pa ca pb cb K, vp = .pointer (some ⟨g, 0, none⟩) ∧ vr = .pointer (some ⟨r, 0, none⟩) ∧ Duo w base g r m pa ca pb cb K ∧ S = Two g pa r pb
  | false => S = fun _ => False
theorem Pd.blk {ok : Bool} {vp vr : Value} {S : Nat → Prop} (h : Pd ok w base m vp vr S) : ∀ k, S k → base ≤ k ∧ k < w.heap.size := fun k hk => by
  cases ok with
  | true =>
    obtain ⟨g, r, pa, ca, pb, cb, K, _, _, hd, rfl⟩ := h
    exact hd.blk k hk
  | false =>
    have h : S = fun _ => False := h
    subst h
    exact hk.elim
theorem Pd.but {ok : Bool} {vp vr : Value} {S T : Nat → Prop} (h : Pd ok w base m vp vr S) (hb : But T w w') (hn : ∀ k, S k → ¬ T k) : Pd ok w' base m vp vr S := by
  cases ok with
  | true =>
    obtain ⟨g, r, pa, ca, pb, cb, K, e1, e2, hd, rfl⟩ := h
    exact ⟨g, r, pa, ca, pb, cb, K, e1, e2, hd.but hb hn, rfl⟩
  | false => exact h
theorem Pd.later {ok : Bool} {vp vr : Value} {S : Nat → Prop} (h : Pd ok w base m vp vr S) (hb : Below w.heap.size w w') : Pd ok w' base m vp vr S := h.but (T := fun _ => False) (But.of hb) (fun _ _ h => h)
/-- A step of a pair. -/
theorem Pd.step {S : Nat → Prop} (h : Pd true w base m (.pointer (some ⟨g, 0, none⟩)) (.pointer (some ⟨r, 0, none⟩)) S) (s : Sp) (hP : Row w s.la s.ln s.lc (ints s.P)) (hl : s.ln ≤ 1048576) :
    Calls Try.prog 18 #[.agg #[.pointer (some ⟨g, 0, none⟩), .pointer (some ⟨r, 0, none⟩)], .agg #[.bool s.sec, .int .i64 s.kd, .int .i64 s.c.1, .int .u64 (s.c.2.1 : Int), .int .u64 (s.c.2.2 : Int), .int .i64 s.n, .slice s.la s.ln s.lc]] w fun e w' =>
      ∃ S', e = .returned (.bool true) ∧ Pd true w' base m (.pointer (some ⟨g, 0, none⟩)) (.pointer (some ⟨r, 0, none⟩)) S' ∧ But S w w' ∧ ∀ k, S' k → S k ∨ w.heap.size ≤ k := by
  obtain ⟨g', r', pa, ca, pb, cb, K, e1, e2, hd, rfl⟩ := h
  cases e1
  cases e2
  refine (step_any hd s hP hl).mono ?_
  rintro e w' ⟨pa', ca', pb', cb', K', rfl, hd', hm⟩
  exact ⟨_, rfl, ⟨_, _, pa', ca', pb', cb', K', rfl, rfl, hd', rfl⟩, hm.but, hm.on⟩
/-- A new pair. -/
theorem Pd.new {w1 w2 : World} (h1 : Dm w1 w.heap.size g m none 0 []) (h2 : Dm w2 w1.heap.size r m none 0 []) (hb1 : Below w.heap.size w w1) (hb2 : Below w1.heap.size w1 w2) (hm1 : 1 ≤ m) (hm2 : m ≤ 32) : Pd true w2 w.heap.size m (.pointer (some ⟨g, 0, none⟩)) (.pointer (some ⟨r, 0, none⟩)) (Two g none r none) :=
  ⟨g, r, none, 0, none, 0, [], rfl, rfl, ⟨h1.later hb2, h2.mono hb1.size, fun k e1 e2 => by
    have := (h1.blk k e1).2
    have := (h2.blk k e2).1
    omega, by simp; omega, hm2⟩, rfl⟩
theorem Pd.nil (w : World) (base : Nat) (m : Int) (vp vr : Value) : Pd false w base m vp vr (fun _ => False) := rfl
theorem Pd.mono {ok : Bool} {vp vr : Value} {S : Nat → Prop} {b : Nat} (h : Pd ok w base m vp vr S) (hb : b ≤ base) : Pd ok w b m vp vr S := by
  cases ok with
  | true =>
    obtain ⟨g, r, pa, ca, pb, cb, K, e1, e2, hd, rfl⟩ := h
    exact ⟨g, r, pa, ca, pb, cb, K, e1, e2, ⟨hd.p.mono hb, hd.q.mono hb, hd.ap, hd.le, hd.m32⟩, rfl⟩
  | false => exact h
/-- Both pairs and their boxes. -/
structure Al (w0 w : World) (ok1 ok2 : Bool) (m1 m2 : Int) (p r q s : Value) (bx : Nat) (S1 S2 : Nat → Prop) : Prop where
  one : Pd ok1 w w0.heap.size m1 p r S1
  two : Pd ok2 w w0.heap.size m2 q s S2
  ap : ∀ k, S1 k → ¬ S2 k
  n1 : ¬ S1 bx ∧ ¬ S1 (bx + 1)
  n2 : ¬ S2 bx ∧ ¬ S2 (bx + 1)
  lt : bx + 1 < w.heap.size
  x0 : w.cell? ⟨bx, 0, none⟩ = some p
  x1 : w.cell? ⟨bx, 1, none⟩ = some r
  y0 : w.cell? ⟨bx + 1, 0, none⟩ = some q
  y1 : w.cell? ⟨bx + 1, 1, none⟩ = some s
  bl : Below w0.heap.size w0 w
variable {w0 : World} {ok1 ok2 : Bool} {m1 m2 : Int} {p q r' s' : Value} {bx : Nat} {S1 S2 : Nat → Prop}
theorem Al.later (h : Al w0 w ok1 ok2 m1 m2 p r' q s' bx S1 S2) (hb : Below w.heap.size w w') : Al w0 w' ok1 ok2 m1 m2 p r' q s' bx S1 S2 :=
  ⟨h.one.later hb, h.two.later hb, h.ap, h.n1, h.n2, Nat.lt_of_lt_of_le h.lt hb.size, cell_later hb h.x0, cell_later hb h.x1, cell_later hb h.y0, cell_later hb h.y1, h.bl.trans (hb.mono h.bl.size)⟩
theorem Al.below1 (h : Al w0 w ok1 ok2 m1 m2 p r' q s' bx S1 S2) (hb : But S1 w w') : Below w0.heap.size w0 w' :=
  ⟨hb.os.trans h.bl.os, hb.tape.trans h.bl.tape, hb.output.trans h.bl.output, Nat.le_trans h.bl.size hb.size, fun k hk => (hb.block k (by have := h.bl.size; omega) (fun e => by have := (h.one.blk k e).1; omega)).trans (h.bl.block k hk)⟩
theorem Al.below2 (h : Al w0 w ok1 ok2 m1 m2 p r' q s' bx S1 S2) (hb : But S2 w w') : Below w0.heap.size w0 w' :=
  ⟨hb.os.trans h.bl.os, hb.tape.trans h.bl.tape, hb.output.trans h.bl.output, Nat.le_trans h.bl.size hb.size, fun k hk => (hb.block k (by have := h.bl.size; omega) (fun e => by have := (h.two.blk k e).1; omega)).trans (h.bl.block k hk)⟩
/-- Behind a step of the first. -/
theorem Al.step1 {S' : Nat → Prop} (h : Al w0 w ok1 ok2 m1 m2 p r' q s' bx S1 S2) (hp : Pd ok1 w' w0.heap.size m1 p r' S') (hb : But S1 w w') (hon : ∀ k, S' k → S1 k ∨ w.heap.size ≤ k) : Al w0 w' ok1 ok2 m1 m2 p r' q s' bx S' S2 := by
  have hlt := h.lt
  refine ⟨hp, h.two.but hb (fun k h1 h2 => h.ap k h2 h1), fun k h1 h2 => ?_, ⟨fun e => ?_, fun e => ?_⟩, h.n2, Nat.lt_of_lt_of_le hlt hb.size, cell_but hb h.x0 h.n1.1, cell_but hb h.x1 h.n1.1, cell_but hb h.y0 h.n1.2, cell_but hb h.y1 h.n1.2, h.below1 hb⟩
  · rcases hon k h1 with e | e
    · exact h.ap k e h2
    · have := (h.two.blk k h2).2; omega
  · rcases hon _ e with e | e
    · exact h.n1.1 e
    · omega
  · rcases hon _ e with e | e
    · exact h.n1.2 e
    · omega
theorem Al.step2 {S' : Nat → Prop} (h : Al w0 w ok1 ok2 m1 m2 p r' q s' bx S1 S2) (hp : Pd ok2 w' w0.heap.size m2 q s' S') (hb : But S2 w w') (hon : ∀ k, S' k → S2 k ∨ w.heap.size ≤ k) : Al w0 w' ok1 ok2 m1 m2 p r' q s' bx S1 S' := by
  have hlt := h.lt
  refine ⟨h.one.but hb (fun k h1 h2 => h.ap k h1 h2), hp, fun k h1 h2 => ?_, h.n1, ⟨fun e => ?_, fun e => ?_⟩, Nat.lt_of_lt_of_le hlt hb.size, cell_but hb h.x0 h.n2.1, cell_but hb h.x1 h.n2.1, cell_but hb h.y0 h.n2.2, cell_but hb h.y1 h.n2.2, h.below2 hb⟩
  · rcases hon k h2 with e | e
    · exact h.ap k h1 e
    · have := (h.one.blk k h1).2; omega
  · rcases hon _ e with e | e
    · exact h.n2.1 e
    · omega
  · rcases hon _ e with e | e
    · exact h.n2.2 e
    · omega
/-- How far the script has come. -/
def AlRel (w0 : World) (ok1 ok2 : Bool) (m1 m2 : Int) (p r q s : Value) (bx n : Nat) (t : Value) (w : World) : Prop :=
  ∃ (i : Nat) (S1 S2 : Nat → Prop), i ≤ n ∧ t = .int .i64 (i : Int) ∧ Al w0 w ok1 ok2 m1 m2 p r q s bx S1 S2
end Go.Proofs.Ytcagghfkomodlaa
