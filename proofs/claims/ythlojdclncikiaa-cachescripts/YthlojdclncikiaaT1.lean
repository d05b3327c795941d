import Derived.Test.YthlojdclncikiaaM4
namespace Go.Proofs.Ythlojdclncikiaa
open Go.RowKit
set_option linter.unusedVariables false
set_option linter.unusedSimpArgs false

/-- The program's cache and the document's, side by side. -/
structure Both (w0 w : World) (g r s n k : Nat) (T : Nat → List Pu) (E : Nat) (hi mi : Int) (pa : Option Addr) (cap : Nat) (L : List Pu) (F : Nat) (hj mj : Int) : Prop where
  kc : Kc w g s n k T E hi mi
  rc : Rc w w0.heap.size r s n k pa cap L F hj mj
  ne : g ≠ r
  ap : ∀ j, Blk pa j → j ≠ g
  lo : w0.heap.size ≤ g
  bl : Below w0.heap.size w0 w
variable {w0 w w' : World} {g r s n k : Nat} {T T' : Nat → List Pu} {E E' : Nat} {hi mi hi' mi' : Int} {pa pb : Option Addr} {cap cap' : Nat} {L L' : List Pu} {F F' : Nat} {hj mj hj' mj' : Int}
theorem Both.pk (h : Both w0 w g r s n k T E hi mi pa cap L F hj mj) (hk : Kc w' g s n k T' E' hi' mi') (hb : But (fun x => x = g) w w') : Both w0 w' g r s n k T' E' hi' mi' pa cap L F hj mj :=
  ⟨hk, h.rc.but hb (fun e => h.ne e.symm) (fun j hj => h.ap j hj), h.ne, h.ap, h.lo, But.below h.bl hb (fun j hj => by have := h.lo; omega)⟩
theorem Both.pr (h : Both w0 w g r s n k T E hi mi pa cap L F hj mj) (hr : Rc w' w0.heap.size r s n k pb cap' L' F' hj' mj') (hq : Wq w w' r pa pb) : Both w0 w' g r s n k T E hi mi pb cap' L' F' hj' mj' :=
  ⟨h.kc.but hq.but (fun e => by
    rcases e with e | e
    · exact h.ne e
    · exact h.ap _ e rfl), hr, h.ne, fun j hj => by
      rcases hq.on j hj with e | e
      · exact h.ap j e
      · have := h.kc.lt; omega, h.lo, But.below h.bl hq.but (fun j hj => by
      rcases hj with e | e
      · have := h.rc.lo; omega
      · exact (h.rc.own.blk j e).1)⟩
theorem Both.pq (h : Both w0 w g r s n k T E hi mi pa cap L F hj mj) (hr : Rc w' w0.heap.size r s n k pa cap' L' F' hj' mj') (hb : But (fun j => j = r) w w') : Both w0 w' g r s n k T E hi mi pa cap' L' F' hj' mj' :=
  h.pr hr ⟨hb.mono (fun j hj => .inl hj), fun j hj => .inl hj⟩
theorem Both.later (h : Both w0 w g r s n k T E hi mi pa cap L F hj mj) (hb : Below w.heap.size w w') : Both w0 w' g r s n k T E hi mi pa cap L F hj mj :=
  ⟨h.kc.later hb, h.rc.later hb, h.ne, h.ap, h.lo, h.bl.trans (hb.mono h.bl.size)⟩
theorem Rc.mono {base b : Nat} (h : Rc w base r s n k pa cap L F hj mj) (hb : b ≤ base) : Rc w b r s n k pa cap L F hj mj :=
  ⟨h.c0, h.c1, h.c2, h.ce, h.ch, h.cm, h.cl, h.own.mono hb, h.ap, Nat.le_trans hb h.lo, h.ls, h.n1, h.n4⟩
/-- Both hold the same. -/
structure Like (s n k : Nat) (T : Nat → List Pu) (L : List Pu) : Prop where
  tie : Tie s n k T L
  z : s = 0 → L = []
theorem Like.zero (s n k : Nat) : Like s n k T0 [] := ⟨Tie.zero s n k, fun _ => rfl⟩
theorem Like.get (h : Like s n k T L) (c : Cp) : getT s k T c = getS L c := by
  by_cases hs : s = 0
  · rw [h.z hs]; subst hs; rfl
  · exact h.tie.get hs c
theorem Like.small (h : Like s n k T L) (h16 : s ≤ 16) (h4 : n ≤ 4) : L.length ≤ 64 := by
  by_cases hs : s = 0
  · rw [h.z hs]; simp
  · exact h.tie.small hs h16 h4
/-- The document's Put. -/
theorem rput_any {base : Nat} (h : Rc w base r s n k pa cap L F hj mj) (hl : Like s n k T L) (c : Cp) (m : Int) (hc : okC c) :
    Calls Try.prog 17 #[.pointer (some ⟨r, 0, none⟩), .agg #[.int .i64 c.1, .int .u64 (c.2.1 : Int), .int .u64 (c.2.2 : Int)], .int .i64 m] w fun x w' => ∃ L' pb c', x = .returned (.tuple #[]) ∧ Like s n k (putT s n k T c m) L' ∧ Rc w' base r s n k pb c' L' F hj mj ∧ Wq w w' r pa pb := by
  by_cases hs : s = 0
  · refine (rput_none h c m hs).mono ?_
    rintro x w' ⟨rfl, hb⟩
    refine ⟨L, pa, cap, rfl, ?_, h.later hb, Wq.refl _ _ hb⟩
    unfold putT
    rw [if_pos hs]
    exact hl
  · refine (rput_ok h c m hc hl.tie.ok (by omega) (hl.small h.ls h.n4)).mono ?_
    rintro x w' ⟨rfl, M, hM, pb, ⟨c', hr⟩, hq⟩
    exact ⟨M ++ [(c, m)], pb, c', rfl, ⟨hl.tie.put hs h.n1 c m hc hM, fun e => absurd e hs⟩, hr, hq⟩
/-- A call of a script: its kind, its capability, its number. -/
abbrev Opr := Int × Cp × Int
structure Sb (w : World) (b o : Nat) (s : Opr) : Prop where
  c0 : w.cell? ⟨b, o, none⟩ = some (.int .i64 s.1)
  c1 : w.cell? ⟨b, o + 1, none⟩ = some (.int .i64 s.2.1.1)
  c2 : w.cell? ⟨b, o + 2, none⟩ = some (.int .u64 (s.2.1.2.1 : Int))
  c3 : w.cell? ⟨b, o + 3, none⟩ = some (.int .u64 (s.2.1.2.2 : Int))
  c4 : w.cell? ⟨b, o + 4, none⟩ = some (.int .i64 s.2.2)
theorem Sb.but {S : Nat → Prop} {b o : Nat} {x : Opr} (h : Sb w b o x) (hb : But S w w') (hn : ¬ S b) : Sb w' b o x := ⟨cell_but hb h.c0 hn, cell_but hb h.c1 hn, cell_but hb h.c2 hn, cell_but hb h.c3 hn, cell_but hb h.c4 hn⟩
theorem Sb.later {b o : Nat} {x : Opr} (h : Sb w b o x) (hb : Below w.heap.size w w') : Sb w' b o x := h.but (S := fun _ => False) (But.of hb) (fun h => h)
/-- A script of n calls. -/
def Ss (w : World) (a : Option Addr) (n : Nat) (f : Nat → Opr) : Prop := 0 < n → ∃ b o, a = some ⟨b, o, none⟩ ∧ ∀ i, i < n → Sb w b (o + i * 5) (f i) ∧ okC (f i).2.1
/-- How far the script has come. -/
def PlRel (w0 : World) (g r s n k N : Nat) (t : Value) (w : World) : Prop :=
  ∃ (i : Nat) (T : Nat → List Pu) (E : Nat) (hi mi : Int) (pa : Option Addr) (cap : Nat) (L : List Pu), i ≤ N ∧ t = .int .i64 (i : Int) ∧ Like s n k T L ∧ Both w0 w g r s n k T E hi mi pa cap L E hi mi
/-- A hit or a miss is counted. -/
def hitN (q : Bool) (hi : Int) : Int := if q then wrap64 (hi + 1) else hi
def missN (q : Bool) (mi : Int) : Int := if q then mi else wrap64 (mi + 1)
theorem kget2 (h : Kc w g s n k T E hi mi) (hl : Like s n k T L) (c : Cp) (hc : okC c) :
    Calls Try.prog 12 #[.pointer (some ⟨g, 0, none⟩), .agg #[.int .i64 c.1, .int .u64 (c.2.1 : Int), .int .u64 (c.2.2 : Int)]] w fun x w' => x = .returned (.tuple #[.int .i64 (getS L c).1, .bool (getS L c).2]) ∧ Kc w' g s n k T E (hitN (getS L c).2 hi) (missN (getS L c).2 mi) ∧ But (fun k => k = g) w w' := by
  have := kget h c hc
  rw [hl.get] at this
  exact this
theorem rget2 {base : Nat} (h : Rc w base r s n k pa cap L E hi mi) (hl : Like s n k T L) (c : Cp) :
    Calls Try.prog 16 #[.pointer (some ⟨r, 0, none⟩), .agg #[.int .i64 c.1, .int .u64 (c.2.1 : Int), .int .u64 (c.2.2 : Int)]] w fun x w' => x = .returned (.tuple #[.int .i64 (getS L c).1, .bool (getS L c).2]) ∧ Rc w' base r s n k pa cap L E (hitN (getS L c).2 hi) (missN (getS L c).2 mi) ∧ But (fun j => j = r) w w' := rget_any h c (hl.small h.ls h.n4)
end Go.Proofs.Ythlojdclncikiaa
