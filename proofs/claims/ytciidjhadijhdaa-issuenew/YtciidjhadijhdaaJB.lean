import Derived.Test.YtciidjhadijhdaaJA
namespace Go.Proofs.Ytciidjhadijhdaa.D
open Go.RowKit
open Go.Proofs.Ytciidjhadijhdaa.H (B64)
set_option linter.unusedVariables false

/-- The width as the law takes it. -/
def wid (v : Int) : Int := 1 + v.tmod 128 % 128
/-- Where the law begins. -/
def att (z : Int) (n : Nat) : Nat := ((z.tmod ((n : Int) + 1) + (n : Int) + 1).tmod ((n : Int) + 1)).toNat
theorem at_in (z : Int) (n : Nat) (hn : n ≤ 500) : att z n ≤ n ∧ (z.tmod ((n : Int) + 1) + (n : Int) + 1).tmod ((n : Int) + 1) = (att z n : Int) ∧ -((n : Int) + 1) < z.tmod ((n : Int) + 1) ∧ z.tmod ((n : Int) + 1) < (n : Int) + 1 := by
  have t1 : -((n : Int) + 1) < z.tmod ((n : Int) + 1) := Int.lt_tmod_of_pos z (by omega)
  have t2 : z.tmod ((n : Int) + 1) < (n : Int) + 1 := Int.tmod_lt_of_pos z (by omega)
  have t3 : 0 ≤ (z.tmod ((n : Int) + 1) + (n : Int) + 1).tmod ((n : Int) + 1) := Int.tmod_nonneg _ (by omega)
  have t4 : (z.tmod ((n : Int) + 1) + (n : Int) + 1).tmod ((n : Int) + 1) < (n : Int) + 1 := Int.tmod_lt_of_pos _ (by omega)
  unfold att
  exact ⟨by omega, by omega, t1, t2⟩
/-- The law's draws, its room and the list that came in. -/
structure Nw (w0 w' : World) (g gb n : Nat) (c : Nat → Nat) (t : Nat) (x : Option Addr) (m mc : Nat) (u : Nat → Nat) (rb : Nat) (rm : Nat → Nat) : Prop where
  d : Dr w' g gb n c t
  r : Ar w' rb (m + 2) rm
  s : Ws w' x m mc u
  n1 : rb ≠ g
  n2 : 0 < n → gb ≠ rb
  n3 : 0 < m → ∀ y, x = some y → y.block ≠ g ∧ y.block ≠ rb
  hg : w0.heap.size ≤ g
  hr : w0.heap.size ≤ rb
  hb : Below w0.heap.size w0 w'
theorem Nw.later {w0 w w' : World} {g gb n : Nat} {c : Nat → Nat} {t : Nat} {x : Option Addr} {m mc : Nat} {u : Nat → Nat} {rb : Nat} {rm : Nat → Nat} (h : Nw w0 w g gb n c t x m mc u rb rm) (hb : Below w.heap.size w w') : Nw w0 w' g gb n c t x m mc u rb rm :=
  ⟨h.d.later hb, h.r.later hb, h.s.later hb, h.n1, h.n2, h.n3, h.hg, h.hr, below_call h.hb hb⟩
theorem Nw.drew {w0 w w' : World} {g gb n : Nat} {c : Nat → Nat} {t t' : Nat} {x : Option Addr} {m mc : Nat} {u : Nat → Nat} {rb : Nat} {rm : Nat → Nat} (h : Nw w0 w g gb n c t x m mc u rb rm) (hb : But (· = g) w w') (hd : Dr w' g gb n c t') : Nw w0 w' g gb n c t' x m mc u rb rm :=
  ⟨hd, h.r.but hb h.n1, h.s.butN hb (fun h0 y hy => (h.n3 h0 y hy).1), h.n1, h.n2, h.n3, h.hg, h.hr, below_but h.hb hb h.hg⟩
theorem Nw.skip {w0 w : World} {g gb n : Nat} {c : Nat → Nat} {t : Nat} {x : Option Addr} {m mc : Nat} {u : Nat → Nat} {rb : Nat} {rm : Nat → Nat} (h : Nw w0 w g gb n c t x m mc u rb rm) (k : Nat) (hk : k ≤ n) :
    Calls Try.prog 8 #[.pointer (some ⟨g, 0, none⟩), .int .i64 (k : Int)] w fun e w' => e = .returned (.int .i64 0) ∧ Nw w0 w' g gb n c k x m mc u rb rm ∧ But (· = g) w w' := by
  refine (skip_ok g gb n c t k w h.d hk).mono ?_
  rintro e w' ⟨rfl, hD, hB⟩
  exact ⟨rfl, h.drew hB hD, hB⟩
theorem Nw.draw {w0 w : World} {g gb n : Nat} {c : Nat → Nat} {t : Nat} {x : Option Addr} {m mc : Nat} {u : Nat → Nat} {rb : Nat} {rm : Nat → Nat} (h : Nw w0 w g gb n c t x m mc u rb rm) (hcs : ∀ i, i < n → c i < B64 * B64) (hrs : ∀ i, rm i < B64 * B64) (hm : (m + 2) * 16 ≤ 140737488355328) (rc : Nat) (hrc : m ≤ rc) :
    Calls Try.prog 9 #[.pointer (some ⟨g, 0, none⟩), .slice (some ⟨rb, 0, none⟩) m rc] w fun e w' => e = .returned (.tuple #[.agg #[.int .u64 (hiI (drawR (hasW rm m) c n 9 t).1), .int .u64 (loI (drawR (hasW rm m) c n 9 t).1)], .int .i64 (drawR (hasW rm m) c n 9 t).2.1]) ∧ Nw w0 w' g gb n c (drawR (hasW rm m) c n 9 t).2.2 x m mc u rb rm ∧ But (· = g) w w' := by
  refine (idraw_any h.d hcs ((h.r.take (m := m) (by omega)).ws hrc hrs) (by omega) (fun _ y hy => by cases hy; exact h.n1)).mono ?_
  rintro e w' ⟨rfl, hD, hB⟩
  exact ⟨rfl, h.drew hB hD, hB⟩
theorem Nw.one {w0 w : World} {g gb n : Nat} {c : Nat → Nat} {t : Nat} {x : Option Addr} {m mc : Nat} {u : Nat → Nat} {rb : Nat} {rm : Nat → Nat} (h : Nw w0 w g gb n c t x m mc u rb rm) (ht : t < n) :
    Calls Try.prog 11 #[.pointer (some ⟨g, 0, none⟩)] w fun e w' => e = .returned (.tuple #[.agg #[.int .u64 (hiI (c t)), .int .u64 (loI (c t))], .int .i64 0]) ∧ Nw w0 w' g gb n c (t + 1) x m mc u rb rm ∧ But (· = g) w w' := by
  refine (draw_more g gb n c t w h.d ht).mono ?_
  rintro e w' ⟨rfl, hD, hB⟩
  exact ⟨rfl, h.drew hB hD, hB⟩
/-- The room's first word is written over. -/
def over (rm : Nat → Nat) (N i : Nat) : Nat := if i = 0 then N else rm i
theorem Nw.over {w0 w : World} {g gb n : Nat} {c : Nat → Nat} {t : Nat} {x : Option Addr} {m mc : Nat} {u : Nat → Nat} {rb : Nat} {rm : Nat → Nat} (h : Nw w0 w g gb n c t x m mc u rb rm) (N : Nat) :
    Nw w0 ((w.setCell ⟨rb, 0, none⟩ (.int .u64 (hiI N))).setCell ⟨rb, 1, none⟩ (.int .u64 (loI N))) g gb n c t x m mc u rb (over rm N) := by
  have hb : But (· = rb) w ((w.setCell ⟨rb, 0, none⟩ (.int .u64 (hiI N))).setCell ⟨rb, 1, none⟩ (.int .u64 (loI N))) := ((But.refl (· = rb) w).own 0 _).own 1 _
  have ha := h.r.set (i := 0) (N := N) (g := D.over rm N) (by omega) (fun j hj => rfl)
  simp only [Nat.zero_mul, Nat.zero_add] at ha
  exact ⟨h.d.butN hb (fun e => h.n1 e.symm) (fun h0 e => h.n2 h0 e), ha, h.s.butN hb (fun h0 y hy => (h.n3 h0 y hy).2), h.n1, h.n2, h.n3, h.hg, h.hr, below_but h.hb hb h.hr⟩
theorem cutF_sm {f : Nat → Nat} (h : ∀ i, f i < B64 * B64) (W : Int) (n i : Nat) (hi : i < n) : cutF f W i < B64 * B64 := cutN_lt (h i) W
theorem wNe_num {N M : Nat} (h : N < B64 * B64) (k : M < B64 * B64) (hne : N ≠ M) (w : World) : (binOp .neq 31 (.agg #[.int .u64 (hiI N), .int .u64 (loI N)]) (.agg #[.int .u64 (hiI M), .int .u64 (loI M)])).run Try.prog w = .ok (.bool true) w := by
  rw [neqW, wEq_num h k, decide_eq_false hne]; rfl
theorem wNe_same (a b : Int) (w : World) : (binOp .neq 31 (.agg #[.int .u64 a, .int .u64 b]) (.agg #[.int .u64 a, .int .u64 b])).run Try.prog w = .ok (.bool false) w := by
  rw [neqW, wEq_self]; rfl
theorem wEq_same (a b : Int) (w : World) : (binOp .eql 31 (.agg #[.int .u64 a, .int .u64 b]) (.agg #[.int .u64 a, .int .u64 b])).run Try.prog w = .ok (.bool true) w := by
  rw [eqlW, wEq_self]
end Go.Proofs.Ytciidjhadijhdaa.D
