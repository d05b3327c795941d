import Derived.Test.YtnjadfgfpebkdaaGreatEB
import Derived.Test.YtnjadfgfpebkdaaGreatFA
import Derived.Test.YtnjadfgfpebkdaaGreatFB
import Derived.Test.YtnjadfgfpebkdaaGreatKA
namespace Go.Proofs.YtnjadfgfpebkdaaGreat.D
open Go.RowKit
open Go.Proofs.YtnjadfgfpebkdaaGreat.H (B64 Cp)
set_option linter.unusedVariables false

/-! ### Lists of lists, their blocks in colours -/
abbrev Sl := Option Addr × Nat × Nat
def sv (t : Sl) : Value := .slice t.1 t.2.1 t.2.2
def upd {X : Type} (f : Nat → X) (n : Nat) (x : X) : Nat → X := fun i => if i = n then x else f i
theorem upd_same {X : Type} (f : Nat → X) (n : Nat) (x : X) : upd f n x n = x := by simp [upd]
theorem upd_old {X : Type} (f : Nat → X) {n i : Nat} (x : X) (h : i ≠ n) : upd f n x i = f i := by simp [upd, h]
/-- Colours of blocks behind a base. -/
structure Cb (w : World) (base : Nat) (col : Nat → Nat) : Prop where
  lt : ∀ k, col k ≠ 0 → k < w.heap.size
  ge : ∀ k, col k ≠ 0 → base ≤ k
  hb : base ≤ w.heap.size
def paint (w w' : World) (c : Nat) (col : Nat → Nat) : Nat → Nat := fun k => if w.heap.size ≤ k ∧ k < w'.heap.size then c else col k
theorem paint_new {w w' : World} {col : Nat → Nat} {c k : Nat} (h1 : w.heap.size ≤ k) (h2 : k < w'.heap.size) : paint w w' c col k = c := by
  unfold paint
  rw [if_pos ⟨h1, h2⟩]
theorem paint_old {w w' : World} {col : Nat → Nat} {c k : Nat} (h1 : k < w.heap.size) : paint w w' c col k = col k := by
  unfold paint
  rw [if_neg (by omega)]
theorem Cb.paint {w w' : World} {base : Nat} {col : Nat → Nat} (h : Cb w base col) (hs : w.heap.size ≤ w'.heap.size) (c : Nat) : Cb w' base (paint w w' c col) := by
  refine ⟨fun k hk => ?_, fun k hk => ?_, Nat.le_trans h.hb hs⟩
  · unfold D.paint at hk
    split at hk
    · omega
    · have := h.lt k hk; omega
  · unfold D.paint at hk
    have := h.hb
    split at hk
    · omega
    · exact h.ge k hk
/-- A step that writes to blocks of one colour, and to new ones. -/
structure Stp (W : World) (col : Nat → Nat) (c : Nat) (W' : World) (col' : Nat → Nat) : Prop where
  but : But (fun k => col k = c) W W'
  old : ∀ k, k < W.heap.size → col' k = col k
/-- A list of capabilities, in a block of a colour. -/
structure Li (w : World) (base : Nat) (col : Nat → Nat) (x : Nat) (t : Sl) (K : List Cp) : Prop where
  ow : Ow w base 27 3 t.1 t.2.1 t.2.2 (caps K)
  kl : K.length = t.2.1
  ki : ∀ k, Blk t.1 k → col k = x
theorem Li.step {w w' : World} {base x c : Nat} {col col' : Nat → Nat} {t : Sl} {K : List Cp} (h : Li w base col x t K) (hx : x ≠ c) (s : Stp w col c w' col') : Li w' base col' x t K :=
  ⟨h.ow.but s.but (fun k hk e => hx (by rw [← h.ki k hk]; exact e)), h.kl, fun k hk => by rw [s.old k (h.ow.blk k hk).2]; exact h.ki k hk⟩
theorem Li.later {w w' : World} {base x : Nat} {col : Nat → Nat} {t : Sl} {K : List Cp} (h : Li w base col x t K) (hb : Below w.heap.size w w') : Li w' base col x t K := ⟨h.ow.later hb, h.kl, h.ki⟩
/-- A list of such lists. -/
structure Sf (w : World) (base : Nat) (col : Nat → Nat) (co ci : Nat) (a : Option Addr) (n cap : Nat) (T : Nat → Sl) (K : Nat → List Cp) : Prop where
  ou : Ow w base 48 1 a n cap ((List.range n).map fun i => sv (T i))
  ko : ∀ k, Blk a k → col k = co
  inn : ∀ i, i < n → Li w base col (ci + i) (T i) (K i)
theorem Sf.step {w w' : World} {base co ci c : Nat} {col col' : Nat → Nat} {a : Option Addr} {n cap : Nat} {T : Nat → Sl} {K : Nat → List Cp} (h : Sf w base col co ci a n cap T K) (h1 : co ≠ c) (h2 : ∀ i, i < n → ci + i ≠ c) (s : Stp w col c w' col') : Sf w' base col' co ci a n cap T K :=
  ⟨h.ou.but s.but (fun k hk e => h1 (by rw [← h.ko k hk]; exact e)), fun k hk => by rw [s.old k (h.ou.blk k hk).2]; exact h.ko k hk, fun i hi => (h.inn i hi).step (h2 i hi) s⟩
theorem Sf.later {w w' : World} {base co ci : Nat} {col : Nat → Nat} {a : Option Addr} {n cap : Nat} {T : Nat → Sl} {K : Nat → List Cp} (h : Sf w base col co ci a n cap T K) (hb : Below w.heap.size w w') : Sf w' base col co ci a n cap T K :=
  ⟨h.ou.later hb, h.ko, fun i hi => (h.inn i hi).later hb⟩
theorem Sf.nil (w : World) (base : Nat) (col : Nat → Nat) (co ci : Nat) (T : Nat → Sl) (K : Nat → List Cp) : Sf w base col co ci none 0 0 T K :=
  ⟨Ow.nil _ _ _ _, fun k hk => (by obtain ⟨_, h, _⟩ := hk; cases h), fun i hi => by omega⟩
theorem Sf.ext {w : World} {base co ci : Nat} {col : Nat → Nat} {a : Option Addr} {n cap : Nat} {T : Nat → Sl} {K K' : Nat → List Cp} (h : Sf w base col co ci a n cap T K) (e : ∀ i, i < n → K' i = K i) : Sf w base col co ci a n cap T K' :=
  ⟨h.ou, h.ko, fun i hi => by rw [e i hi]; exact h.inn i hi⟩
theorem info48 : (Tryz.prog.info? 48).map (fun i => (i.zero, i.size, i.bytes)) = some (some (.slice none 0 0), 1, 24) := by kernel_rfl
/-- More lists, at the end. -/
theorem Sf.more {u : World} {base : Nat} {col : Nat → Nat} {co ci : Nat} {a : Option Addr} {n cap : Nat} {T : Nat → Sl} {K : Nat → List Cp} (hcb : Cb u base col) (h : Sf u base col co ci a n cap T K) (m c : Nat) (x : Addr) (T' : Nat → Sl) (K' : Nat → List Cp) (hT : ∀ i, i < n → T' i = T i) (hK : ∀ i, i < n → K' i = K i)
    (hx : Cr u 1 (some x) m c ((List.range m).map fun j => sv (T' (n + j)))) (hN : ∀ j, j < m → Li u base col (ci + (n + j)) (T' (n + j)) (K' (n + j))) (hco : co ≠ 0) (hne : ∀ i, i < n + m → co ≠ ci + i) (hr : (n + m) * 24 ≤ 140737488355328) :
    ∃ a' cap' u', (Builtin.append_ #[65, 65] 65 #[.slice a n cap, .slice (some x) m c]).run Tryz.prog u = .ok (.slice a' (n + m) cap') u' ∧ Sf u' base (paint u u' co col) co ci a' (n + m) cap' T' K' ∧ Stp u col co u' (paint u u' co col) := by
  obtain ⟨a', cap', u', hrun, hO, hG⟩ := append_k 65 48 _ 1 24 Tryz.underlying65 info48 rfl (by omega) (by omega) h.ou hx hcb.hb hr
  have hB : But (fun k => col k = co) u u' := hG.but.mono (fun k hk => h.ko k hk)
  have hS : Stp u col co u' (D.paint u u' co col) := ⟨hB, fun k hk => paint_old hk⟩
  refine ⟨a', cap', u', hrun, ⟨?_, fun k hk2 => ?_, fun i hi => ?_⟩, hS⟩
  · have e1 : (List.range (n + m)).map (fun i => sv (T' i)) = (List.range n).map (fun i => sv (T i)) ++ (List.range m).map (fun j => sv (T' (n + j))) := by
      have e2 : (List.range n).map (fun i => sv (T' i)) = (List.range n).map (fun i => sv (T i)) := List.map_congr_left fun i hi => by rw [hT i (List.mem_range.1 hi)]
      rw [List.range_add, List.map_append, List.map_map, e2]
      rfl
    rw [e1]
    exact hO
  · rcases hG.on k hk2 with h1 | h1
    · rw [paint_old (h.ou.blk k h1).2]; exact h.ko k h1
    · exact paint_new h1 ((show Ow u' base 48 1 a' (n + m) cap' _ from hO).blk k hk2).2
  · by_cases ei : i < n
    · rw [hT i ei, hK i ei]
      exact (h.inn i ei).step (fun e => hne i (by omega) e.symm) hS
    · have := (hN (i - n) (by omega)).step (fun e => hne (n + (i - n)) (by omega) e.symm) hS
      rw [show n + (i - n) = i by omega] at this
      exact this
/-- The outer list's cells. -/
theorem Sf.cell {w : World} {base co ci : Nat} {col : Nat → Nat} {a : Option Addr} {n cap : Nat} {T : Nat → Sl} {K : Nat → List Cp} (h : Sf w base col co ci a n cap T K) {i : Nat} (hi : i < n) : ∃ g, a = some ⟨g, 0, none⟩ ∧ w.cell? ⟨g, i, none⟩ = some (.slice (T i).1 (T i).2.1 (T i).2.2) := by
  obtain ⟨g, e, hc⟩ := h.ou.at_ (by omega)
  exact ⟨g, e, hc i (sv (T i)) (by simp [hi])⟩
/-- One element is written. -/
theorem Sf.put {w : World} {base co ci : Nat} {col : Nat → Nat} {a : Option Addr} {n cap : Nat} {T : Nat → Sl} {K : Nat → List Cp} (h : Sf w base col co ci a n cap T K) {i j g li ca : Nat} (hi : i < n) (hT : T i = (some ⟨g, 0, none⟩, li, ca)) (c : Cp) (hne : co ≠ ci + i) :
    Sf (((w.setCell ⟨g, j * 3, none⟩ (.int .i64 c.1)).setCell ⟨g, j * 3 + 1, none⟩ (.int .u64 (c.2.1 : Int))).setCell ⟨g, j * 3 + 2, none⟩ (.int .u64 (c.2.2 : Int))) base col co ci a n cap T (upd K i ((K i).set j c)) ∧
      Stp w col (ci + i) (((w.setCell ⟨g, j * 3, none⟩ (.int .i64 c.1)).setCell ⟨g, j * 3 + 1, none⟩ (.int .u64 (c.2.1 : Int))).setCell ⟨g, j * 3 + 2, none⟩ (.int .u64 (c.2.2 : Int))) col := by
  have hg : col g = ci + i := (h.inn i hi).ki g ⟨_, by rw [hT], rfl⟩
  have hS : Stp w col (ci + i) (((w.setCell ⟨g, j * 3, none⟩ (.int .i64 c.1)).setCell ⟨g, j * 3 + 1, none⟩ (.int .u64 (c.2.1 : Int))).setCell ⟨g, j * 3 + 2, none⟩ (.int .u64 (c.2.2 : Int))) col :=
    ⟨(((But.refl _ w).setCell (p := ⟨g, j * 3, none⟩) hg _).setCell (p := ⟨g, j * 3 + 1, none⟩) hg _).setCell (p := ⟨g, j * 3 + 2, none⟩) hg _, fun k _ => rfl⟩
  refine ⟨⟨h.ou.but hS.but (fun k hk e => hne (by rw [← h.ko k hk]; exact e)), h.ko, fun i' hi' => ?_⟩, hS⟩
  by_cases e : i' = i
  · subst e
    rw [upd_same]
    have h1 := h.inn i' hi'
    refine ⟨?_, by rw [List.length_set]; exact h1.kl, h1.ki⟩
    have h2 := h1.ow
    rw [hT] at h2 ⊢
    rw [caps_set]
    exact ((h2.set1 _ _).set1 _ _).set1 _ _
  · rw [upd_old _ _ e]
    exact (h.inn i' hi').step (by omega) hS
/-- What stands around: the program's two worlds lie in blocks of no colour. -/
structure Gz (w0 W : World) (col : Nat → Nat) (H : Hd) (N : Nat → Prop) : Prop where
  bel : Below w0.heap.size w0 W
  cb : Cb W w0.heap.size col
  nc : ∀ k, N k → k < W.heap.size ∧ col k = 0 ∧ w0.heap.size ≤ k
  s1 : H.sb < W.heap.size ∧ col H.sb = 0
  s2 : H.rb < W.heap.size ∧ col H.rb = 0
theorem Gz.went {w0 W W' : World} {col : Nat → Nat} {H : Hd} {N N' : Nat → Prop} (h : Gz w0 W col H N) (hw : Went W N W' N') (hN : ∀ k, N' k → k < W'.heap.size) : Gz w0 W' col H N' ∧ Stp W col 0 W' col :=
  ⟨⟨But.below h.bel hw.2 (fun k hk => (h.nc k hk).2.2), ⟨fun k hk => Nat.lt_of_lt_of_le (h.cb.lt k hk) hw.2.size, h.cb.ge, Nat.le_trans h.cb.hb hw.2.size⟩, fun k hk => ⟨hN k hk, by
      rcases hw.1 k hk with e | e
      · exact (h.nc k e).2
      · refine ⟨?_, Nat.le_trans h.cb.hb e⟩
        cases hc : col k with
        | zero => rfl
        | succ n => have := h.cb.lt k (by omega); omega⟩, ⟨Nat.lt_of_lt_of_le h.s1.1 hw.2.size, h.s1.2⟩, ⟨Nat.lt_of_lt_of_le h.s2.1 hw.2.size, h.s2.2⟩⟩,
    ⟨hw.2.mono (fun k hk => (h.nc k hk).2.1), fun k _ => rfl⟩⟩
theorem Gz.later {w0 W W' : World} {col : Nat → Nat} {H : Hd} {N : Nat → Prop} (h : Gz w0 W col H N) (hb : Below W.heap.size W W') : Gz w0 W' col H N :=
  (h.went (N' := N) (Went.later hb) (fun k hk => Nat.lt_of_lt_of_le (h.nc k hk).1 hb.size)).1
/-- .. and what is new gets a colour. -/
theorem Gz.took {w0 W W' : World} {col : Nat → Nat} {H : Hd} {N : Nat → Prop} (h : Gz w0 W col H N) (hw : But N W W') (c : Nat) : Gz w0 W' (paint W W' c col) H N ∧ Stp W col 0 W' (paint W W' c col) :=
  ⟨⟨But.below h.bel hw (fun k hk => (h.nc k hk).2.2), h.cb.paint hw.size c, fun k hk => ⟨Nat.lt_of_lt_of_le (h.nc k hk).1 hw.size, by rw [paint_old (h.nc k hk).1]; exact (h.nc k hk).2⟩, ⟨Nat.lt_of_lt_of_le h.s1.1 hw.size, by rw [paint_old h.s1.1]; exact h.s1.2⟩, ⟨Nat.lt_of_lt_of_le h.s2.1 hw.size, by rw [paint_old h.s2.1]; exact h.s2.2⟩⟩,
    ⟨hw.mono (fun k hk => (h.nc k hk).2.1), fun k hk => paint_old hk⟩⟩
/-- A step in a colour. -/
theorem Gz.step {w0 W W' : World} {col : Nat → Nat} {H : Hd} {N : Nat → Prop} (h : Gz w0 W col H N) {c : Nat} (hc : c ≠ 0) {col' : Nat → Nat} (s : Stp W col c W' col') (hcb : Cb W' w0.heap.size col') : Gz w0 W' col' H N :=
  ⟨But.below h.bel s.but (fun k hk => h.cb.ge k (by have e : col k = c := hk; omega)), hcb, fun k hk => ⟨Nat.lt_of_lt_of_le (h.nc k hk).1 s.but.size, by rw [s.old k (h.nc k hk).1]; exact (h.nc k hk).2⟩, ⟨Nat.lt_of_lt_of_le h.s1.1 s.but.size, by rw [s.old _ h.s1.1]; exact h.s1.2⟩, ⟨Nat.lt_of_lt_of_le h.s2.1 s.but.size, by rw [s.old _ h.s2.1]; exact h.s2.2⟩⟩
theorem Gz.duo {w0 W W' : World} {col : Nat → Nat} {H : Hd} {N : Nat → Prop} (h : Gz w0 W col H N) {c : Nat} (hc : c ≠ 0) {col' : Nat → Nat} (s : Stp W col c W' col') {a d : Sta} {T : Nat} (hD : Duo W H a d T N) : Duo W' H a d T N :=
  hD.but s.but (fun k hk e => hc (by rw [← (h.nc k hk).2.1]; exact e.symm)) (fun e => hc (by rw [← h.s1.2]; exact e.symm)) (fun e => hc (by rw [← h.s2.2]; exact e.symm))
end Go.Proofs.YtnjadfgfpebkdaaGreat.D
namespace Go.Proofs.YtnjadfgfpebkdaaGreat.D
open Go.RowKit
open Go.Proofs.YtnjadfgfpebkdaaGreat.H (B64 Cp)
set_option linter.unusedVariables false

/-- The ids. -/
structure Di (w : World) (base : Nat) (col : Nat → Nat) (a : Option Addr) (n c : Nat) (ids : List Int) : Prop where
  ow : Ow w base 3 1 a n c (ints ids)
  ki : ∀ k, Blk a k → col k = 3
theorem Di.step {w w' : World} {base c : Nat} {col col' : Nat → Nat} {a : Option Addr} {n cp : Nat} {ids : List Int} (h : Di w base col a n cp ids) (hx : c ≠ 3) (s : Stp w col c w' col') : Di w' base col' a n cp ids :=
  ⟨h.ow.but s.but (fun k hk e => hx (by rw [← h.ki k hk]; exact e.symm)), fun k hk => by rw [s.old k (h.ow.blk k hk).2]; exact h.ki k hk⟩
theorem Di.later {w w' : World} {base : Nat} {col : Nat → Nat} {a : Option Addr} {n cp : Nat} {ids : List Int} (h : Di w base col a n cp ids) (hb : Below w.heap.size w w') : Di w' base col a n cp ids := ⟨h.ow.later hb, h.ki⟩
theorem revA_other {mo : Nat} {s : Sta} (h : Inv mo s.X s.l) (all : Bool) (c : Cp) {y : Int} (hne : c.1 ≠ y) : hasO (revA all s c).s.X (revA all s c).s.l y = hasO s.X s.l y := by
  unfold revA
  by_cases h1 : hasC s.X s.l c = false
  · rw [if_pos h1]
  · rw [if_neg h1]
    by_cases h2 : partB (needB all) (rg s.X (findN s.X s.l c)) = false
    · rw [if_pos h2]
    · rw [if_neg h2]
      have hw := whom_in h (by simpa using h1) all
      have hd := inN_drop h (whom all s c) y
      rw [hw.2.1, if_neg hne, Nat.add_zero] at hd
      have e : ∀ (p q : Bool), (p = true ↔ q = true) → p = q := fun p q hpq => by cases p <;> cases q <;> simp_all
      refine e _ _ ?_
      rw [hasO_inN, hasO_inN]
      show 0 < inN (zer s.X (G true s.l (whom all s c))) (cuts s.l (G true s.l (whom all s c))) y ↔ _
      rw [hd]
theorem Cr.two (w : World) (e : TypeId) (u v : Value) (hu : u.oneCell' = true) (hv : v.oneCell' = true) : Cr (w.alloc (Obj.cells #[u, v] e)) 1 (some ⟨w.heap.size, 0, none⟩) 2 2 [u, v] :=
  ⟨rfl, fun h => (by cases h), fun x hx j y hy => by
    cases hx
    rw [addr_add0]
    simp only [World.cell?, World.alloc, Array.getElem?_push_size]
    simpa using hy, fun y hy => by
    simp only [List.mem_cons, List.not_mem_nil, or_false] at hy
    rcases hy with rfl | rfl
    · exact hu
    · exact hv⟩
/-- What two answered lists leave. -/
theorem f2_lists {w0 w v2 v3 v4 v5 v6 v8 : World} {col : Nat → Nat} {H : Hd} {N N4 N6 : Nat → Prop} {aA : Option Addr} {nA cA : Nat} {T : Nat → Sl} {K : Nat → List Cp} {aI : Option Addr} {nn cI : Nat} {ids : List Int} {a a' : Option Addr} {k c k' c' : Nat} {KL KL' : List Cp}
    (hg : Gz w0 w col H N) (hA : Sf w w0.heap.size col 1 100 aA nA cA T K) (hI : Di w w0.heap.size col aI nn cI ids) (b2 : Below w.heap.size w v2) (O3 : Ow v3 v2.heap.size 27 3 a k c (caps KL)) (l3 : KL.length = k) (b3 : But N v2 v3) (w4 : Went v3 N v4 N4) (n4 : ∀ k, N4 k → k < v4.heap.size)
    (O5 : Ow v5 v4.heap.size 27 3 a' k' c' (caps KL')) (l5 : KL'.length = k') (b5 : But N4 v4 v5) (w6 : Went v5 N4 v6 N6) (n6 : ∀ k, N6 k → k < v6.heap.size) (b8 : Below v6.heap.size v6 v8) :
    ∃ col', Gz w0 v8 col' H N6 ∧ Sf v8 w0.heap.size col' 1 100 aA nA cA T K ∧ Di v8 w0.heap.size col' aI nn cI ids ∧ Li v8 w0.heap.size col' (100 + nA) (a, k, c) KL ∧ Li v8 w0.heap.size col' (100 + (nA + 1)) (a', k', c') KL' := by
  have g2 := hg.later b2
  obtain ⟨g3, s3⟩ := g2.took b3 (100 + nA)
  have L3 : Li v3 w0.heap.size (paint v2 v3 (100 + nA) col) (100 + nA) (a, k, c) KL := ⟨O3.mono g2.cb.hb, l3, fun j hj => paint_new (O3.blk j hj).1 (O3.blk j hj).2⟩
  obtain ⟨g4, s4⟩ := g3.went w4 n4
  obtain ⟨g5, s5⟩ := g4.took b5 (100 + (nA + 1))
  have L5 : Li v5 w0.heap.size (paint v4 v5 (100 + (nA + 1)) (paint v2 v3 (100 + nA) col)) (100 + (nA + 1)) (a', k', c') KL' := ⟨O5.mono g4.cb.hb, l5, fun j hj => paint_new (O5.blk j hj).1 (O5.blk j hj).2⟩
  obtain ⟨g6, s6⟩ := g5.went w6 n6
  exact ⟨_, g6.later b8, (((((hA.later b2).step (by omega) (fun i _ => by omega) s3).step (by omega) (fun i _ => by omega) s4).step (by omega) (fun i _ => by omega) s5).step (by omega) (fun i _ => by omega) s6).later b8,
    (((((hI.later b2).step (by omega) s3).step (by omega) s4).step (by omega) s5).step (by omega) s6).later b8, (((L3.step (by omega) s4).step (by omega) s5).step (by omega) s6).later b8, (L5.step (by omega) s6).later b8⟩
/-- Both go to the end of the list. -/
theorem f2_app {w0 v8 : World} {col : Nat → Nat} {H : Hd} {N : Nat → Prop} {aA : Option Addr} {nA cA : Nat} {T : Nat → Sl} {K : Nat → List Cp} {aI : Option Addr} {nn cI : Nat} {ids : List Int} {a a' : Option Addr} {k c k' c' : Nat} {KL KL' : List Cp} (hn : nA ≤ 100)
    (hg : Gz w0 v8 col H N) (hA : Sf v8 w0.heap.size col 1 100 aA nA cA T K) (hI : Di v8 w0.heap.size col aI nn cI ids) (h1 : Li v8 w0.heap.size col (100 + nA) (a, k, c) KL) (h2 : Li v8 w0.heap.size col (100 + (nA + 1)) (a', k', c') KL') (hs : ∀ j, j < nA → (K j).length ≤ 256) (hs1 : KL.length ≤ 256) (hs2 : KL'.length ≤ 256) :
    ∃ a9 c9 u, (Builtin.append_ #[65, 65] 65 #[.slice aA nA cA, .slice (some ⟨v8.heap.size, 0, none⟩) 2 2]).run Tryz.prog (v8.alloc (Obj.cells #[.slice a k c, .slice a' k' c'] 48)) = .ok (.slice a9 (nA + 2) c9) u ∧
      Hid (∃ col' T' K', Gz w0 u col' H N ∧ Sf u w0.heap.size col' 1 100 a9 (nA + 2) c9 T' K' ∧ Di u w0.heap.size col' aI nn cI ids ∧ (∀ j, j < nA + 2 → (K' j).length ≤ 256) ∧ ∀ (s d : Sta) (T0 : Nat), Duo v8 H s d T0 N → Duo u H s d T0 N) := by
  obtain ⟨u0, hu0⟩ : ∃ u0, u0 = v8.alloc (Obj.cells #[.slice a k c, .slice a' k' c'] 48) := ⟨_, rfl⟩
  have hcr := Cr.two v8 48 (.slice a k c) (.slice a' k' c') rfl rfl
  have hb : Below v8.heap.size v8 u0 := by rw [hu0]; exact below1 _ _
  rw [← hu0] at hcr ⊢
  have g0 := hg.later hb
  obtain ⟨a9, c9, u, hrun, hS, hst⟩ := (hA.later hb).more g0.cb 2 2 ⟨v8.heap.size, 0, none⟩ (upd (upd T nA (a, k, c)) (nA + 1) (a', k', c')) (upd (upd K nA KL) (nA + 1) KL')
    (fun i hi => by rw [upd_old _ _ (by omega), upd_old _ _ (by omega)]) (fun i hi => by rw [upd_old _ _ (by omega), upd_old _ _ (by omega)])
    (by
      have e : (List.range 2).map (fun j => sv (upd (upd T nA (a, k, c)) (nA + 1) (a', k', c') (nA + j))) = [.slice a k c, .slice a' k' c'] := by
        show [sv (upd (upd T nA (a, k, c)) (nA + 1) (a', k', c') (nA + 0)), sv (upd (upd T nA (a, k, c)) (nA + 1) (a', k', c') (nA + 1))] = _
        rw [upd_same, upd_old _ _ (by omega), Nat.add_zero, upd_same]
        rfl
      rw [e]
      exact hcr)
    (fun j hj => by
      rcases Nat.lt_or_ge j 1 with h0 | h0
      · obtain rfl : j = 0 := by omega
        rw [Nat.add_zero, upd_old _ _ (by omega), upd_same, upd_old _ _ (by omega), upd_same]
        exact h1.later hb
      · obtain rfl : j = 1 := by omega
        rw [upd_same, upd_same]
        exact h2.later hb)
    (by omega) (fun i hi => by omega) (by omega)
  have hcb := g0.cb.paint hst.but.size 1
  exact ⟨a9, c9, u, hrun, hid ⟨_, _, _, g0.step (by omega) hst hcb, hS, (hI.later hb).step (by omega) hst, fun j hj => by
      by_cases e1 : j = nA + 1
      · subst e1; rw [upd_same]; exact hs2
      · rw [upd_old _ _ e1]
        by_cases e2 : j = nA
        · subst e2; rw [upd_same]; exact hs1
        · rw [upd_old _ _ e2]; exact hs j (by omega), fun s d T0 hD => g0.duo (by omega) hst (hD.later hb)⟩⟩
/-! ### Marks -/
def mk (i : Nat) : Cp := (-(i : Int) - 1, 0, 0)
def Mk (n : Nat) (K : Nat → List Cp) (i j : Nat) : Prop := ∀ i' j', i' < n → (i' < i ∨ (i' = i ∧ j' < j)) → j' < (K i').length → (K i')[j']? = some (mk i')
theorem Mk.zero (n : Nat) (K : Nat → List Cp) : Mk n K 0 0 := fun i' j' _ h => by omega
theorem Mk.next {n : Nat} {K : Nat → List Cp} {i j : Nat} (h : Mk n K i j) (hj : (K i).length ≤ j) : Mk n K (i + 1) 0 := fun i' j' h0 h1 h2 => by
  rcases Nat.lt_or_ge i' i with h3 | h3
  · exact h i' j' h0 (.inl h3) h2
  · obtain rfl : i' = i := by omega
    exact h i' j' h0 (.inr ⟨rfl, by omega⟩) h2
theorem Mk.put {n : Nat} {K : Nat → List Cp} {i j : Nat} (h : Mk n K i j) (hl : j < (K i).length) : Mk n (upd K i ((K i).set j (mk i))) i (j + 1) := fun i' j' h0 h1 h2 => by
  by_cases e : i' = i
  · subst e
    rw [upd_same] at h2 ⊢
    rw [List.length_set] at h2
    by_cases e2 : j' = j
    · subst e2
      rw [List.getElem?_set_self hl]
    · rw [List.getElem?_set_ne (fun e3 => e2 e3.symm)]
      exact h i' j' h0 (by omega) h2
  · rw [upd_old _ _ e] at h2 ⊢
    exact h i' j' h0 (by omega) h2
theorem Mk.all {n : Nat} {K : Nat → List Cp} (h : Mk n K n 0) {i j : Nat} (hi : i < n) (hj : j < (K i).length) : (K i)[j]? = some (mk i) := h i j hi (.inl hi) hj
/-- A list's beginning. -/
theorem Ow.fst {w : World} {base : Nat} {e : TypeId} {k : Nat} {a : Option Addr} {n m cap : Nat} {L M : List Value} (h : Ow w base e k a (n + m) cap (L ++ M)) (hl : L.length = n * k) : Ow w base e k a n cap L := by
  refine ⟨hl, ?_⟩
  rcases h.2 with ⟨h1, h2⟩ | ⟨g, c, cur, hv, hb, hh, hc, hc2, hs, ht⟩
  · simp only [Value.slice.injEq] at h1
    obtain ⟨rfl, _, rfl⟩ := h1
    obtain rfl : n = 0 := by omega
    exact .inl ⟨rfl, rfl⟩
  · simp only [Value.slice.injEq] at hv
    obtain ⟨rfl, _, rfl⟩ := hv
    refine .inr ⟨g, cap, cur, rfl, hb, hh, by omega, hc2, hs, ?_⟩
    have h3 : (cur.toList.take ((n + m) * k)).take (n * k) = (L ++ M).take (n * k) := by rw [ht]
    rw [List.take_take, Nat.min_eq_left (Nat.mul_le_mul_right k (by omega)), List.take_left' hl] at h3
    exact h3
theorem info27 : (Tryz.prog.info? 27).map (fun i => (i.zero, i.size, i.bytes)) = some (some (.agg #[.int .i64 0, .int .u64 0, .int .u64 0]), 3, 24) := by kernel_rfl
theorem caps_snoc (K : List Cp) (c : Cp) : caps (K ++ [c]) = caps K ++ encC c := by unfold caps; rw [List.flatMap_append]; simp
theorem caps_len (K : List Cp) : (caps K).length = K.length * 3 := by
  induction K with
  | nil => rfl
  | cons a K ih => unfold caps at ih ⊢; rw [List.flatMap_cons, List.length_append, ih, List.length_cons, Nat.add_mul]; show 3 + _ = _; omega
end Go.Proofs.YtnjadfgfpebkdaaGreat.D
namespace Go.Proofs.YtnjadfgfpebkdaaGreat.D
open Go.RowKit
open Go.Proofs.YtnjadfgfpebkdaaGreat.H (B64 Cp)
set_option linter.unusedVariables false

/-- A list is lengthened; its first form stays. -/
theorem f5_app {w0 W : World} {col : Nat → Nat} {H : Hd} {N : Nat → Prop} {aA : Option Addr} {nA cA : Nat} {T : Nat → Sl} {K : Nat → List Cp} {aM : Option Addr} {cM : Nat} {T2 : Nat → Sl} {K2 : Nat → List Cp} {i : Nat} {a : Option Addr} {n c : Nat} (hn : nA ≤ 100) (hi : i < nA) (hl : n ≤ 1000)
    (hg : Gz w0 W col H N) (hA : Sf W w0.heap.size col 1 100 aA nA cA T K) (hM : Sf W w0.heap.size col 2 100 aM i cM T2 K2) (hT : T i = (a, n, c)) (v : Int) (hv : v = -(i : Int) - 1) :
    ∃ a1 c1 W2 a9 c9 W4, (Builtin.append_ #[48, 48] 48 #[.slice a n c, .slice (some ⟨W.heap.size, 0, none⟩) 1 1]).run Tryz.prog (W.alloc (Obj.cells #[.int .i64 v, .int .u64 0, .int .u64 0] 27)) = .ok (.slice a1 (n + 1) c1) W2 ∧
      (Builtin.append_ #[65, 65] 65 #[.slice aM i cM, .slice (some ⟨W2.heap.size, 0, none⟩) 1 1]).run Tryz.prog (W2.alloc (Obj.cells #[.slice a1 (n + 1) c1] 48)) = .ok (.slice a9 (i + 1) c9) W4 ∧
      Hid (∃ col' T2', Gz w0 W4 col' H N ∧ Sf W4 w0.heap.size col' 1 100 aA nA cA T K ∧ Sf W4 w0.heap.size col' 2 100 a9 (i + 1) c9 T2' (upd K2 i (K i ++ [mk i])) ∧ ∀ (s d : Sta) (T0 : Nat), Duo W H s d T0 N → Duo W4 H s d T0 N) := by
  subst hv
  have hcr := Cr.lit W 27 (encC (mk i)) (fun u hu => by
    unfold encC mk at hu
    simp only [List.mem_cons, List.not_mem_nil, or_false] at hu
    rcases hu with rfl | rfl | rfl <;> rfl)
  have hcr1 : Cr (W.alloc (Obj.cells #[.int .i64 (-(i : Int) - 1), .int .u64 0, .int .u64 0] 27)) 3 (some ⟨W.heap.size, 0, none⟩) 1 1 (encC (mk i)) := hcr
  obtain ⟨W1, hW1⟩ : ∃ W1, W1 = W.alloc (Obj.cells #[.int .i64 (-(i : Int) - 1), .int .u64 0, .int .u64 0] 27) := ⟨_, rfl⟩
  have hb1 : Below W.heap.size W W1 := by rw [hW1]; exact below1 _ _
  rw [← hW1] at hcr1 ⊢
  have g1 := hg.later hb1
  have A1 := hA.later hb1
  have M1 := hM.later hb1
  have Li1 := A1.inn i hi
  have Lo := Li1.ow
  rw [hT] at Lo
  have hkl := Li1.kl
  rw [hT] at hkl
  have hkl' : (K i).length = n := hkl
  obtain ⟨a1, c1, W2, hrun1, hO2, hG2, hs2⟩ := append_keep 48 27 _ 3 24 Tryz.underlying48 info27 rfl (by omega) (by omega) Lo hcr1 (by omega) g1.cb.hb (by omega)
  have hB2 : But (fun k => col k = 100 + i) W1 W2 := hG2.but.mono (fun k hk => Li1.ki k (by rw [hT]; exact hk))
  have st2 : Stp W1 col (100 + i) W2 (paint W1 W2 (100 + i) col) := ⟨hB2, fun k hk => paint_old hk⟩
  have cb2 := g1.cb.paint hB2.size (100 + i)
  have g2 := g1.step (by omega) st2 cb2
  have A2 : Sf W2 w0.heap.size (paint W1 W2 (100 + i) col) 1 100 aA nA cA T K := by
    refine ⟨A1.ou.but hB2 (fun k hk e => by have h1 := A1.ko k hk; have h2 : col k = 100 + i := e; omega), fun k hk => by rw [paint_old (A1.ou.blk k hk).2]; exact A1.ko k hk, fun j hj => ?_⟩
    by_cases e : j = i
    · subst e
      refine ⟨?_, Li1.kl, fun k hk => by rw [paint_old (Li1.ow.blk k hk).2]; exact Li1.ki k hk⟩
      rw [hT]
      rcases hs2 with ⟨rfl, rfl⟩ | ⟨hB, _⟩
      · exact Ow.fst hO2 (by rw [caps_len, hkl'])
      · exact Lo.later hB
    · exact (A1.inn j hj).step (by omega) st2
  have M2 := M1.step (by omega) (fun j hj => by omega) st2
  have L2 : Li W2 w0.heap.size (paint W1 W2 (100 + i) col) (100 + i) (a1, n + 1, c1) (K i ++ [mk i]) := by
    refine ⟨?_, by rw [List.length_append, hkl']; rfl, fun k hk => ?_⟩
    · rw [caps_snoc]; exact hO2
    · rcases hG2.on k hk with h1 | h1
      · rw [paint_old (Lo.blk k h1).2]; exact Li1.ki k (by rw [hT]; exact h1)
      · exact paint_new h1 (hO2.blk k hk).2
  have hcr3 : Cr (W2.alloc (Obj.cells #[.slice a1 (n + 1) c1] 48)) 1 (some ⟨W2.heap.size, 0, none⟩) 1 1 [.slice a1 (n + 1) c1] := Cr.lit W2 48 [.slice a1 (n + 1) c1] (fun u hu => by
    simp only [List.mem_cons, List.not_mem_nil, or_false] at hu
    subst hu; rfl)
  obtain ⟨W3, hW3⟩ : ∃ W3, W3 = W2.alloc (Obj.cells #[.slice a1 (n + 1) c1] 48) := ⟨_, rfl⟩
  have hb3 : Below W2.heap.size W2 W3 := by rw [hW3]; exact below1 _ _
  rw [← hW3] at hcr3
  have g3 := g2.later hb3
  obtain ⟨a9, c9, W4, hrun2, hS4, st4⟩ := (M2.later hb3).more g3.cb 1 1 ⟨W2.heap.size, 0, none⟩ (upd T2 i (a1, n + 1, c1)) (upd K2 i (K i ++ [mk i]))
    (fun j hj => by rw [upd_old _ _ (by omega)]) (fun j hj => by rw [upd_old _ _ (by omega)])
    (by
      have e : (List.range 1).map (fun j => sv (upd T2 i (a1, n + 1, c1) (i + j))) = [.slice a1 (n + 1) c1] := by
        show [sv (upd T2 i (a1, n + 1, c1) i)] = _
        rw [upd_same]; rfl
      rw [e]; exact hcr3)
    (fun j hj => by
      obtain rfl : j = 0 := by omega
      rw [Nat.add_zero, upd_same, upd_same]
      exact L2.later hb3)
    (by omega) (fun j hj => by omega) (by omega)
  refine ⟨a1, c1, W2, a9, c9, W4, hrun1, by rw [← hW3]; exact hrun2, hid ⟨_, _, g3.step (by omega) st4 (g3.cb.paint st4.but.size 2), (A2.later hb3).step (by omega) (fun j hj => by omega) st4, hS4, fun s d T0 hD => ?_⟩⟩
  exact g3.duo (by omega) st4 ((g1.duo (by omega) st2 (hD.later hb1)).later hb3)
end Go.Proofs.YtnjadfgfpebkdaaGreat.D
namespace Go.Proofs.YtnjadfgfpebkdaaGreat.D
open Go.RowKit
open Go.Proofs.YtnjadfgfpebkdaaGreat.H (B64 Cp cEq neqC)
set_option linter.unusedVariables false
set_option linter.unusedSimpArgs false
/-- Pieces of a text, by their places. -/
def fR : Code → Code
  | .seq _ b => b
  | c => c
def fL : Code → Code
  | .seq a _ => a
  | c => c
def fI : Code → Code
  | .block _ c => c
  | .loop c => c
  | .scope c => c
  | .cond _ a _ => a
  | c => c
def fs : Nat → Code → Code
  | 0, c => c
  | n + 1, .seq _ b => fs n b
  | _ + 1, c => c
def fe (b : Option Code) (n : Nat) : Code := fL (fs n (b.getD .skip))
end Go.Proofs.YtnjadfgfpebkdaaGreat.D
