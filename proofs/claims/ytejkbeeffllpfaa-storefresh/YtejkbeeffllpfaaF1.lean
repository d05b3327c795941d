import Derived.Test.YtejkbeeffllpfaaS8
import Derived.Test.YtejkbeeffllpfaaS7
import Derived.Test.YtejkbeeffllpfaaLB
namespace Go.Proofs.Ytejkbeeffllpfaa
open Go.RowKit
set_option linter.unusedVariables false
set_option linter.unusedSimpArgs false

/-- Colours of blocks behind a base. -/
structure Cb (w : World) (base : Nat) (col : Nat → Nat) : Prop where
  lt : ∀ k, col k ≠ 0 → k < w.heap.size
  ge : ∀ k, col k ≠ 0 → base ≤ k
  hb : base ≤ w.heap.size
def paint (w w' : World) (c : Nat) (col : Nat → Nat) : Nat → Nat := fun k => if w.heap.size ≤ k ∧ k < w'.heap.size then c else col k
theorem Cb.paint {w w' : World} {base : Nat} {col : Nat → Nat} (h : Cb w base col) (hs : w.heap.size ≤ w'.heap.size) (c : Nat) : Cb w' base (paint w w' c col) := by
  refine ⟨fun k hk => ?_, fun k hk => ?_, Nat.le_trans h.hb hs⟩
  · unfold Ytejkbeeffllpfaa.paint at hk
    split at hk
    · omega
    · have := h.lt k hk; omega
  · unfold Ytejkbeeffllpfaa.paint at hk
    have := h.hb
    split at hk
    · omega
    · exact h.ge k hk
theorem Cb.later {w w' : World} {base : Nat} {col : Nat → Nat} (h : Cb w base col) (hs : w.heap.size ≤ w'.heap.size) : Cb w' base col := ⟨fun k hk => Nat.lt_of_lt_of_le (h.lt k hk) hs, h.ge, Nat.le_trans h.hb hs⟩
theorem Cb.keep {w w' : World} {base : Nat} {col : Nat → Nat} (h : Cb w base col) (c k : Nat) (hk : col k ≠ 0) : Ytejkbeeffllpfaa.paint w w' c col k = col k := by
  unfold Ytejkbeeffllpfaa.paint
  rw [if_neg (by have := h.lt k hk; omega)]
theorem paint_new {w w' : World} {col : Nat → Nat} {c k : Nat} (h1 : w.heap.size ≤ k) (h2 : k < w'.heap.size) : paint w w' c col k = c := by
  unfold paint
  rw [if_pos ⟨h1, h2⟩]
abbrev Sl := Option Addr × Nat × Nat
def sv (t : Sl) : Value := .slice t.1 t.2.1 t.2.2
/-- A list of lists. -/
structure Sf (w : World) (base : Nat) (col : Nat → Nat) (e te : TypeId) (co ci : Nat) (a : Option Addr) (n cap : Nat) (T : Nat → Sl) (V : Nat → List Value) : Prop where
  ou : Own w base te a n cap ((List.range n).map fun i => sv (T i))
  ko : ∀ k, Blk a k → col k = co
  inn : ∀ i, i < n → Own w base e (T i).1 (T i).2.1 (T i).2.2 (V i)
  ki : ∀ i, i < n → ∀ k, Blk (T i).1 k → col k = ci + i
theorem Sf.but {S : Nat → Prop} {w w' : World} {base : Nat} {col : Nat → Nat} {e te : TypeId} {co ci : Nat} {a : Option Addr} {n cap : Nat} {T : Nat → Sl} {V : Nat → List Value} (hb : But S w w') (h : Sf w base col e te co ci a n cap T V) (h1 : ∀ k, col k = co → ¬ S k) (h2 : ∀ i, i < n → ∀ k, col k = ci + i → ¬ S k) : Sf w' base col e te co ci a n cap T V :=
  ⟨h.ou.but hb (fun k hk => h1 k (h.ko k hk)), h.ko, fun i hi => (h.inn i hi).but hb (fun k hk => h2 i hi k (h.ki i hi k hk)), h.ki⟩
theorem Sf.later {w w' : World} {base : Nat} {col : Nat → Nat} {e te : TypeId} {co ci : Nat} {a : Option Addr} {n cap : Nat} {T : Nat → Sl} {V : Nat → List Value} (hb : Below w.heap.size w w') (h : Sf w base col e te co ci a n cap T V) : Sf w' base col e te co ci a n cap T V :=
  h.but (S := fun _ => False) (But.of hb) (fun _ _ h => h) (fun _ _ _ _ h => h)
theorem Sf.recol {w : World} {base : Nat} {col col' : Nat → Nat} {e te : TypeId} {co ci : Nat} {a : Option Addr} {n cap : Nat} {T : Nat → Sl} {V : Nat → List Value} (h : Sf w base col e te co ci a n cap T V) (hc : ∀ k, col k ≠ 0 → col' k = col k) (h1 : co ≠ 0) (h2 : ci ≠ 0) : Sf w base col' e te co ci a n cap T V :=
  ⟨h.ou, fun k hk => by have := h.ko k hk; rw [hc k (by omega)]; exact this, h.inn, fun i hi k hk => by have := h.ki i hi k hk; rw [hc k (by omega)]; exact this⟩
theorem Sf.nil (w : World) (base : Nat) (col : Nat → Nat) (e te : TypeId) (co ci : Nat) (T : Nat → Sl) (V : Nat → List Value) : Sf w base col e te co ci none 0 0 T V :=
  ⟨Own.nil _ _ _, fun k hk => (by obtain ⟨_, h, _⟩ := hk; cases h), fun i hi => by omega, fun i hi => by omega⟩
def upd {X : Type} (f : Nat → X) (n : Nat) (x : X) : Nat → X := fun i => if i = n then x else f i
theorem upd_same {X : Type} (f : Nat → X) (n : Nat) (x : X) : upd f n x n = x := by simp [upd]
theorem upd_old {X : Type} (f : Nat → X) {n i : Nat} (x : X) (h : i ≠ n) : upd f n x i = f i := by simp [upd, h]
/-- One list more. -/
theorem Sf.push (t e te : TypeId) (z : Value) (by_ : Nat) (hu : Try.prog.underlying t = some (.slice te)) (hinf : (Try.prog.info? te).map (fun i => (i.zero, i.size, i.bytes)) = some (some z, 1, by_)) (hzs : z.cells.size = 1)
    {u : World} {base : Nat} {col : Nat → Nat} {co ci : Nat} {a : Option Addr} {n cap : Nat} {T : Nat → Sl} {V : Nat → List Value} {g : Nat} {s : Sl} {Vs : List Value} (hcb : Cb u base col) (h : Sf u base col e te co ci a n cap T V) (hx : Row u (some ⟨g, 0, none⟩) 1 1 [sv s]) (hs : Own u base e s.1 s.2.1 s.2.2 Vs) (hk : ∀ k, Blk s.1 k → col k = ci + n) (hco : co ≠ 0) (hci : ci ≠ 0) (hne : ∀ i, i ≤ n → co ≠ ci + i) (hr : (n + 1) * by_ ≤ 140737488355328) (hr2 : n + 1 ≤ 140737488355328) :
    ∃ a' cap' u', (Builtin.append_ #[t, t] t #[.slice a n cap, .slice (some ⟨g, 0, none⟩) 1 1]).run Try.prog u = .ok (.slice a' (n + 1) cap') u' ∧ Sf u' base (paint u u' co col) e te co ci a' (n + 1) cap' (upd T n s) (upd V n Vs) ∧ But (fun k => col k = co) u u' := by
  obtain ⟨a', cap', u', hrun, hO, hG⟩ := append_gen t te z by_ hu hinf hzs h.ou hx hcb.hb hr hr2
  have hB : But (fun k => col k = co) u u' := hG.but.mono (fun k hk => h.ko k hk)
  refine ⟨a', cap', u', hrun, ⟨?_, fun k hk2 => ?_, fun i hi => ?_, fun i hi k hk2 => ?_⟩, hB⟩
  · have e1 : (List.range (n + 1)).map (fun i => sv (upd T n s i)) = (List.range n).map (fun i => sv (T i)) ++ [sv s] := by
      have e2 : (List.range n).map (fun i => sv (upd T n s i)) = (List.range n).map (fun i => sv (T i)) := List.map_congr_left fun i hi => by rw [upd_old _ _ (by have := List.mem_range.1 hi; omega)]
      rw [List.range_succ, List.map_append, e2]
      simp only [List.map_cons, List.map_nil, upd_same]
    rw [e1]
    exact hO
  · rcases hG.on k hk2 with h1 | h1
    · have h2 := h.ko k h1
      rw [hcb.keep _ _ (by omega)]
      exact h2
    · exact paint_new h1 (hO.lt k hk2)
  · by_cases ei : i = n
    · subst ei
      rw [upd_same, upd_same]
      exact hs.but hB (fun k hk3 e3 => hne _ (Nat.le_refl _) (by rw [← e3]; exact hk k hk3))
    · rw [upd_old _ _ ei, upd_old _ _ ei]
      exact (h.inn i (by omega)).but hB (fun k hk3 e3 => hne i (by omega) (by rw [← e3]; exact h.ki i (by omega) k hk3))
  · by_cases ei : i = n
    · subst ei
      rw [upd_same] at hk2
      have h2 := hk k hk2
      rw [hcb.keep _ _ (by omega)]
      exact h2
    · rw [upd_old _ _ ei] at hk2
      have h2 := h.ki i (by omega) k hk2
      rw [hcb.keep _ _ (by omega)]
      exact h2

theorem info28 : (Try.prog.info? 28).map (fun i => (i.zero, i.size, i.bytes)) = some (some (.slice none 0 0), 1, 24) := by kernel_rfl
/-- What the law keeps: the numbers, rows, lists. -/
structure Bu (wp w : World) (col : Nat → Nat) (aI : Option Addr) (L cI : Nat) (ids : List Int) (aR : Option Addr) (nR cR : Nat) (T : Nat → Sl) (V : Nat → List Value) (aL : Option Addr) (nL cL : Nat) (T2 : Nat → Sl) (V2 : Nat → List Value) : Prop where
  bel : Below wp.heap.size wp w
  cb : Cb w wp.heap.size col
  idr : Own w wp.heap.size 3 aI L cI (ints ids)
  kI : ∀ k, Blk aI k → col k = 1
  rows : Sf w wp.heap.size col 5 30 2 100 aR nR cR T V
  lists : Sf w wp.heap.size col 3 28 3 1000 aL nL cL T2 V2
theorem Bu.later {wp w w' : World} {col : Nat → Nat} {aI : Option Addr} {L cI : Nat} {ids : List Int} {aR : Option Addr} {nR cR : Nat} {T : Nat → Sl} {V : Nat → List Value} {aL : Option Addr} {nL cL : Nat} {T2 : Nat → Sl} {V2 : Nat → List Value} (hb : Below w.heap.size w w') (h : Bu wp w col aI L cI ids aR nR cR T V aL nL cL T2 V2) : Bu wp w' col aI L cI ids aR nR cR T V aL nL cL T2 V2 :=
  ⟨below_call h.bel hb, h.cb.later hb.size, h.idr.later hb, h.kI, h.rows.later hb, h.lists.later hb⟩
theorem Bu.paint {wp w w' : World} {col : Nat → Nat} {aI : Option Addr} {L cI : Nat} {ids : List Int} {aR : Option Addr} {nR cR : Nat} {T : Nat → Sl} {V : Nat → List Value} {aL : Option Addr} {nL cL : Nat} {T2 : Nat → Sl} {V2 : Nat → List Value} (hb : Below w.heap.size w w') (c : Nat) (h : Bu wp w col aI L cI ids aR nR cR T V aL nL cL T2 V2) : Bu wp w' (paint w w' c col) aI L cI ids aR nR cR T V aL nL cL T2 V2 :=
  ⟨below_call h.bel hb, h.cb.paint hb.size c, h.idr.later hb, fun k hk => by have h1 := h.kI k hk; rw [h.cb.keep _ _ (by omega)]; exact h1, (h.rows.later hb).recol (fun k hk => h.cb.keep _ _ hk) (by decide) (by decide), (h.lists.later hb).recol (fun k hk => h.cb.keep _ _ hk) (by decide) (by decide)⟩
theorem below_but {wp w w' : World} {col : Nat → Nat} {c : Nat} (h : Below wp.heap.size wp w) (hcb : Cb w wp.heap.size col) (hc : c ≠ 0) (hb : But (fun k => col k = c) w w') : Below wp.heap.size wp w' :=
  But.below h hb (fun k e => hcb.ge k (by omega))
theorem Bu.addRow {wp wr w4 w5 : World} {col : Nat → Nat} {aI : Option Addr} {L cI : Nat} {ids : List Int} {aR : Option Addr} {nR cR : Nat} {T : Nat → Sl} {V : Nat → List Value} {aL : Option Addr} {nL cL : Nat} {T2 : Nat → Sl} {V2 : Nat → List Value} (h : Bu wp wr col aI L cI ids aR nR cR T V aL nL cL T2 V2)
    (hb4 : Below wr.heap.size wr w4) {b : Option Addr} {n c : Nat} {Q : List Value} (O4 : Own w4 wr.heap.size 5 b n c Q) (hb5 : Below w4.heap.size w4 w5) (hn : nR ≤ 800) (hnL : nL ≤ 800) :
    ∃ a' c' u' col', (Builtin.append_ #[29, 29] 29 #[.slice aR nR cR, .slice (some ⟨w5.heap.size, 0, none⟩) 1 1]).run Try.prog (w5.alloc (.cells #[.slice b n c] 30)) = .ok (.slice a' (nR + 1) c') u' ∧ Bu wp u' col' aI L cI ids a' (nR + 1) c' (upd T nR (b, n, c)) (upd V nR Q) aL nL cL T2 V2 := by
  have h4 := h.paint hb4 (100 + nR)
  have hbu : Below w4.heap.size w4 (w5.alloc (.cells #[.slice b n c] 30)) := below_call hb5 (below1 _ _)
  have hu := h4.later hbu
  have hO := (O4.later hbu).mono h.cb.hb
  have hx : Row (w5.alloc (.cells #[.slice b n c] 30)) (some ⟨w5.heap.size, 0, none⟩) 1 1 [sv (b, n, c)] := Row.single w5 30 (.slice b n c) rfl
  obtain ⟨a', c', u', hrun, hS, hB⟩ := Sf.push 29 5 30 _ 24 Try.underlying29 info30 rfl hu.cb hu.rows hx hO (fun k hk => paint_new (O4.blk k hk) (O4.lt k hk)) (by decide) (by decide) (fun i hi e => by omega) (by omega) (by omega)
  refine ⟨a', c', u', _, hrun, ⟨below_but hu.bel hu.cb (by decide) hB, hu.cb.paint hB.size 2, hu.idr.but hB (fun k hk e => by have := hu.kI k hk; omega), fun k hk => ?_, hS, (hu.lists.but hB (fun k e1 e2 => by omega) (fun i hi k e1 e2 => by omega)).recol (fun k hk => hu.cb.keep _ _ hk) (by decide) (by decide)⟩⟩
  have h1 := hu.kI k hk
  rw [hu.cb.keep _ _ (by omega)]
  exact h1
theorem Bu.addList {wp wr w4 w5 : World} {col : Nat → Nat} {aI : Option Addr} {L cI : Nat} {ids : List Int} {aR : Option Addr} {nR cR : Nat} {T : Nat → Sl} {V : Nat → List Value} {aL : Option Addr} {nL cL : Nat} {T2 : Nat → Sl} {V2 : Nat → List Value} (h : Bu wp wr col aI L cI ids aR nR cR T V aL nL cL T2 V2)
    (hb4 : Below wr.heap.size wr w4) {b : Option Addr} {n c : Nat} {Q : List Value} (O4 : Own w4 wr.heap.size 3 b n c Q) (hb5 : Below w4.heap.size w4 w5) (hn : nR ≤ 800) (hnL : nL ≤ 800) :
    ∃ a' c' u' col', (Builtin.append_ #[52, 52] 52 #[.slice aL nL cL, .slice (some ⟨w5.heap.size, 0, none⟩) 1 1]).run Try.prog (w5.alloc (.cells #[.slice b n c] 28)) = .ok (.slice a' (nL + 1) c') u' ∧ Bu wp u' col' aI L cI ids aR nR cR T V a' (nL + 1) c' (upd T2 nL (b, n, c)) (upd V2 nL Q) := by
  have h4 := h.paint hb4 (1000 + nL)
  have hbu : Below w4.heap.size w4 (w5.alloc (.cells #[.slice b n c] 28)) := below_call hb5 (below1 _ _)
  have hu := h4.later hbu
  have hO := (O4.later hbu).mono h.cb.hb
  have hx : Row (w5.alloc (.cells #[.slice b n c] 28)) (some ⟨w5.heap.size, 0, none⟩) 1 1 [sv (b, n, c)] := Row.single w5 28 (.slice b n c) rfl
  obtain ⟨a', c', u', hrun, hS, hB⟩ := Sf.push 52 3 28 _ 24 Try.underlying52 info28 rfl hu.cb hu.lists hx hO (fun k hk => paint_new (O4.blk k hk) (O4.lt k hk)) (by decide) (by decide) (fun i hi e => by omega) (by omega) (by omega)
  refine ⟨a', c', u', _, hrun, ⟨below_but hu.bel hu.cb (by decide) hB, hu.cb.paint hB.size 3, hu.idr.but hB (fun k hk e => by have := hu.kI k hk; omega), fun k hk => ?_, (hu.rows.but hB (fun k e1 e2 => by omega) (fun i hi k e1 e2 => by omega)).recol (fun k hk => hu.cb.keep _ _ hk) (by decide) (by decide), hS⟩⟩
  have h1 := hu.kI k hk
  rw [hu.cb.keep _ _ (by omega)]
  exact h1

/-- The loops of the text, by their places. -/
def lpO (b : Option Code) (n : Nat) : Code := pI (pR (pL (rs n (b.getD .skip))))
def lpI (b : Option Code) (n : Nat) : Code := pI (pR (pI (pL (pR (pI (lpO b n))))))
def lpJ (b : Option Code) (n : Nat) : Code := pI (pR (pL (pI (pL (pR (pI (lpO b n)))))))
def mR (i : Nat) : Value := .int .u8 (((i : Int) + 1) % 256)
def mL (i : Nat) : Value := .int .i64 (-(i : Int) - 1)
/-- Marks up to a place. -/
def Mk (T : Nat → Sl) (V : Nat → List Value) (m : Nat → Value) (i j : Nat) : Prop := ∀ i' j', (i' < i ∨ (i' = i ∧ j' < j)) → j' < (T i').2.1 → (V i')[j']? = some (m i')
theorem Mk.zero (T : Nat → Sl) (V : Nat → List Value) (m : Nat → Value) : Mk T V m 0 0 := fun i' j' h => by omega
theorem Mk.next {T : Nat → Sl} {V : Nat → List Value} {m : Nat → Value} {i j : Nat} (h : Mk T V m i j) (hj : (T i).2.1 ≤ j) : Mk T V m (i + 1) 0 := fun i' j' h1 h2 => by
  rcases Nat.lt_or_ge i' i with h3 | h3
  · exact h i' j' (.inl h3) h2
  · obtain rfl : i' = i := by omega
    exact h i' j' (.inr ⟨rfl, by omega⟩) h2
theorem Mk.put {T : Nat → Sl} {V : Nat → List Value} {m : Nat → Value} {i j : Nat} (h : Mk T V m i j) (hl : j < (V i).length) : Mk T (upd V i ((V i).set j (m i))) m i (j + 1) := fun i' j' h1 h2 => by
  by_cases e : i' = i
  · subst e
    rw [upd_same]
    by_cases e2 : j' = j
    · subst e2
      rw [List.getElem?_set_self hl]
    · rw [List.getElem?_set_ne (fun e3 => e2 e3.symm)]
      exact h i' j' (by omega) h2
  · rw [upd_old _ _ e]
    exact h i' j' (by omega) h2
/-- One element is written. -/
theorem Sf.put {w : World} {base : Nat} {col : Nat → Nat} {e te : TypeId} {co ci : Nat} {a : Option Addr} {n cap : Nat} {T : Nat → Sl} {V : Nat → List Value} (h : Sf w base col e te co ci a n cap T V) {i j g li ca : Nat} (hi : i < n) (hT : T i = (some ⟨g, 0, none⟩, li, ca)) (v : Value) (hv : v.oneCell' = true) (hne : co ≠ ci + i) :
    Sf (w.setCell ⟨g, j, none⟩ v) base col e te co ci a n cap T (upd V i ((V i).set j v)) ∧ But (fun k => col k = ci + i) w (w.setCell ⟨g, j, none⟩ v) := by
  have hg : col g = ci + i := h.ki i hi g ⟨_, by rw [hT], rfl⟩
  have hB : But (fun k => col k = ci + i) w (w.setCell ⟨g, j, none⟩ v) := (But.refl _ w).setCell (p := ⟨g, j, none⟩) hg v
  refine ⟨⟨h.ou.but hB (fun k hk e => hne (by rw [← h.ko k hk, e])), h.ko, fun i' hi' => ?_, h.ki⟩, hB⟩
  by_cases e : i' = i
  · subst e
    have h1 := h.inn i' hi'
    rw [upd_same]
    rw [hT] at h1 ⊢
    refine ⟨(h1.row.stored j v).1, fun u hu => ?_⟩
    rcases List.mem_or_eq_of_mem_set hu with h2 | h2
    · exact h1.one u h2
    · rw [h2]; exact hv
  · rw [upd_old _ _ e]
    exact (h.inn i' hi').but hB (fun k hk e2 => by have := h.ki i' hi' k hk; omega)
theorem Cb.same {w w' : World} {base : Nat} {col : Nat → Nat} (h : Cb w base col) (hs : w.heap.size ≤ w'.heap.size) : Cb w' base col := h.later hs
theorem Bu.putRow {wp w : World} {col : Nat → Nat} {aI : Option Addr} {L cI : Nat} {ids : List Int} {aR : Option Addr} {nR cR : Nat} {T : Nat → Sl} {V : Nat → List Value} {aL : Option Addr} {nL cL : Nat} {T2 : Nat → Sl} {V2 : Nat → List Value} (h : Bu wp w col aI L cI ids aR nR cR T V aL nL cL T2 V2) {i j g li ca : Nat} (hi : i < nR) (hn : nR ≤ 800) (hT : T i = (some ⟨g, 0, none⟩, li, ca)) (v : Value) (hv : v.oneCell' = true) :
    Bu wp (w.setCell ⟨g, j, none⟩ v) col aI L cI ids aR nR cR T (upd V i ((V i).set j v)) aL nL cL T2 V2 := by
  obtain ⟨hS, hB⟩ := h.rows.put (j := j) hi hT v hv (by omega)
  exact ⟨below_but h.bel h.cb (by omega) hB, h.cb.later hB.size, h.idr.but hB (fun k hk e => by have := h.kI k hk; omega), h.kI, hS, h.lists.but hB (fun k e1 e2 => by omega) (fun i' hi' k e1 e2 => by omega)⟩
theorem Bu.putList {wp w : World} {col : Nat → Nat} {aI : Option Addr} {L cI : Nat} {ids : List Int} {aR : Option Addr} {nR cR : Nat} {T : Nat → Sl} {V : Nat → List Value} {aL : Option Addr} {nL cL : Nat} {T2 : Nat → Sl} {V2 : Nat → List Value} (h : Bu wp w col aI L cI ids aR nR cR T V aL nL cL T2 V2) {i j g li ca : Nat} (hi : i < nL) (hn : nR ≤ 800) (hT : T2 i = (some ⟨g, 0, none⟩, li, ca)) (v : Value) (hv : v.oneCell' = true) :
    Bu wp (w.setCell ⟨g, j, none⟩ v) col aI L cI ids aR nR cR T V aL nL cL T2 (upd V2 i ((V2 i).set j v)) := by
  obtain ⟨hS, hB⟩ := h.lists.put (j := j) hi hT v hv (by omega)
  exact ⟨below_but h.bel h.cb (by omega) hB, h.cb.later hB.size, h.idr.but hB (fun k hk e => by have := h.kI k hk; omega), h.kI, h.rows.but hB (fun k e1 e2 => by omega) (fun i' hi' k e1 e2 => by omega), hS⟩
/-- The outer list's cells. -/
theorem Sf.cell {w : World} {base : Nat} {col : Nat → Nat} {e te : TypeId} {co ci : Nat} {a : Option Addr} {n cap : Nat} {T : Nat → Sl} {V : Nat → List Value} (h : Sf w base col e te co ci a n cap T V) {i : Nat} (hi : i < n) : ∃ g, a = some ⟨g, 0, none⟩ ∧ ∀ x l c, T i = (x, l, c) → w.cell? ⟨g, i, none⟩ = some (.slice x l c) := by
  obtain ⟨g, rfl, _⟩ := h.ou.spot (by omega)
  refine ⟨g, rfl, fun x l c hT => ?_⟩
  have h1 := h.ou.read.cells _ rfl i (sv (T i)) (by simp [hi])
  rw [addr_add0, hT] at h1
  exact h1
end Go.Proofs.Ytejkbeeffllpfaa
