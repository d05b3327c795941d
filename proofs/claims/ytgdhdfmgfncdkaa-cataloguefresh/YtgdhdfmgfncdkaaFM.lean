import Derived.Test.YtgdhdfmgfncdkaaVH
namespace Go.Proofs.Ytgdhdfmgfncdkaa
open Go.RowKit Go.Shelf H
set_option linter.unusedVariables false

/-! ### Lists that are lengthened -/
theorem Ow.form {w : World} {base : Nat} {e : TypeId} {k : Nat} {a : Option Addr} {n cap : Nat} {L : List Value} (h : Ow w base e k a n cap L) : (a = none ∧ n = 0 ∧ cap = 0) ∨ ∃ g, a = some ⟨g, 0, none⟩ ∧ (∀ j, w.frozen? ⟨g, j, none⟩ = false) ∧ n ≤ cap := by
  rcases h.2 with ⟨h1, h2⟩ | ⟨g, c, cur, hv, _, hh, hc, _⟩
  · simp only [Value.slice.injEq] at h1
    exact .inl ⟨h1.1, h2, h1.2.2⟩
  · simp only [Value.slice.injEq] at hv
    obtain ⟨rfl, _, rfl⟩ := hv
    exact .inr ⟨g, rfl, fun j => by simp [World.frozen?, hh], hc⟩
theorem Ow.cr {w : World} {base : Nat} {e : TypeId} {k : Nat} {a : Option Addr} {n cap : Nat} {L : List Value} (h : Ow w base e k a n cap L) (h1 : ∀ u ∈ L, u.oneCell' = true) : Cr w k a n cap L := by
  refine ⟨h.1, fun e => ?_, fun x hx j u hu => ?_, h1⟩
  · rcases h.form with ⟨_, h2⟩ | ⟨g, h2, _⟩
    · exact h2
    · rw [e] at h2; cases h2
  · rcases h.form with ⟨h2, _⟩ | ⟨g, h2, _⟩
    · rw [hx] at h2; cases h2
    · by_cases hn : 0 < n
      · obtain ⟨b, hb, hc⟩ := h.at_ hn
        rw [hb] at hx
        cases hx
        rw [addr_add0]
        exact hc j u hu
      · have hl := h.1
        have h0 : n = 0 := by omega
        rw [h0, Nat.zero_mul] at hl
        rw [List.eq_nil_of_length_eq_zero hl] at hu
        cases hu
theorem Ow.set1 {w : World} {base : Nat} {e : TypeId} {k g n cap : Nat} {L : List Value} (h : Ow w base e k (some ⟨g, 0, none⟩) n cap L) (j : Nat) (u : Value) : Ow (w.setCell ⟨g, j, none⟩ u) base e k (some ⟨g, 0, none⟩) n cap (L.set j u) := (World.ownsRow.stored h j u).1
/-- An empty literal. -/
theorem Ow.empty (w : World) (e : TypeId) (k : Nat) : Ow (w.alloc (Obj.cells #[] e)) w.heap.size e k (some ⟨w.heap.size, 0, none⟩) 0 0 [] :=
  ⟨by simp, .inr ⟨w.heap.size, 0, #[], rfl, Nat.le_refl _, heap_alloc_new w _, Nat.le_refl _, Nat.zero_le _, by simp, by simp⟩⟩
/-- What a list reads, cell by cell. -/
def Rv (w : World) (a : Option Addr) (L : List Value) : Prop := ∀ g, a = some ⟨g, 0, none⟩ → ∀ j u, L[j]? = some u → w.cell? ⟨g, j, none⟩ = some u
theorem Rv.but {S : Nat → Prop} {w w' : World} {a : Option Addr} {L : List Value} (h : Rv w a L) (hb : But S w w') (hn : ∀ j, Blk a j → ¬ S j) : Rv w' a L := fun g e j u hu => cell_but hb (h g e j u hu) (hn g ⟨_, e, rfl⟩)
theorem Rv.later {w w' : World} {a : Option Addr} {L : List Value} (h : Rv w a L) (hb : Below w.heap.size w w') : Rv w' a L := h.but (S := fun _ => False) (But.of hb) (fun _ _ h => h)
theorem Ow.rv {w : World} {base : Nat} {e : TypeId} {k : Nat} {a : Option Addr} {n cap : Nat} {L : List Value} (h : Ow w base e k a n cap L) : Rv w a L := fun g e j u hu => by
  by_cases hn : 0 < n
  · obtain ⟨b, hb, hc⟩ := h.at_ hn
    rw [hb] at e
    cases e
    exact hc j u hu
  · have hl := h.1
    have h0 : n = 0 := by omega
    rw [h0, Nat.zero_mul] at hl
    rw [List.eq_nil_of_length_eq_zero hl] at hu
    cases hu
theorem Rv.pre {w : World} {a : Option Addr} {L T : List Value} (h : Rv w a (L ++ T)) : Rv w a L := fun g e j u hu => h g e j u (by rw [List.getElem?_append_left (List.getElem?_eq_some_iff.1 hu).1]; exact hu)
set_option maxRecDepth 10000 in
theorem append_keep (t e : TypeId) (z : Value) (k by_ : Nat) (ht : Try.prog.underlying t = some (.slice e)) (hinf : (Try.prog.info? e).map (fun i => (i.zero, i.size, i.bytes)) = some (some z, k, by_)) (hzs : z.cells.size = k) (hk : 0 < k) (hby : 0 < by_)
    {w : World} {base : Nat} {a : Option Addr} {n cap : Nat} {L : List Value} {x : Addr} {m c : Nat} {M : List Value} (h : Ow w base e k a n cap L) (r : Cr w k (some x) m c M) (hm : 0 < m) (hb : base ≤ w.heap.size) (hr : (n + m) * by_ ≤ 140737488355328) :
    ∃ a' cap' w', (Builtin.append_ #[t, t] t #[.slice a n cap, .slice (some x) m c]).run Try.prog w = .ok (.slice a' (n + m) cap') w' ∧ Ow w' base e k a' (n + m) cap' (L ++ M) ∧ Gr a a' w w' ∧ ((a' = a ∧ cap' = cap) ∨ (Below w.heap.size w w' ∧ ∀ j, Blk a' j → w.heap.size ≤ j)) := by
  have hnm : n + m ≤ 140737488355328 := Nat.le_trans (Nat.le_mul_of_pos_right _ hby) hr
  rcases h.form with ⟨rfl, rfl, rfl⟩ | ⟨g, rfl, _, hnc⟩
  · obtain ⟨a', cap', w', hrun, hO, hG⟩ := append_k t e z k by_ ht hinf hzs hk hby h r hb hr
    refine ⟨a', cap', w', hrun, hO, hG, .inr ⟨⟨hG.but.os, hG.but.tape, hG.but.output, hG.but.size, fun j hj => hG.but.block j hj (fun e => by obtain ⟨_, e, _⟩ := e; cases e)⟩, fun j hj => ?_⟩⟩
    rcases hG.on j hj with e | e
    · obtain ⟨_, e, _⟩ := e; cases e
    · exact e
  · obtain ⟨i, hi, hz0, hz1, hz2⟩ := info_parts hinf
    by_cases hfit : n + m ≤ cap
    · obtain ⟨w', hrun, hO, hg⟩ := run_append_fits (P := Try.prog) w base t t e i k ht hi hz1 g n cap _ h x m c M r.len (r.cells x rfl) r.one hfit
      exact ⟨_, cap, w', hrun, hO, ⟨⟨hg.os, hg.tape, hg.output, hg.size, fun j hj hn => hg.block j hj (fun e => hn ⟨_, rfl, by simpa using e.symm⟩)⟩, fun j hj => .inl hj⟩, .inl ⟨rfl, rfl⟩⟩
    · have hl : L.length = n * k := h.1
      have hlm := r.len
      have hrun := run_append_grow (P := Try.prog) w t t e i _ ht hi hz0 ⟨g, 0, none⟩ n cap L (by rw [hz1]; exact hl) (fun j u hu => by rw [addr_add0]; exact h.rv g rfl j u hu) x m c M (by rw [hz1]; exact hlm) (r.cells x rfl) (by omega) (by omega) (growslice_fits (by omega) (by rw [hz2]; omega))
      have hB : Below w.heap.size w (w.drew.alloc (.cells (L.toArray ++ M.toArray ++ Builtin.zeroCells z.cells (grownCap w (n + m) cap e - (n + m))) e)) := ((Below.refl _ _).drew).alloc (by simp) _
      have hge : ∀ j, Blk (some ⟨w.heap.size, 0, none⟩) j → w.heap.size ≤ j := fun j hj => by
        obtain ⟨y, ey, rfl⟩ := hj
        cases ey
        exact Nat.le_refl _
      have hgc := grownCap_ge w (n + m) cap e
      refine ⟨_, _, _, hrun, ⟨by rw [List.length_append, hl, hlm, Nat.add_mul], .inr ⟨w.heap.size, _, _, rfl, hb, heap_alloc_new w.drew _, hgc, grownCap_le_maxLen _ _ _ _ (by unfold maxLen; omega), ?_, ?_⟩⟩, ⟨But.of hB, fun j hj => .inr (hge j hj)⟩, .inr ⟨hB, hge⟩⟩
      · simp only [Array.size_append, List.size_toArray, size_zeroCells, hl, hlm, hzs]
        rw [← Nat.add_mul, ← Nat.add_mul, Nat.add_sub_of_le hgc]
      · rw [Array.toList_append, Array.toList_append]
        exact List.take_left' (by simp [hl, hlm, Nat.add_mul])
/-- A list that is lengthened, and what it was. -/
structure Lz (w0 w : World) (base : Nat) (e : TypeId) (k : Nat) (a0 : Option Addr) (c0 : Nat) (L0 : List Value) (b : Option Addr) (c n : Nat) (L : List Value) : Prop where
  ow : Ow w base e k b n c L
  sh : (b = a0 ∧ c = c0) ∨ ∀ j, Blk b j → w0.heap.size ≤ j
  rv : Rv w a0 L0
  pre : ∃ T, L = L0 ++ T
  gr : Gr a0 b w0 w
  lt : ∀ j, Blk a0 j → j < w0.heap.size
theorem Lz.start {w : World} {base : Nat} {e : TypeId} {k : Nat} {a : Option Addr} {c n : Nat} {L : List Value} (h : Ow w base e k a n c L) : Lz w w base e k a c L a c n L :=
  ⟨h, .inl ⟨rfl, rfl⟩, h.rv, ⟨[], by simp⟩, Gr.refl _ _, fun j hj => (h.blk j hj).2⟩
theorem Lz.app (t e : TypeId) (z : Value) (k by_ : Nat) (ht : Try.prog.underlying t = some (.slice e)) (hinf : (Try.prog.info? e).map (fun i => (i.zero, i.size, i.bytes)) = some (some z, k, by_)) (hzs : z.cells.size = k) (hk : 0 < k) (hby : 0 < by_)
    {w0 w w1 : World} {base : Nat} {a0 : Option Addr} {c0 : Nat} {L0 : List Value} {b : Option Addr} {c n : Nat} {L : List Value} (h : Lz w0 w base e k a0 c0 L0 b c n L) (hl : Below w.heap.size w w1) {x : Addr} {m d : Nat} {M : List Value} (r : Cr w1 k (some x) m d M) (hm : 0 < m) (hb : base ≤ w.heap.size) (hr : (n + m) * by_ ≤ 140737488355328) :
    ∃ a' cap' w', (Builtin.append_ #[t, t] t #[.slice b n c, .slice (some x) m d]).run Try.prog w1 = .ok (.slice a' (n + m) cap') w' ∧ Lz w0 w' base e k a0 c0 L0 a' cap' (n + m) (L ++ M) := by
  obtain ⟨a', cap', w', hrun, hO, hG, hs⟩ := append_keep t e z k by_ ht hinf hzs hk hby (h.ow.later hl) r hm (Nat.le_trans hb hl.size) hr
  have hG2 := hG.pre hl
  have hsz := h.gr.but.size
  obtain ⟨T, hT⟩ := h.pre
  refine ⟨a', cap', w', hrun, hO, ?_, ?_, ⟨T ++ M, by rw [hT, List.append_assoc]⟩, h.gr.trans hG2, h.lt⟩
  · rcases hs with ⟨rfl, rfl⟩ | ⟨_, hge⟩
    · exact h.sh
    · exact .inr (fun j hj => Nat.le_trans hsz (Nat.le_trans hl.size (hge j hj)))
  · rcases hs with ⟨rfl, rfl⟩ | ⟨hB, _⟩
    · rcases h.sh with ⟨rfl, _⟩ | hge
      · have := hO.rv
        rw [hT, List.append_assoc] at this
        exact this.pre
      · exact h.rv.but hG2.but (fun j hj hj2 => by have := h.lt j hj; have := hge j hj2; omega)
    · exact (h.rv.later hl).later hB
/-! ### Writing an element -/
theorem caps_set : ∀ (K : List Cp) (i : Nat) (c : Cp), caps (K.set i c) = (((caps K).set (i * 3) (.int .i64 c.1)).set (i * 3 + 1) (.int .u64 (c.2.1 : Int))).set (i * 3 + 2) (.int .u64 (c.2.2 : Int))
  | [], i, c => by simp [caps]
  | x :: K, 0, c => by simp [caps, encC]
  | x :: K, i + 1, c => by
    have ih := caps_set K i c
    have e : (i + 1) * 3 = i * 3 + 1 + 1 + 1 := by omega
    unfold caps at ih ⊢
    simp only [List.set_cons_succ, List.flatMap_cons, encC, List.cons_append, List.nil_append, e]
    rw [ih]
theorem toks_set : ∀ (K : List Tok) (i : Nat) (c : Tok), toks (K.set i c) = (((((toks K).set (i * 5) (.int .i64 c.1.1)).set (i * 5 + 1) (.int .u64 (c.1.2.1 : Int))).set (i * 5 + 2) (.int .u64 (c.1.2.2 : Int))).set (i * 5 + 3) (.int .i64 c.2.1)).set (i * 5 + 4) (.int .i64 c.2.2)
  | [], i, c => by simp [toks]
  | x :: K, 0, c => by simp [toks, encT]
  | x :: K, i + 1, c => by
    have ih := toks_set K i c
    have e : (i + 1) * 5 = i * 5 + 1 + 1 + 1 + 1 + 1 := by omega
    unfold toks at ih ⊢
    simp only [List.set_cons_succ, List.flatMap_cons, encT, List.cons_append, List.nil_append, e]
    rw [ih]
def setC (w : World) (b o : Nat) (c : Cp) : World := ((w.setCell ⟨b, o, none⟩ (.int .i64 c.1)).setCell ⟨b, o + 1, none⟩ (.int .u64 (c.2.1 : Int))).setCell ⟨b, o + 2, none⟩ (.int .u64 (c.2.2 : Int))
theorem setC_but {S : Nat → Prop} {a w : World} (h : But S a w) {b : Nat} (hb : S b) (o : Nat) (c : Cp) : But S a (setC w b o c) :=
  ((h.setCell (p := ⟨b, o, none⟩) hb _).setCell (p := ⟨b, o + 1, none⟩) hb _).setCell (p := ⟨b, o + 2, none⟩) hb _
theorem Ow.setC {w : World} {base g n cap : Nat} {K : List Cp} (h : Ow w base 33 3 (some ⟨g, 0, none⟩) n cap (caps K)) (i : Nat) (c : Cp) : Ow (setC w g (i * 3) c) base 33 3 (some ⟨g, 0, none⟩) n cap (caps (K.set i c)) := by
  rw [caps_set]
  exact ((h.set1 _ _).set1 _ _).set1 _ _
theorem Ow.setT {w : World} {base g n cap : Nat} {K : List Tok} (h : Ow w base 35 5 (some ⟨g, 0, none⟩) n cap (toks K)) (i : Nat) (c : Tok) : Ow (set5o w g (i * 5) c) base 35 5 (some ⟨g, 0, none⟩) n cap (toks (K.set i c)) := by
  rw [toks_set]
  exact ((((h.set1 _ _).set1 _ _).set1 _ _).set1 _ _).set1 _ _
theorem caps_one (K : List Cp) : ∀ u ∈ caps K, u.oneCell' = true := fun u hu => by
  unfold caps at hu
  obtain ⟨x, _, hx⟩ := List.mem_flatMap.1 hu
  exact encC_one x u hx
theorem toks_one (K : List Tok) : ∀ u ∈ toks K, u.oneCell' = true := fun u hu => by
  unfold toks at hu
  obtain ⟨x, _, hx⟩ := List.mem_flatMap.1 hu
  exact encT_one x u hx
open Go.RowKit Go.Shelf H
set_option linter.unusedVariables false

/-! ### markedCaps -/
/-- The mark of list k. -/
def mrk (k : Nat) : Cp := (-1 - (k : Int), 0, 0)
theorem info43 : (Try.prog.info? 43).map (fun i => (i.zero, i.size, i.bytes)) = some (some (.slice none 0 0), 1, 24) := by kernel_rfl
theorem caps_rep (k n : Nat) : caps (List.replicate n (mrk k)) ++ encC (mrk k) = caps (List.replicate (n + 1) (mrk k)) := by
  rw [← caps_snoc, ← List.replicate_succ']
/-- Two lists of n, and the list of both. -/
structure Mk (w : World) (bl : Nat) (q : Nat → Option Addr) (cp : Nat → Nat) (n : Nat) (K : Nat → List Cp) : Prop where
  c : ∀ k, k < 2 → w.cell? ⟨bl, k, none⟩ = some (.slice (q k) n (cp k))
  ow : ∀ k, k < 2 → Ow w 0 33 3 (q k) n (cp k) (caps (K k))
  len : ∀ k, k < 2 → (K k).length = n
  ne : ∀ j, Blk (q 0) j → ¬ Blk (q 1) j
  nb : ∀ k, k < 2 → ¬ Blk (q k) bl
  small : n ≤ 512
def Qb (q : Nat → Option Addr) (k : Nat) : Prop := Blk (q 0) k ∨ Blk (q 1) k
theorem Qb.of {q : Nat → Option Addr} {k j : Nat} (h : k < 2) (hj : Blk (q k) j) : Qb q j := by
  have : k = 0 ∨ k = 1 := by omega
  rcases this with rfl | rfl
  · exact .inl hj
  · exact .inr hj
theorem apart2 {q : Nat → Option Addr} (h : ∀ j, Blk (q 0) j → ¬ Blk (q 1) j) {a b j : Nat} (ha : a < 2) (hb : b < 2) (hne : a ≠ b) (h1 : Blk (q a) j) : ¬ Blk (q b) j := fun h2 => by
  have e1 : a = 0 ∨ a = 1 := by omega
  have e2 : b = 0 ∨ b = 1 := by omega
  rcases e1 with rfl | rfl <;> rcases e2 with rfl | rfl
  · exact hne rfl
  · exact h j h1 h2
  · exact h j h2 h1
  · exact hne rfl
/-- One element of list k is written. -/
theorem Mk.set {w : World} {bl : Nat} {q : Nat → Option Addr} {cp : Nat → Nat} {n : Nat} {K : Nat → List Cp} (h : Mk w bl q cp n K) {k i g : Nat} (hk : k < 2) (hg : q k = some ⟨g, 0, none⟩) (c : Cp) : Mk (setC w g (i * 3) c) bl q cp n (fun j => if j = k then (K k).set i c else K j) ∧ But (Qb q) w (setC w g (i * 3) c) := by
  have hgb : Blk (q k) g := ⟨_, hg, rfl⟩
  have hb : But (· = g) w (setC w g (i * 3) c) := setC_but (S := (· = g)) (But.refl _ _) (b := g) (by rfl) _ _
  refine ⟨⟨fun j hj => cell_but hb (h.c j hj) (fun e => h.nb k hk (by show Blk (q k) bl; rw [show bl = g from e]; exact hgb)), fun j hj => ?_, fun j hj => ?_, h.ne, h.nb, h.small⟩, hb.mono (fun j e => Qb.of hk (by rw [show j = g from e]; exact hgb))⟩
  · by_cases e : j = k
    · subst e
      rw [if_pos rfl]
      have := h.ow j hj
      rw [hg] at this ⊢
      exact this.setC i c
    · rw [if_neg e]
      refine (h.ow j hj).but hb (fun m hm e2 => ?_)
      exact apart2 h.ne hj hk e hm (by rw [show m = g from e2]; exact hgb)
  · by_cases e : j = k
    · subst e
      rw [if_pos rfl, List.length_set]
      exact h.len j hj
    · rw [if_neg e]
      exact h.len j hj
/-- Those ahead of k are full of their marks. -/
def Full (n k : Nat) (K : Nat → List Cp) : Prop := ∀ j, j < k → j < 2 → K j = List.replicate n (mrk j)
def W1Rel (w : World) (bl : Nat) (q : Nat → Option Addr) (cp : Nat → Nat) (n : Nat) (t : Value) (w' : World) : Prop :=
  ∃ (k : Nat) (K : Nat → List Cp), k ≤ 2 ∧ t = .int .i64 (k : Int) ∧ Mk w' bl q cp n K ∧ Full n k K ∧ But (Qb q) w w'
def W2Rel (w : World) (bl : Nat) (q : Nat → Option Addr) (cp : Nat → Nat) (n k : Nat) (t : Value) (w' : World) : Prop :=
  ∃ (i : Nat) (K : Nat → List Cp), i ≤ n ∧ t = .int .i64 (i : Int) ∧ Mk w' bl q cp n K ∧ Full n k K ∧ (∀ j, j < i → (K k)[j]? = some (mrk k)) ∧ But (Qb q) w w'
def W4Rel (wc : World) (a : Option Addr) (c0 n k : Nat) (s t : Value) (w' : World) : Prop :=
  ∃ (i : Nat) (b : Option Addr) (c : Nat), i ≤ 40 ∧ t = .int .i64 (i : Int) ∧ s = .slice b (n + i) c ∧ Lz wc w' 0 33 3 a c0 (caps (List.replicate n (mrk k))) b c (n + i) (caps (List.replicate (n + i) (mrk k)))
/-- The lists so far. -/
structure W3 (wb : World) (q : Nat → Option Addr) (cp : Nat → Nat) (n k : Nat) (a : Option Addr) (cap : Nat) (L : List Value) (w : World) : Prop where
  ow : Own w wb.heap.size 43 a k cap L
  bb : But (Qb q) wb w
  rv : ∀ j, j < 2 → Rv w (q j) (caps (List.replicate n (mrk j)))
  fu : ∀ j, k ≤ j → j < 2 → Ow w 0 33 3 (q j) n (cp j) (caps (List.replicate n (mrk j)))
  el : ∀ j v, L[j]? = some v → ∃ b c, v = .slice b (n + 40) c ∧ Rd w b (n + 40) (List.replicate (n + 40) (mrk j)) ∧ ∀ i, Blk b i → ¬ Blk a i ∧ i < w.heap.size ∧ (Blk (q j) i ∨ wb.heap.size ≤ i)
def W3Rel (wb : World) (q : Nat → Option Addr) (cp : Nat → Nat) (n : Nat) (s t : Value) (w' : World) : Prop :=
  ∃ (k : Nat) (a : Option Addr) (cap : Nat) (L : List Value), k ≤ 2 ∧ t = .int .i64 (k : Int) ∧ s = .slice a k cap ∧ W3 wb q cp n k a cap L w'
def W6Rel (w : World) (n : Nat) (t : Value) (w' : World) : Prop := ∃ i : Nat, i ≤ n + 40 ∧ t = .int .i64 (i : Int) ∧ w' = w
def W5Rel (w : World) (t : Value) (w' : World) : Prop := ∃ k : Nat, k ≤ 2 ∧ t = .int .i64 (k : Int) ∧ w' = w
/-- A list is lengthened and put in with the others. -/
theorem W3.next {wb wc we : World} {q : Nat → Option Addr} {cp : Nat → Nat} {n k : Nat} {a : Option Addr} {cap : Nat} {L : List Value} (h : W3 wb q cp n k a cap L wc) (hk : k < 2) (ne : ∀ j, Blk (q 0) j → ¬ Blk (q 1) j) (hq : ∀ j, j < 2 → ∀ i, Blk (q j) i → i < wb.heap.size) (hn : n ≤ 512) {b : Option Addr} {c : Nat}
    (hz : Lz wc we 0 33 3 (q k) (cp k) (caps (List.replicate n (mrk k))) b c (n + 40) (caps (List.replicate (n + 40) (mrk k)))) :
    ∃ a6 cap6 w6, (Builtin.append_ #[52, 52] 52 #[.slice a k cap, .slice (some ⟨we.heap.size, 0, none⟩) 1 1]).run Try.prog (we.alloc (Obj.cells #[.slice b (n + 40) c] 43)) = .ok (.slice a6 (k + 1) cap6) w6 ∧ W3 wb q cp n (k + 1) a6 cap6 (L ++ [.slice b (n + 40) c]) w6 := by
  have hbx := below1 we (Obj.cells #[.slice b (n + 40) c] 43)
  have hsc := h.bb.size
  have hse := hz.gr.but.size
  have hab : ∀ i, Blk a i → wb.heap.size ≤ i ∧ i < wc.heap.size := fun i hi => ⟨h.ow.blk i hi, h.ow.lt i hi⟩
  have hqk : ∀ i, Blk (q k) i → i < wb.heap.size := hq k hk
  have hOb := (h.ow.but hz.gr.but (fun i hi hi2 => by have := hab i hi; have := hqk i hi2; omega)).later hbx
  obtain ⟨a6, cap6, w6, hr6, ho6, hg6⟩ := append_gen 52 43 _ 24 Try.underlying52 info43 rfl hOb (Row.single we 43 (.slice b (n + 40) c) rfl) (Nat.le_trans hsc (Nat.le_trans hse hbx.size)) (by omega) (by omega)
  have hs6 := hg6.but.size
  have hsx := hbx.size
  have hbl : ∀ i, Blk b i → (Blk (q k) i ∨ wc.heap.size ≤ i) ∧ i < we.heap.size := fun i hi => ⟨hz.gr.on i hi, (hz.ow.blk i hi).2⟩
  refine ⟨a6, cap6, w6, hr6, ho6, ?_, fun j hj => ?_, fun j hj hj2 => ?_, fun j v hv => ?_⟩
  · exact (((h.bb.trans (hz.gr.but.mono (fun i hi => Qb.of hk hi))).call hbx)).comp hg6.but (fun i hi => .inr (hab i hi).1)
  · have h1 : Rv we (q j) (caps (List.replicate n (mrk j))) := by
      by_cases e : j = k
      · subst e; exact hz.rv
      · exact (h.rv j hj).but hz.gr.but (fun i hi => apart2 ne hj hk e hi)
    exact (h1.later hbx).but hg6.but (fun i hi hi2 => by have := hab i hi2; have := hq j hj i hi; omega)
  · have h1 := (h.fu j (by omega) hj2).but hz.gr.but (fun i hi => apart2 ne hj2 hk (by omega) hi)
    exact (h1.later hbx).but hg6.but (fun i hi hi2 => by have := hab i hi2; have := hq j hj2 i hi; omega)
  · have hL := h.ow.len
    rcases Nat.lt_or_ge j k with h3 | h3
    · rw [List.getElem?_append_left (by omega)] at hv
      obtain ⟨b', c', e, hrd, hnb⟩ := h.el j v hv
      have hrd1 := hrd.but hz.gr.but (fun i hi hi2 => by
        rcases (hnb i hi).2.2 with h4 | h4
        · exact apart2 ne (by omega) hk (by omega) h4 hi2
        · have := hqk i hi2; omega)
      refine ⟨b', c', e, (hrd1.later hbx).but hg6.but (fun i hi => (hnb i hi).1), fun i hi => ⟨fun hi2 => ?_, by have := (hnb i hi).2.1; omega, (hnb i hi).2.2⟩⟩
      rcases hg6.on i hi2 with h4 | h4
      · exact (hnb i hi).1 h4
      · have := (hnb i hi).2.1; omega
    · have hj : j = k := by
        have := (List.getElem?_eq_some_iff.1 hv).1
        simp at this
        omega
      subst hj
      rw [List.getElem?_append_right (by omega)] at hv
      have e0 : j - L.length = 0 := by omega
      rw [e0] at hv
      simp at hv
      subst hv
      have hna : ∀ i, Blk b i → ¬ Blk a i := fun i hi hi2 => by
        have h5 := hab i hi2
        rcases (hbl i hi).1 with h4 | h4
        · have := hqk i h4; omega
        · omega
      refine ⟨b, c, rfl, ((hz.ow.rd (by simp)).later hbx).but hg6.but hna, fun i hi => ⟨fun hi2 => ?_, by have := (hbl i hi).2; omega, ?_⟩⟩
      · rcases hg6.on i hi2 with h4 | h4
        · exact hna i hi h4
        · have := (hbl i hi).2; omega
      · rcases (hbl i hi).1 with h4 | h4
        · exact .inl h4
        · exact .inr (by omega)
set_option maxRecDepth 100000 in
set_option maxHeartbeats 20000000 in
theorem mark_any {w : World} {bl : Nat} {q : Nat → Option Addr} {cp : Nat → Nat} {n : Nat} {K0 : Nat → List Cp} (cl : Nat) (h : Mk w bl q cp n K0) :
    Calls Try.prog 18 #[.slice (some ⟨bl, 0, none⟩) 2 cl] w fun e w' => e = .returned (.bool true) ∧ But (Qb q) w w' := by
  have HH := hid h
  have hsm := h.small
  clear h
  go_enter Try.func18, Try.ntmps18
  go_upto_region 2 with fail
  go_loopw [3] (W1Rel w bl q cp n) (fun t _ => 2 - (intOf t).toNat)
  case atStart => exact ⟨0, K0, by omega, rfl, HH.out, fun j hj => absurd hj (Nat.not_lt_zero _), But.refl _ _⟩
  case round =>
    obtain ⟨k, K, hk, rfl, hM, hF, hB⟩ := hrel
    have HM := hid hM
    have HF := hid hF
    have HB := hid hB
    clear hM hF hB
    by_cases hk2 : k < 2
    · go_upto_region 5 with fail
      go_loopw [4] (W2Rel w bl q cp n k) (fun t _ => n - (intOf t).toNat)
      case atStart => exact ⟨0, K, Nat.zero_le _, rfl, HM.out, HF.out, fun j hj => absurd hj (Nat.not_lt_zero _), HB.out⟩
      case round =>
        obtain ⟨i, K2, hi, rfl, hM2, hF2, hm2, hB2⟩ := hrel
        have x0 := hM2.c k hk2
        have HM2 := hid hM2
        have HF2 := hid hF2
        have HM3 := hid hm2
        have HB2 := hid hB2
        clear hF2 hm2 hB2
        by_cases hlt : i < n
        · have hOw := hM2.ow k hk2
          have hl := hM2.len k hk2
          obtain ⟨c, hc⟩ : ∃ c, (K2 k)[i]? = some c := ⟨_, List.getElem?_eq_getElem (by omega)⟩
          rcases hOw.form with ⟨_, h0, _⟩ | ⟨g, hg, hfr, hnc⟩
          · omega
          obtain ⟨b', o', e', hcel⟩ := (hOw.rd hl).at_ (by omega)
          rw [hg] at e'
          cases e'
          obtain ⟨c0, c1, c2⟩ := hcel i c hc
          simp only [Nat.zero_add] at c0 c1 c2
          have HST := hid (hM2.set (i := i) hk2 hg (mrk k))
          rw [hg] at x0
          have hwr : IntKind.i64.wrap (-1 - (k : Int)) = -1 - (k : Int) := by rw [IntKind.wrap_i64]; omega
          generalize cp k = cpk at *
          clear hM2 hOw hc hcel hg
          go_wp2
          refine ⟨⟨i + 1, _, by omega, by go_num, HST.out.1, fun j hj hj2 => ?_, fun j hj => ?_, HB2.out.trans HST.out.2⟩, by simp [intOf]; omega⟩
          · have e : ¬ j = k := by omega
            simp only [if_neg e]
            exact HF2.out j hj hj2
          · simp only [if_true]
            rw [List.getElem?_set]
            by_cases e : i = j
            · subst e
              rw [if_pos rfl, if_pos (by omega)]
            · rw [if_neg e]
              exact HM3.out j (by omega)
        · have hfu : Full n (k + 1) K2 := fun j hj hj2 => by
            rcases Nat.lt_or_ge j k with h3 | h3
            · exact HF2.out j h3 hj2
            · obtain rfl : j = k := by omega
              apply List.ext_getElem?
              intro m
              have hl := HM2.out.len j hk2
              rcases Nat.lt_or_ge m n with h4 | h4
              · rw [HM3.out m (by omega), List.getElem?_replicate, if_pos h4]
              · rw [List.getElem?_eq_none (by omega), List.getElem?_eq_none (by simp; omega)]
          have HFU := hid hfu
          generalize q k = qk at x0
          generalize cp k = cpk at x0
          clear hM2 hfu
          go_wp2
          exact ⟨⟨k + 1, K2, by omega, by go_num, HM2.out, HFU.out, HB2.out⟩, by simp [intOf]; omega⟩
    · obtain rfl : k = 2 := by omega
      have HW0 : Hid (W3 wr q cp n 0 none 0 [] wr) := ⟨Own.nil _ _ _, But.refl _ _, fun j hj => by have := (HM.out.ow j hj).rv; rwa [HF.out j hj hj] at this, fun j _ hj => by have := HM.out.ow j hj; rwa [HF.out j hj hj] at this, fun j v hv => by cases hv⟩
      have HQ : Hid (∀ j, j < 2 → ∀ i, Blk (q j) i → i < wr.heap.size) := fun j hj i hi => ((HM.out.ow j hj).blk i hi).2
      go_upto_region 10 with fail
      obtain ⟨wb, hwb⟩ : ∃ wb, wb = wr := ⟨_, rfl⟩
      rw [← hwb] at HM HB HW0 HQ ⊢
      clear hwb
      simp only [Int.cast_ofNat_Int]
      go_loopw [5, 6] (W3Rel wb q cp n) (fun _ t _ => 2 - (intOf t).toNat)
      case atStart => exact ⟨0, none, 0, [], by omega, rfl, rfl, HW0.out⟩
      case round =>
        obtain ⟨k, a, cap, L, hk, rfl, rfl, hW⟩ := hrel
        have HW := hid hW
        by_cases hk2 : k < 2
        · have x0 := cell_but hW.bb (HM.out.c k hk2) (fun e => by rcases e with e | e; exact HM.out.nb 0 (by omega) e; exact HM.out.nb 1 (by omega) e)
          have hwr : IntKind.i64.wrap (-1 - (k : Int)) = -1 - (k : Int) := by rw [IntKind.wrap_i64]; omega
          have hkd : decide ((k : Int) < 2) = true := decide_eq_true (by omega)
          have HLZ := hid (Lz.start (hW.fu k (Nat.le_refl _) hk2))
          have HNX : Hid (∀ (we : World) (b : Option Addr) (c : Nat), Lz wr we 0 33 3 (q k) (cp k) (caps (List.replicate n (mrk k))) b c (n + 40) (caps (List.replicate (n + 40) (mrk k))) → ∃ a6 cap6 w6, (Builtin.append_ #[52, 52] 52 #[.slice a k cap, .slice (some ⟨we.heap.size, 0, none⟩) 1 1]).run Try.prog (we.alloc (Obj.cells #[.slice b (n + 40) c] 43)) = .ok (.slice a6 (k + 1) cap6) w6 ∧ W3 wb q cp n (k + 1) a6 cap6 (L ++ [.slice b (n + 40) c]) w6) := fun we b c hz => HW.out.next hk2 HM.out.ne HQ.out hsm hz
          clear hW
          generalize q k = qk at *
          generalize cp k = cpk at *
          go_upto_region 14 with fail
          clear hkd
          obtain ⟨wc, hwc⟩ : ∃ wc, wc = wr := ⟨_, rfl⟩
          rw [← hwc] at HW HLZ HNX x0 ⊢
          clear hwc x0
          go_loopw [7, 8] (W4Rel wc qk cpk n k) (fun _ t _ => 40 - (intOf t).toNat)
          case atStart => exact ⟨0, _, _, by omega, rfl, rfl, HLZ.out⟩
          case round =>
            obtain ⟨i, b4, c4, hi, rfl, rfl, hz⟩ := hrel
            by_cases hi4 : i < 40
            · have hbx := below1 wr (Obj.cells #[.int .i64 (-1 - (k : Int)), .int .u64 0, .int .u64 0] 33)
              have hcx : Cr (wr.alloc (Obj.cells #[.int .i64 (-1 - (k : Int)), .int .u64 0, .int .u64 0] 33)) 3 (some ⟨wr.heap.size, 0, none⟩) 1 1 (encC (mrk k)) := Cr.lit wr 33 (encC (mrk k)) (encC_one _)
              obtain ⟨a5, cap5, w5, hr5, hz5⟩ := Lz.app 43 33 _ 3 24 Try.underlying43 info33 rfl (by omega) (by omega) hz hbx hcx (by omega) (Nat.zero_le _) (by omega)
              rw [caps_rep] at hz5
              have HR5 := hid hr5
              have HZ5 := hid hz5
              clear hr5 hz5 hbx hcx hz
              go_wp2_with (first | (at_builtin; refine wpList_append_known rfl _ _ 43 rfl _ _ rfl rfl _ w5 HR5.out ?_))
              exact ⟨⟨i + 1, a5, cap5, by omega, by go_num, by rw [Nat.add_assoc], HZ5.out⟩, by simp [intOf]; omega⟩
            · obtain rfl : i = 40 := by omega
              obtain ⟨a6, cap6, w6, hr6, hW6⟩ := HNX.out wr b4 c4 hz
              have HR6 := hid hr6
              have HW6 := hid hW6
              clear hr6 hW6 hz
              go_wp2_with (first | (at_builtin; refine wpList_append_known rfl _ _ 52 rfl _ _ rfl rfl _ w6 HR6.out ?_))
              exact ⟨⟨k + 1, a6, cap6, _, by omega, by go_num, rfl, HW6.out⟩, by simp [intOf]; omega⟩
        · obtain rfl : k = 2 := by omega
          have HRw := hid hW.ow.read
          clear hW
          go_upto_region 19 with fail
          obtain ⟨wd, hwd⟩ : ∃ wd, wd = wr := ⟨_, rfl⟩
          rw [← hwd] at HRw HW ⊢
          clear hwd
          simp only [Int.cast_ofNat_Int]
          have HMd : Hid (∀ k, k < 2 → wd.cell? ⟨bl, k, none⟩ = some (.slice (q k) n (cp k))) := fun k hk => cell_but HW.out.bb (HM.out.c k hk) (fun e => by rcases e with e | e; exact HM.out.nb 0 (by omega) e; exact HM.out.nb 1 (by omega) e)
          go_loopw [9] (W5Rel wd) (fun t _ => 2 - (intOf t).toNat)
          case atStart => exact ⟨0, by omega, rfl, rfl⟩
          case round =>
            obtain ⟨k, hk, rfl, rfl⟩ := hrel
            by_cases hk2 : k < 2
            · have hwr : IntKind.i64.wrap (-1 - (k : Int)) = -1 - (k : Int) := by rw [IntKind.wrap_i64]; omega
              obtain ⟨v, hv⟩ : ∃ v, L[k]? = some v := ⟨_, List.getElem?_eq_getElem (by rw [HRw.out.len]; exact hk2)⟩
              obtain ⟨bx, cx, rfl, hrd, _⟩ := HW.out.el k v hv
              obtain ⟨ba, oa, rfl, hcl⟩ := HRw.out.plain (by omega)
              have xl := hcl k _ hv
              obtain ⟨bb, oo, rfl, hcel⟩ := hrd.at_ (by omega)
              have HCEL := hid hcel
              have xa := HMd.out k hk2
              have HRV := hid (HW.out.rv k hk2)
              have HOF := hid ((HM.out.ow k hk2).form)
              clear hv hrd hcl hcel
              generalize q k = qk at *
              generalize cp k = cpk at *
              go_upto_region 22 with fail
              go_loopw [10] (W6Rel wr n) (fun t _ => n + 40 - (intOf t).toNat)
              case atStart => exact ⟨0, Nat.zero_le _, rfl, rfl⟩
              case round =>
                obtain ⟨i, hi, rfl, rfl⟩ := hrel
                by_cases hin : i < n + 40
                · have e0 := (HCEL.out i (mrk k) (by rw [List.getElem?_replicate, if_pos hin])).c0
                  have hm1 : (mrk k).1 = -1 - (k : Int) := rfl
                  rw [hm1] at e0
                  have hini : (i : Int) < (n : Int) + 40 := by omega
                  by_cases hi2 : i < n
                  · rcases HOF.out with ⟨_, h0, _⟩ | ⟨g, hg, _, _⟩
                    · omega
                    have f0 := HRV.out g hg (i * 3) (.int .i64 (-1 - (k : Int))) (by
                      have := cls_get (enc := encC) (k := 3) (fun _ => rfl) (List.replicate n (mrk k)) i 0 (mrk k) (by rw [List.getElem?_replicate, if_pos hi2]) (by omega)
                      rw [Nat.add_zero] at this
                      exact this)
                    subst hg
                    clear hm1
                    go_wp2
                    exact ⟨⟨i + 1, by omega, by go_num, rfl⟩, by simp [intOf]; omega⟩
                  · clear hm1
                    go_wp2
                    exact ⟨⟨i + 1, by omega, by go_num, rfl⟩, by simp [intOf]; omega⟩
                · have hini : ¬ (i : Int) < (n : Int) + 40 := by omega
                  go_wp2
                  exact ⟨⟨k + 1, by omega, by go_num, rfl⟩, by simp [intOf]; omega⟩
            · go_wp2
              go_ret
              exact ⟨rfl, HB.out.trans HW.out.bb⟩
open Go.RowKit Go.Shelf H
set_option linter.unusedVariables false

/-! ### CatalogueFresh -/
theorem cdrop_g {w : World} {A : Ad} {kn mo : Nat} {X : List Tk} {l : Fo} (h : Cat w A kn mo X l) (n : Int) :
    Calls Try.prog 14 #[.pointer (some ⟨A.g, 0, none⟩), .int .i64 n] w fun e w' => ∃ a c, e = .returned (.tuple #[.slice a (G true l n).length c, .int .i64 (if n ∈ nums l then 0 else 20)]) ∧ Ow w' w.heap.size 33 3 a (G true l n).length c (caps ((G true l n).map (fun k => (tk X k).1))) ∧ Cat w' A kn mo (zer X (G true l n)) (cuts l (G true l n)) ∧ But A.Wr w w' := by
  have := cdrop_any h n
  unfold Dropped at this
  rw [dropS_eq] at this
  simp only at this
  rw [drop_if] at this
  exact this
theorem Cr.lit2 (w : World) (x y : Tok) : Cr (w.alloc (Obj.cells (encT x ++ encT y).toArray 35)) 5 (some ⟨w.heap.size, 0, none⟩) 2 2 (toks [x, y]) := by
  have h := Cr.lit w 35 (encT x ++ encT y) (fun u hu => by rcases List.mem_append.1 hu with h | h; exact encT_one x u h; exact encT_one y u h)
  have e : toks [x, y] = encT x ++ encT y := by simp [toks]
  rw [e]
  exact ⟨rfl, fun h => (by cases h), h.cells, h.one⟩
def mT (r : Int) : Tok := ((0, 0, 0), r, 0)
/-- A list whose first i elements are marked. -/
def mkL (r : Int) (O : List Tok) (i : Nat) : List Tok := List.replicate i (mT r) ++ O.drop i
theorem mkL_len (r : Int) (O : List Tok) (i : Nat) (h : i ≤ O.length) : (mkL r O i).length = O.length := by unfold mkL; simp; omega
theorem mkL_step (r : Int) (O : List Tok) (i : Nat) (h : i < O.length) : (mkL r O i).set i (mT r) = mkL r O (i + 1) := by
  unfold mkL
  rw [List.set_append_right _ _ (by simp)]
  simp only [List.length_replicate, Nat.sub_self]
  rw [List.drop_eq_getElem_cons h, List.set_cons_zero, List.replicate_succ', List.append_assoc]
  rfl
theorem mkL_end (r : Int) (O : List Tok) : mkL r O O.length = List.replicate O.length (mT r) := by unfold mkL; simp
theorem toks_append (K M : List Tok) : toks (K ++ M) = toks K ++ toks M := by simp [toks]
/-- Both lists of Of, marked up to i. -/
structure Mp (w : World) (s3 s4 : Nat) (a b : Option Addr) (ca cb n : Nat) (O : List Tok) (i : Nat) : Prop where
  a : Ow w s3 35 5 a n ca (toks (mkL (-1) O i))
  b : Ow w s4 35 5 b n cb (toks (mkL (-2) O i))
def Sab (a b : Option Addr) (j : Nat) : Prop := Blk a j ∨ Blk b j
theorem Mp.step {w : World} {s3 s4 ga gb ca cb n : Nat} {O : List Tok} {i : Nat} (h : Mp w s3 s4 (some ⟨ga, 0, none⟩) (some ⟨gb, 0, none⟩) ca cb n O i) (hi : i < O.length) (hne : ga ≠ gb) :
    Mp (set5o (set5o w ga (i * 5) (mT (-1))) gb (i * 5) (mT (-2))) s3 s4 (some ⟨ga, 0, none⟩) (some ⟨gb, 0, none⟩) ca cb n O (i + 1) ∧ But (Sab (some ⟨ga, 0, none⟩) (some ⟨gb, 0, none⟩)) w (set5o (set5o w ga (i * 5) (mT (-1))) gb (i * 5) (mT (-2))) := by
  have h1 : But (· = ga) w (set5o w ga (i * 5) (mT (-1))) := set5o_but (S := (· = ga)) (But.refl _ _) rfl _ _
  have h2 : But (· = gb) (set5o w ga (i * 5) (mT (-1))) (set5o (set5o w ga (i * 5) (mT (-1))) gb (i * 5) (mT (-2))) := set5o_but (S := (· = gb)) (But.refl _ _) rfl _ _
  refine ⟨⟨?_, ?_⟩, (h1.mono (fun j e => .inl ⟨_, rfl, e.symm⟩)).trans (h2.mono (fun j e => .inr ⟨_, rfl, e.symm⟩))⟩
  · rw [← mkL_step _ _ _ hi]
    exact (h.a.setT i _).but h2 (fun j hj e => by obtain ⟨y, ey, rfl⟩ := hj; cases ey; exact hne e)
  · rw [← mkL_step _ _ _ hi]
    exact (h.b.but h1 (fun j hj e => by obtain ⟨y, ey, rfl⟩ := hj; cases ey; exact hne e.symm)).setT i _
def Fr1 (w0 : World) (s3 s4 : Nat) (a b : Option Addr) (ca cb n : Nat) (O : List Tok) (t : Value) (w : World) : Prop :=
  ∃ i : Nat, i ≤ n ∧ t = .int .i64 (i : Int) ∧ Mp w s3 s4 a b ca cb n O i ∧ But (Sab a b) w0 w
def Fr2 (w0 : World) (n : Nat) (t : Value) (w : World) : Prop := ∃ i : Nat, i ≤ n + 2 ∧ t = .int .i64 (i : Int) ∧ w = w0
def Fr3 (w0 : World) (n : Nat) (t : Value) (w : World) : Prop := ∃ i : Nat, i ≤ n ∧ t = .int .i64 (i : Int) ∧ Below w0.heap.size w0 w
/-- Behind both lengthenings. -/
structure Lg (w11 w13 : World) (a b m o : Option Addr) (cm co n : Nat) : Prop where
  ra : Rv w13 a (toks (List.replicate n (mT (-1))))
  rb : Rv w13 b (toks (List.replicate n (mT (-2))))
  rm : Rt w13 m (n + 2) (List.replicate (n + 2) (mT (-1)))
  ro : Rt w13 o (n + 2) (List.replicate (n + 2) (mT (-2)))
  bu : But (Sab a b) w11 w13
theorem rep2 (n : Nat) (r : Int) : toks (List.replicate n (mT r)) ++ toks [mT r, mT r] = toks (List.replicate (n + 2) (mT r)) := by
  rw [← toks_append]
  congr 1
  rw [show n + 2 = (n + 1) + 1 from rfl, List.replicate_succ', List.replicate_succ', List.append_assoc]
  rfl
theorem lengthen {w11 : World} {s3 s4 : Nat} {a b : Option Addr} {ca cb n : Nat} {O : List Tok} (hO : O.length = n) (hn : n ≤ 256) (h : Mp w11 s3 s4 a b ca cb n O n) (hs3 : s3 ≤ w11.heap.size) (hs4 : s4 ≤ w11.heap.size) (hab : ∀ j, Blk a j → ¬ Blk b j) :
    ∃ m cm w12, (Builtin.append_ #[27, 27] 27 #[.slice a n ca, .slice (some ⟨w11.heap.size, 0, none⟩) 2 2]).run Try.prog (w11.alloc (Obj.cells #[.int .i64 0, .int .u64 0, .int .u64 0, .int .i64 (-1), .int .i64 0, .int .i64 0, .int .u64 0, .int .u64 0, .int .i64 (-1), .int .i64 0] 35)) = .ok (.slice m (n + 2) cm) w12 ∧
    ∃ o co w13, (Builtin.append_ #[27, 27] 27 #[.slice b n cb, .slice (some ⟨w12.heap.size, 0, none⟩) 2 2]).run Try.prog (w12.alloc (Obj.cells #[.int .i64 0, .int .u64 0, .int .u64 0, .int .i64 (-2), .int .i64 0, .int .i64 0, .int .u64 0, .int .u64 0, .int .i64 (-2), .int .i64 0] 35)) = .ok (.slice o (n + 2) co) w13 ∧ Lg w11 w13 a b m o cm co n := by
  obtain ⟨h1, h2⟩ := h
  rw [← hO, mkL_end] at h1 h2
  rw [hO] at h1 h2
  have hl1 := below1 w11 (Obj.cells (encT (mT (-1)) ++ encT (mT (-1))).toArray 35)
  obtain ⟨m, cm, w12, hr1, hz1⟩ := Lz.app 27 35 _ 5 40 Try.underlying27 info35 rfl (by omega) (by omega) (Lz.start h1) hl1 (Cr.lit2 w11 (mT (-1)) (mT (-1))) (by omega) hs3 (by omega)
  rw [rep2] at hz1
  have hb12 := h2.but hz1.gr.but (fun j hj hj2 => hab j hj2 hj)
  have hsz := hz1.gr.but.size
  have hl2 := below1 w12 (Obj.cells (encT (mT (-2)) ++ encT (mT (-2))).toArray 35)
  obtain ⟨o, co, w13, hr2, hz2⟩ := Lz.app 27 35 _ 5 40 Try.underlying27 info35 rfl (by omega) (by omega) (Lz.start hb12) hl2 (Cr.lit2 w12 (mT (-2)) (mT (-2))) (by omega) (Nat.le_trans hs4 hsz) (by omega)
  rw [rep2] at hz2
  refine ⟨m, cm, w12, hr1, o, co, w13, hr2, ⟨hz1.rv.but hz2.gr.but hab, hz2.rv, ((hz1.ow.but hz2.gr.but (fun j hj hj2 => ?_)).rt (by simp)), hz2.ow.rt (by simp), (hz1.gr.but.mono (fun j hj => .inl hj)).trans (hz2.gr.but.mono (fun j hj => .inr hj))⟩⟩
  rcases hz1.gr.on j hj with h3 | h3
  · exact hab j h3 hj2
  · have := (h2.blk j hj2).2; omega
/-- What Drop hands out is not there any more. -/
structure Gone (mo : Nat) (X : List Tk) (l : Fo) (X' : List Tk) (l' : Fo) (K : List Cp) : Prop where
  no : ∀ c ∈ K, hasC X' l' c = false ∧ c.2.1 < B64 ∧ c.2.2 < B64
  len : l'.length + K.length = l.length
  small : l.length ≤ mo
theorem gone_of {mo : Nat} {X : List Tk} {l : Fo} (h : Inv mo X l) (n : Int) : Gone mo X l (zer X (G true l n)) (cuts l (G true l n)) ((G true l n).map (fun k => (tk X k).1)) := by
  refine ⟨fun c hc => ?_, ?_, h.ok.len⟩
  · obtain ⟨k, hk, rfl⟩ := List.mem_map.1 hc
    exact ⟨hasC_cut h hk, h.wide k (G_nums h.ok hk)⟩
  · rw [List.length_map]
    exact cuts_len h.ok (G_nodup h.ok true n) (fun x hx => G_nums h.ok hx)
end Go.Proofs.Ytgdhdfmgfncdkaa
