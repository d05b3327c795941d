import Derived.Test.YtlelglfdamakaaaMZ
namespace Go.Proofs.Ytlelglfdamakaaa
open Go.RowKit Go.Shelf H
set_option linter.unusedVariables false

/-! ### Lists filled one by one -/
/-- How many ahead of k. -/
def cntF (p : Int → Bool) (k : Nat) : Nat := ((firsts k).filter p).length
theorem cntF_succ (p : Int → Bool) (k : Nat) : cntF p (k + 1) = cntF p k + (if p (k : Int) = true then 1 else 0) := by
  unfold cntF
  rw [firsts_succ, List.filter_append, List.length_append]
  congr 1
  by_cases h : p (k : Int) = true
  · rw [if_pos h]; simp [h]
  · rw [if_neg h]; simp [h]
theorem cntF_le (p : Int → Bool) (k : Nat) : cntF p k ≤ k := by
  have := List.length_filter_le p (firsts k)
  rw [firsts_len] at this
  exact this
theorem cntF_all {m : Nat} {A : List Int} (hn : A.Nodup) (hr : ∀ x ∈ A, 0 ≤ x ∧ x < (m : Int)) : cntF (fun x => decide (x ∈ A)) m = A.length := by
  refine same_len (List.Nodup.sublist List.filter_sublist (firsts_nodup m)) hn (fun x => ?_)
  rw [List.mem_filter, mem_firsts, decide_eq_true_eq]
  exact ⟨fun h => h.2, fun h => ⟨hr x h, h⟩⟩
theorem dropS_eq (X : List Tk) (l : Fo) (n : Int) : dropS ⟨X, l⟩ n = ⟨zer X (G true l n), cuts l (G true l n)⟩ := by
  unfold dropS
  by_cases h : n ∈ nums l
  · rw [if_pos h]
  · rw [if_neg h, G_out h, cuts_nil]; rfl
theorem drop_if (l : Fo) (n : Int) : (if n ∈ nums l then G true l n else []) = G true l n := by
  by_cases h : n ∈ nums l
  · rw [if_pos h]
  · rw [if_neg h, G_out h]
/-! ### Tokens and booleans in arrays -/
def set5o (w : World) (b o : Nat) (c : Tok) : World :=
  ((((w.setCell ⟨b, o, none⟩ (.int .i64 c.1.1)).setCell ⟨b, o + 1, none⟩ (.int .u64 (c.1.2.1 : Int))).setCell ⟨b, o + 2, none⟩ (.int .u64 (c.1.2.2 : Int))).setCell ⟨b, o + 3, none⟩ (.int .i64 c.2.1)).setCell ⟨b, o + 4, none⟩ (.int .i64 c.2.2)
/-- Rights that grow nowhere. -/
theorem i64_or_nat (a b : Nat) (ha : a < 32) (hb : b < 32) : bits .or .i64 (a : Int) (b : Int) = ((a ||| b : Nat) : Int) := by
  have hx : a ||| b < 2 ^ 5 := Nat.or_lt_two_pow (by omega) (by omega)
  show IntKind.i64.wrap ((BitVec.ofInt 64 (a : Int) ||| BitVec.ofInt 64 (b : Int)).toNat : Int) = _
  rw [BitVec.toNat_or, BitVec.ofInt_natCast, BitVec.ofInt_natCast, BitVec.toNat_ofNat, BitVec.toNat_ofNat, Nat.mod_eq_of_lt (a := a) (by omega), Nat.mod_eq_of_lt (a := b) (by omega), IntKind.wrap_i64]
  omega
theorem or_of_and : ∀ a, a < 32 → ∀ b, b < 32 → (decide (a &&& b = a)) = decide (a ||| b = b) := by decide +kernel
end Go.Proofs.Ytlelglfdamakaaa
namespace Go.Proofs.Ytlelglfdamakaaa
open Go.RowKit Go.Shelf H
set_option linter.unusedVariables false

/-! ### Lists that are lengthened -/
theorem Ow.form {w : World} {base : Nat} {e : TypeId} {k : Nat} {a : Option Addr} {n cap : Nat} {L : List Value} (h : Ow w base e k a n cap L) : (a = none ∧ n = 0 ∧ cap = 0) ∨ ∃ g, a = some ⟨g, 0, none⟩ ∧ (∀ j, w.frozen? ⟨g, j, none⟩ = false) ∧ n ≤ cap := by
  rcases h.2 with ⟨h1, h2⟩ | ⟨g, c, cur, hv, _, hh, hc, _⟩
  · simp only [Value.slice.injEq] at h1
    exact .inl ⟨h1.1, h2, h1.2.2⟩
  · simp only [Value.slice.injEq] at hv
    obtain ⟨rfl, _, rfl⟩ := hv
    exact .inr ⟨g, rfl, fun j => by simp [World.frozen?, hh], hc⟩
theorem Ow.set1 {w : World} {base : Nat} {e : TypeId} {k g n cap : Nat} {L : List Value} (h : Ow w base e k (some ⟨g, 0, none⟩) n cap L) (j : Nat) (u : Value) : Ow (w.setCell ⟨g, j, none⟩ u) base e k (some ⟨g, 0, none⟩) n cap (L.set j u) := (World.ownsRow.stored h j u).1
/-- What a list reads, cell by cell. -/
def Rv (w : World) (a : Option Addr) (L : List Value) : Prop := ∀ g, a = some ⟨g, 0, none⟩ → ∀ j u, L[j]? = some u → w.cell? ⟨g, j, none⟩ = some u
theorem Rv.but {S : Nat → Prop} {w w' : World} {a : Option Addr} {L : List Value} (h : Rv w a L) (hb : But S w w') (hn : ∀ j, Blk a j → ¬ S j) : Rv w' a L := fun g e j u hu => cell_but hb (h g e j u hu) (hn g ⟨_, e, rfl⟩)
theorem Rv.later {w w' : World} {a : Option Addr} {L : List Value} (h : Rv w a L) (hb : Below w.heap.size w w') : Rv w' a L := h.but (S := fun _ => False) (But.of hb) (fun _ _ h => h)
theorem Ow.rv {w : World} {base : Nat} {e : TypeId} {k : Nat} {a : Option Addr} {n cap : Nat} {L : List Value} (h : Ow w base e k a n cap L) : Rv w a L := fun g e j u hu => by
  by_cases hn : 0 < n
  · obtain ⟨b, hb, hc⟩ := h.at_ hn
    rw [hb] at e
    cases e
    exact hc j u hu
  · have hl := h.1
    have h0 : n = 0 := by omega
    rw [h0, Nat.zero_mul] at hl
    rw [List.eq_nil_of_length_eq_zero hl] at hu
    cases hu
theorem Rv.pre {w : World} {a : Option Addr} {L T : List Value} (h : Rv w a (L ++ T)) : Rv w a L := fun g e j u hu => h g e j u (by rw [List.getElem?_append_left (List.getElem?_eq_some_iff.1 hu).1]; exact hu)
set_option maxRecDepth 10000 in
theorem append_keep (t e : TypeId) (z : Value) (k by_ : Nat) (ht : Try.prog.underlying t = some (.slice e)) (hinf : (Try.prog.info? e).map (fun i => (i.zero, i.size, i.bytes)) = some (some z, k, by_)) (hzs : z.cells.size = k) (hk : 0 < k) (hby : 0 < by_)
    {w : World} {base : Nat} {a : Option Addr} {n cap : Nat} {L : List Value} {x : Addr} {m c : Nat} {M : List Value} (h : Ow w base e k a n cap L) (r : Cr w k (some x) m c M) (hm : 0 < m) (hb : base ≤ w.heap.size) (hr : (n + m) * by_ ≤ 140737488355328) :
    ∃ a' cap' w', (Builtin.append_ #[t, t] t #[.slice a n cap, .slice (some x) m c]).run Try.prog w = .ok (.slice a' (n + m) cap') w' ∧ Ow w' base e k a' (n + m) cap' (L ++ M) ∧ Gr a a' w w' ∧ ((a' = a ∧ cap' = cap) ∨ (Below w.heap.size w w' ∧ ∀ j, Blk a' j → w.heap.size ≤ j)) := by
  have hnm : n + m ≤ 140737488355328 := Nat.le_trans (Nat.le_mul_of_pos_right _ hby) hr
  rcases h.form with ⟨rfl, rfl, rfl⟩ | ⟨g, rfl, _, hnc⟩
  · obtain ⟨a', cap', w', hrun, hO, hG⟩ := append_k t e z k by_ ht hinf hzs hk hby h r hb hr
    refine ⟨a', cap', w', hrun, hO, hG, .inr ⟨⟨hG.but.os, hG.but.tape, hG.but.output, hG.but.size, fun j hj => hG.but.block j hj (fun e => by obtain ⟨_, e, _⟩ := e; cases e)⟩, fun j hj => ?_⟩⟩
    rcases hG.on j hj with e | e
    · obtain ⟨_, e, _⟩ := e; cases e
    · exact e
  · obtain ⟨i, hi, hz0, hz1, hz2⟩ := info_parts hinf
    by_cases hfit : n + m ≤ cap
    · obtain ⟨w', hrun, hO, hg⟩ := run_append_fits (P := Try.prog) w base t t e i k ht hi hz1 g n cap _ h x m c M r.len (r.cells x rfl) r.one hfit
      exact ⟨_, cap, w', hrun, hO, ⟨⟨hg.os, hg.tape, hg.output, hg.size, fun j hj hn => hg.block j hj (fun e => hn ⟨_, rfl, by simpa using e.symm⟩)⟩, fun j hj => .inl hj⟩, .inl ⟨rfl, rfl⟩⟩
    · have hl : L.length = n * k := h.1
      have hlm := r.len
      have hrun := run_append_grow (P := Try.prog) w t t e i _ ht hi hz0 ⟨g, 0, none⟩ n cap L (by rw [hz1]; exact hl) (fun j u hu => by rw [addr_add0]; exact h.rv g rfl j u hu) x m c M (by rw [hz1]; exact hlm) (r.cells x rfl) (by omega) (by omega) (growslice_fits (by omega) (by rw [hz2]; omega))
      have hB : Below w.heap.size w (w.drew.alloc (.cells (L.toArray ++ M.toArray ++ Builtin.zeroCells z.cells (grownCap w (n + m) cap e - (n + m))) e)) := ((Below.refl _ _).drew).alloc (by simp) _
      have hge : ∀ j, Blk (some ⟨w.heap.size, 0, none⟩) j → w.heap.size ≤ j := fun j hj => by
        obtain ⟨y, ey, rfl⟩ := hj
        cases ey
        exact Nat.le_refl _
      have hgc := grownCap_ge w (n + m) cap e
      refine ⟨_, _, _, hrun, ⟨by rw [List.length_append, hl, hlm, Nat.add_mul], .inr ⟨w.heap.size, _, _, rfl, hb, heap_alloc_new w.drew _, hgc, grownCap_le_maxLen _ _ _ _ (by unfold maxLen; omega), ?_, ?_⟩⟩, ⟨But.of hB, fun j hj => .inr (hge j hj)⟩, .inr ⟨hB, hge⟩⟩
      · simp only [Array.size_append, List.size_toArray, size_zeroCells, hl, hlm, hzs]
        rw [← Nat.add_mul, ← Nat.add_mul, Nat.add_sub_of_le hgc]
      · rw [Array.toList_append, Array.toList_append]
        exact List.take_left' (by simp [hl, hlm, Nat.add_mul])
/-- A list that is lengthened, and what it was. -/
structure Lz (w0 w : World) (base : Nat) (e : TypeId) (k : Nat) (a0 : Option Addr) (c0 : Nat) (L0 : List Value) (b : Option Addr) (c n : Nat) (L : List Value) : Prop where
  ow : Ow w base e k b n c L
  sh : (b = a0 ∧ c = c0) ∨ ∀ j, Blk b j → w0.heap.size ≤ j
  rv : Rv w a0 L0
  pre : ∃ T, L = L0 ++ T
  gr : Gr a0 b w0 w
  lt : ∀ j, Blk a0 j → j < w0.heap.size
theorem Lz.start {w : World} {base : Nat} {e : TypeId} {k : Nat} {a : Option Addr} {c n : Nat} {L : List Value} (h : Ow w base e k a n c L) : Lz w w base e k a c L a c n L :=
  ⟨h, .inl ⟨rfl, rfl⟩, h.rv, ⟨[], by simp⟩, Gr.refl _ _, fun j hj => (h.blk j hj).2⟩
theorem Lz.app (t e : TypeId) (z : Value) (k by_ : Nat) (ht : Try.prog.underlying t = some (.slice e)) (hinf : (Try.prog.info? e).map (fun i => (i.zero, i.size, i.bytes)) = some (some z, k, by_)) (hzs : z.cells.size = k) (hk : 0 < k) (hby : 0 < by_)
    {w0 w w1 : World} {base : Nat} {a0 : Option Addr} {c0 : Nat} {L0 : List Value} {b : Option Addr} {c n : Nat} {L : List Value} (h : Lz w0 w base e k a0 c0 L0 b c n L) (hl : Below w.heap.size w w1) {x : Addr} {m d : Nat} {M : List Value} (r : Cr w1 k (some x) m d M) (hm : 0 < m) (hb : base ≤ w.heap.size) (hr : (n + m) * by_ ≤ 140737488355328) :
    ∃ a' cap' w', (Builtin.append_ #[t, t] t #[.slice b n c, .slice (some x) m d]).run Try.prog w1 = .ok (.slice a' (n + m) cap') w' ∧ Lz w0 w' base e k a0 c0 L0 a' cap' (n + m) (L ++ M) := by
  obtain ⟨a', cap', w', hrun, hO, hG, hs⟩ := append_keep t e z k by_ ht hinf hzs hk hby (h.ow.later hl) r hm (Nat.le_trans hb hl.size) hr
  have hG2 := hG.pre hl
  have hsz := h.gr.but.size
  obtain ⟨T, hT⟩ := h.pre
  refine ⟨a', cap', w', hrun, hO, ?_, ?_, ⟨T ++ M, by rw [hT, List.append_assoc]⟩, h.gr.trans hG2, h.lt⟩
  · rcases hs with ⟨rfl, rfl⟩ | ⟨_, hge⟩
    · exact h.sh
    · exact .inr (fun j hj => Nat.le_trans hsz (Nat.le_trans hl.size (hge j hj)))
  · rcases hs with ⟨rfl, rfl⟩ | ⟨hB, _⟩
    · rcases h.sh with ⟨rfl, _⟩ | hge
      · have := hO.rv
        rw [hT, List.append_assoc] at this
        exact this.pre
      · exact h.rv.but hG2.but (fun j hj hj2 => by have := h.lt j hj; have := hge j hj2; omega)
    · exact (h.rv.later hl).later hB
/-! ### Writing an element -/
theorem caps_set : ∀ (K : List Cp) (i : Nat) (c : Cp), caps (K.set i c) = (((caps K).set (i * 3) (.int .i64 c.1)).set (i * 3 + 1) (.int .u64 (c.2.1 : Int))).set (i * 3 + 2) (.int .u64 (c.2.2 : Int))
  | [], i, c => by simp [caps]
  | x :: K, 0, c => by simp [caps, encC]
  | x :: K, i + 1, c => by
    have ih := caps_set K i c
    have e : (i + 1) * 3 = i * 3 + 1 + 1 + 1 := by omega
    unfold caps at ih ⊢
    simp only [List.set_cons_succ, List.flatMap_cons, encC, List.cons_append, List.nil_append, e]
    rw [ih]
theorem toks_set : ∀ (K : List Tok) (i : Nat) (c : Tok), toks (K.set i c) = (((((toks K).set (i * 5) (.int .i64 c.1.1)).set (i * 5 + 1) (.int .u64 (c.1.2.1 : Int))).set (i * 5 + 2) (.int .u64 (c.1.2.2 : Int))).set (i * 5 + 3) (.int .i64 c.2.1)).set (i * 5 + 4) (.int .i64 c.2.2)
  | [], i, c => by simp [toks]
  | x :: K, 0, c => by simp [toks, encT]
  | x :: K, i + 1, c => by
    have ih := toks_set K i c
    have e : (i + 1) * 5 = i * 5 + 1 + 1 + 1 + 1 + 1 := by omega
    unfold toks at ih ⊢
    simp only [List.set_cons_succ, List.flatMap_cons, encT, List.cons_append, List.nil_append, e]
    rw [ih]
theorem Ow.setT {w : World} {base g n cap : Nat} {K : List Tok} (h : Ow w base 83 5 (some ⟨g, 0, none⟩) n cap (toks K)) (i : Nat) (c : Tok) : Ow (set5o w g (i * 5) c) base 83 5 (some ⟨g, 0, none⟩) n cap (toks (K.set i c)) := by
  rw [toks_set]
  exact ((((h.set1 _ _).set1 _ _).set1 _ _).set1 _ _).set1 _ _
end Go.Proofs.Ytlelglfdamakaaa
